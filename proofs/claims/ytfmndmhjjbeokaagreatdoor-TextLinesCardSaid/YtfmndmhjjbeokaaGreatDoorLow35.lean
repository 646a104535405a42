import Derived.Test.YtfmndmhjjbeokaaGreatDoorLow29
import Derived.Test.YtfmndmhjjbeokaaGreatDoorLow23
import Derived.Test.YtfmndmhjjbeokaaGreatDoorLow2
import Derived.Test.YtfmndmhjjbeokaaGreatDoorLow34
namespace Go.Proofs.YtfmndmhjjbeokaaGreatDoor
set_option maxRecDepth 100000
open Go.RowKit Tab Txt
set_option linter.unusedSimpArgs false
set_option linter.unusedVariables false
theorem OwnV.grown {E E' s s' B B' n c:Nat} {A A0 A':Option Addr} {l l0:List Value} {n0 c0:Nat} {w w':World} (h:OwnV E s w B A n c l) (h0:OwnV E' s' w B' A0 n0 c0 l0) (hE:E≠E') (hg:Grew A0 A' w w'):OwnV E s w' B A n c l :=
 h.keep' fun k hk=>hg.keep (h.obk_ge hk).2 fun e=>h.apart h0 hE k hk e
structure ApW (B g:Nat) (AN:Option Addr) (nn cn:Nat) (pl:Bool) (s s':List UInt8) (f':Bool) (out:List Nd) (AO:Option Addr) (n co:Nat) (nd:Nd) (W0:World) (kc kb ka ks tb ta:Nat) (live:Nat→Bool) (a:Act) (w:World):Prop where
 bel:Below B W0 w
 siz:B≤w.heap.size
 r0:live kc=false→RdrC B g s AN nn cn AO n co false pl w
 r1:live kc=true→live ks=false→RdrC B g s' AN nn cn AO n co f' pl w
 o:live ka=false→OwnV 54 3 w B AO n co (ns out)
 b:live kb=true→live ka=false→∃ gb,a.eval (.tmp tb)=.slice (some ⟨gb,0,none⟩) 1 1∧RdV w w.heap.size (some ⟨gb,0,none⟩) (ns [nd])
 ap:live ka=true→live ks=false→∃ A' c',a.eval (.tmp ta)=.slice A' (n+1:Nat) c'∧OwnV 54 3 w B A' (n+1) c' (ns (out++[nd]))
 fin:live ks=true→∃ A' c',RdrC B g s' AN nn cn A' (n+1) c' f' pl w∧OwnV 54 3 w B A' (n+1) c' (ns (out++[nd]))
section
variable {B g:Nat} {AN:Option Addr} {nn cn:Nat} {pl:Bool} {s s':List UInt8} {f':Bool} {out:List Nd} {AO:Option Addr} {n co:Nat} {nd:Nd} {W0:World} {kc kb ka ks tb ta:Nat} {live:Nat→Bool} {a:Act} {w w':World}
theorem ApW.upd (h:ApW B g AN nn cn pl s s' f' out AO n co nd W0 kc kb ka ks tb ta live a w) (i:Nat) (d:Tmp) (v:Value) (hi:i≠kc∧i≠kb∧i≠ka∧i≠ks) (hd:d≠tb∧d≠ta):ApW B g AN nn cn pl s s' f' out AO n co nd W0 kc kb ka ks tb ta (Rgs.upd live i) (a.put (some d) v) w:=by
 have e:∀ k,i≠k→Rgs.upd live i k=live k:=fun k hk=>by unfold Rgs.upd;simp [Ne.symm hk]
 have e1:=e kc hi.1
 have e2:=e kb hi.2.1
 have e3:=e ka hi.2.2.1
 have e4:=e ks hi.2.2.2
 exact ⟨h.bel,h.siz,by rw [e1];exact h.r0,by rw [e1,e4];exact h.r1,by rw [e3];exact h.o,by rw [e2,e3,Reg.eval_other _ _ _ _ hd.1];exact h.b,by rw [e3,e4,Reg.eval_other _ _ _ _ hd.2];exact h.ap,by rw [e4];exact h.fin⟩
theorem ApW.call (h:ApW B g AN nn cn pl s s' f' out AO n co nd W0 kc kb ka ks tb ta live a w) (hb:live kb=false) (ha:live ka=false) (hs:live ks=false) (hd:kc≠kb∧kc≠ka∧kc≠ks) (hg:B≤g) (hr:RdrC B g s' AN nn cn AO n co f' pl w') (ht:Trn g w w') (d:Tmp) (v:Value) :
  ApW B g AN nn cn pl s s' f' out AO n co nd W0 kc kb ka ks tb ta (Rgs.upd live kc) (a.put (some d) v) w':=by
 have e:∀ k,kc≠k→Rgs.upd live kc k=live k:=fun k hk=>by unfold Rgs.upd;simp [Ne.symm hk]
 have e2:=e kb hd.1
 have e3:=e ka hd.2.1
 have e4:=e ks hd.2.2
 refine ⟨h.bel.trans (ht.bel B hg),Nat.le_trans h.siz (ht.bel B hg).size,fun e=>absurd e (by rw [Rgs.upd_self];decide),fun _ _=>hr,fun _=>ht.own _ _ _ _ _ _ _ (by decide) (h.o ha),fun e=>?_,fun e=>?_,fun e=>?_⟩
 ·rw [e2,hb] at e;cases e
 ·rw [e3,ha] at e;cases e
 ·rw [e4,hs] at e;cases e
theorem ApW.lit (h:ApW B g AN nn cn pl s s' f' out AO n co nd W0 kc kb ka ks tb ta live a w) (hc:live kc=true) (ha:live ka=false) (hs:live ks=false) (hd:kb≠kc∧kb≠ka∧kb≠ks) (C:Array Value) (hC:C.toList=ns [nd]) (hz:tb < a.tmps.size) :
  ApW B g AN nn cn pl s s' f' out AO n co nd W0 kc kb ka ks tb ta (Rgs.upd live kb) (a.put (some tb) (.slice (some ⟨w.heap.size,0,none⟩) 1 1)) (w.alloc (.cells C 54)):=by
 have e:∀ k,kb≠k→Rgs.upd live kb k=live k:=fun k hk=>by unfold Rgs.upd;simp [Ne.symm hk]
 have e1:=e kc hd.1
 have e3:=e ka hd.2.1
 have e4:=e ks hd.2.2
 have hbl:=bl1 w (.cells C 54)
 refine ⟨h.bel.trans (hbl.mono h.siz),Nat.le_trans h.siz hbl.size,fun e=>?_,fun _ _=>OwnV.below (h.r1 hc hs) rfl hbl,fun _=>(h.o ha).below rfl hbl,fun _ _=>⟨_,Reg.eval_same _ _ _ hz,rdV_new w C _ _ hC⟩,fun e=>?_,fun e=>?_⟩
 ·rw [e1,hc] at e;cases e
 ·rw [e3,ha] at e;cases e
 ·rw [e4,hs] at e;cases e
theorem ApW.app (h:ApW B g AN nn cn pl s s' f' out AO n co nd W0 kc kb ka ks tb ta live a w) (hc:live kc=true) (hb:live kb=true) (ha:live ka=false) (hs:live ks=false) (hd:ka≠kc∧ka≠kb∧ka≠ks) (hz:ta < a.tmps.size) (hn:n≤1048576) :
  ∃ gb,a.eval (.tmp tb)=.slice (some ⟨gb,0,none⟩) 1 1∧∃ A' c' w',(Builtin.append_ #[34,34] 34 #[.slice AO n co,.slice (some ⟨gb,0,none⟩) 1 1]).run Tryz.prog w=.ok (.slice A' (n+1) c') w' ∧
   ApW B g AN nn cn pl s s' f' out AO n co nd W0 kc kb ka ks tb ta (Rgs.upd live ka) (a.put (some ta) (.slice A' (n+1:Nat) c')) w':=by
 have e:∀ k,ka≠k→Rgs.upd live ka k=live k:=fun k hk=>by unfold Rgs.upd;simp [Ne.symm hk]
 have e1:=e kc hd.1
 have e2:=e kb hd.2.1
 have e4:=e ks hd.2.2
 obtain ⟨gb,hq,hp⟩:=h.b hb ha
 have ho:=h.o ha
 obtain ⟨A',c',w',hrun,h1,h2,h3⟩:=run_appX elN w B AO n co (ns out) ho ⟨gb,0,none⟩ 1 1 (ns [nd]) w.heap.size hp rfl Nat.one_pos (ns_one _) (by omega) (by unfold maxLen;omega) h.siz
 rw [← ns_append] at h1
 refine ⟨gb,hq,A',c',w',hrun,h.bel.trans h2,Nat.le_trans h.siz h2.size,fun e=>?_,fun _ _=>OwnV.grown (h.r1 hc hs) ho (by decide) h3,fun e=>absurd e (by rw [Rgs.upd_self];decide),fun _ e=>absurd e (by rw [Rgs.upd_self];decide),fun _ _=>⟨A',c',Reg.eval_same _ _ _ hz,h1⟩,fun e=>?_⟩
 ·rw [e1,hc] at e;cases e
 ·rw [e4,hs] at e;cases e
theorem ApW.put (h:ApW B g AN nn cn pl s s' f' out AO n co nd W0 kc kb ka ks tb ta live a w) (hc:live kc=true) (ha:live ka=true) (hs:live ks=false) (hd:ks≠kc∧ks≠ka) (hg:B≤g) :
  ∃ A' c',a.eval (.tmp ta)=.slice A' (n+1:Nat) c'∧ApW B g AN nn cn pl s s' f' out AO n co nd W0 kc kb ka ks tb ta (Rgs.upd live ks) a (w.setCell ⟨g,2,none⟩ (.slice A' (n+1:Nat) c')):=by
 have e:∀ k,ks≠k→Rgs.upd live ks k=live k:=fun k hk=>by unfold Rgs.upd;simp [Ne.symm hk]
 have e1:=e kc hd.1
 have e3:=e ka hd.2
 obtain ⟨A',c',hq,ho⟩:=h.ap ha hs
 have hr:=h.r1 hc hs
 refine ⟨A',c',hq,h.bel.setCell (p:=⟨g,2,none⟩) hg _,by simpa using h.siz,fun e=>?_,fun _ e=>absurd e (by rw [Rgs.upd_self];decide),fun e=>?_,fun _ e=>?_,fun _ e=>absurd e (by rw [Rgs.upd_self];decide),fun _=>⟨A',c',hr.rows A' (n+1) c',OwnV.other ho _ _ (OwnV.apart' ho hr (by decide))⟩⟩
 ·rw [e1,hc] at e;cases e
 ·rw [e3,ha] at e;cases e
 ·rw [e3,ha] at e;cases e
end
end Go.Proofs.YtfmndmhjjbeokaaGreatDoor
namespace Go.Proofs.YtfmndmhjjbeokaaGreatDoor
set_option maxRecDepth 100000
open Go.RowKit Tab Txt
set_option linter.unusedSimpArgs false
set_option linter.unusedVariables false
theorem ogb_bel2 {w w2 w3:World} {g:Nat} (h:w.grownBy w2 (some g)) (k:Below w.heap.size w2 w3):w.grownBy w3 (some g) :=
 ⟨k.os.trans h.os,k.tape.trans h.tape,k.output.trans h.output,Nat.le_trans h.size k.size,fun i hi hne=>(k.block i hi).trans (h.block i hi hne)⟩
theorem apart_rd {E s B B' n c g:Nat} {A:Option Addr} {l:List Value} {st:Option (List UInt8)} {w:World} (h:OwnV E s w B A n c l) (hr:RdrS B' g st w) (hE:E≠79):obk A≠some g:=fun e=>OwnV.apart h hr hE g e rfl
def ProcX (B g:Nat) (R:Option (List (Int×Int)×List UInt8)) (w:World) (e:Ending) (w':World):Prop:=∃ (L:List (Int×Int)) (st':Option (List UInt8)) (A:Option Addr) (n c:Nat),e=.returned (.slice A n c)∧L.length=n∧n≤1048577∧OwnV 62 2 w' w.heap.size A n c (L.flatMap prc)∧Got R L st'∧Rpo B g st' w w'
theorem procsA_I (st:Option (List UInt8)):procsI (st.bind procsA) [] st:=by
 unfold procsI procsA
 cases st with
 | none=>rfl
 | some s =>
  show procsS (s.length+1) s=(procsS (s.length+1) s).map fun y=>([]++y.1,y.2)
  cases procsS (s.length+1) s with
  | none=>rfl
  | some y=>rfl
theorem procS_chain {st st1 st3:Option (List UInt8)} {v1 v2:Int} (h1:Got (st.bind numW) v1 st1) (h2:Got ((st1.bind (takeB 58)).bind numW) v2 st3):st.bind procS=st3.bind fun s=>some ((v1,v2),s):=by
 have e1:=h1.bind fun v s=>(takeB 58 s).bind fun r=>(numW r).bind fun q=>some ((v,q.1),q.2)
 have e2:=h2.bind fun v s=>some ((v1,v),s)
 show (st.bind fun s=>(numW s).bind fun e=>(takeB 58 e.2).bind fun r=>(numW r).bind fun q=>some ((e.1,q.1),q.2))=_
 rw [e1,must_bind st1 58 fun r=>(numW r).bind fun q=>some ((v1,q.1),q.2),e2]
def mrB (v:Value) (k:Nat):Nat:=match v with
 | .bool true=>k+1
 | _=>0
set_option maxHeartbeats 2000000 in
theorem tprocs_any {B g:Nat} {st:Option (List UInt8)} {w:World} (h:RdrS B g st w) (hl:(st.getD []).length≤1048576):Calls Tryz.prog 112 #[.pointer (some ⟨g,0,none⟩)] w (ProcX B g (st.bind procsA) w):=by
 have HI:=Lib.hid (procsA_I st)
 have H0:=Lib.hid (Rpo.refl h)
 have HL:=Lib.hid hl
 generalize st.bind procsA=R at HI ⊢
 clear h hl
 go_enter Tryz.func112,Tryz.ntmps112
 go_wp2_with fail
 go_loopw [3,4,5] (fun o m _ wr=>∃ (A:Option Addr) (n c:Nat) (L:List (Int×Int)) (sn:Option (List UInt8)) (b:Bool),o=.slice A n c∧m=.bool b∧L.length=n∧OwnV 62 2 wr w.heap.size A n c (L.flatMap prc)∧Rpo B g sn w wr ∧
  (b=true→procsI R L sn∧n+(sn.getD []).length≤1048576)∧(b=false→(R=sn.bind fun s=>some (L,s))∧n≤1048577)) (fun _ m _ wr=>mrB m (lenS wr g))
 case atStart=>exact ⟨none,0,0,[],st,true,rfl,rfl,rfl,OwnV.nil _ _ _ _,H0.out,fun _=>⟨HI.out,by have:=HL.out;omega⟩,fun e=>(by cases e)⟩
 case round =>
  obtain ⟨A,n,c,L,sn,b,rfl,rfl,hL,ho,hr,hyes,hno⟩:=hrel
  have HLn:=Lib.hid hL
  have HO:=Lib.hid ho
  have HR:=Lib.hid hr
  cases b with
  | false =>
   obtain ⟨e1,e2⟩:=hno rfl
   have HG:Hid (Got R L sn):=Lib.hid (by rw [e1];exact Got.end_ L sn)
   have HN:=Lib.hid e2
   clear e1 e2 hno hyes hL ho hr H0 HI
   go_wp2_with fail
   go_ret
   exact ⟨L,sn,A,n,c,rfl,HLn.out,HN.out,HO.out,HG.out,HR.out⟩
  | true =>
   obtain ⟨hi,hn⟩:=hyes rfl
   have HI2:=Lib.hid hi
   have HNB:=Lib.hid hn
   have HLS:=Lib.hid (lenS_is hr.rd)
   have HN1:=Lib.hid (tnumber_any hr.rd lim40 (Nat.le_refl _))
   have hn2:n≤1048576:=by omega
   clear hi hn hno hyes hL ho hr H0 HI
   go_wp2_with fail
   refine HN1.out.mono ?_
   rintro e w1 ⟨v1,st1,rfl,hv0,hv1,hg1,h1⟩
   have HG1:=Lib.hid hg1
   have H1:=Lib.hid (HR.out.trans h1)
   have HO1:=Lib.hid (OwnV.gbo HO.out h1.gb (apart_rd HO.out HR.out.rd (by decide)))
   have hw1:IntKind.i64.wrap v1=v1:=by rw [IntKind.wrap_i64];omega
   have HM:=Lib.hid (tmust_any h1.rd 58 58 rfl)
   clear hg1 h1 HN1 hv0 hv1 HO HR
   go_wp2_with fail
   refine HM.out.mono ?_
   rintro e w2 ⟨rfl,h2⟩
   have H2:=Lib.hid (H1.out.trans h2)
   have HO2:=Lib.hid (OwnV.gbo HO1.out h2.gb (apart_rd HO1.out H1.out.rd (by decide)))
   have HN2:=Lib.hid (tnumber_any h2.rd lim40 (Nat.le_refl _))
   clear h2 HM HO1 H1
   have hbd0:∀ x:Int,Tryz.prog.built 62 [(0,.int .i64 v1),(1,.int .i64 x)]=some #[.int .i64 v1,.int .i64 x]:=fun x=>rfl
   have HBD:=Lib.hid hbd0
   clear hbd0
   go_wp2_with fail
   refine HN2.out.mono ?_
   rintro e w3 ⟨v2,st3,rfl,hv0,hv1,hg2,h3⟩
   have HP:Hid (sn.bind procS=st3.bind fun s=>some ((v1,v2),s)):=Lib.hid (procS_chain HG1.out hg2)
   have hr3:=H2.out.trans h3
   have H3:=Lib.hid hr3
   have ho3:=OwnV.gbo HO2.out h3.gb (apart_rd HO2.out H2.out.rd (by decide))
   have hw2:IntKind.i64.wrap v2=v2:=by rw [IntKind.wrap_i64];omega
   have hbd:=HBD.out v2
   have hbl:=bl1 w3 (.cells #[.int .i64 v1,.int .i64 v2] 62)
   have hown:=ho3.below rfl hbl
   have hrB:=OwnV.below hr3.rd rfl hbl
   have hr2:=rdV_new w3 #[.int .i64 v1,.int .i64 v2] 62 ([(v1,v2)].flatMap prc) rfl
   have hsz:w.heap.size≤(w3.alloc (.cells #[.int .i64 v1,.int .i64 v2] 62)).heap.size:=Nat.le_trans hr3.gb.size hbl.size
   have HFI:Hid (∀ A4 w4,Below w.heap.size (w3.alloc (.cells #[.int .i64 v1,.int .i64 v2] 62)) w4→Grew A A4 (w3.alloc (.cells #[.int .i64 v1,.int .i64 v2] 62)) w4→Rpo B g st3 w w4):=Lib.hid fun A4 w4 hb hg=>⟨OwnV.grown hrB hown (by decide) hg,ogb_bel2 (ogb_bel2 hr3.gb (hbl.mono hr3.gb.size)) hb⟩
   clear hg2 h3 hv0 hv1 ho3 hrB hr3 HN2 H2 HO2 HG1 HBD hbl
   go_wp2_with (at_builtin;go_loud (refine wpList_appX elPc rfl (.tmp 13) (.tmp 18) rfl rfl w.heap.size A n c _ rfl hown _ 1 1 _ _ rfl hr2 rfl Nat.one_pos (prc_one [(v1,v2)]) (by omega) (by unfold maxLen;omega) hsz (n+1) rfl ((L++[(v1,v2)]).flatMap prc) (by rw [List.flatMap_append]) ?_;intro A4 c4 w4 hw4 hb4 hg4))
   have H4:=Lib.hid (HFI.out A4 w4 hb4 hg4)
   have HO4:=Lib.hid hw4
   have HL4:Hid ((L++[(v1,v2)]).length=n+1):=Lib.hid (by rw [List.length_append,HLn.out];rfl)
   have HNX:=Lib.hid (procsI_next HI2.out HP.out)
   clear hw4 hb4 hg4 HFI hown hr2 hsz
   cases hq:st3.bind (takeB 44) with
   | some r =>
    have HT:=Lib.hid (ttake_yes H4.out.rd 44 44 rfl hq)
    have HI5:=Lib.hid (HNX.out.1 r hq)
    have HLT:Hid (n+1+r.length≤1048576∧r.length < (sn.getD []).length):=Lib.hid (by
     cases st3 with
     | none=>cases hq
     | some s3 =>
      have hp:=HP.out
      cases sn with
      | none=>cases hp
      | some s =>
       have a1:=procS_le (s:=s) (x:=((v1,v2),s3)) hp
       have a2:=congrArg List.length (takeB_some (show takeB 44 s3=some r from hq))
       have a3:=HNB.out
       rw [List.length_cons] at a2
       rw [Option.getD_some] at a3 ⊢
       dsimp only at a1
       omega)
    clear hq HNX HP
    go_wp2_with fail
    refine HT.out.mono ?_
    rintro e w5 ⟨rfl,h5⟩
    have H5:=Lib.hid (H4.out.trans h5)
    have HO5:=Lib.hid (OwnV.gbo HO4.out h5.gb (apart_rd HO4.out H4.out.rd (by decide)))
    clear h5 HT HO4
    go_wp2_with fail
    go_roundw
    case rel=>exact ⟨A4,n+1,c4,L++[(v1,v2)],some r,true,rfl,rfl,HL4.out,HO5.out,H5.out,fun _=>⟨HI5.out,HLT.out.1⟩,fun e=>(by cases e)⟩
    case measure=>have a1:=HLT.out.2;have a2:=HLS.out;have a3:=lenS_is H5.out.rd;rw [Option.getD_some] at a3;simp only [mrB];omega
   | none =>
    have HT:=Lib.hid (ttake_no H4.out.rd 44 44 rfl hq)
    have HI5:=Lib.hid (HNX.out.2 hq)
    have HNN:Hid (n+1≤1048577):=Lib.hid (by have:=HNB.out;omega)
    clear hq HNX HP
    go_wp2_with fail
    refine HT.out.mono ?_
    rintro e w5 ⟨rfl,h5⟩
    have H5:=Lib.hid (H4.out.trans h5)
    have HO5:=Lib.hid (OwnV.gbo HO4.out h5.gb (apart_rd HO4.out H4.out.rd (by decide)))
    clear h5 HT HO4
    go_wp2_with fail
    go_roundw
    case rel=>exact ⟨A4,n+1,c4,L++[(v1,v2)],st3,false,rfl,rfl,HL4.out,HO5.out,H5.out,fun e=>(by cases e),fun _=>⟨HI5.out,HNN.out⟩⟩
    case measure=>simp only [mrB];omega
end Go.Proofs.YtfmndmhjjbeokaaGreatDoor
namespace Go.Proofs.YtfmndmhjjbeokaaGreatDoor
set_option maxRecDepth 100000
open Go.RowKit Tab Txt
set_option linter.unusedSimpArgs false
set_option linter.unusedVariables false
def hzV (l:List Int):List Value:=l.map (.int .i64)
def healI (R:Option (List Int×List UInt8)) (l:List Int) (st:Option (List UInt8)):Prop:=R=st.bind fun s=>(healS (5 - l.length) s).map fun x=>(l++x.1,x.2)
theorem healI_next {R:Option (List Int×List UInt8)} {l:List Int} {c:UInt8} {r:List UInt8} (h:healI R l (some (c::r))) (hl:l.length < 5) :
  (dgS c=true→healI R (l++[(c.toNat:Int) - 48]) (some r))∧(dgS c=false→∀ x,healI R (l++[x]) none):=by
 unfold healI at h ⊢
 obtain ⟨k,hk⟩:∃ k,5 - l.length=k+1:=⟨4 - l.length,by omega⟩
 rw [hk,Option.bind_some,healS_cons] at h
 refine ⟨fun hd=>?_,fun hd x=>?_⟩
 ·rw [hd,if_pos rfl] at h
  rw [List.length_append,show 5 - (l.length+[(c.toNat:Int) - 48].length)=k by simp only [List.length_cons,List.length_nil];omega,Option.bind_some,h]
  cases healS k r with
  | none=>rfl
  | some x=>show some (l++((c.toNat:Int) - 48)::x.1,x.2)=some ((l++[(c.toNat:Int) - 48])++x.1,x.2);rw [List.append_assoc];rfl
 ·rw [hd,if_neg (by decide)] at h
  exact h
theorem healI_fail {R:Option (List Int×List UInt8)} {l:List Int} {st:Option (List UInt8)} (h:healI R l st) (hl:l.length < 5) (hs:st.getD []=[]) (x:Int):healI R (l++[x]) none:=by
 unfold healI at h ⊢
 cases st with
 | none=>exact h
 | some s =>
  obtain ⟨k,hk⟩:∃ k,5 - l.length=k+1:=⟨4 - l.length,by omega⟩
  rw [hk,show s=[] from hs] at h
  exact h
def HealX (B g:Nat) (R:Option (List Int×List UInt8)) (w:World) (e:Ending) (w':World):Prop:=∃ (h0 h1 h2 h3 h4:Int) (st':Option (List UInt8)),e=.returned (.agg #[.int .i64 h0,.int .i64 h1,.int .i64 h2,.int .i64 h3,.int .i64 h4])∧Got R [h0,h1,h2,h3,h4] st'∧Rpo B g st' w w'
theorem loadVar_own {T n:Nat} {w:World} {B g:Nat} {l:List Value} (e:(isAgg T).run Tryz.prog w=.ok true w) (e2:(sizeOf T).run Tryz.prog w=.ok n w) (h:OwnV T n w B (some ⟨g,0,none⟩) 1 1 l):(loadVar T ⟨g,0,none⟩).run Tryz.prog w=.ok (.agg l.toArray) w:=by
 have hl:l.length=n:=by have:=h.1;omega
 unfold loadVar
 rw [Sem.run_bind,e,Result.andThen_ok]
 simp only [if_true]
 rw [Sem.run_bind,e2,Result.andThen_ok,Sem.run_bind]
 have:=run_loadCells_list (P:=Tryz.prog) (w:=w) ⟨g,0,none⟩ l (fun j v hj=>by
  rw [mk_add]
  have hlt:=(List.getElem?_eq_some_iff.1 hj).1
  have h1:=World.ownsRow.cellAt h j (by omega)
  have h2:=(List.getElem?_eq_some_iff.1 hj).2
  first | exact h1.trans (congrArg some h2) | (rw [h1];simp [← h2]))
 rw [hl] at this
 rw [this,Result.andThen_ok]
 rfl
theorem storeVar_own {T n:Nat} {w:World} {B g:Nat} {old l:List Value} (e2:(sizeOf T).run Tryz.prog w=.ok n w) (h:OwnV T n w B (some ⟨g,0,none⟩) 1 1 old) (hl:l.length=n) (h1:∀ v∈l,v.oneCell'=true) :
  ∃ w',(storeVar T ⟨g,0,none⟩ (.agg l.toArray)).run Tryz.prog w=.ok () w'∧OwnV T n w' B (some ⟨g,0,none⟩) 1 1 l∧w.grownBy w' (some g):=by
 rcases h.2 with ⟨hv,_⟩ | ⟨g',cap,cur,hv,hb,hg,h2,h3,h4,h5⟩
 ·cases hv
 ·injection hv with k1 k2 k3
  injection k1 with k1
  injection k1 with k1
  subst k1
  subst k3
  have hc:cur.size=n:=by omega
  have hrun:=run_storeCells_at (P:=Tryz.prog) g 0 T l 0 cur w hg (by omega) h1
  have hx:(cur.toList.take (0+0)++l++cur.toList.drop (0+0+l.length)).toArray=l.toArray:=by
   rw [List.drop_eq_nil_of_le (by rw [Array.length_toList];omega)]
   simp
  rw [hx] at hrun
  refine ⟨w.setRow g l.toArray,?_,?_,?_⟩
  ·unfold storeVar
   rw [Sem.run_bind,e2,Result.andThen_ok]
   have hz:(Value.agg l.toArray).cells=l.toArray:=rfl
   rw [hz]
   simp only [List.size_toArray,hl,ne_eq,not_true_eq_false,if_false]
   exact hrun
  ·refine ⟨by omega,.inr ⟨g,1,l.toArray,rfl,hb,setRow_heap w g cur l.toArray T _ hg,h2,h3,by rw [List.size_toArray];omega,?_⟩⟩
   rw [List.take_of_length_le (by rw [List.toList_toArray];omega)]
  ·exact ⟨rfl,rfl,rfl,by simp,fun i _ hne=>setRow_other w g i _ fun e=>hne (by rw [e])⟩
theorem wpList_loadX {T n:Nat} {ops:Array Oper} {rest:List Oper} {o:Oper} {a:Act} {Q:Exit→Act→World→Prop} {w:World} {B g:Nat} {l:List Value} (hgd:o.guard=none) (x:Operand) (ho:o.op=.load T x) (hx:a.eval x=.pointer (some ⟨g,0,none⟩))
  (e:(isAgg T).run Tryz.prog w=.ok true w) (e2:(sizeOf T).run Tryz.prog w=.ok n w) (h:OwnV T n w B (some ⟨g,0,none⟩) 1 1 l) (hK:wpList Tryz.prog ops Q rest (a.put o.dst (.agg l.toArray)) w):wpList Tryz.prog ops Q (o::rest) a w:=by
 refine wpList_plain hgd fun K hk=>?_
 have hl:=loadVar_own e e2 h
 have hs:(Instr.loadAt T (.pointer (some ⟨g,0,none⟩))).run Tryz.prog w=.ok (.agg l.toArray) w:=by
  unfold Instr.loadAt
  exact hl
 unfold Oper.wp execOp
 simp only [ho,Sem.run_bind,Sem.run_pure,Result.andThen_ok,hx,hs]
 exact hk _ _ hK
theorem wpList_storeX {T n:Nat} {ops:Array Oper} {rest:List Oper} {o:Oper} {a:Act} {Q:Exit→Act→World→Prop} {w:World} {B g:Nat} {old l:List Value} (hgd:o.guard=none) (x y:Operand) (ho:o.op=.store T x y) (hx:a.eval x=.pointer (some ⟨g,0,none⟩)) (hy:a.eval y=.agg l.toArray)
  (e2:(sizeOf T).run Tryz.prog w=.ok n w) (h:OwnV T n w B (some ⟨g,0,none⟩) 1 1 old) (hl:l.length=n) (h1:∀ v∈l,v.oneCell'=true) (hK:∀ w',OwnV T n w' B (some ⟨g,0,none⟩) 1 1 l→w.grownBy w' (some g)→wpList Tryz.prog ops Q rest (a.put o.dst undef) w'):wpList Tryz.prog ops Q (o::rest) a w:=by
 refine wpList_plain hgd fun K hk=>?_
 obtain ⟨w',hrun,h3,h4⟩:=storeVar_own e2 h hl h1
 have hs:(Instr.storeAt T (.pointer (some ⟨g,0,none⟩)) (.agg l.toArray)).run Tryz.prog w=.ok () w':=by
  unfold Instr.storeAt
  exact hrun
 unfold Oper.wp execOp
 simp only [ho,Sem.run_bind,Sem.run_pure,Result.andThen_ok,hx,hy,hs]
 exact hk _ _ (hK w' h3 h4)
end Go.Proofs.YtfmndmhjjbeokaaGreatDoor
