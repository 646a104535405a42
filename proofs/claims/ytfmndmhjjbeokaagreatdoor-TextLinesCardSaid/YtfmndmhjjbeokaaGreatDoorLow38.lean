import Derived.Test.YtfmndmhjjbeokaaGreatDoorLow37
namespace Go.Proofs.YtfmndmhjjbeokaaGreatDoor
set_option maxRecDepth 100000
open Go.RowKit Tab Txt
set_option linter.unusedSimpArgs false
set_option linter.unusedVariables false
structure Kx (X g:Nat) (w w':World):Prop where
 os:w'.os=w.os
 tape:w'.tape=w.tape
 output:w'.output=w.output
 size:w.heap.size≤w'.heap.size
 block:∀ k,k < X→k≠g→w'.heap[k]? = w.heap[k]?
theorem Kx.refl (X g:Nat) (w:World):Kx X g w w:=⟨rfl,rfl,rfl,Nat.le_refl _,fun _ _ _=>rfl⟩
theorem Kx.trans {X g:Nat} {w w' w'':World} (h:Kx X g w w') (k:Kx X g w' w''):Kx X g w w'':=⟨k.os.trans h.os,k.tape.trans h.tape,k.output.trans h.output,Nat.le_trans h.size k.size,fun i hi h1=>(k.block i hi h1).trans (h.block i hi h1)⟩
theorem Kx.gb {X g:Nat} {w w':World} (h:w.grownBy w' (some g)) (hX:X≤w.heap.size):Kx X g w w':=⟨h.os,h.tape,h.output,h.size,fun i hi h1=>h.block i (by omega) (by intro e;injection e with e;exact h1 e)⟩
theorem Kx.bel {X g:Nat} {w w':World} (h:Below X w w'):Kx X g w w':=⟨h.os,h.tape,h.output,h.size,fun i hi _=>h.block i hi⟩
structure TS (X Br gr gt:Nat) (wv:Value) (w0:World) (st:Option (List UInt8)) (out:List Nd) (AO:Option Addr) (n co:Nat) (w:World):Prop where
 rd:RdrS Br gr st w
 tr:TreC X gt gr wv AO n co w
 ow:OwnV 54 3 w X AO n co (ns out)
 len:out.length=n
 le:n≤128
 kx:Kx X gr w0 w
 xs:X≤w.heap.size
section
variable {X Br gr gt:Nat} {wv:Value} {w0:World} {st st':Option (List UInt8)} {out:List Nd} {AO:Option Addr} {n co:Nat} {w w':World}
theorem TS.step (h:TS X Br gr gt wv w0 st out AO n co w) (k:Rpo Br gr st' w w'):TS X Br gr gt wv w0 st' out AO n co w' :=
 ⟨k.rd,OwnV.gbo h.tr k.gb (apart_rd h.tr h.rd (by decide)),OwnV.gbo h.ow k.gb (apart_rd h.ow h.rd (by decide)),h.len,h.le,h.kx.trans (Kx.gb k.gb h.xs),Nat.le_trans h.xs k.gb.size⟩
theorem TS.cells (h:TS X Br gr gt wv w0 st out AO n co w):w.cell? ⟨gt,0,none⟩=some (.pointer (some ⟨gr,0,none⟩))∧w.cell? ⟨gt,1,none⟩=some wv∧w.cell? ⟨gt,2,none⟩=some (.slice AO n co) :=
 ⟨(row_facts h.tr 0 _ rfl).1,(row_facts h.tr 1 _ rfl).1,(row_facts h.tr 2 _ rfl).1⟩
theorem TS.put (h:TS X Br gr gt wv w0 st out AO n co w) (hn:n < 128) {nd:Nd} {A':Option Addr} {c':Nat} (h1:TreC X gt gr wv A' (n+1) c' w') (h2:OwnV 54 3 w' X A' (n+1) c' (ns (out++[nd]))) (h3:KpR gt AO w w'):TS X Br gr gt wv w0 st (out++[nd]) A' (n+1) c' w':=by
 have hgt:=OwnV.obk_ge h.tr (b:=gt) rfl
 refine ⟨KpR.own h3 h.rd (by intro e;exact OwnV.apart h.rd h.tr (by decide) _ e rfl) (fun k hk=>fun e=>OwnV.apart h.ow h.rd (by decide) k e hk),h1,h2,by rw [List.length_append,h.len];rfl,by omega,⟨h3.os.trans h.kx.os,h3.tape.trans h.kx.tape,h3.output.trans h.kx.output,Nat.le_trans h.kx.size h3.size,fun k hk hne=>?_⟩,Nat.le_trans h.xs h3.size⟩
 refine (h3.block k (Nat.lt_of_lt_of_le hk h.xs) (by omega) fun e=>?_).trans (h.kx.block k hk hne)
 have:=OwnV.obk_ge h.ow e
 omega
end
def NdQ (X Br gr gt:Nat) (wv:Value) (w0:World) (R:Option (List Nd×List UInt8)) (out:List Nd) (e:Ending) (w':World):Prop:=e=.returned (.tuple #[])∧∃ (l:List Nd) (st':Option (List UInt8)) (A':Option Addr) (n' c':Nat),Got R l st'∧TS X Br gr gt wv w0 st' (out++l) A' n' c' w'
def WhoW (X Br gr:Nat) (w0:World) (kf:Nat) (cap:Array Value) (whose:List UInt8→Option (Int×List UInt8)):Prop:=(∀ s p,whose s=some p→p.2.length≤s.length)∧(∀ args w,(callFunc kf args).run Tryz.prog w=.ok (.enter kf args) w)∧∀ (st:Option (List UInt8)) (W:World),Kx X gr w0 W→RdrS Br gr st W→(st.getD []).length≤1048576→Calls Tryz.prog kf cap W (IntX Br gr (st.bind whose) W)
theorem bind_end {α:Type} {R:Option (α×List UInt8)} {v:α} {st:Option (List UInt8)} (h:R=st.bind fun s=>some (v,s)):Got R v st:=by rw [h];exact Got.end_ v st
set_option maxHeartbeats 4000000 in
theorem tseq_any {X Br gr gt kf:Nat} {cap:Array Value} {w0:World} {whose:List UInt8→Option (Int×List UInt8)} (HW:WhoW X Br gr w0 kf cap whose) (lv deep:Nat) (hdp:deep+1+lv=17)
  (ih:∀ (st:Option (List UInt8)) (out:List Nd) (AO:Option Addr) (n co:Nat) (w:World),TS X Br gr gt (.func (.func kf) #[] cap) w0 st out AO n co w→(st.getD []).length≤1048576→Calls Tryz.prog 82 #[.pointer (some ⟨gt,0,none⟩),.int .i64 ((deep+1:Nat):Int)] w (NdQ X Br gr gt (.func (.func kf) #[] cap) w0 (st.bind (nodeS whose lv (128 - n))) out))
  (st:Option (List UInt8)) (out:List Nd) (AO:Option Addr) (n co:Nat) (w:World) (h:TS X Br gr gt (.func (.func kf) #[] cap) w0 st out AO n co w) (hn:n < 128) (hl:(st.getD []).length≤1048576) :
  Calls Tryz.prog 116 #[.pointer (some ⟨gt,0,none⟩),.int .i64 (deep:Int)] w (NdQ X Br gr gt (.func (.func kf) #[] cap) w0 (st.bind (seqT (nodeS whose lv) (128 - n - 1))) out):=by
 have HRDS:=Lib.hid (nodeS_rds HW.1 lv)
 have HR0:Hid (st.bind (seqT (nodeS whose lv) (128 - n - 1))=(st.bind (takeB 40)).bind (seqMore (nodeS whose lv) (128 - n - 1) 0 [])):=Lib.hid (by
  cases st with
  | none=>rfl
  | some s=>exact seqT_more _ _ s)
 have HS:=Lib.hid h
 have HLS:=Lib.hid hl
 have HIH:=Lib.hid ih
 have HN:=Lib.hid hn
 have hpt:=tput_any ⟨3,0,0⟩ h.tr h.ow (by omega) h.xs
 have HPT:=Lib.hid hpt
 generalize hwv:Value.func (.func kf) #[] cap=wv at HS HIH HPT ⊢
 generalize st.bind (seqT (nodeS whose lv) (128 - n - 1))=R at HR0 ⊢
 obtain ⟨d1,hd1⟩:∃ d1,d1=deep+1:=⟨_,rfl⟩
 rw [← hd1] at HIH
 have e1:IntKind.i64.wrap (d1:Int)=(d1:Int):=by rw [IntKind.wrap_i64];omega
 have e2:(deep:Int)+1=(d1:Int):=by omega
 clear h hl ih hpt hwv hd1
 go_enter Tryz.func116,Tryz.ntmps116
 obtain ⟨m0,m1,m2⟩:=HS.out.cells
 have hbd:Tryz.prog.built 54 [(0,.int .i64 3)]=some #[.int .i64 3,.int .i64 0,.int .i64 0]:=rfl
 go_wp2_with fail
 refine HPT.out.mono ?_
 rintro e w1 ⟨rfl,A1,c1,p1,p2,p3,p4⟩
 have HS1:=Lib.hid (HS.out.put HN.out p1 p2 p3)
 clear p1 p2 p3 p4 HPT m0 m1 m2 hbd
 have HM:=Lib.hid (tmust_any HS1.out.rd 40 40 rfl)
 obtain ⟨m0,m1,m2⟩:=HS1.out.cells
 go_wp2_with fail
 refine HM.out.mono ?_
 rintro e w2 ⟨rfl,hm⟩
 have HS2:=Lib.hid (HS1.out.step hm)
 clear hm HM m0 m1 m2
 have HL2:Hid (((st.bind (takeB 40)).getD []).length≤1048576):=Lib.hid (Nat.le_trans (take_le st 40) HLS.out)
 generalize st.bind (takeB 40)=s2 at HS2 HR0 HL2
 have HLN:Hid (out.length=n):=Lib.hid HS.out.len
 clear HS HS1 HLS
 go_wp2_with fail
 go_loopw [5] (fun m wr=>∃ (b:Bool) (k:Nat) (l:List Nd) (sn:Option (List UInt8)) (A:Option Addr) (n1 c1:Nat),m=.bool b∧TS X Br gr gt wv w0 sn (out++⟨3,0,(k:Int)⟩::l) A n1 c1 wr ∧
  (b=true→R=sn.bind (seqMore (nodeS whose lv) (128 - n - 1) k l)∧k+(sn.getD []).length≤1048576)∧(b=false→R=sn.bind (seqEnd k l)∧k≤1048577)) (fun m wr=>mrB m (lenS wr gr))
 case atStart=>exact ⟨true,0,[],s2,A1,n+1,c1,rfl,HS2.out,fun _=>⟨HR0.out,by have:=HL2.out;omega⟩,fun e=>(by cases e)⟩
 case round =>
  obtain ⟨b,k,l,sn,A,n1,c2,rfl,hts,hyes,hno⟩:=hrel
  have HS3:=Lib.hid hts
  cases b with
  | false =>
   obtain ⟨q1,q2⟩:=hno rfl
   have HR1:=Lib.hid q1
   clear q1 q2 hno hyes hts HR0 HS2
   have HM:=Lib.hid (tmust_any HS3.out.rd 41 41 rfl)
   obtain ⟨m0,m1,m2⟩:=HS3.out.cells
   go_wp2_with fail
   refine HM.out.mono ?_
   rintro e w4 ⟨rfl,hm⟩
   have HS4:=Lib.hid (HS3.out.step hm)
   clear hm HM m0 m1 m2
   have HG:Hid (Got R ((⟨3,0,(k:Int)⟩:Nd)::l) (sn.bind (takeB 41))):=Lib.hid (bind_end (by
    rw [HR1.out]
    cases sn with
    | none=>rfl
    | some s =>
     show seqEnd k l s=(takeB 41 s).bind _
     unfold seqEnd
     cases takeB 41 s with
     | none=>rfl
     | some r=>rfl))
   go_wp2_with fail
   first | go_end0 | refine bodyPost_ret (results_none rfl _ _ _) rfl ?_
   exact ⟨rfl,_,_,A,n1,c2,HG.out,HS4.out⟩
  | true =>
   obtain ⟨q1,q2⟩:=hyes rfl
   have HR1:=Lib.hid q1
   have HK:=Lib.hid q2
   have hn1:n1=n+1+l.length:=by have:=hts.len;rw [List.length_append,List.length_cons,HLN.out] at this;omega
   have hnd:=HIH.out sn _ A n1 c2 wr hts (by omega)
   rw [show 128 - n1=128 - n - 1 - l.length by omega] at hnd
   have HND:=Lib.hid hnd
   have HLS1:=Lib.hid (lenS_is hts.rd)
   clear q1 q2 hno hyes hts hnd HR0 HS2 hn1
   go_wp2_with fail
   refine HND.out.mono ?_
   rintro e w4 ⟨rfl,l6,s6,A6,n6,c6,hg6,hts6⟩
   have hnx:=seq_next HRDS.out HR1.out hg6
   have HNX:=Lib.hid hnx
   have hL6:out++⟨3,0,(k:Int)⟩::l++l6=out++⟨3,0,(k:Int)⟩::(l++l6):=by rw [List.append_assoc];rfl
   rw [hL6] at hts6
   have HS4:=Lib.hid hts6
   have HG6:=Lib.hid hg6
   obtain ⟨gb,rfl⟩:∃ gb,A6=some ⟨gb,0,none⟩:=by
    obtain ⟨g',e,_⟩:=OwnV.block hts6.ow (by have:=hts6.len;rw [List.length_append,List.length_cons] at this;omega)
    exact ⟨g',e⟩
   have hk1:k≤1048576:=by have:=HK.out;omega
   obtain ⟨kk,hkk⟩:∃ kk,kk=k+1:=⟨_,rfl⟩
   rw [← hkk] at HNX
   obtain ⟨p1,p2,p3,p4⟩:=rowT_put (z:=(kk:Int)) hts6.ow HLN.out hts6.len
   have HP1:=Lib.hid p1
   obtain ⟨m0,m1,m2⟩:=hts6.cells
   have HGB:Hid (X≤gb∧gb≠gr∧gb≠gt):=Lib.hid ⟨(OwnV.obk_ge hts6.ow (b:=gb) rfl).1,fun e=>OwnV.apart hts6.ow hts6.rd (by decide) gb rfl (by rw [e];rfl),fun e=>OwnV.apart hts6.ow hts6.tr (by decide) gb rfl (by rw [e];rfl)⟩
   have k1:(k:Int)+1=(kk:Int):=by omega
   have k2:IntKind.i64.wrap (kk:Int)=(kk:Int):=by rw [IntKind.wrap_i64];omega
   have HKK:=Lib.hid hkk
   have p4i:(n:Int) < (n6:Int):=by omega
   clear p1 hts6 hnx hg6 HND hL6 hkk
   go_upto_region 5 with fail
   have HS5:Hid (TS X Br gr gt wv w0 s6 (out++⟨3,0,(kk:Int)⟩::(l++l6)) (some ⟨gb,0,none⟩) n6 c6 (w4.setCell ⟨gb,n*3+2,none⟩ (.int .i64 (kk:Int)))):=Lib.hid (by
    have h:=HS4.out
    have q:=HGB.out
    refine ⟨OwnV.other h.rd _ _ (by intro j e;injection e with e;injection e with e;show j≠gb;omega),OwnV.other h.tr _ _ (by intro j e;injection e with e;injection e with e;show j≠gb;omega),HP1.out,?_,h.le,h.kx.trans (Kx.bel ((Below.refl _ _).setCell (p:=⟨gb,n*3+2,none⟩) q.1 _)),by simpa using h.xs⟩
    have:=h.len
    rw [List.length_append,List.length_cons] at this ⊢
    exact this)
   clear HP1 HS4 m0 m1 m2 p2 p3 p4 p4i
   generalize w4.setCell ⟨gb,n*3+2,none⟩ (.int .i64 (kk:Int))=w5 at HS5 ⊢
   obtain ⟨m0,m1,m2⟩:=HS5.out.cells
   cases hq:s6.bind (takeB 44) with
   | some r =>
    have HT:=Lib.hid (ttake_yes HS5.out.rd 44 44 rfl hq)
    have HR2:=Lib.hid (HNX.out.1 r hq)
    have HLT:Hid (kk+r.length≤1048576∧r.length < (sn.getD []).length):=Lib.hid (by
     cases s6 with
     | none=>cases hq
     | some s3 =>
      have a2:=congrArg List.length (takeB_some (show takeB 44 s3=some r from hq))
      rw [List.length_cons] at a2
      have a3:=HK.out
      have a5:=HKK.out
      have a4:=got_le (fun s x hx=>Nat.le_of_lt ((HRDS.out _ _ _ hx).1)) HG6.out
      rw [Option.getD_some] at a4
      omega)
    clear hq HNX
    go_wp2_with fail
    refine HT.out.mono ?_
    rintro e w6 ⟨rfl,h6⟩
    have HS6:=Lib.hid (HS5.out.step h6)
    clear h6 HT m0 m1 m2 HS5
    go_wp2_with fail
    go_roundw
    case rel=>exact ⟨true,kk,l++l6,some r,_,n6,c6,rfl,HS6.out,fun _=>⟨HR2.out,HLT.out.1⟩,fun e=>(by cases e)⟩
    case measure=>have a1:=HLT.out.2;have a2:=HLS1.out;have a3:=lenS_is HS6.out.rd;rw [Option.getD_some] at a3;simp only [mrB];omega
   | none =>
    have HT:=Lib.hid (ttake_no HS5.out.rd 44 44 rfl hq)
    have HR2:=Lib.hid (HNX.out.2 hq)
    clear hq HNX
    go_wp2_with fail
    refine HT.out.mono ?_
    rintro e w6 ⟨rfl,h6⟩
    have HS6:=Lib.hid (HS5.out.step h6)
    clear h6 HT m0 m1 m2 HS5
    go_wp2_with fail
    go_roundw
    case rel=>exact ⟨false,kk,l++l6,s6,_,n6,c6,rfl,HS6.out,fun e=>(by cases e),fun _=>⟨HR2.out,by have:=HKK.out;omega⟩⟩
    case measure=>simp only [mrB];omega
set_option maxHeartbeats 8000000 in
theorem tnode_any {X Br gr gt kf:Nat} {cap:Array Value} {w0:World} {whose:List UInt8→Option (Int×List UInt8)} (HW:WhoW X Br gr w0 kf cap whose):∀ (lv deep:Nat),deep+lv=17→∀ (st:Option (List UInt8)) (out:List Nd) (AO:Option Addr) (n co:Nat) (w:World),
  TS X Br gr gt (.func (.func kf) #[] cap) w0 st out AO n co w→(st.getD []).length≤1048576→Calls Tryz.prog 82 #[.pointer (some ⟨gt,0,none⟩),.int .i64 (deep:Int)] w (NdQ X Br gr gt (.func (.func kf) #[] cap) w0 (st.bind (nodeS whose lv (128 - n))) out):=by
 intro lv
 induction lv with
 | zero =>
  intro deep hdp st out AO n co w h hl
  have HS:=Lib.hid h
  have HG:Hid (Got (st.bind (nodeS whose 0 (128 - n))) ([]:List Nd) none):=Lib.hid (got_no (by cases st <;> rfl))
  generalize st.bind (nodeS whose 0 (128 - n))=R at HG ⊢
  have i1:(16:Int) < (deep:Int):=by omega
  clear h hl hdp
  go_enter Tryz.func82,Tryz.ntmps82
  have HF:=Lib.hid (tfail_any HS.out.rd)
  obtain ⟨m0,m1,m2⟩:=HS.out.cells
  go_wp2_with fail
  refine HF.out.mono ?_
  rintro e wf ⟨rfl,hf⟩
  have HSF:=Lib.hid (HS.out.step hf)
  clear hf HF m0 m1 m2
  go_wp2_with fail
  first | go_end0 | refine bodyPost_ret (results_none rfl _ _ _) rfl ?_
  exact ⟨rfl,[],none,AO,n,co,HG.out,by rw [List.append_nil];exact HSF.out⟩
 | succ lv ih =>
  intro deep hdp st out AO n co w h hl
  have HS:=Lib.hid h
  have HL:=Lib.hid hl
  have HIH:=Lib.hid (ih (deep+1) (by omega))
  have HSEQ:=Lib.hid fun st out AO n co w h hn hl=>tseq_any HW lv deep (by omega) (ih (deep+1) (by omega)) st out AO n co w h hn hl
  have i1:¬ (16:Int) < (deep:Int):=by omega
  obtain ⟨d1,hd1⟩:∃ d1,d1=deep+1:=⟨_,rfl⟩
  rw [← hd1] at HIH
  have e1:IntKind.i64.wrap (d1:Int)=(d1:Int):=by rw [IntKind.wrap_i64];omega
  have e2:(deep:Int)+1=(d1:Int):=by omega
  have hle:=h.le
  have HWH:=Lib.hid HW
  clear h hl hdp ih hd1
  by_cases hfull:n=128
  ·have HG:Hid (Got (st.bind (nodeS whose (lv+1) (128 - n))) ([]:List Nd) none):=Lib.hid (got_no (by rw [show 128 - n=0 by omega];cases st <;> rfl))
   generalize st.bind (nodeS whose (lv+1) (128 - n))=R at HG ⊢
   have i2:((n:Int) == 128)=true:=by rw [beq_iff_eq];omega
   clear HIH HSEQ
   go_enter Tryz.func82,Tryz.ntmps82
   have HF:=Lib.hid (tfail_any HS.out.rd)
   obtain ⟨m0,m1,m2⟩:=HS.out.cells
   go_wp2_with fail
   refine HF.out.mono ?_
   rintro e wf ⟨rfl,hf⟩
   have HSF:=Lib.hid (HS.out.step hf)
   clear hf HF m0 m1 m2
   go_wp2_with fail
   first | go_end0 | refine bodyPost_ret (results_none rfl _ _ _) rfl ?_
   exact ⟨rfl,[],none,AO,n,co,HG.out,by rw [List.append_nil];exact HSF.out⟩
  ·have hn:n < 128:=by omega
   have HN128:=Lib.hid hn
   have i2:((n:Int) == 128)=false:=by rw [beq_eq_false_iff_ne];omega
   obtain ⟨rm,hrm⟩:∃ rm,128 - n=rm+1:=⟨127 - n,by omega⟩
   have HRM:Hid (128 - n - 1=rm∧128 - (n+1)=rm):=Lib.hid ⟨by omega,by omega⟩
   rw [hrm]
   have HNX:=Lib.hid (tnext_any HS.out.rd)
   by_cases hs:st.getD []=[]
   ·have HG:Hid (Got (st.bind (nodeS whose (lv+1) (rm+1))) ([]:List Nd) none):=Lib.hid (got_no (by
     cases st with
     | none=>rfl
     | some s=>rw [show s=[] from hs];rfl))
    have hv:nxV st=0:=by
     cases st with
     | none=>rfl
     | some s=>rw [show s=[] from hs];rfl
    rw [hv] at HNX
    generalize st.bind (nodeS whose (lv+1) (rm+1))=R at HG ⊢
    clear HIH HSEQ hv hs hrm
    go_enter Tryz.func82,Tryz.ntmps82
    obtain ⟨m0,m1,m2⟩:=HS.out.cells
    go_wp2_with fail
    refine HNX.out.mono ?_
    rintro e w1 ⟨rfl,h1⟩
    have HS1:=Lib.hid (HS.out.step h1)
    clear h1 HNX m0 m1 m2
    have HF:=Lib.hid (tfail_any HS1.out.rd)
    obtain ⟨m0,m1,m2⟩:=HS1.out.cells
    go_wp2_with fail
    refine HF.out.mono ?_
    rintro e wf ⟨rfl,hf⟩
    have HSF:=Lib.hid (HS1.out.step hf)
    clear hf HF m0 m1 m2
    go_wp2_with fail
    first | go_end0 | refine bodyPost_ret (results_none rfl _ _ _) rfl ?_
    exact ⟨rfl,[],none,AO,n,co,HG.out,by rw [List.append_nil];exact HSF.out⟩
   ·obtain ⟨c,r,rfl⟩:∃ c r,st=some (c::r):=by
     cases st with
     | none=>exact absurd rfl hs
     | some s =>
      cases s with
      | nil=>exact absurd rfl hs
      | cons c r=>exact ⟨c,r,rfl⟩
    rw [show nxV (some (c::r))=(c.toNat:Int) from rfl,show nxS (some (c::r))=some r from rfl] at HNX
    have hR:(some (c::r)).bind (nodeS whose (lv+1) (rm+1))=if c=119 then winS whose r else if c=105 then (numS lim40 r).map fun x=>([⟨2,0,x.1⟩],x.2) else if c=115 then seqT (nodeS whose lv) rm r else if c=114 then repS (nodeS whose lv) rm r else none:=rfl
    have HLR:Hid (r.length≤1048576):=Lib.hid (by have:=HL.out;rw [Option.getD_some,List.length_cons] at this;omega)
    rw [hR]
    clear hs hR hrm HL
    by_cases h119:c=119
    ·rw [if_pos h119,winS_eq]
     rw [h119] at HNX
     clear h119 HIH HSEQ
     have HEND:Hid (∀ p s1 v s3,Got ((some r).bind whose) p s1→Got ((s1.bind (takeB 58)).bind (numZ lim40)) v s3→Got ((whose r).bind fun p=>(takeB 58 p.2).bind fun r=>(numZ lim40 r).bind fun n=>some ([(⟨1,p.1,n.1⟩:Nd)],n.2)) [⟨1,p,v⟩] s3):=Lib.hid fun p s1 v s3 g1 g2=>bind_end (by
      have a1:=g1.bind fun p s=>(takeB 58 s).bind fun r=>(numZ lim40 r).bind fun n=>some ([(⟨1,p,n.1⟩:Nd)],n.2)
      have a2:=g2.bind fun v s=>some ([(⟨1,p,v⟩:Nd)],s)
      exact a1.trans ((must_bind s1 58 fun r=>(numZ lim40 r).bind fun n=>some ([(⟨1,p,n.1⟩:Nd)],n.2)).trans a2))
     generalize ((whose r).bind fun p=>(takeB 58 p.2).bind fun r=>(numZ lim40 r).bind fun n=>some ([(⟨1,p.1,n.1⟩:Nd)],n.2))=R at HEND ⊢
     go_enter Tryz.func82,Tryz.ntmps82
     obtain ⟨m0,m1,m2⟩:=HS.out.cells
     go_wp2_with fail
     refine HNX.out.mono ?_
     rintro e w1 ⟨rfl,h1⟩
     have HS1:=Lib.hid (HS.out.step h1)
     clear h1 HNX m0 m1 m2
     obtain ⟨m0,m1,m2⟩:=HS1.out.cells
     have hcf:=HWH.out.2.1
     have HWC:=Lib.hid (HWH.out.2.2 (some r) w1 HS1.out.kx HS1.out.rd HLR.out)
     go_wp2_with fail
     refine HWC.out.mono ?_
     rintro e w2 ⟨pv,s2,rfl,q1,hg,h2⟩
     have HGp:=Lib.hid hg
     have HS2:=Lib.hid (HS1.out.step h2)
     clear q1 hg h2 HWC m0 m1 m2 hcf
     have HM:=Lib.hid (tmust_any HS2.out.rd 58 58 rfl)
     obtain ⟨m0,m1,m2⟩:=HS2.out.cells
     go_wp2_with fail
     refine HM.out.mono ?_
     rintro e w3 ⟨rfl,hm⟩
     have HS3:=Lib.hid (HS2.out.step hm)
     clear hm HM m0 m1 m2
     have HN:=Lib.hid (tnumber_any HS3.out.rd lim40 (Nat.le_refl _))
     obtain ⟨m0,m1,m2⟩:=HS3.out.cells
     go_wp2_with fail
     refine HN.out.mono ?_
     rintro e w4 ⟨v,s4,rfl,q1,q2,hg,hm⟩
     have HGv:=Lib.hid hg
     have HS4:=Lib.hid (HS3.out.step hm)
     clear q1 q2 hg hm HN m0 m1 m2
     have hbd:Tryz.prog.built 54 [(0,.int .i64 1),(1,.int .i64 pv),(2,.int .i64 v)]=some #[.int .i64 1,.int .i64 pv,.int .i64 v]:=rfl
     have HPT:=Lib.hid (tput_any ⟨1,pv,v⟩ HS4.out.tr HS4.out.ow (by omega) HS4.out.xs)
     obtain ⟨m0,m1,m2⟩:=HS4.out.cells
     go_wp2_with fail
     refine HPT.out.mono ?_
     rintro e w5 ⟨rfl,A5,c5,p1,p2,p3,p4⟩
     have HS5:=Lib.hid (HS4.out.put HN128.out p1 p2 p3)
     clear p1 p2 p3 p4 HPT m0 m1 m2 hbd
     go_wp2_with fail
     first | go_end0 | refine bodyPost_ret (results_none rfl _ _ _) rfl ?_
     exact ⟨rfl,[⟨1,pv,v⟩],s4,A5,n+1,c5,HEND.out pv s2 v s4 HGp.out HGv.out,HS5.out⟩
    rw [if_neg h119]
    by_cases h105:c=105
    ·rw [if_pos h105,idl_eq]
     rw [h105] at HNX
     clear h119 h105 HIH HSEQ
     have HEND:Hid (∀ v s3,Got ((some r).bind (numZ lim40)) v s3→Got ((numZ lim40 r).bind fun n=>some ([(⟨2,0,n.1⟩:Nd)],n.2)) [⟨2,0,v⟩] s3):=Lib.hid fun v s3 g1=>bind_end (g1.bind fun v s=>some ([(⟨2,0,v⟩:Nd)],s))
     generalize ((numZ lim40 r).bind fun n=>some ([(⟨2,0,n.1⟩:Nd)],n.2))=R at HEND ⊢
     go_enter Tryz.func82,Tryz.ntmps82
     obtain ⟨m0,m1,m2⟩:=HS.out.cells
     go_wp2_with fail
     refine HNX.out.mono ?_
     rintro e w1 ⟨rfl,h1⟩
     have HS3:=Lib.hid (HS.out.step h1)
     clear h1 HNX m0 m1 m2
     have HN:=Lib.hid (tnumber_any HS3.out.rd lim40 (Nat.le_refl _))
     obtain ⟨m0,m1,m2⟩:=HS3.out.cells
     go_wp2_with fail
     refine HN.out.mono ?_
     rintro e w4 ⟨v,s4,rfl,q1,q2,hg,hm⟩
     have HGv:=Lib.hid hg
     have HS4:=Lib.hid (HS3.out.step hm)
     clear q1 q2 hg hm HN m0 m1 m2
     have hbd:Tryz.prog.built 54 [(0,.int .i64 2),(2,.int .i64 v)]=some #[.int .i64 2,.int .i64 0,.int .i64 v]:=rfl
     have HPT:=Lib.hid (tput_any ⟨2,0,v⟩ HS4.out.tr HS4.out.ow (by omega) HS4.out.xs)
     obtain ⟨m0,m1,m2⟩:=HS4.out.cells
     go_wp2_with fail
     refine HPT.out.mono ?_
     rintro e w5 ⟨rfl,A5,c5,p1,p2,p3,p4⟩
     have HS5:=Lib.hid (HS4.out.put HN128.out p1 p2 p3)
     clear p1 p2 p3 p4 HPT m0 m1 m2 hbd
     go_wp2_with fail
     first | go_end0 | refine bodyPost_ret (results_none rfl _ _ _) rfl ?_
     exact ⟨rfl,[⟨2,0,v⟩],s4,A5,n+1,c5,HEND.out v s4 HGv.out,HS5.out⟩
    rw [if_neg h105]
    by_cases h115:c=115
    ·rw [if_pos h115]
     rw [h115] at HNX
     clear h119 h105 h115 HIH
     go_enter Tryz.func82,Tryz.ntmps82
     obtain ⟨m0,m1,m2⟩:=HS.out.cells
     go_wp2_with fail
     refine HNX.out.mono ?_
     rintro e w1 ⟨rfl,h1⟩
     have HS1:=Lib.hid (HS.out.step h1)
     clear h1 HNX m0 m1 m2
     have HQ:=Lib.hid (HSEQ.out (some r) out AO n co w1 HS1.out hn HLR.out)
     rw [HRM.out.1] at HQ
     obtain ⟨m0,m1,m2⟩:=HS1.out.cells
     go_wp2_with fail
     refine HQ.out.mono ?_
     rintro e w2 hq
     have HQ2:=Lib.hid hq
     obtain ⟨rfl,_⟩:=hq
     clear m0 m1 m2
     go_wp2_with fail
     first | go_end0 | refine bodyPost_ret (results_none rfl _ _ _) rfl ?_
     exact HQ2.out
    rw [if_neg h115]
    by_cases h114:c=114
    ·rw [if_pos h114,repS_eq]
     rw [h114] at HNX
     clear h119 h105 h115 h114 HSEQ
     have HEND:Hid (∀ v s1 l s3,Got ((some r).bind (numZ lim40)) v s1→Got ((s1.bind (takeB 40)).bind (nodeS whose lv rm)) l s3→Got ((numZ lim40 r).bind fun v=>(takeB 40 v.2).bind fun s2=>(nodeS whose lv rm s2).bind fun x=>(takeB 41 x.2).bind fun s4=>some ((⟨4,0,v.1⟩:Nd)::x.1,s4)) (⟨4,0,v⟩::l) (s3.bind (takeB 41))):=Lib.hid fun v s1 l s3 g1 g2=>bind_end (by
      have a1:=g1.bind fun v s=>(takeB 40 s).bind fun s2=>(nodeS whose lv rm s2).bind fun x=>(takeB 41 x.2).bind fun s4=>some ((⟨4,0,v⟩:Nd)::x.1,s4)
      have a2:=g2.bind fun l s=>(takeB 41 s).bind fun s4=>some ((⟨4,0,v⟩:Nd)::l,s4)
      exact a1.trans ((must_bind s1 40 fun s2=>(nodeS whose lv rm s2).bind fun x=>(takeB 41 x.2).bind fun s4=>some ((⟨4,0,v⟩:Nd)::x.1,s4)).trans (a2.trans (must_bind s3 41 fun s4=>some ((⟨4,0,v⟩:Nd)::l,s4)))))
     generalize ((numZ lim40 r).bind fun v=>(takeB 40 v.2).bind fun s2=>(nodeS whose lv rm s2).bind fun x=>(takeB 41 x.2).bind fun s4=>some ((⟨4,0,v.1⟩:Nd)::x.1,s4))=R at HEND ⊢
     go_enter Tryz.func82,Tryz.ntmps82
     obtain ⟨m0,m1,m2⟩:=HS.out.cells
     go_wp2_with fail
     refine HNX.out.mono ?_
     rintro e w1 ⟨rfl,h1⟩
     have HS3:=Lib.hid (HS.out.step h1)
     clear h1 HNX m0 m1 m2
     have HN:=Lib.hid (tnumber_any HS3.out.rd lim40 (Nat.le_refl _))
     obtain ⟨m0,m1,m2⟩:=HS3.out.cells
     go_wp2_with fail
     refine HN.out.mono ?_
     rintro e w4 ⟨v,s4,rfl,q1,q2,hg,hm⟩
     have HGv:=Lib.hid hg
     have HS4:=Lib.hid (HS3.out.step hm)
     clear q1 q2 hg hm HN m0 m1 m2
     have hbd:Tryz.prog.built 54 [(0,.int .i64 4),(2,.int .i64 v)]=some #[.int .i64 4,.int .i64 0,.int .i64 v]:=rfl
     have HPT:=Lib.hid (tput_any ⟨4,0,v⟩ HS4.out.tr HS4.out.ow (by omega) HS4.out.xs)
     obtain ⟨m0,m1,m2⟩:=HS4.out.cells
     go_wp2_with fail
     refine HPT.out.mono ?_
     rintro e w5 ⟨rfl,A5,c5,p1,p2,p3,p4⟩
     have HS5:=Lib.hid (HS4.out.put HN128.out p1 p2 p3)
     clear p1 p2 p3 p4 HPT m0 m1 m2 hbd
     have HM:=Lib.hid (tmust_any HS5.out.rd 40 40 rfl)
     obtain ⟨m0,m1,m2⟩:=HS5.out.cells
     go_wp2_with fail
     refine HM.out.mono ?_
     rintro e w6 ⟨rfl,hm⟩
     have HS6:=Lib.hid (HS5.out.step hm)
     clear hm HM m0 m1 m2
     have HL6:Hid (((s4.bind (takeB 40)).getD []).length≤1048576):=Lib.hid (Nat.le_trans (take_le s4 40) (Nat.le_trans (got_le (fun _ _ h=>numZ_le h) HGv.out) HLR.out))
     have HQ:=Lib.hid (HIH.out _ _ _ _ _ _ HS6.out HL6.out)
     rw [HRM.out.2] at HQ
     obtain ⟨m0,m1,m2⟩:=HS6.out.cells
     go_wp2_with fail
     refine HQ.out.mono ?_
     rintro e w7 ⟨rfl,l7,s7,A7,n7,c7,hg7,h7⟩
     have HG7:=Lib.hid hg7
     have HS7:=Lib.hid h7
     clear hg7 h7 HQ m0 m1 m2
     have HM:=Lib.hid (tmust_any HS7.out.rd 41 41 rfl)
     obtain ⟨m0,m1,m2⟩:=HS7.out.cells
     go_wp2_with fail
     refine HM.out.mono ?_
     rintro e w8 ⟨rfl,hm⟩
     have HS8:=Lib.hid (HS7.out.step hm)
     clear hm HM m0 m1 m2
     go_wp2_with fail
     first | go_end0 | refine bodyPost_ret (results_none rfl _ _ _) rfl ?_
     exact ⟨rfl,⟨4,0,v⟩::l7,_,A7,n7,c7,HEND.out v s4 l7 s7 HGv.out HG7.out,by have:=HS8.out;rw [List.append_assoc] at this;exact this⟩
    rw [if_neg h114]
    have HG:Hid (Got (none:Option (List Nd×List UInt8)) ([]:List Nd) none):=Lib.hid (got_no rfl)
    obtain ⟨b,hb⟩:∃ b,b=c.toNat:=⟨_,rfl⟩
    have k1:((b:Int) == 119)=false:=by rw [beq_eq_false_iff_ne,hb];intro e;exact h119 (UInt8.toNat_inj.1 (by rw [show (119:UInt8).toNat=119 from rfl];omega))
    have k2:((b:Int) == 105)=false:=by rw [beq_eq_false_iff_ne,hb];intro e;exact h105 (UInt8.toNat_inj.1 (by rw [show (105:UInt8).toNat=105 from rfl];omega))
    have k3:((b:Int) == 115)=false:=by rw [beq_eq_false_iff_ne,hb];intro e;exact h115 (UInt8.toNat_inj.1 (by rw [show (115:UInt8).toNat=115 from rfl];omega))
    have k4:((b:Int) == 114)=false:=by rw [beq_eq_false_iff_ne,hb];intro e;exact h114 (UInt8.toNat_inj.1 (by rw [show (114:UInt8).toNat=114 from rfl];omega))
    rw [← hb] at HNX
    clear h119 h105 h115 h114 HIH HSEQ hb
    go_enter Tryz.func82,Tryz.ntmps82
    obtain ⟨m0,m1,m2⟩:=HS.out.cells
    go_wp2_with fail
    refine HNX.out.mono ?_
    rintro e w1 ⟨rfl,h1⟩
    have HS1:=Lib.hid (HS.out.step h1)
    clear h1 HNX m0 m1 m2
    have HF:=Lib.hid (tfail_any HS1.out.rd)
    obtain ⟨m0,m1,m2⟩:=HS1.out.cells
    go_wp2_with fail
    refine HF.out.mono ?_
    rintro e wf ⟨rfl,hf⟩
    have HSF:=Lib.hid (HS1.out.step hf)
    clear hf HF m0 m1 m2
    go_wp2_with fail
    first | go_end0 | refine bodyPost_ret (results_none rfl _ _ _) rfl ?_
    exact ⟨rfl,[],none,AO,n,co,HG.out,by rw [List.append_nil];exact HSF.out⟩
end Go.Proofs.YtfmndmhjjbeokaaGreatDoor
namespace Go.Proofs.YtfmndmhjjbeokaaGreatDoor
set_option maxRecDepth 100000
open Go.RowKit Tab Txt
set_option linter.unusedSimpArgs false
set_option linter.unusedVariables false
def TbA (R:Option (List Nd)) (w:World) (e:Ending) (w':World):Prop:=Below w.heap.size w w'∧match R with
 | some l=>∃ A c,e=.returned (.tuple #[.slice A l.length c,.bool true])∧OwnV 54 3 w' w.heap.size A l.length c (ns l)
 | none=>e=.returned (.tuple #[.slice none 0 0,.bool false])
end Go.Proofs.YtfmndmhjjbeokaaGreatDoor
namespace Go.Proofs.YtfmndmhjjbeokaaGreatDoor
set_option maxRecDepth 100000
open Go.RowKit Tab Txt
set_option linter.unusedSimpArgs false
set_option linter.unusedVariables false
theorem ttab1_any {B g bp:Nat} {st:Option (List UInt8)} {w:World} (h:RdrS B g st w) (hc:w.cell? ⟨bp,0,none⟩=some (.pointer (some ⟨g,0,none⟩))):Calls Tryz.prog 48 #[.pointer (some ⟨bp,0,none⟩)] w (IntX B g (st.bind numW) w):=by
 have HN:=Lib.hid (tnumber_any h lim40 (Nat.le_refl _))
 clear h
 go_enter Tryz.func48,Tryz.ntmps48
 go_wp2_with fail
 refine HN.out.mono ?_
 rintro e w1 ⟨v,s1,rfl,q1,q2,hg,h1⟩
 have HG:=Lib.hid hg
 have H1:=Lib.hid h1
 have HV:Hid (In64 v):=Lib.hid ⟨by omega,by omega⟩
 clear q1 q2 hg h1 HN hc
 go_wp2_with fail
 go_ret
 exact ⟨v,s1,rfl,HV.out,HG.out,H1.out⟩
def TabX (Br gr:Nat) (R:Option (List Nd×List UInt8)) (w:World) (e:Ending) (w':World):Prop:=∃ (l:List Nd) (st':Option (List UInt8)) (A:Option Addr) (n c:Nat),e=.returned (.slice A n c)∧l.length=n∧n≤128∧OwnV 54 3 w' w.heap.size A n c (ns l)∧Got R l st'∧Rpo Br gr st' w w'
theorem Kx.rpo {X g B:Nat} {st:Option (List UInt8)} {w w':World} (h:Kx X g w w') (hX:X=w.heap.size) (hr:RdrS B g st w'):Rpo B g st w w' :=
 ⟨hr,h.os,h.tape,h.output,h.size,fun i hi hne=>h.block i (by omega) fun e=>hne (by rw [e])⟩
set_option maxHeartbeats 1000000 in
theorem ttable_any {Br gr kf:Nat} {cap:Array Value} {w:World} {whose:List UInt8→Option (Int×List UInt8)} {st:Option (List UInt8)} (HW:WhoW w.heap.size Br gr w kf cap whose) (h:RdrS Br gr st w) (hl:(st.getD []).length≤1048576) :
  Calls Tryz.prog 47 #[.pointer (some ⟨gr,0,none⟩),.func (.func kf) #[] cap] w (TabX Br gr (st.bind (tableS whose)) w):=by
 have hb:=bl1 w (.cells #[.pointer (some ⟨gr,0,none⟩),.func (.func kf) #[] cap,.slice none 0 0] 122)
 have hT:TreC w.heap.size w.heap.size gr (.func (.func kf) #[] cap) none 0 0 (w.alloc (.cells #[.pointer (some ⟨gr,0,none⟩),.func (.func kf) #[] cap,.slice none 0 0] 122)) :=
  ownV_lit w 122 3 w.heap.size #[.pointer (some ⟨gr,0,none⟩),.func (.func kf) #[] cap,.slice none 0 0] 1 rfl (Nat.le_refl _) (by unfold maxLen;omega)
 have hTS:TS w.heap.size Br gr w.heap.size (.func (.func kf) #[] cap) w st [] none 0 0 (w.alloc (.cells #[.pointer (some ⟨gr,0,none⟩),.func (.func kf) #[] cap,.slice none 0 0] 122)) :=
  ⟨OwnV.below h rfl hb,hT,OwnV.nil _ _ _ _,rfl,by omega,Kx.bel hb,hb.size⟩
 have hN:=tnode_any (gt:=w.heap.size) HW 16 1 rfl st [] none 0 0 _ hTS hl
 have hR:st.bind (nodeS whose 16 (128 - 0))=st.bind (tableS whose):=rfl
 rw [hR] at hN
 have HN:=Lib.hid hN
 generalize st.bind (tableS whose)=R at HN ⊢
 have hbd:Tryz.prog.built 122 [(0,.pointer (some ⟨gr,0,none⟩)),(1,.func (.func kf) #[] cap)]=some #[.pointer (some ⟨gr,0,none⟩),.func (.func kf) #[] cap,.slice none 0 0]:=rfl
 clear hb hT hTS hN hR h hl HW
 go_enter Tryz.func47,Tryz.ntmps47
 go_wp2_with fail
 refine HN.out.mono ?_
 rintro e w1 ⟨rfl,l,st',A,n,c,hg,h1⟩
 have HG:=Lib.hid hg
 have H1:=Lib.hid h1
 clear hg h1 HN hbd
 obtain ⟨m0,m1,m2⟩:=H1.out.cells
 go_wp2_with fail
 go_ret
 exact ⟨l,st',A,n,c,rfl,by have:=H1.out.len;simpa using this,H1.out.le,by have:=H1.out.ow;simpa using this,HG.out,H1.out.kx.rpo rfl H1.out.rd⟩
def tabD (s:List UInt8):Option (List Nd):=match tableS numW s with
 | some (l,[])=>some l
 | _=>none
set_option maxHeartbeats 1000000 in
theorem tTable_any (s:List UInt8) (w:World) (hs:s.length≤1048576):Calls Tryz.prog 19 #[.string (bsOf s)] w (TbA (tabD s) w):=by
 have b1:=bl1 w (.cells #[.string (bsOf s),.bool false] 79)
 have o1:RdrS w.heap.size w.heap.size (some s) (w.alloc (.cells #[.string (bsOf s),.bool false] 79)):=ownV_lit w 79 2 w.heap.size #[.string (bsOf s),.bool false] 1 rfl (Nat.le_refl _) (by unfold maxLen;omega)
 have hz:(w.alloc (.cells #[.string (bsOf s),.bool false] 79)).heap.size=w.heap.size+1:=by simp
 obtain ⟨W1,hW1⟩:∃ W1,W1=w.alloc (.cells #[.string (bsOf s),.bool false] 79):=⟨_,rfl⟩
 rw [← hW1] at b1 o1 hz
 have b2:=bl1 W1 (.cells #[.pointer (some ⟨w.heap.size,0,none⟩)] 77)
 have o2:RdrS w.heap.size w.heap.size (some s) (W1.alloc (.cells #[.pointer (some ⟨w.heap.size,0,none⟩)] 77)):=OwnV.below o1 rfl b2
 have c2:(W1.alloc (.cells #[.pointer (some ⟨w.heap.size,0,none⟩)] 77)).cell? ⟨W1.heap.size,0,none⟩=some (.pointer (some ⟨w.heap.size,0,none⟩)):=World.cell?_alloc_mark _ _ _ _ _
 have HSZ:Hid (w.heap.size+2=(W1.alloc (.cells #[.pointer (some ⟨w.heap.size,0,none⟩)] 77)).heap.size):=Lib.hid (by simp [hz])
 have HB2:Hid (Below w.heap.size w (W1.alloc (.cells #[.pointer (some ⟨w.heap.size,0,none⟩)] 77))):=Lib.hid (b1.trans (b2.mono b1.size))
 rw [hz] at c2
 obtain ⟨W2,hW2⟩:∃ W2,W2=W1.alloc (.cells #[.pointer (some ⟨w.heap.size,0,none⟩)] 77):=⟨_,rfl⟩
 rw [← hW2] at o2 c2 HSZ HB2
 have HW:WhoW W2.heap.size w.heap.size w.heap.size W2 48 #[.pointer (some ⟨w.heap.size+1,0,none⟩)] numW:=by
  refine ⟨fun s p hp=>numW_le hp,fun args w=>by simp,fun st W hk hr hl=>ttab1_any hr ?_⟩
  have:=HSZ.out
  rw [cell_block (hk.block (w.heap.size+1) (by omega) (by omega))]
  exact c2
 have HT:=Lib.hid (ttable_any HW o2 (by rw [Option.getD_some];exact hs))
 have hR:Hid (∀ l st',Got ((some s).bind (tableS numW)) l st'→(st'=some []→tabD s=some l)∧(st'≠some []→tabD s=none)):=Lib.hid fun l st' hg=>by
  obtain ⟨e1,e2⟩:=hg
  rw [Option.bind_some] at e1 e2
  unfold tabD
  cases hx:tableS numW s with
  | none =>
   rw [hx] at e1
   rw [e1]
   exact ⟨fun e=>(by cases e),fun _=>rfl⟩
  | some x =>
   obtain ⟨l',r⟩:=x
   rw [hx] at e1 e2
   have h3:=e2 _ rfl
   rw [e1,h3]
   cases r with
   | nil=>exact ⟨fun _=>rfl,fun e=>absurd rfl e⟩
   | cons c r=>exact ⟨fun e=>(by injection e with e;cases e),fun _=>rfl⟩
 have hbd:Tryz.prog.built 79 [(0,.string (bsOf s))]=some #[.string (bsOf s),.bool false]:=rfl
 generalize (some s).bind (tableS numW)=R at HT hR
 generalize tabD s=D at hR ⊢
 have C2:=Lib.hid c2
 subst hW2;subst hW1
 clear b1 o1 hz b2 o2 c2 HW
 generalize bsOf s=sv at HT HSZ HB2 hbd C2 ⊢
 go_enter Tryz.func19,Tryz.ntmps19
 go_wp2_with fail
 generalize (w.alloc (.cells #[.string sv,.bool false] 79)).alloc (.cells #[.pointer (some ⟨w.heap.size,0,none⟩)] 77)=W2 at HT HSZ HB2 C2 ⊢
 refine HT.out.mono ?_
 rintro e w1 ⟨l,st',A,n,c,rfl,hl,hn,ho,hg,h1⟩
 have hq:=hR.out l st' hg
 have c1:w1.cell? ⟨w.heap.size+1,0,none⟩=some (.pointer (some ⟨w.heap.size,0,none⟩)):=by
  have:=HSZ.out
  rw [cell_block (h1.gb.block (w.heap.size+1) (by omega) (by intro e;injection e with e;omega))]
  exact C2.out
 have HO:=Lib.hid ho
 have HLN:=Lib.hid hl
 have HB3:Hid (Below w.heap.size w w1):=Lib.hid (HB2.out.trans (ogb_below h1.gb (Nat.le_refl _) HB2.out.size))
 have HD:=Lib.hid (tdone_any h1.rd)
 have HBS:=Lib.hid HB2.out.size
 clear hg h1 ho hl HT hR C2
 by_cases hst:st'=some []
 ·have HQ:=Lib.hid (hq.1 hst)
  rw [decide_eq_true hst] at HD
  clear hq hst
  go_wp2_with fail
  refine HD.out.mono ?_
  rintro e w2 ⟨rfl,rfl⟩
  go_wp2_with fail
  go_ret2
  rw [HQ.out]
  refine ⟨HB3.out,A,c,by rw [HLN.out];rfl,?_⟩
  have:=HO.out
  rw [HLN.out]
  exact OwnV.weak this HBS.out
 ·have HQ:=Lib.hid (hq.2 hst)
  rw [decide_eq_false hst] at HD
  clear hq hst
  go_wp2_with fail
  refine HD.out.mono ?_
  rintro e w2 ⟨rfl,rfl⟩
  go_wp2_with fail
  go_ret2
  rw [HQ.out]
  exact ⟨HB3.out,rfl⟩
end Go.Proofs.YtfmndmhjjbeokaaGreatDoor
