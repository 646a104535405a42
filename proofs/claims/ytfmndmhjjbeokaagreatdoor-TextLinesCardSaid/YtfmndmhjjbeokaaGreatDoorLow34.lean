import Derived.Test.YtfmndmhjjbeokaaGreatDoorLow33
import Derived.Test.YtfmndmhjjbeokaaGreatDoorLow24
import Derived.Test.YtfmndmhjjbeokaaGreatDoorLow2
import Derived.Lib.BufferWrite
import Derived.Laws.MakeOwn
import Derived.Test.YtfmndmhjjbeokaaGreatDoorLow32
namespace Go.Proofs.YtfmndmhjjbeokaaGreatDoor
open Go.RowKit Tab
set_option linter.unusedSimpArgs false
set_option linter.unusedVariables false
theorem infoB:(Tryz.prog.info? 5).map (fun i=>(i.zero,i.size,i.bytes))=some (some (.int .u8 0),1,1):=by kernel_rfl
set_option maxRecDepth 100000 in
set_option maxHeartbeats 1000000 in
theorem sclone_any (s:ByteArray) (w:World) (hs:s.size≤140737488351232):Calls Tryz.prog 151 #[.string s] w (Ans (.string s) w):=by
 by_cases h0:s.size=0
 ·obtain rfl:s=⟨#[]⟩:=ByteArray.ext (Array.eq_empty_of_size_eq_zero h0)
  go_enter Tryz.func151,Tryz.ntmps151
  go_wp2_with fail
  go_ret
  exact Ans.mk rfl (Below.refl _ _)
 obtain ⟨i0,hi,hz0,hz1,hz2⟩:=info_parts infoB
 have hinfo:(Tryz.prog.info? 5).map (·.size)=some 1:=by rw [hi];simp [hz1]
 have hco:Tryz.prog.cellsOf 5=1:=by kernel_rfl
 obtain ⟨M,hM⟩:∃ M,M=madeCells (Value.int .u8 0).cells (((s.size:Nat):Int).toNat*i0.size):=⟨_,rfl⟩
 have hMs:M.size=s.size:=by rw [hM,size_madeCells,hz1];simp
 have hmk:∀ W:World,(Instr.makeSlice 38 (.int .i64 (s.size:Int)) (.int .i64 (s.size:Int))).run Tryz.prog W=.ok (.slice (some ⟨W.heap.size,0,none⟩) s.size s.size) (W.alloc (.cells M 5)):=fun W=>by
  have h:=run_make (P:=Tryz.prog) W 38 5 i0 (.int .u8 0) Tryz.underlying38 hi hz0 .i64 .i64 (s.size:Int) (s.size:Int) (by omega) (by omega) (by rw [hz2];omega) (by omega)
  rw [← hM] at h
  simpa using h
 clear hM
 have hcp:=Lib.run_copy_row_string (P:=Tryz.prog) (w.alloc (.cells M 5)) 38 9 3 5 w.heap.size 0 s.size s.size s M 5 Tryz.underlying38 hinfo (heap_alloc_new w _) (Nat.le_refl _) (by omega)
 obtain ⟨Y,hY⟩:∃ Y,Y=(M.toList.take 0++Lib.byteCells s.data.toList++M.toList.drop (0+s.size)).toArray:=⟨_,rfl⟩
 rw [← hY] at hcp
 have hYl:Y.toList=Lib.byteCells s.data.toList:=by
  rw [hY,List.toList_toArray,List.take_zero,List.nil_append,List.drop_of_length_le (by rw [Array.length_toList];omega),List.append_nil]
 have hYs:Y.size=s.size:=by rw [← Array.length_toList,hYl,Lib.byteCells_length,← Lib.size_eq]
 have hgY:((w.alloc (.cells M 5)).setRow w.heap.size Y).heap[w.heap.size]? = some (.cells Y 5 (0,0)):=setRow_heap _ _ M _ 5 (0,0) (heap_alloc_new w _)
 have hne:s.data.toList≠[]:=fun e=>h0 (by rw [Lib.size_eq,e];rfl)
 have hUS:=Lib.run_unsafeString_row (P:=Tryz.prog) ((w.alloc (.cells M 5)).setRow w.heap.size Y) 171 3 9 5 Tryz.underlying171 hco w.heap.size Y.size (by unfold World.shape?;rw [hgY]) s.data.toList hne (by rw [← Lib.size_eq];omega) (by rw [← Lib.size_eq];omega)
  (fun j x hx=>Lib.cells_of_row hgY Y.size j _ (by rw [List.take_of_length_le (by rw [Array.length_toList];exact Nat.le_refl _),hYl];simp [Lib.byteCells,hx]))
 rw [← Lib.size_eq] at hUS
 have hb1:Below w.heap.size w (w.alloc (.cells M 5)):=bl1 w _
 have hb2:Below w.heap.size (w.alloc (.cells M 5)) ((w.alloc (.cells M 5)).setRow w.heap.size Y):=⟨rfl,rfl,rfl,by simp,fun k hk=>setRow_other _ _ _ _ (by omega)⟩
 have HB:=Lib.hid (Lib.below_freeze (hb1.trans hb2) (p:=⟨w.heap.size,0,none⟩) (Nat.le_refl _) s.size)
 clear hY hb1 hb2
 go_enter Tryz.func151,Tryz.ntmps151
 go_wp2_with fail
 go_ret
 exact ⟨rfl,HB.out⟩
set_option maxRecDepth 100000 in
theorem sclone2_any (s:ByteArray) (w:World) (hs:s.size≤140737488351232):Calls Tryz.prog 137 #[.string s] w (Ans (.string s) w):=by
 have H:=Lib.hid (sclone_any s w hs)
 go_enter Tryz.func137,Tryz.ntmps137
 go_wp2_with fail
 refine H.out.mono ?_
 rintro e w5 ⟨rfl,hb5⟩
 go_wp2_with fail
 go_ret
 exact Ans.mk rfl hb5
end Go.Proofs.YtfmndmhjjbeokaaGreatDoor
namespace Go.Proofs.YtfmndmhjjbeokaaGreatDoor
set_option maxRecDepth 100000
open Go.RowKit Tab Txt
set_option linter.unusedSimpArgs false
set_option linter.unusedVariables false
theorem ogb_ans {B g:Nat} {st:Option (List UInt8)} {w w1 w2:World} (h:Rpo B g st w w1) (hb:Below w1.heap.size w1 w2):Rpo B g st w w2 :=
 ⟨OwnV.below h.rd rfl hb,ogb_trans h.gb (ogb_bel hb)⟩
def StrX (B g:Nat) (R:Option (List UInt8×List UInt8)) (w:World) (e:Ending) (w':World):Prop:=∃ (v:List UInt8) (st':Option (List UInt8)),e=.returned (.string (bsOf v))∧Got R v st'∧v.length≤1048576∧Rpo B g st' w w'
set_option maxHeartbeats 1000000 in
theorem tname_any {B g:Nat} {st:Option (List UInt8)} {w:World} (h:RdrS B g st w) (hl:(st.getD []).length≤1048576) :
  Calls Tryz.prog 109 #[.pointer (some ⟨g,0,none⟩)] w (StrX B g (st.bind nameS) w):=by
 have HU:=Lib.hid (tupto_any h (by omega) 32 32 rfl)
 have hle:=aheadT_le (isB 32) (st.getD [])
 have HLE:Hid ((aheadT (isB 32) (st.getD [])).length≤1048576):=Lib.hid (by omega)
 have HNM:=Lib.hid fun W=>nm_any (bsOf (aheadT (isB 32) (st.getD []))) W (by rw [bs_size];omega)
 have HCL:=Lib.hid fun W=>sclone2_any (bsOf (aheadT (isB 32) (st.getD []))) W (by rw [bs_size];omega)
 have HG:Hid (∀ b,nameF (bsOf (aheadT (isB 32) (st.getD [])))=b→Got (st.bind nameS) (aheadT (isB 32) (st.getD [])) (if b=true then st.map (behindT (isB 32)) else none)):=Lib.hid fun b hb=>by
  cases st with
  | none =>
   refine ⟨?_,fun x hx=>by cases hx⟩
   split <;> rfl
  | some s =>
   rw [Option.getD_some] at hb ⊢
   show Got (nameS s) _ _
   unfold nameS
   rw [hb]
   cases b with
   | true=>rw [if_pos rfl,if_pos rfl];exact ⟨rfl,fun x hx=>by injection hx with hx;rw [← hx]⟩
   | false=>rw [if_neg (by decide),if_neg (by decide)];exact ⟨rfl,fun x hx=>by cases hx⟩
 generalize st.bind nameS=R at HG ⊢
 generalize aheadT (isB 32) (st.getD [])=nm at HU HNM HCL HG HLE
 generalize st.map (behindT (isB 32))=ST at HU HG
 generalize hq:nameF (bsOf nm)=q at HNM
 have HGG:=Lib.hid (HG.out q hq)
 clear h hl hle HG hq
 cases q with
 | true =>
  rw [if_pos rfl] at HGG
  generalize hs:bsOf nm=sv at HU HNM HCL
  have HS:=Lib.hid hs
  clear hs
  go_enter Tryz.func109,Tryz.ntmps109
  go_wp2_with fail
  refine HU.out.mono ?_
  rintro e w1 ⟨rfl,h1⟩
  have H1:=Lib.hid h1
  clear h1 HU
  go_wp2_with fail
  refine (HNM.out w1).mono ?_
  rintro e w2 ⟨rfl,b2⟩
  have H2:=Lib.hid (ogb_ans H1.out b2)
  clear b2 H1
  go_wp2_with fail
  refine (HCL.out w2).mono ?_
  rintro e w3 ⟨rfl,b3⟩
  have H3:=Lib.hid (ogb_ans H2.out b3)
  clear b3 H2
  go_wp2_with fail
  go_ret
  exact ⟨nm,_,by rw [HS.out];rfl,HGG.out,HLE.out,H3.out⟩
 | false =>
  rw [if_neg (by decide)] at HGG
  generalize hs:bsOf nm=sv at HU HNM HCL
  have HS:=Lib.hid hs
  clear hs
  go_enter Tryz.func109,Tryz.ntmps109
  go_wp2_with fail
  refine HU.out.mono ?_
  rintro e w1 ⟨rfl,h1⟩
  have H1:=Lib.hid h1
  clear h1 HU
  go_wp2_with fail
  refine (HNM.out w1).mono ?_
  rintro e w2 ⟨rfl,b2⟩
  have H2:=Lib.hid (ogb_ans H1.out b2)
  clear b2 H1
  have HF:=Lib.hid (tfail_any H2.out.rd)
  go_wp2_with fail
  refine HF.out.mono ?_
  rintro e w4 ⟨rfl,h4⟩
  have H4:=Lib.hid (H2.out.trans h4)
  clear h4 HF H2
  go_wp2_with fail
  refine (HCL.out w4).mono ?_
  rintro e w3 ⟨rfl,b3⟩
  have H3:=Lib.hid (ogb_ans H4.out b3)
  clear b3 H4
  go_wp2_with fail
  go_ret
  exact ⟨nm,_,by rw [HS.out];rfl,HGG.out,HLE.out,H3.out⟩
def IntX (B g:Nat) (R:Option (Int×List UInt8)) (w:World) (e:Ending) (w':World):Prop:=∃ (v:Int) (st':Option (List UInt8)),e=.returned (.int .i64 v)∧In64 v∧Got R v st'∧Rpo B g st' w w'
theorem names_at {P:List Pq} {i:Nat} {y:Pq} (h:P[i]? = some y):(namesP P)[i]? = some (toL y.1.name):=by unfold namesP;rw [List.getElem?_map,h];rfl
theorem findF_range:∀ (L:List (List UInt8)) (s:List UInt8),-1≤findF L s∧findF L s < L.length∨L=[]∧findF L s=-1
 | [],s=>.inr ⟨rfl,rfl⟩
 | x::l,s=>by
  refine .inl ?_
  unfold findF
  rw [List.length_cons]
  have:=findF_range l s
  rcases this with h | ⟨h1,h2⟩
  ·split
   ·omega
   ·split <;> omega
  ·rw [h2,h1]
   split
   ·simp
   ·simp
set_option maxHeartbeats 4000000 in
theorem tknown_any {B g:Nat} {st:Option (List UInt8)} {w:World} (h:RdrS B g st w) (hl:(st.getD []).length≤1048576) (b:UInt8) (z:Int) (hz:z=(b.toNat:Int)) (A:Option Addr) (n c:Nat) (P:List Pq) (hP:∀ W,w.grownBy W (some g)→RdB pcq W W.heap.size A n P) (hn:n≤1048576) :
  Calls Tryz.prog 77 #[.pointer (some ⟨g,0,none⟩),.slice A n c,.int .u8 z] w (IntX B g (st.bind (knownS (namesP P) b)) w):=by
 have HU:=Lib.hid (tupto_any h (by omega) b z hz)
 have HPL:Hid (P.length=n):=Lib.hid (hP w (ogb_refl _ _)).len
 have HFR:=Lib.hid (findF_range (namesP P) (aheadT (isB b) (st.getD [])))
 have HYE:Hid (∀ (i:Nat) (y:Pq),P[i]? = some y→bsOf (aheadT (isB b) (st.getD []))=y.1.name→(∀ (j:Nat) (y:Pq),j < i→P[j]? = some y→decide (y.1.name=bsOf (aheadT (isB b) (st.getD [])))=false)→Got (st.bind (knownS (namesP P) b)) (i:Int) (st.map (behindT (isB b)))):=Lib.hid fun i y hy he hj=>by
  have hf:findF (namesP P) (aheadT (isB b) (st.getD []))=(i:Int):=findF_at (by rw [names_at hy,← he,toL_bsOf]) (fun j hji e=>by
   obtain ⟨y',hy'⟩:∃ y',P[j]? = some y':=⟨_,List.getElem?_eq_getElem (by have:=(List.getElem?_eq_some_iff.1 hy).1;omega)⟩
   rw [names_at hy'] at e
   injection e with e
   have h2:=hj j y' hji hy'
   rw [decide_eq_false_iff_not] at h2
   exact h2 (by rw [← e,bsOf_toL]))
  cases st with
  | none=>exact ⟨rfl,fun x hx=>by cases hx⟩
  | some s =>
   rw [Option.getD_some] at hf
   show Got (knownS (namesP P) b s) _ _
   unfold knownS
   rw [hf,if_neg (by omega)]
   exact ⟨rfl,fun x hx=>by injection hx with hx;rw [← hx]⟩
 have HNO:Hid ((∀ (j:Nat) (y:Pq),P[j]? = some y→decide (y.1.name=bsOf (aheadT (isB b) (st.getD [])))=false)→Got (st.bind (knownS (namesP P) b)) 0 none):=Lib.hid fun hj=>by
  have hf:findF (namesP P) (aheadT (isB b) (st.getD []))=-1:=findF_none fun j e=>by
   have hlt:j < P.length:=by have:=(List.getElem?_eq_some_iff.1 e).1;unfold namesP at this;rwa [List.length_map] at this
   obtain ⟨y',hy'⟩:∃ y',P[j]? = some y':=⟨_,List.getElem?_eq_getElem hlt⟩
   rw [names_at hy'] at e
   injection e with e
   have h2:=hj j y' hy'
   rw [decide_eq_false_iff_not] at h2
   exact h2 (by rw [← e,bsOf_toL])
  cases st with
  | none=>exact ⟨rfl,fun x hx=>by cases hx⟩
  | some s =>
   rw [Option.getD_some] at hf
   show Got (knownS (namesP P) b s) _ _
   unfold knownS
   rw [hf,if_pos (by decide)]
   exact ⟨rfl,fun x hx=>by cases hx⟩
 have HP:=Lib.hid hP
 generalize st.bind (knownS (namesP P) b)=R at HYE HNO ⊢
 generalize aheadT (isB b) (st.getD [])=nm at HU HYE HNO HFR
 generalize st.map (behindT (isB b))=ST at HU HYE
 generalize bsOf nm=sv at HU HYE HNO
 clear h hl hz hP HFR
 go_enter Tryz.func77,Tryz.ntmps77
 go_wp2_with fail
 refine HU.out.mono ?_
 rintro e w1 ⟨rfl,h1⟩
 have H1:=Lib.hid h1
 have HR:=Lib.hid (HP.out w1 h1.gb)
 clear h1 HU HP
 go_wp2_with fail
 go_loopw [8,9,15] (fun _ _ s wr=>∃ i:Nat,i≤n∧s=.int .i64 i∧(∀ (j:Nat) (y:Pq),j < i→P[j]? = some y→decide (y.1.name=sv)=false)∧Below w1.heap.size w1 wr) (fun _ _ s _=>n - (intOf s).toNat)
 case atStart=>exact ⟨0,by omega,rfl,fun j q hj=>by omega,Below.refl _ _⟩
 case round =>
  obtain ⟨i,hi,rfl,hok,hb⟩:=hrel
  have HOK:=Lib.hid hok
  clear hok
  by_cases hlt:i < n
  ·obtain ⟨ad,y,rfl,had,hx,c0,ck⟩:=(HR.out.on hb).at_ pcq_len (by omega) hlt
   have d0:=c0 _ rfl
   have d1:=ck 1 _ (by omega) rfl
   have d2:=ck 2 _ (by omega) rfl
   have d3:=ck 3 _ (by omega) rfl
   have d4:=ck 4 _ (by omega) rfl
   have d5:=ck 5 _ (by omega) rfl
   have d6:=ck 6 _ (by omega) rfl
   have d7:=ck 7 _ (by omega) rfl
   have d8:=ck 8 _ (by omega) rfl
   have d9:=ck 9 _ (by omega) rfl
   have d10:=ck 10 _ (by omega) rfl
   have HNX:Hid (decide (y.1.name=sv)=false→∀ (j:Nat) (y:Pq),j < i+1→P[j]? = some y→decide (y.1.name=sv)=false):=Lib.hid fun h j q hj hq=>by
    rcases Nat.lt_or_ge j i with h5 | h5
    ·exact HOK.out j q h5 hq
    ·obtain rfl:j=i:=by omega
     rw [hx] at hq
     injection hq with hq
     rw [← hq]
     exact h
   have HBD:Hid (decide (y.1.name=sv)=true→Got R (i:Int) ST):=Lib.hid fun h=>HYE.out i y hx (of_decide_eq_true h).symm HOK.out
   obtain ⟨⟨nm2,bu,pe,sc,sp,pa,pn,pc,h0,h1,h2,h3,h4⟩,L⟩:=y
   dsimp only at d0 d1 d2 d3 d4 d5 d6 d7 d8 d9 d10 HNX HBD
   have HB:=Lib.hid (hb.trans ((bl1 wr (.cells #[.string nm2,.int .i64 bu,.int .i64 pe,.bool sc,.bool sp,.slice pa pn pc,.int .i64 h0,.int .i64 h1,.int .i64 h2,.int .i64 h3,.int .i64 h4] 60)).mono hb.size))
   clear c0 ck hx HOK HYE HNO hb
   cases hq:decide (nm2=sv) with
   | true =>
    have hqd:(nm2.toList == sv.toList)=true:=bs_eq_of hq
    have HV:=Lib.hid (HBD.out hq)
    clear HNX HBD hq
    go_wp2_with fail
    go_ret
    exact ⟨i,ST,rfl,⟨by omega,by omega⟩,HV.out,ogb_ans H1.out HB.out⟩
   | false =>
    have hqd:(nm2.toList == sv.toList)=false:=bs_eq_of hq
    have HN:=Lib.hid (HNX.out hq)
    clear HNX HBD hq
    go_wp2_with fail
    go_roundw
    case rel=>exact ⟨i+1,by omega,by go_num,HN.out,HB.out⟩
    case measure=>simp [intOf];omega
  ·have hge:n≤i:=by omega
   have HV:=Lib.hid (HNO.out fun j q hq=>HOK.out j q (by have:=(List.getElem?_eq_some_iff.1 hq).1;have:=HR.out.len;omega) hq)
   have H2:=Lib.hid (ogb_ans H1.out hb)
   clear HOK HYE HNO
   have HF:=Lib.hid (tfail_any H2.out.rd)
   go_wp2_with fail
   refine HF.out.mono ?_
   rintro e w4 ⟨rfl,h4⟩
   have H4:=Lib.hid (H2.out.trans h4)
   clear h4 HF
   go_wp2_with fail
   go_ret
   exact ⟨0,none,rfl,⟨by decide,by decide⟩,HV.out,H4.out⟩
end Go.Proofs.YtfmndmhjjbeokaaGreatDoor
namespace Go.Proofs.YtfmndmhjjbeokaaGreatDoor
set_option maxRecDepth 100000
open Go.RowKit Tab Txt
set_option linter.unusedSimpArgs false
set_option linter.unusedVariables false
namespace Txt
theorem numL_le (m:Nat):∀ (s:List UInt8) (n:Nat) (x:Nat×List UInt8),numL m n s=some x→x.2.length≤s.length
 | [],n,x,h=>by
  unfold numL at h
  split at h
  ·cases h
  ·injection h with h;rw [← h];exact Nat.le_refl _
 | c::s,n,x,h=>by
  rw [numL_cons] at h
  split at h
  ·split at h
   ·cases h
   ·have:=numL_le m s _ x h
    rw [List.length_cons]
    omega
  ·split at h
   ·cases h
   ·injection h with h;rw [← h];exact Nat.le_refl _
theorem numW_le {s:List UInt8} {x:Int×List UInt8} (h:numW s=some x):x.2.length≤s.length:=by
 unfold numW at h
 cases e:numS lim40 s with
 | none=>rw [e] at h;cases h
 | some y =>
  rw [e] at h
  injection h with h
  rw [← h]
  show y.2.length≤_
  unfold numS at e
  split at e
  ·cases e
  ·split at e
   ·injection e with e;rw [← e];simp
   ·exact numL_le _ _ _ _ e
theorem procS_le {s:List UInt8} {x:(Int×Int)×List UInt8} (h:procS s=some x):x.2.length≤s.length:=by
 unfold procS at h
 cases e1:numW s with
 | none=>rw [e1] at h;cases h
 | some a =>
  rw [e1,Option.bind_some] at h
  cases e2:takeB 58 a.2 with
  | none=>rw [e2] at h;cases h
  | some r =>
   rw [e2,Option.bind_some] at h
   cases e3:numW r with
   | none=>rw [e3] at h;cases h
   | some q =>
    rw [e3,Option.bind_some] at h
    injection h with h
    rw [← h]
    have h1:=numW_le e1
    have h2:=congrArg List.length (takeB_some e2)
    have h3:=numW_le e3
    rw [List.length_cons] at h2
    show q.2.length≤_
    omega
theorem procsS_fuel:∀ (k k':Nat) (s:List UInt8),s.length < k→s.length < k'→procsS k s=procsS k' s
 | 0,_,_,h,_=>by omega
 | _,0,_,_,h=>by omega
 | k+1,k'+1,s,h,h'=>by
  rw [procsS_succ,procsS_succ]
  cases e:procS s with
  | none=>rfl
  | some x =>
   dsimp only
   cases e2:takeB 44 x.2 with
   | none=>rfl
   | some r =>
    dsimp only
    have h1:=procS_le e
    have h2:=congrArg List.length (takeB_some e2)
    rw [List.length_cons] at h2
    rw [procsS_fuel k k' r (by omega) (by omega)]
def procsI (R:Option (List (Int×Int)×List UInt8)) (L:List (Int×Int)) (st:Option (List UInt8)):Prop:=R=st.bind fun s=>(procsS (s.length+1) s).map fun y=>(L++y.1,y.2)
theorem procsI_next {R:Option (List (Int×Int)×List UInt8)} {L:List (Int×Int)} {st st3:Option (List UInt8)} {q:Int×Int} (h:procsI R L st) (hp:st.bind procS=st3.bind fun s=>some (q,s)) :
  (∀ r,st3.bind (takeB 44)=some r→procsI R (L++[q]) (some r))∧(st3.bind (takeB 44)=none→R=st3.bind fun s=>some (L++[q],s)):=by
 unfold procsI at h ⊢
 cases st with
 | none =>
  cases st3 with
  | none=>exact ⟨fun r hr=>(by cases hr),fun _=>h⟩
  | some s=>cases hp
 | some s =>
  rw [Option.bind_some] at h hp
  rw [procsS_succ] at h
  cases st3 with
  | none =>
   rw [hp] at h
   exact ⟨fun r hr=>(by cases hr),fun _=>h⟩
  | some s3 =>
   rw [Option.bind_some] at hp
   have hle:=procS_le hp
   rw [hp] at h
   dsimp only at h hle
   refine ⟨fun r hr=>?_,fun hr=>?_⟩
   ·rw [Option.bind_some] at hr ⊢
    have h2:=congrArg List.length (takeB_some hr)
    rw [List.length_cons] at h2
    rw [hr] at h
    dsimp only at h
    rw [h,procsS_fuel s.length (r.length+1) r (by omega) (by omega)]
    cases procsS (r.length+1) r with
    | none=>rfl
    | some y=>show some (L++q::y.1,y.2)=some ((L++[q])++y.1,y.2);rw [List.append_assoc];rfl
   ·rw [Option.bind_some] at hr ⊢
    rw [hr] at h
    exact h
end Txt
def FlagX (B g:Nat) (R:Option ((Bool×Bool)×List UInt8)) (w:World) (e:Ending) (w':World):Prop:=∃ (v:Bool×Bool) (st':Option (List UInt8)),e=.returned (.tuple #[.bool v.1,.bool v.2])∧Got R v st'∧Rpo B g st' w w'
theorem got_yes {α:Type} {R:Option (α×List UInt8)} {v:α} {r:List UInt8} (h:R=some (v,r)):Got R v (some r):=⟨by rw [h];rfl,fun x hx=>by rw [h] at hx;injection hx with hx;rw [← hx]⟩
theorem got_no {α:Type} {R:Option (α×List UInt8)} {v:α} (h:R=none):Got R v none:=⟨by rw [h];rfl,fun x hx=>by rw [h] at hx;cases hx⟩
set_option maxHeartbeats 1000000 in
theorem tflags_any {B g:Nat} {st:Option (List UInt8)} {w:World} (h:RdrS B g st w):Calls Tryz.prog 110 #[.pointer (some ⟨g,0,none⟩)] w (FlagX B g (st.bind flagS) w):=by
 have hR:∀ s,st=some s→st.bind flagS=flagS s:=fun s e=>by rw [e];rfl
 cases h45:st.bind (takeB 45) with
 | some r =>
  have HG:Hid (Got (st.bind flagS) (false,false) (some r)):=Lib.hid (by
   cases st with
   | none=>cases h45
   | some s=>exact got_yes (by show flagS s=_;unfold flagS;rw [show takeB 45 s=some r from h45]))
  have HT:=Lib.hid (ttake_yes h 45 45 rfl h45)
  generalize st.bind flagS=R at HG ⊢
  clear h h45 hR
  go_enter Tryz.func110,Tryz.ntmps110
  go_wp2_with fail
  refine HT.out.mono ?_
  rintro e w1 ⟨rfl,h1⟩
  have H1:=Lib.hid h1
  clear h1
  go_wp2_with fail
  go_ret2
  exact ⟨(false,false),_,rfl,HG.out,H1.out⟩
 | none =>
  have HT:=Lib.hid (ttake_no h 45 45 rfl h45)
  cases h115:st.bind (takeB 115) with
  | some r =>
   cases h116:(some r).bind (takeB 116) with
   | some q =>
    have HG:Hid (Got (st.bind flagS) (true,true) (some q)):=Lib.hid (by
     cases st with
     | none=>cases h115
     | some s=>exact got_yes (by show flagS s=_;unfold flagS;rw [show takeB 45 s=none from h45,show takeB 115 s=some r from h115];dsimp only;rw [show takeB 116 r=some q from h116]))
    generalize st.bind flagS=R at HG ⊢
    have HS:=Lib.hid fun W (hh:RdrS B g st W)=>ttake_yes hh 115 115 rfl h115
    have HQ:=Lib.hid fun W (hh:RdrS B g (some r) W)=>ttake_yes hh 116 116 rfl h116
    clear h h45 h115 h116 hR
    go_enter Tryz.func110,Tryz.ntmps110
    go_wp2_with fail
    refine HT.out.mono ?_
    rintro e w1 ⟨rfl,h1⟩
    have H1:=Lib.hid h1
    clear h1
    go_wp2_with fail
    refine (HS.out w1 H1.out.rd).mono ?_
    rintro e w2 ⟨rfl,h2⟩
    have H2:=Lib.hid (H1.out.trans h2)
    clear h2
    go_wp2_with fail
    refine (HQ.out w2 H2.out.rd).mono ?_
    rintro e w3 ⟨rfl,h3⟩
    have H3:=Lib.hid (H2.out.trans h3)
    clear h3
    go_wp2_with fail
    go_ret2
    exact ⟨(true,true),_,rfl,HG.out,H3.out⟩
   | none =>
    have HG:Hid (Got (st.bind flagS) (true,false) (some r)):=Lib.hid (by
     cases st with
     | none=>cases h115
     | some s=>exact got_yes (by show flagS s=_;unfold flagS;rw [show takeB 45 s=none from h45,show takeB 115 s=some r from h115];dsimp only;rw [show takeB 116 r=none from h116]))
    generalize st.bind flagS=R at HG ⊢
    have HS:=Lib.hid fun W (hh:RdrS B g st W)=>ttake_yes hh 115 115 rfl h115
    have HQ:=Lib.hid fun W (hh:RdrS B g (some r) W)=>ttake_no hh 116 116 rfl h116
    clear h h45 h115 h116 hR
    go_enter Tryz.func110,Tryz.ntmps110
    go_wp2_with fail
    refine HT.out.mono ?_
    rintro e w1 ⟨rfl,h1⟩
    have H1:=Lib.hid h1
    clear h1
    go_wp2_with fail
    refine (HS.out w1 H1.out.rd).mono ?_
    rintro e w2 ⟨rfl,h2⟩
    have H2:=Lib.hid (H1.out.trans h2)
    clear h2
    go_wp2_with fail
    refine (HQ.out w2 H2.out.rd).mono ?_
    rintro e w3 ⟨rfl,h3⟩
    have H3:=Lib.hid (H2.out.trans h3)
    clear h3
    go_wp2_with fail
    go_ret2
    exact ⟨(true,false),_,rfl,HG.out,H3.out⟩
  | none =>
   cases h116:st.bind (takeB 116) with
   | some q =>
    have HG:Hid (Got (st.bind flagS) (false,true) (some q)):=Lib.hid (by
     cases st with
     | none=>cases h116
     | some s=>exact got_yes (by show flagS s=_;unfold flagS;rw [show takeB 45 s=none from h45,show takeB 115 s=none from h115];dsimp only;rw [show takeB 116 s=some q from h116];rfl))
    generalize st.bind flagS=R at HG ⊢
    have HS:=Lib.hid fun W (hh:RdrS B g st W)=>ttake_no hh 115 115 rfl h115
    have HQ:=Lib.hid fun W (hh:RdrS B g st W)=>ttake_yes hh 116 116 rfl h116
    clear h h45 h115 h116 hR
    go_enter Tryz.func110,Tryz.ntmps110
    go_wp2_with fail
    refine HT.out.mono ?_
    rintro e w1 ⟨rfl,h1⟩
    have H1:=Lib.hid h1
    clear h1
    go_wp2_with fail
    refine (HS.out w1 H1.out.rd).mono ?_
    rintro e w2 ⟨rfl,h2⟩
    have H2:=Lib.hid (H1.out.trans h2)
    clear h2
    go_wp2_with fail
    refine (HQ.out w2 H2.out.rd).mono ?_
    rintro e w3 ⟨rfl,h3⟩
    have H3:=Lib.hid (H2.out.trans h3)
    clear h3
    go_wp2_with fail
    go_ret2
    exact ⟨(false,true),_,rfl,HG.out,H3.out⟩
   | none =>
    have HG:Hid (Got (st.bind flagS) (false,false) none):=Lib.hid (by
     cases st with
     | none=>exact got_no rfl
     | some s=>exact got_no (by show flagS s=_;unfold flagS;rw [show takeB 45 s=none from h45,show takeB 115 s=none from h115];dsimp only;rw [show takeB 116 s=none from h116];rfl))
    generalize st.bind flagS=R at HG ⊢
    have HS:=Lib.hid fun W (hh:RdrS B g st W)=>ttake_no hh 115 115 rfl h115
    have HQ:=Lib.hid fun W (hh:RdrS B g st W)=>ttake_no hh 116 116 rfl h116
    clear h h45 h115 h116 hR
    go_enter Tryz.func110,Tryz.ntmps110
    go_wp2_with fail
    refine HT.out.mono ?_
    rintro e w1 ⟨rfl,h1⟩
    have H1:=Lib.hid h1
    clear h1
    go_wp2_with fail
    refine (HS.out w1 H1.out.rd).mono ?_
    rintro e w2 ⟨rfl,h2⟩
    have H2:=Lib.hid (H1.out.trans h2)
    clear h2
    go_wp2_with fail
    refine (HQ.out w2 H2.out.rd).mono ?_
    rintro e w3 ⟨rfl,h3⟩
    have H3:=Lib.hid (H2.out.trans h3)
    clear h3
    have HF:=Lib.hid (tfail_any H3.out.rd)
    go_wp2_with fail
    refine HF.out.mono ?_
    rintro e w4 ⟨rfl,h4⟩
    have H4:=Lib.hid (H3.out.trans h4)
    clear h4
    go_wp2_with fail
    go_ret2
    exact ⟨(false,false),_,rfl,HG.out,H4.out⟩
def KindX (B g:Nat) (R:Option ((Bool×Int)×List UInt8)) (w:World) (e:Ending) (w':World):Prop:=∃ (v:Bool×Int) (st':Option (List UInt8)),e=.returned (.tuple #[.bool v.1,.int .i64 v.2])∧In64 v.2∧Got R v st'∧Rpo B g st' w w'
set_option maxHeartbeats 1000000 in
theorem tkind_any {B g:Nat} {st:Option (List UInt8)} {w:World} (h:RdrS B g st w):Calls Tryz.prog 113 #[.pointer (some ⟨g,0,none⟩)] w (KindX B g (st.bind kindS) w):=by
 cases h1:st.bind (takeB 113) with
 | some r =>
  have HG:Hid (∀ v st',Got ((some r).bind (numZ lim40)) v st'→Got (st.bind kindS) (true,v) st'):=Lib.hid fun v st' hg=>by
   cases st with
   | none=>cases h1
   | some s =>
    have e:(some s).bind kindS=(numZ lim40 r).map fun x=>((true,x.1),x.2):=by show kindS s=_;unfold kindS;rw [show takeB 113 s=some r from h1];rfl
    rw [e]
    cases hq:numZ lim40 r with
    | none=>exact ⟨by have:=hg.1;rw [show (some r).bind (numZ lim40)=none from hq] at this;rw [this];rfl,fun x hx=>by cases hx⟩
    | some y =>
     have h3:=hg.1
     have h4:=hg.2
     rw [show (some r).bind (numZ lim40)=some y from hq] at h3 h4
     exact ⟨h3,fun x hx=>by injection hx with hx;rw [← hx];show (true,v)=(true,y.1);rw [h4 y rfl]⟩
  have HT:=Lib.hid (ttake_yes h 113 113 rfl h1)
  generalize st.bind kindS=R at HG ⊢
  clear h h1
  go_enter Tryz.func113,Tryz.ntmps113
  go_wp2_with fail
  refine HT.out.mono ?_
  rintro e w1 ⟨rfl,h1⟩
  have H1:=Lib.hid h1
  have HN:=Lib.hid (tnumber_any h1.rd lim40 (Nat.le_refl _))
  clear h1 HT
  go_wp2_with fail
  refine HN.out.mono ?_
  rintro e w2 ⟨v,st2,rfl,hv0,hv1,hg,h2⟩
  have H2:=Lib.hid (H1.out.trans h2)
  have HGG:=Lib.hid (HG.out v st2 hg)
  have HV:Hid (In64 v):=Lib.hid ⟨by omega,by omega⟩
  have hw:IntKind.i64.wrap v=v:=by rw [IntKind.wrap_i64];omega
  clear h2 hg hv0 hv1 HN HG
  go_wp2_with fail
  go_ret2
  exact ⟨(true,v),st2,rfl,HV.out,HGG.out,H2.out⟩
 | none =>
  have HG:Hid (Got (st.bind kindS) (false,0) (st.bind (takeB 115))):=Lib.hid (by
   cases st with
   | none=>exact got_no rfl
   | some s =>
    have e:(some s).bind kindS=(takeB 115 s).map fun r=>((false,(0:Int)),r):=by show kindS s=_;unfold kindS;rw [show takeB 113 s=none from h1]
    rw [e,Option.bind_some]
    cases takeB 115 s with
    | none=>exact got_no rfl
    | some r=>exact got_yes rfl)
  have HT:=Lib.hid (ttake_no h 113 113 rfl h1)
  generalize st.bind kindS=R at HG ⊢
  clear h h1
  go_enter Tryz.func113,Tryz.ntmps113
  go_wp2_with fail
  refine HT.out.mono ?_
  rintro e w1 ⟨rfl,h1⟩
  have H1:=Lib.hid h1
  have HM:=Lib.hid (tmust_any h1.rd 115 115 rfl)
  clear h1 HT
  go_wp2_with fail
  refine HM.out.mono ?_
  rintro e w2 ⟨rfl,h2⟩
  have H2:=Lib.hid (H1.out.trans h2)
  clear h2 HM
  go_wp2_with fail
  go_ret2
  exact ⟨(false,0),_,rfl,⟨by decide,by decide⟩,HG.out,H2.out⟩
end Go.Proofs.YtfmndmhjjbeokaaGreatDoor
