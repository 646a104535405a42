import Derived.Test.YtdkngfdnfekgfaaGreatLot14
import Derived.Great.BuildSlice
set_option maxHeartbeats 3200000
set_option maxRecDepth 100000
set_option linter.unusedSimpArgs false
set_option linter.unusedVariables false
namespace Go.Proofs.YtdkngfdnfekgfaaGreat
open Go.RowKit Tab
def MadeN(l:List Nd)(w:World)(e:Ending)(w':World):Prop:=∃ A n c,e=.returned (.slice A n c)∧OwnN w' w.heap.size A n c l∧Below w.heap.size w w'
theorem clone_any(ad:Addr)(n cap:Nat)(l:List Nd)(w:World)(h:RdN w w.heap.size (some ad) n l)(hn:n≤1048576):
  Calls Tryz.prog 134 #[.slice (some ad) n cap] w (MadeN l w):=by
 have he:∀ w:World,(binOp .eql 64 (.slice (some ad) n cap) (.slice none 0 0)).run Tryz.prog w=.ok (.bool false) w:=fun _=>rfl;have hs:∀ w:World,(Instr.buildSlice 64 0 #[]).run Tryz.prog w=.ok (.slice (some ⟨w.heap.size,0,none⟩) 0 0) (w.alloc (.cells #[] 70)):=fun _=>by
  obtain⟨i,hi,_⟩:=info_parts elN.hi;simp[Instr.buildSlice,run_underlying elN.ht,sizeOf,typeInfo,hi,newRow,Instr.fill];congr 2;apply Array.ext <;> simp
 have hbl:=bl1 w (.cells #[] 70);have ho:=ownV_lit w 70 3 w.heap.size #[] 0 rfl (Nat.le_refl _) (by unfold maxLen;omega);have hr:=h.on hbl;go_enter Tryz.func134,Tryz.ntmps134;go_wp2_with (at_builtin;go_loud (refine wpList_appV elN rfl (.tmp 5) (.tmp 6) rfl rfl w.heap.size (some ⟨w.heap.size,0,none⟩) 0 0 _ rfl ho (some ad) n cap _ _ rfl hr.rd (by rw[ns_length,h.len]) (ns_one _) (by omega) (by unfold maxLen;omega) hbl.size n (by omega) (ns l) (by simp) ?_;intro A2 c2 w2 hw2 hb2 _));go_ret;exact⟨A2,n,c2,rfl,⟨h.len,hw2,h.bd⟩,hbl.trans hb2⟩
def newC(A:Option Addr)(n cap:Nat):Nat→Value:=fun j=>if j=0 then .slice A n cap else .int .i64 0
theorem blk_new(w:World)(A:Option Addr)(n cap:Nat):Blk (w.alloc (.cells (Value.slice A n cap::List.replicate 36 (.int .i64 0)).toArray 168)) w.heap.size (newC A n cap):=fun o ho=>by
 refine⟨?_,by simp⟩
 rw[World.cell?_alloc_mark,List.getElem?_toArray]
 cases o with
 | zero=>rfl
 | succ j=>rw[List.getElem?_cons_succ,List.getElem?_replicate,if_pos (by omega)];rfl
def Born(x:Nd)(k:F)(w:World)(e:Ending)(w':World):Prop :=
 ∃(b:Nat) (A:Option Addr) (n cap:Nat),e=.returned (.pointer (some ⟨b,0,none⟩))∧Cur w' b A n cap (x::k.flat) (one x k.lvs) 0 0∧w.heap.size≤b∧Below w.heap.size w w'
theorem new_right(A:Option Addr)(n cap:Nat)(x:Nd)(k:F)(w:World)(h:RdN w w.heap.size A n (x::k.flat))(hc:n≤cap)(hok:(F.cons x k .nil).ok)(hn:n≤128)(hd:k.dep+1≤16)(hl:F.tick x k.len≤4096):
  Calls Tryz.prog 124 #[.slice A n cap] w (Born x k w):=by
 have hR:=right_tree A n cap _ x k w h hc (by omega) hok rfl;have e0:rt n (k.dep+1) (F.tick x k.len)=0:=by unfold rt;rw[if_neg (by omega),if_neg (by omega),if_neg (by omega)]
 rw[e0] at hR;have htk:ticks (one x k.lvs)≤1048576:=by rw[one_ticks,lvs_ticks];omega
 have hn1:0 < n:=by rw[← h.len];simp
 obtain⟨ad,_,rfl,_⟩:=h.at_ hn1;have HR:=hid hR;have HO:=hid hok;clear hR e0 hok;go_enter Tryz.func124,Tryz.ntmps124;go_wp2_with fail;refine HR.out.mono ?_;rintro e w1⟨rfl,hb1⟩;go_wp2_with fail;refine(clone_any ad n cap _ w1 (h.on hb1) (by omega)).mono ?_;rintro e w2⟨A2,n2,c2,rfl,ho,hb2⟩;have e2:n2=n:=by rw[← ho.len,h.len]
 subst e2;go_wp2_with fail;have hlt2:∀ ad',A2=some ad'→ad'.block < w2.heap.size:=fun ad' e=>by
  obtain⟨g,hg,_,hlt⟩:=ho.own.block hn1;rw[e] at hg;injection hg with hg;rw[hg];exact hlt
 have hT:Tb (w2.alloc (.cells (Value.slice A2 n2 c2::List.replicate 36 (.int .i64 0)).toArray 168)) w2.heap.size A2 n2 c2 (x::k.flat):=⟨⟨ho.len,(ho.rdn).rd.keep fun p hp=>World.cell?_alloc_lt w2 _ p hp,ho.bd⟩,ho.cap,hn⟩;have hB:=blk_new w2 A2 n2 c2;have hk2:=hb1.trans (hb2.mono hb1.size);refine(reset_any w2.heap.size A2 n2 c2 x k _ _ hB hT rfl HO.out hd htk).mono ?_;rintro e w3⟨rfl,hC,hG⟩;have hs:w2.heap.size < (w2.alloc (.cells (Value.slice A2 n2 c2::List.replicate 36 (.int .i64 0)).toArray 168)).heap.size:=by simp
 have hbl:Below w2.heap.size w2 w3:=by
  have h1:=bl1 w2 (.cells (Value.slice A2 n2 c2::List.replicate 36 (.int .i64 0)).toArray 168);exact⟨hG.os.trans h1.os,hG.tape.trans h1.tape,hG.output.trans h1.output,Nat.le_trans h1.size hG.size,fun j hj=>(hG.block j (by omega) (fun e=>by injection e with e;omega)).trans (h1.block j hj)⟩
 have HC:=hid hC;have HBL:=hid (hk2.trans (hbl.mono hk2.size));have hge:=hk2.size;clear hC hG hbl hB hT hlt2 ho;generalize w2.heap.size=b at HC hge ⊢;go_wp2_with fail;go_ret;exact⟨b,A2,n2,c2,rfl,HC.out,hge,HBL.out⟩
theorem below_gb{B b:Nat}{w w1 w2:World}(h:Below B w w1)(hG:w1.grownBy w2 (some b))(hB:B≤b)(hs:B≤w1.heap.size):Below B w w2 :=
 ⟨hG.os.trans h.os,hG.tape.trans h.tape,hG.output.trans h.output,Nat.le_trans h.size hG.size,fun j hj=>(hG.block j (by omega) (fun e=>by injection e with e;omega)).trans (h.block j hj)⟩
theorem take_more{L:List Rn}{i:Nat}{r:Rn}(h:L[i]? = some r):ticks (L.take (i+1))=ticks (L.take i)+r.n:=by
 obtain⟨hi,e⟩:=List.getElem?_eq_some_iff.1 h;rw[List.take_succ_eq_append_getElem hi,ticks_append,e];simp[ticks]
theorem drop_more{L:List Rn}{i:Nat}{r:Rn}(h:L[i]? = some r):L.drop i=r::L.drop (i+1):=by
 obtain⟨hi,e⟩:=List.getElem?_eq_some_iff.1 h;rw[List.drop_eq_getElem_cons hi,e]
theorem take_ticks(L:List Rn)(i:Nat):ticks (L.take i)≤ticks L:=by
 have:=ticks_append (L.take i) (L.drop i);rw[List.take_append_drop] at this;omega
end Go.Proofs.YtdkngfdnfekgfaaGreat
