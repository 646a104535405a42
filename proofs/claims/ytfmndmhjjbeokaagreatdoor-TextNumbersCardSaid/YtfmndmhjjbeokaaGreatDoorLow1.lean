import Derived.Test.YtfmndmhjjbeokaaGreatDoorRows
import Derived.WalkKit
import Derived.WalkSpells
import Derived.WalkLawsBesides
import Derived.Lib.Hide
import Derived.Maps.AppendAt
import Derived.Laws.IdiomStrings
import Derived.Deep.AppendLies
import Derived.Laws.CopyOwn
import Derived.OwnWalk
set_option maxHeartbeats 1600000
set_option maxRecDepth 100000
set_option linter.unusedSimpArgs false
set_option linter.unusedVariables false
namespace Go.Proofs.YtfmndmhjjbeokaaGreatDoor
open Go.RowKit
def Hd(p:Prop):Prop:=p
theorem Aa:type_of% @List.length_append:=@List.length_append
theorem Ab:type_of% @World.cell?_alloc_mark:=@World.cell?_alloc_mark
theorem Ac:type_of% @decide_eq_false:=@decide_eq_false
theorem Ad:type_of% @List.length_cons:=@List.length_cons
theorem Ae:type_of% @decide_eq_true:=@decide_eq_true
theorem Af:type_of% @List.getElem?_eq_some_iff:=@List.getElem?_eq_some_iff
theorem Ag:type_of% @Nat.le_refl:=@Nat.le_refl
theorem Ah:type_of% @World.ownsRow.cellAt:=@World.ownsRow.cellAt
theorem Ai:type_of% @Nat.le_trans:=@Nat.le_trans
theorem Aj:type_of% @Below.refl:=@Below.refl
theorem Ak:type_of% @beq_eq_false_iff_ne:=@beq_eq_false_iff_ne
theorem Am:type_of% @List.getElem?_eq_getElem:=@List.getElem?_eq_getElem
theorem An:type_of% @List.mem_of_getElem?:=@List.mem_of_getElem?
theorem Aq:type_of% @World.ownsRow.frozenAt:=@World.ownsRow.frozenAt
theorem Ar:type_of% @List.append_assoc:=@List.append_assoc
theorem As:type_of% @Option.bind_some:=@Option.bind_some
theorem At:type_of% @Result.andThen_ok:=@Result.andThen_ok
theorem Au:type_of% @Bool.and_eq_true:=@Bool.and_eq_true
theorem Av:type_of% @decide_eq_true_eq:=@decide_eq_true_eq
theorem Aw:type_of% @Option.bind_eq_some_iff:=@Option.bind_eq_some_iff
theorem Ax:type_of% @Int.eq_ofNat_of_zero_le:=@Int.eq_ofNat_of_zero_le
theorem Ay:type_of% @List.mem_append:=@List.mem_append
theorem Az:type_of% @List.append_nil:=@List.append_nil
theorem Ba:type_of% @List.mem_cons:=@List.mem_cons
theorem Bc:type_of% @Nat.lt_of_lt_of_le:=@Nat.lt_of_lt_of_le
theorem Bd:type_of% @List.take_of_length_le:=@List.take_of_length_le
theorem Be:type_of% @bodyPost_ret:=@bodyPost_ret
theorem Bf:type_of% @World.cell?_of_block:=@World.cell?_of_block
theorem Bg:type_of% @List.setIfInBounds_toArray:=@List.setIfInBounds_toArray
theorem Bh:type_of% @List.length_nil:=@List.length_nil
theorem Bi:type_of% @List.length_map:=@List.length_map
theorem Bj:type_of% @World.block_lt_of_cell?:=@World.block_lt_of_cell?
theorem Bk:type_of% @Nat.lt_or_ge:=@Nat.lt_or_ge
theorem Bl:type_of% @List.getElem?_of_mem:=@List.getElem?_of_mem
theorem Bm:type_of% @List.getElem?_map:=@List.getElem?_map
theorem Bn:type_of% @Below.heap_setCell:=@Below.heap_setCell
theorem Bo:type_of% @List.cons_append:=@List.cons_append
theorem Bp:type_of% @List.set_cons_zero:=@List.set_cons_zero
theorem Bq:type_of% @Option.getD_some:=@Option.getD_some
theorem Bt:type_of% @Array.getElem?_eq_some_iff:=@Array.getElem?_eq_some_iff
theorem Bu:type_of% @List.flatMap_append:=@List.flatMap_append
theorem Bv:type_of% @List.set_cons_succ:=@List.set_cons_succ
theorem Bw:type_of% @List.getElem?_eq_none:=@List.getElem?_eq_none
theorem Bx:type_of% @Int.toNat_natCast:=@Int.toNat_natCast
theorem By:type_of% @List.mem_map:=@List.mem_map
theorem Bz:type_of% @bne_iff_ne:=@bne_iff_ne
theorem Ca:type_of% @Nat.lt_succ_self:=@Nat.lt_succ_self
theorem Cb:type_of% @List.take_succ_eq_append_getElem:=@List.take_succ_eq_append_getElem
theorem Cc:type_of% @List.mem_singleton:=@List.mem_singleton
theorem Cd:type_of% @Nat.mul_le_mul_right:=@Nat.mul_le_mul_right
theorem Ce:type_of% @Int.tmod_eq_emod_of_nonneg:=@Int.tmod_eq_emod_of_nonneg
theorem Cg:type_of% @World.cell?_setCell_other:=@World.cell?_setCell_other
theorem Ci:type_of% @World.cell?_setCell_same:=@World.cell?_setCell_same
theorem Cj:type_of% @Nat.mul_one:=@Nat.mul_one
theorem Ck:type_of% @beq_iff_eq:=@beq_iff_eq
theorem Cl:type_of% @List.length_take:=@List.length_take
theorem Cm:type_of% @IntKind.wrap_i64:=@IntKind.wrap_i64
theorem Cn:type_of% @results_none:=@results_none
theorem Co:type_of% @List.not_mem_nil:=@List.not_mem_nil
theorem Cp:type_of% @List.map_cons:=@List.map_cons
theorem Cq:type_of% @List.drop_eq_nil_of_le:=@List.drop_eq_nil_of_le
theorem Cr:type_of% @Nat.zero_le:=@Nat.zero_le
theorem Cs:type_of% @List.map_toArray:=@List.map_toArray
theorem Ct:type_of% @List.all_eq_true:=@List.all_eq_true
theorem Cu:type_of% @List.flatMap_cons:=@List.flatMap_cons
theorem Cv:type_of% @Nat.one_pos:=@Nat.one_pos
theorem Cw:type_of% @List.nil_append:=@List.nil_append
theorem Cx:type_of% @List.mem_range:=@List.mem_range
theorem Cy:type_of% @List.getElem?_append_right:=@List.getElem?_append_right
theorem Cz:type_of% @UInt8.toNat_inj:=@UInt8.toNat_inj
theorem C1:type_of% @List.length_drop:=@List.length_drop
theorem C3:type_of% @Below.heap_alloc:=@Below.heap_alloc
theorem C4:type_of% @World.frozen?_of_block:=@World.frozen?_of_block
theorem C5:type_of% @Int.natCast_nonneg:=@Int.natCast_nonneg
theorem C6:type_of% @run_neq_struct:=@run_neq_struct
theorem C7:type_of% @Option.some.inj:=@Option.some.inj
theorem C8:type_of% @Array.length_toList:=@Array.length_toList
theorem C9:type_of% @List.getElem?_cons_succ:=@List.getElem?_cons_succ
theorem Da:type_of% @List.map_nil:=@List.map_nil
theorem Db:type_of% @Nat.succ_mul:=@Nat.succ_mul
theorem Dc:type_of% @Nat.ne_of_lt:=@Nat.ne_of_lt
theorem Dd:type_of% @World.cell?_alloc_lt:=@World.cell?_alloc_lt
theorem De:type_of% @List.map_append:=@List.map_append
theorem Df:type_of% @Nat.le_succ:=@Nat.le_succ
theorem Dg:type_of% @List.getD_eq_getElem?_getD:=@List.getD_eq_getElem?_getD
theorem Dh:type_of% @Bool.or_eq_true:=@Bool.or_eq_true
theorem Di:type_of% @Int.natCast_emod:=@Int.natCast_emod
theorem Dj:type_of% @Int.toNat_of_nonneg:=@Int.toNat_of_nonneg
theorem Dk:type_of% @of_decide_eq_true:=@of_decide_eq_true
theorem Dl:type_of% @List.take_append_drop:=@List.take_append_drop
theorem Dm:type_of% @Nat.eq_zero_or_pos:=@Nat.eq_zero_or_pos
theorem Dn:type_of% @Array.getElem?_eq_none:=@Array.getElem?_eq_none
theorem Do:type_of% @Nat.mul_le_mul_left:=@Nat.mul_le_mul_left
theorem Dp:type_of% @List.replicate_succ:=@List.replicate_succ
theorem Dq:type_of% @List.getElem?_append_left:=@List.getElem?_append_left
theorem Dr:type_of% @Nat.zero_add:=@Nat.zero_add
theorem Ds:type_of% @List.any_eq_true:=@List.any_eq_true
theorem Dt:type_of% @IntWalk.i64_in:=@IntWalk.i64_in
theorem hid{p:Prop}(h:p):Hd p:=h
theorem Hd.o{p:Prop}(h:Hd p):p:=h
def Rd(w:World)(B:Nat)(A:Option Addr)(n:Nat)(l:List UInt8):Prop :=
 l.length=n/\(0 < n->∃ ad,A=some ad/\ad.block < B/\∀ j (h:j < l.length),w.cell? (ad.add j)=some (.int .u8 (l[j].toNat:Int)))
section
variable {w w':World} {B B' n:Nat} {A:Option Addr} {l:List UInt8}
theorem Rd.at_{k:Nat}(h:Rd w B A n l)(hk:k < n):∃ ad x,A=some ad/\ad.block < B/\l[k]? = some x/\w.cell? (ad.add k)=some (.int .u8 (x.toNat:Int)):=by
 obtain⟨ad,e,hb,hc⟩:=h.2 (by omega);have hl:k < l.length:=by have:=h.1;omega
 exact⟨ad,l[k],e,hb,Am hl,hc k hl⟩
theorem Rd.keep(h:Rd w B A n l)(hk:∀ p:Addr,p.block < B->w'.cell? p=w.cell? p):Rd w' B A n l :=
 ⟨h.1,fun hn=>by
  obtain⟨ad,e,hb,hc⟩:=h.2 hn
  refine⟨ad,e,hb,fun j hj=>?_⟩
  have e1:(ad.add j).block=ad.block:=by unfold Addr.add;split <;> rfl
  exact(hk _ (by rw[e1];exact hb)).trans (hc j hj)⟩
theorem Rd.more(h:Rd w B A n l)(hB:B<=B'):Rd w B' A n l :=
 ⟨h.1,fun hn=>by
  obtain⟨ad,e,hb,hc⟩:=h.2 hn
  exact⟨ad,e,by omega,hc⟩⟩
theorem Rd.below(h:Rd w B A n l)(hb:Below B w w'):Rd w' B A n l:=h.keep fun _ hp=>hb.cell hp
theorem Rd.alloc(h:Rd w B A n l)(hB:B<=w.heap.size)(o:Obj):Rd (w.alloc o) B A n l:=h.keep fun p hp=>Dd w o p (by omega)
end
section
variable {w:World} {B n:Nat} {l:List UInt8}
theorem Rd.front{A:Option Addr}(h:Rd w B A n l)(k:Nat)(hk:k<=n):Rd w B A k (l.take k):=by
 refine⟨by rw[Cl,h.1];omega,fun h0=>?_⟩;obtain⟨ad,e,hb,hc⟩:=h.2 (by omega);refine⟨ad,e,hb,fun j hj=>?_⟩;rw[Cl] at hj;rw[List.getElem_take];exact hc j (by omega)
theorem Rd.back{ad:Addr}(h:Rd w B (some ad) n l)(k m:Nat)(hk:k+m=n):Rd w B (some (ad.add k)) m (l.drop k):=by
 refine⟨by rw[C1,h.1];omega,fun h0=>?_⟩;obtain⟨aA,e,hb,hc⟩:=h.2 (by omega);injection e with e;subst e;refine⟨_,rfl,?_,fun j hj=>?_⟩
 ·have e1:(ad.add k).block=ad.block:=by unfold Addr.add;split <;> rfl
  rw[e1];exact hb
 rw[C1] at hj;have e2:(ad.add k).add j=ad.add (k+j):=by
  unfold Addr.add;by_cases hi:k=0 <;> by_cases hj:j=0 <;> simp[hi,hj,Nat.add_assoc]
 rw[e2,List.getElem_drop];exact hc (k+j) (by omega)
theorem Rd.drewN{A:Option Addr}(h:Rd w B A n l)(q:Nat):Rd (w.drewN q) B A n l:=h
end
def Rp(m:Nat)(w:World)(e:Ending)(w':World):Prop:=∃ k:Nat,k<=m/\e=.returned (.int .i64 k)/\w=w'
theorem Ix(m:Nat)(w:World)(e:Ending)(z:Int)(h0:0<=z)(h1:z<=m)(he:e=.returned (.int .i64 z)):Rp m w e w :=
 ⟨z.toNat,by omega,by rw[he];congr 2;omega,rfl⟩
theorem Nl(n:Int)(m:Nat)(h:n < 0):-(m:Int)<=n.tmod (m+1)/\n.tmod (m+1)<=0:=by
 have h1:n.tmod (m+1)=-((-n) % ((m:Int)+1)):=by
  rw[Ce (a:=-n) (by omega) |>.symm,Int.neg_tmod,Int.neg_neg]
 have h2:=Int.emod_nonneg (-n) (b:=(m:Int)+1) (by omega);have h3:=Int.emod_lt_of_pos (-n) (b:=(m:Int)+1) (by omega);omega
theorem Tr(n:Int)(m:Nat)(w:World)(hm:m < 4611686018427387904):
  Calls Tryz.prog 22 #[.int .i64 n,.int .i64 0,.int .i64 m] w (Rp m w):=by
 have aA:(0:Int)<=(m:Int):=C5 _;by_cases h0:0<=n
 ·by_cases h1:n<=(m:Int)
  ·go_in;go_wp2;go_ret;exact Ix _ _ _ n h0 h1 rfl
  have h2:=Int.emod_nonneg n (b:=(m:Int)+1) (by omega);have h3:n % ((m:Int)+1)<=m:=by have:=Int.emod_lt_of_pos n (b:=(m:Int)+1) (by omega);omega
  go_in;go_wp2;go_ret;exact Ix _ _ _ _ h2 h3 (by simp)
 obtain⟨h2,h3⟩:=Nl n m (by omega);by_cases h4:n.tmod ((m:Int)+1) < 0
 ·go_in;go_wp2;go_ret;refine Ix _ _ _ (n.tmod ((m:Int)+1)+m+1) (by omega) (by omega) (by simp)
 go_in;go_wp2;go_ret;refine Ix _ _ _ (n.tmod ((m:Int)+1)) (by omega) (by omega) (by simp)
theorem mp(n M:Int)(m:Nat)(w:World)(hM:M=(m:Int))(hm:m < 4611686018427387904):
  Calls Tryz.prog 22 #[.int .i64 n,.int .i64 0,.int .i64 M] w (Rp m w):=by
 subst hM;exact Tr n m w hm
def RdC(w:World)(B:Nat)(A:Option Addr)(n:Nat)(f:Nat->Value):Prop :=
 0 < n->∃ ad,A=some ad/\ad.block < B/\∀ j,j < n->w.cell? (ad.add j)=some (f j)
section
variable {w w':World} {B B' n:Nat} {A:Option Addr} {f:Nat->Value}
theorem RdC.at_{k:Nat}(h:RdC w B A n f)(hk:k < n):∃ ad,A=some ad/\ad.block < B/\w.cell? (ad.add k)=some (f k):=by
 obtain⟨ad,e,hb,hc⟩:=h (by omega);exact⟨ad,e,hb,hc k hk⟩
theorem RdC.keep(h:RdC w B A n f)(hk:∀ p:Addr,p.block < B->w'.cell? p=w.cell? p):RdC w' B A n f:=fun hn=>by
 obtain⟨ad,e,hb,hc⟩:=h hn
 refine⟨ad,e,hb,fun j hj=>?_⟩
 have e1:(ad.add j).block=ad.block:=by unfold Addr.add;split <;> rfl
 exact(hk _ (by rw[e1];exact hb)).trans (hc j hj)
theorem RdC.more(h:RdC w B A n f)(hB:B<=B'):RdC w B' A n f:=fun hn=>by
 obtain⟨ad,e,hb,hc⟩:=h hn
 exact⟨ad,e,by omega,hc⟩
theorem RdC.below(h:RdC w B A n f)(hb:Below B w w'):RdC w' B A n f:=h.keep fun _ hp=>hb.cell hp
end
structure Elt(T E:TypeId)(s b:Nat)(z:Value):Prop where
 ht:Tryz.prog.underlying T=some (.slice E)
 hi:(Tryz.prog.info? E).map (fun i=>(i.zero,i.size,i.bytes))=some (some z,s,b)
 hz:z.cells.size=s
 hs:0 < s
def RdV(w:World)(B:Nat)(A:Option Addr)(l:List Value):Prop :=
 0 < l.length->∃ ad,A=some ad/\ad.block < B/\∀ j v,l[j]? = some v->w.cell? (ad.add j)=some v
section
variable {w w':World} {B B':Nat} {A:Option Addr} {l:List Value}
theorem Eh(ad:Addr)(j:Nat):(ad.add j).block=ad.block:=by unfold Addr.add;split <;> rfl
theorem RdV.keep(h:RdV w B A l)(hk:∀ p:Addr,p.block < B->w'.cell? p=w.cell? p):RdV w' B A l:=fun hn=>by
 obtain⟨ad,e,hb,hc⟩:=h hn
 exact⟨ad,e,hb,fun j v hj=>(hk _ (by rw[Eh];exact hb)).trans (hc j v hj)⟩
theorem RdV.more(h:RdV w B A l)(hB:B<=B'):RdV w B' A l:=fun hn=>by
 obtain⟨ad,e,hb,hc⟩:=h hn
 exact⟨ad,e,by omega,hc⟩
theorem RdV.below(h:RdV w B A l)(hb:Below B w w'):RdV w' B A l:=h.keep fun _ hp=>hb.cell hp
theorem Ka(ad:Addr)(i j:Nat):(ad.add i).add j=ad.add (i+j):=by
 unfold Addr.add;by_cases hi:i=0 <;> by_cases hj:j=0 <;> simp[hi,hj,Nat.add_assoc]
theorem RdV.back{ad:Addr}(h:RdV w B (some ad) l)(k:Nat):RdV w B (some (ad.add k)) (l.drop k):=fun hn=>by
 rw[C1] at hn
 obtain⟨aA,e,hb,hc⟩:=h (by omega)
 injection e with e
 subst e
 refine⟨_,rfl,by rw[Eh];exact hb,fun j v hj=>?_⟩
 rw[Ka]
 rw[List.getElem?_drop] at hj
 exact hc _ v hj
theorem RdV.nil:RdV w B A []:=fun h=>absurd h (by simp)
end
def OwnV(E s:Nat)(w:World)(B:Nat)(A:Option Addr)(n c:Nat)(l:List Value):Prop:=w.ownsRow B E s (.slice A n c) n l
section
variable {w w':World} {E s B B' n c:Nat} {A:Option Addr} {l:List Value}
theorem OwnV.len(h:OwnV E s w B A n c l):l.length=n*s:=h.1
theorem OwnV.cap(h:OwnV E s w B A n c l):n<=c:=by
 rcases h.2 with ⟨hv,h0⟩ | ⟨g,cap,aB,hv,_,_,aA,_⟩
 ·omega
 injection hv;omega
theorem OwnV.nil(w:World)(E s B:Nat):OwnV E s w B none 0 0 []:=World.ownsRow_nil _ _ _ _
theorem OwnV.block(h:OwnV E s w B A n c l)(hn:0 < n):∃ g,A=some ⟨g,0,none⟩/\B<=g/\g < w.heap.size:=by
 rcases h.2 with ⟨_,h0⟩ | ⟨g,cap,aA,hv,hb,hg,_⟩
 ·omega
 injection hv with h1;exact⟨g,h1,hb,(Bt.1 hg).1⟩
theorem OwnV.rd(h:OwnV E s w B A n c l):RdV w w.heap.size A l:=fun hl=>by
 have hn:0 < n:=by
  rcases Dm n with h0 | h0
  ·rw[h.1,h0] at hl;omega
  ·exact h0
 obtain⟨g,rfl,_,aA⟩:=h.block hn
 exact⟨_,rfl,aA,fun j v hj=>World.ownsRow.cells h (g:=g) rfl j v hj⟩
theorem OwnV.keep(h:OwnV E s w B A n c l)(hk:∀ b,B<=b->b < w.heap.size->w'.heap[b]? = w.heap[b]?):OwnV E s w' B A n c l:=by
 refine⟨h.1,?_⟩;rcases h.2 with hv | ⟨g,cap,aB,hv,aA,hg,r⟩
 ·exact .inl hv
 exact .inr ⟨g,cap,aB,hv,aA,by rw[hk g aA (Bt.1 hg).1];exact hg,r⟩
theorem OwnV.below(h:OwnV E s w B A n c l)(hs:B'=w.heap.size)(hb:Below B' w w'):OwnV E s w' B A n c l:=by
 subst hs;exact h.keep fun b _ aA=>hb.block b aA
theorem OwnV.weak(h:OwnV E s w B A n c l)(hB:B'<=B):OwnV E s w B' A n c l :=
 ⟨h.1,h.2.elim .inl fun⟨g,cap,aB,hv,aA,r⟩=>.inr ⟨g,cap,aB,hv,Ai hB aA,r⟩⟩
theorem D7(w:World)(E s B:Nat)(C:Array Value)(m:Nat)(hC:C.size=m*s)(hB:B<=w.heap.size)(hm:m<=maxLen):OwnV E s (w.alloc (.cells C E)) B (some ⟨w.heap.size,0,none⟩) m m C.toList:=by
 refine⟨by rw[C8,hC],.inr ⟨w.heap.size,m,C,rfl,hB,heap_alloc_new w _,Ag _,hm,hC,?_⟩⟩;rw[Bd (by rw[C8,hC];omega)]
end
theorem rdV_new(w:World)(C:Array Value)(t:TypeId)(l:List Value)(hC:C.toList=l):RdV (w.alloc (.cells C t)) (w.alloc (.cells C t)).heap.size (some ⟨w.heap.size,0,none⟩) l:=fun _=>by
 refine⟨_,rfl,by simp,fun j v hj=>?_⟩
 have e:(⟨w.heap.size,0,none⟩:Addr).add j=⟨w.heap.size,j,none⟩:=by unfold Addr.add;split <;> simp_all
 rw[e,Ab,<- Array.getElem?_toList,hC]
 exact hj
theorem Mz{T E s b:Nat}{z:Value}(L:Elt T E s b z)(w:World)(B:Nat)(A:Option Addr)(n c c':Nat)(l:List Value)(h:OwnV E s w B A n c l)(S:Option Addr):
  (Builtin.append_ #[T,T] T #[.slice A n c,.slice S 0 c']).run Tryz.prog w=.ok (.slice A n c) w:=by
 obtain⟨i,hi,_⟩:=info_parts L.hi;cases S with
 | none =>
  rcases h.2 with ⟨hv,_⟩ | ⟨g,cap,aB,hv,_,_,aA,_⟩
  ·simp only[Value.slice.injEq] at hv;obtain⟨rfl,rfl,rfl⟩:=hv;simp[Builtin.append_,run_underlying L.ht,sizeOf,typeInfo,hi,Builtin.lenOf,Builtin.firstCells]
  simp only[Value.slice.injEq] at hv;obtain⟨rfl,_,rfl⟩:=hv;simp[Builtin.append_,run_underlying L.ht,sizeOf,typeInfo,hi,Builtin.lenOf,Builtin.firstCells,aA,storeCells]
 | some ad =>
  rcases h.2 with ⟨hv,_⟩ | ⟨g,cap,aB,hv,_,_,aA,_⟩
  ·simp only[Value.slice.injEq] at hv;obtain⟨rfl,rfl,rfl⟩:=hv;simp[Builtin.append_,run_underlying L.ht,sizeOf,typeInfo,hi,Builtin.lenOf,Builtin.firstCells,loadCells,loadCellsFrom]
  simp only[Value.slice.injEq] at hv;obtain⟨rfl,_,rfl⟩:=hv;simp[Builtin.append_,run_underlying L.ht,sizeOf,typeInfo,hi,Builtin.lenOf,Builtin.firstCells,aA,storeCells,loadCells,loadCellsFrom]
theorem R6{T E s b:Nat}{z:Value}(L:Elt T E s b z)(w:World)(B:Nat)(A:Option Addr)(n c:Nat)(l0:List Value)(h:OwnV E s w B A n c l0)(S:Option Addr)(m d:Nat)(l:List Value)(Bs:Nat)(hr:RdV w Bs S l)
  (hl:l.length=m*s) (h1:∀ u∈l,u.oneCell'=true) (hb:(n+m)*b<=140737488355328) (hm:n+m<=maxLen) (hB:B<=w.heap.size) :
  ∃ A' c' w',(Builtin.append_ #[T,T] T #[.slice A n c,.slice S m d]).run Tryz.prog w=.ok (.slice A' (n+m) c') w'/\OwnV E s w' B A' (n+m) c' (l0++l)/\Below B w w'/\
   ∀ Bb,(∀ g,A=some ⟨g,0,none⟩->g < Bb)->∀ k,Bb<=k->k < w.heap.size->w'.heap[k]? = w.heap[k]?:=by
 obtain⟨i,hi,hz,hs,aK⟩:=info_parts L.hi;rcases Dm m with aE | aE
 ·subst aE;obtain rfl:l=[]:=List.eq_nil_of_length_eq_zero (by omega);exact⟨A,c,w,Mz L w B A n c d l0 h S,by simpa using h,Aj _ _,fun _ _ _ _ _=>rfl⟩
 have aC:0 < l.length:=by rw[hl];exact Nat.mul_pos aE L.hs
 obtain⟨ad,rfl,_,hc⟩:=hr aC;obtain⟨v',w',aB,aA,aG,aI,aM⟩:=run_append_own_at (P:=Tryz.prog) w B T T E i z s b L.ht hi hz hs aK L.hz L.hs (.slice A n c) n l0 h ad m d l hl hc h1 hm hb hB;have aF:Below B w w':=(Aj _ _).grown aG hB (fun k hk=>by
  rcases h.2 with ⟨hv,_⟩ | ⟨g,cap,aH,hv,aL,_⟩
  ·rw[hv] at hk;simp[Value.ownBlock] at hk
  rw[hv] at hk;simp[Value.ownBlock] at hk;omega)
 have aD:∀ Bb,(∀ g,A=some ⟨g,0,none⟩->g < Bb)->∀ k,Bb<=k->k < w.heap.size->w'.heap[k]? = w.heap[k]?:=fun Bb hg k hb aJ=>by
  refine aG.block k aJ fun hk=>?_;rcases h.2 with ⟨hv,_⟩ | ⟨g,cap,aH,hv,aL,_⟩
  ·rw[hv] at hk;simp[Value.ownBlock] at hk
  have h1:A=some ⟨g,0,none⟩:=by injection hv
  have:=hg g h1;rw[hv] at hk;simp[Value.ownBlock] at hk;omega
 rcases aA.2 with ⟨hv,h0⟩ | ⟨g,cap,aH,hv,_⟩
 ·omega
 subst hv;exact⟨_,_,w',aB,aA,aF,aD⟩
theorem Z8{T E s b:Nat}{z:Value}(L:Elt T E s b z)(w:World)(B g n c:Nat)(l0:List Value)(h:OwnV E s w B (some ⟨g,0,none⟩) n c l0)(ad:Addr)(m d:Nat)(l:List Value)(hc:∀ j u,l[j]? = some u->w.cell? (ad.add j)=some u)
  (hl:l.length=m*s) (h1:∀ u∈l,u.oneCell'=true) (hb:(n+m)*b<=140737488355328) (hm:n+m<=maxLen) (hB:B<=w.heap.size) :
  ∃ A' c' w',(Builtin.append_ #[T,T] T #[.slice (some ⟨g,0,none⟩) n c,.slice (some ad) m d]).run Tryz.prog w=.ok (.slice A' (n+m) c') w'/\OwnV E s w' B A' (n+m) c' (l0++l)/\Below B w w'/\OwnV E s w' B (some ⟨g,0,none⟩) n c l0/\
   ∀ k,k≠g->k < w.heap.size->w'.heap[k]? = w.heap[k]?:=by
 obtain⟨i,hi,hz,hs,aR⟩:=info_parts L.hi;have aH:n+m<=9223372036854775807:=by simp only[maxLen] at hm;omega
 have aB:(l0++l).length=(n+m)*s:=by rw[Aa,h.1,hl,Nat.add_mul]
 rcases h.2 with ⟨hv,_⟩ | ⟨g',cap,aE,hv,aL,hg,aM,aP,aO,aF⟩
 ·cases hv
 simp only[Value.slice.injEq,Option.some.injEq,Addr.mk.injEq,and_true,true_and] at hv;obtain⟨rfl,rfl⟩:=hv;subst hs;subst aR
 have ec:aE.toList.length=c*i.size:=by rw[C8];exact aO
 have aT:n*i.size<=c*i.size:=Cd _ aM;by_cases aA:n+m<=c
 ·have aJ:n*i.size+m*i.size<=c*i.size:=by rw[<- Nat.add_mul];exact Cd _ aA
  have aD:n*i.size+l.length<=aE.size:=by rw[hl,aO];exact aJ
  have hr:=run_append_room (P:=Tryz.prog) w T T E i L.ht hi g n c aE hg ad m d l hl hc h1 aA aD;rw[aF] at hr;have aN:l0.length=n*i.size:=h.1;have aC:(l0++l++aE.toList.drop (n*i.size+l.length)).toArray.size=c*i.size:=by
   rw[List.size_toArray,Aa,Aa,C1,ec,aN,hl];omega
  refine⟨_,_,_,hr,⟨aB,.inr ⟨g,c,_,rfl,aL,setRow_heap w g aE _ _ _ hg,aA,aP,aC,?_⟩⟩,below_setRow (Aj _ _) aL _,⟨h.1,.inr ⟨g,c,_,rfl,aL,setRow_heap w g aE _ _ _ hg,aM,aP,aC,?_⟩⟩,fun k hk _=>setRow_other w g k _ hk⟩
  ·exact List.take_left' aB
  show (l0++l++aE.toList.drop (n*i.size+l.length)).take (n*i.size)=l0;rw[Ar];exact List.take_left' aN
 have aG:∀ j u,l0[j]? = some u->w.cell? ((⟨g,0,none⟩:Addr).add j)=some u:=World.ownsRow.cells h (g:=g) rfl;have aD:Builtin.nextslicecap (n+m) c*i.bytes<=281474976710656:=growslice_fits (by omega) hb;have aI:=run_append_grow (P:=Tryz.prog) w T T E i z L.ht hi hz ⟨g,0,none⟩ n c l0 h.1 aG ad m d l hl hc (by omega) (by omega) aD;have aQ:=grownCap_ge w (n+m) c E;have aK:grownCap w (n+m) c E<=maxLen:=grownCap_le_maxLen w (n+m) c E hm;refine⟨_,_,_,aI,⟨aB,.inr ⟨w.heap.size,_,_,rfl,hB,heap_alloc_new w.drew _,aQ,aK,?_,?_⟩⟩,((Aj _ _).drew).alloc hB _,OwnV.keep (B:=B) h fun k _ hk=>C3 w.drew _ k hk,fun k _ hk=>C3 w.drew _ k hk⟩
 ·simp only[Array.size_append,List.size_toArray,size_zeroCells,L.hz,h.1,hl,<- Nat.add_mul];exact congrArg (·*i.size) (by omega)
 simp only[Array.toList_append,Ar];rw[<- Ar,<- aB];exact List.take_left
theorem Ej{T E s b:Nat}{z:Value}(L:Elt T E s b z){ops:Array Oper}{aA:List Oper}{o:Oper}{a:Act}{Q:Exit->Act->World->Prop}{w:World}(aD:o.guard=none)(x y:Operand)
  (ho:o.op=.call { callee:=.builtin .append,args:=#[x,y],argTypes:=#[T,T] }) (aC:o.type=T)
  (B:Nat) (A:Option Addr) (n c:Nat) (l0:List Value) (hx:a.eval x=.slice A n c) (h:OwnV E s w B A n c l0) (S:Option Addr) (m d:Nat) (l:List Value) (Bs:Nat) (hy:a.eval y=.slice S m d) (hr:RdV w Bs S l)
  (hl:l.length=m*s) (h1:∀ u∈l,u.oneCell'=true) (hb:(n+m)*b<=140737488355328) (hm:n+m<=maxLen) (hB:B<=w.heap.size)
  (N:Nat) (hN:n+m=N) (M:List Value) (hM:l0++l=M)
  (hK:∀ A' c' w',OwnV E s w' B A' N c' M->Below B w w'->(∀ Bb,(∀ g,A=some ⟨g,0,none⟩->g < Bb)->∀ k,Bb<=k->k < w.heap.size->w'.heap[k]? = w.heap[k]?)->wpList Tryz.prog ops Q aA (a.put o.dst (.slice A' N c')) w'):wpList Tryz.prog ops Q (o::aA) a w:=by
 subst hN;subst hM;refine wpList_plain aD fun K hk=>?_;obtain⟨A',c',w',aB,h1,h2,h3⟩:=R6 L w B A n c l0 h S m d l Bs hr hl h1 hb hm hB;unfold Oper.wp execOp;simp only[ho,aC,resolve,invoke,builtin,Sem.run_bind,Sem.run_pure,At,Cs,Cp,Da,hx,hy,aB];exact hk _ _ (hK A' c' w' h1 h2 h3)
end Go.Proofs.YtfmndmhjjbeokaaGreatDoor
namespace Go.Proofs.YtfmndmhjjbeokaaGreatDoor
namespace Tab
structure Nd where
 k:Int
 p:Int
 n:Int
inductive F where
 | nil
 | cons (x:Nd) (kids rest:F)
def fine(x:Nd):Bool :=
 decide (1<=x.n) && (if x.k=1 then decide (0<=x.p/\x.p < 6) else if x.k=2\/x.k=4 then decide (x.p=0) else if x.k=3 then decide (x.p=0/\x.n<=128) else false)
def kn(x:Nd):Nat:=if x.k=3 then x.n.toNat else if x.k=4 then 1 else 0
theorem kn_le{x:Nd}(h:fine x=true):kn x<=128:=by
 unfold fine at h;unfold kn;simp only[Au,Av] at h;obtain⟨h1,h2⟩:=h;split at h2
 ·rw[if_neg (by omega),if_neg (by omega)];omega
 split at h2
 ·rw[if_neg (by omega)];split <;> omega
 split at h2
 ·rename_i h3;rw[if_pos h3];simp only[Av] at h2;omega
 cases h2
theorem fine_one{x:Nd}(h:fine x=true):1<=x.n:=by
 unfold fine at h;simp only[Au,Av] at h;exact h.1
namespace F
def flat:F->List Nd
 | nil=>[]
 | cons x k r=>x::(flat k++flat r)
def cnt:F->Nat
 | nil=>0
 | cons _ _ r=>cnt r+1
def ok:F->Prop
 | nil=>True
 | cons x k r=>fine x=true/\cnt k=kn x/\ok k/\ok r
def sz:F->Nat
 | nil=>0
 | cons _ k r=>1+sz k+sz r
def dep:F->Nat
 | nil=>0
 | cons _ k r=>max (dep k+1) (dep r)
def tick(x:Nd)(s:Nat):Nat:=if x.k=3 then s else if x.k=4 then s*x.n.toNat else x.n.toNat
def len:F->Nat
 | nil=>0
 | cons x k r=>tick x (len k)+len r
def places(b:Nat):F->List Nat
 | nil=>[]
 | cons _ k r=>b::places (b+1+sz k) r
def app:F->F->F
 | nil,g=>g
 | cons x k r,g=>cons x k (app r g)
theorem flat_length(f:F):f.flat.length=f.sz:=by
 induction f with
 | nil=>rfl
 | cons x k r hk hr=>simp[flat,sz,hk,hr];omega
theorem cnt_zero{f:F}(h:f.cnt=0):f=nil:=by
 cases f with
 | nil=>rfl
 | cons x k r=>simp[cnt] at h
theorem cnt_le_sz(f:F):f.cnt<=f.sz:=by
 induction f with
 | nil=>simp[cnt,sz]
 | cons x k r _ hr=>simp only[cnt,sz];omega
theorem dep_le_sz(f:F):f.dep<=f.sz:=by
 induction f with
 | nil=>simp[dep,sz]
 | cons x k r hk hr=>simp only[dep,sz];omega
theorem len_pos{f:F}(h:f.ok)(hc:0 < f.cnt):0 < f.len:=by
 induction f with
 | nil=>simp[cnt] at hc
 | cons x k r hk _ =>
  obtain⟨h1,h2,h3,_⟩:=h;have hn:=fine_one h1;simp only[len,tick];split
  ·rename_i h4;have:0 < k.cnt:=by rw[h2];unfold kn;rw[if_pos h4];omega
   have:=hk h3 this;omega
  split
  ·rename_i h4 h5;have:0 < k.cnt:=by rw[h2];unfold kn;rw[if_neg h4,if_pos h5];omega
   have h6:=hk h3 this;have:0 < k.len*x.n.toNat:=Nat.mul_pos h6 (by omega);omega
  omega
theorem app_flat(f g:F):(f.app g).flat=f.flat++g.flat:=by
 induction f with
 | nil=>rfl
 | cons x k r _ hr=>simp[app,flat,hr]
theorem app_cnt(f g:F):(f.app g).cnt=f.cnt+g.cnt:=by
 induction f with
 | nil=>simp[app,cnt]
 | cons x k r _ hr=>simp only[app,cnt,hr];omega
theorem app_sz(f g:F):(f.app g).sz=f.sz+g.sz:=by
 induction f with
 | nil=>simp[app,sz]
 | cons x k r _ hr=>simp only[app,sz,hr];omega
theorem app_ok{f g:F}(hf:f.ok)(hg:g.ok):(f.app g).ok:=by
 induction f with
 | nil=>exact hg
 | cons x k r _ hr=>exact⟨hf.1,hf.2.1,hf.2.2.1,hr hf.2.2.2⟩
theorem app_dep(f g:F):(f.app g).dep=max f.dep g.dep:=by
 induction f with
 | nil=>simp[app,dep]
 | cons x k r _ hr=>simp only[app,dep,hr];omega
theorem split{f:F}(h:f.ok)(m:Nat)(hm:m<=f.cnt):∃ a b:F,a.ok/\b.ok/\a.cnt=m/\b.cnt=f.cnt - m/\f=a.app b:=by
 induction m generalizing f with
 | zero=>exact⟨nil,f,trivial,h,rfl,rfl,rfl⟩
 | succ m ih =>
  cases f with
  | nil=>simp[cnt] at hm
  | cons x k r =>
   simp only[cnt] at hm;obtain⟨a,b,ha,hb,aA,aB,e⟩:=ih (f:=r) h.2.2.2 (by omega);exact⟨cons x k a,b,⟨h.1,h.2.1,h.2.2.1,ha⟩,hb,by simp[cnt,aA],by simp only[cnt];omega,by simp[app,e]⟩
end F
def scan:Nat->List Nd->Option Nat
 | _,[]=>none
 | m,x::l=>if fine x=true then (if m+kn x=1 then some 1 else (scan (m+kn x - 1) l).map (·+1)) else none
theorem drop_cons{l:List Nd}{i:Nat}{x:Nd}(h:l[i]? = some x):l.drop i=x::l.drop (i+1):=by
 obtain⟨hi,e⟩:=Af.1 h;rw[List.drop_eq_getElem_cons hi,e]
theorem scan_bad{m:Nat}{x:Nd}{l:List Nd}(h:¬ fine x=true):scan m (x::l)=none:=by
 simp only[scan];rw[if_neg h]
theorem scan_last{m:Nat}{x:Nd}{l:List Nd}(h:fine x=true)(hk:m+kn x=1):scan m (x::l)=some 1:=by
 simp only[scan];rw[if_pos h,if_pos hk]
theorem scan_next{m:Nat}{x:Nd}{l:List Nd}(h:fine x=true)(hk:¬ m+kn x=1):scan m (x::l)=(scan (m+kn x - 1) l).map (·+1):=by
 simp only[scan];rw[if_pos h,if_neg hk]
theorem scan_flat(f:F)(h:f.ok)(m:Nat)(hm:0 < f.cnt)(t:List Nd):
  scan (f.cnt+m) (f.flat++t)=if m=0 then some f.sz else (scan m t).map (·+f.sz):=by
 induction f generalizing m t with
 | nil=>simp[F.cnt] at hm
 | cons x k r hk hr =>
  obtain⟨h1,h2,h3,h4⟩:=h;simp only[F.flat,Bo,scan,h1,if_true,F.cnt,F.sz];have aA:∀ m,0 < r.cnt+m->scan (r.cnt+m) (r.flat++t)=if m=0 then some r.sz else (scan m t).map (·+r.sz):=by
   intro m hm;by_cases aB:r.cnt=0
   ·obtain rfl:=F.cnt_zero aB;simp only[F.cnt,F.flat,F.sz,Cw,Dr] at hm |-;rw[if_neg (by omega)];simp
   exact hr h4 m (by omega) t
  by_cases aD:k.cnt=0
  ·have aC:kn x=0:=by omega
   obtain rfl:=F.cnt_zero aD;simp only[aC,F.flat,F.sz,Cw,Nat.add_zero];by_cases hz:r.cnt+m=0
   ·rw[if_pos (by omega),if_pos (by omega)];have:r=.nil:=F.cnt_zero (by omega);subst this;rfl
   rw[if_neg (by omega),show r.cnt+1+m - 1=r.cnt+m by omega,aA m (by omega)];split
   ·simp;omega
   cases scan m t <;> simp;omega
  rw[if_neg (by omega),show r.cnt+1+m+kn x - 1=k.cnt+(r.cnt+m) by omega,Ar,hk h3 _ (by omega)];by_cases hz:r.cnt+m=0
  ·rw[if_pos hz,if_pos (by omega)];have:r=.nil:=F.cnt_zero (by omega);subst this;simp[F.sz];omega
  rw[if_neg hz,aA m (by omega)];split
  ·simp;omega
  cases scan m t <;> simp;omega
theorem scan_some(l:List Nd)(m n:Nat)(hm:0 < m)(h:scan m l=some n):∃(f:F) (t:List Nd),f.ok/\f.cnt=m/\f.sz=n/\l=f.flat++t:=by
 induction l generalizing m n with
 | nil=>simp[scan] at h
 | cons x l ih =>
  simp only[scan] at h;split at h
  ·rename_i hx;split at h
   ·rename_i h1;simp only[Option.some.injEq] at h;refine⟨.cons x .nil .nil,l,⟨hx,by simp[F.cnt];omega,trivial,trivial⟩,by simp[F.cnt];omega,by simp[F.sz];omega,rfl⟩
   cases hs:scan (m+kn x - 1) l with
   | none=>rw[hs] at h;simp at h
   | some j =>
    rw[hs] at h;simp only[Option.map_some,Option.some.injEq] at h;obtain⟨g,t,hg,hc,hz,e⟩:=ih _ _ (by omega) hs;obtain⟨a,b,ha,hb,aA,aB,e2⟩:=F.split hg (kn x) (by omega);subst e2;rw[F.app_sz] at hz;refine⟨.cons x a b,t,⟨hx,aA,ha,hb⟩,by simp only[F.cnt];omega,by simp only[F.sz];omega,?_⟩;rw[e,F.app_flat];simp[F.flat]
  cases h
def size(l:List Nd)(at_:Int):Nat:=if 0<=at_/\at_ < l.length then (scan 1 (l.drop at_.toNat)).getD 0 else 0
theorem size_def(l:List Nd)(a:Nat)(h:a < l.length):size l (a:Int)=(scan 1 (l.drop a)).getD 0:=by
 unfold size;rw[if_pos ⟨by omega,by omega⟩,Bx]
theorem size_none(l:List Nd)(a:Int)(h:a < 0\/(l.length:Int)<=a):size l a=0:=by
 unfold size;rw[if_neg (by omega)]
theorem size_le(l:List Nd)(a:Int):size l a<=l.length:=by
 unfold size;split
 ·cases h:scan 1 (l.drop a.toNat) with
  | none=>simp
  | some n =>
   obtain⟨f,t,_,_,h3,h4⟩:=scan_some _ _ _ (by omega) h;have:=congrArg List.length h4;rw[C1,Aa,F.flat_length,h3] at this;simp;omega
 omega
theorem size_tree{l:List Nd}{a:Int}(h:size l a≠0):∃(x:Nd) (k:F) (t:List Nd),(F.cons x k .nil).ok/\0<=a/\a < l.length/\l.drop a.toNat=x::(k.flat++t)/\size l a=1+k.sz:=by
 unfold size at h |-;split at h
 ·rename_i ha;rw[if_pos ha];cases hs:scan 1 (l.drop a.toNat) with
  | none=>rw[hs] at h;simp at h
  | some n =>
   obtain⟨f,t,h1,h2,h3,h4⟩:=scan_some _ _ _ (by omega) hs;cases f with
   | nil=>simp[F.cnt] at h2
   | cons x k r =>
    have:r=.nil:=F.cnt_zero (by simp only[F.cnt] at h2;omega);subst this;refine⟨x,k,t,h1,ha.1,ha.2,?_,?_⟩
    ·rw[h4];simp[F.flat]
    simp only[Bq];rw[<- h3];simp[F.sz]
 exact absurd rfl h
theorem size_at{l:List Nd}{a:Nat}{x:Nd}{k r:F}{t:List Nd}(h:(F.cons x k r).ok)(hl:l.drop a=(F.cons x k r).flat++t):size l (a:Int)=1+k.sz:=by
 have aA:a < l.length:=by
  rcases Bk a l.length with h' | h'
  ·exact h'
  rw[Cq h'] at hl;simp[F.flat] at hl
 unfold size;rw[if_pos ⟨by omega,by omega⟩,Bx,hl];have e:(F.cons x k r).flat++t=(F.cons x k .nil).flat++(r.flat++t):=by simp[F.flat]
 have:=scan_flat (F.cons x k .nil) ⟨h.1,h.2.1,h.2.2.1,trivial⟩ 0 (by simp[F.cnt]) (r.flat++t);rw[e];simp only[F.cnt] at this;rw[this];simp[F.sz]
end Tab
end Go.Proofs.YtfmndmhjjbeokaaGreatDoor
namespace Go.Proofs.YtfmndmhjjbeokaaGreatDoor
open Go.RowKit Tab
def Ans(v:Value)(w:World)(e:Ending)(w':World):Prop:=e=.returned v/\Below w.heap.size w w'
theorem Ans.mk{v u:Value}{w w':World}(h:v=u)(hb:Below w.heap.size w w'):Ans v w (.returned u) w':=⟨by rw[h],hb⟩
theorem bl1(w:World)(o:Obj):Below w.heap.size w (w.alloc o):=(Aj _ _).alloc (Ag _) _
abbrev nd(k p n:Int):Value:=.agg #[.int .i64 k,.int .i64 p,.int .i64 n]
def kz(x:Nd):Int:=if x.k=3 then x.n else if x.k=4 then 1 else 0
theorem Wt{x:Nd}(h:fine x=true):kz x=(kn x:Int):=by
 have h1:=fine_one h;unfold kz kn;split
 ·omega
 split <;> rfl
theorem J5(k p n:Int)(w:World):Calls Tryz.prog 105 #[nd k p n] w (Ans (.int .i64 (kz ⟨k,p,n⟩)) w):=by
 go_in;go_wp2
 all_goals
  go_ret;refine Ans.mk ?_ (bl1 _ _);simp only[Ck,Ak,ne_eq] at *;simp[kz, *]
theorem Em(k p n:Int):fine ⟨k,p,n⟩=true↔1<=n/\((k=1/\0<=p/\p < 6)\/(k=2/\p=0)\/(k=4/\p=0)\/(k=3/\p=0/\n<=128)):=by
 unfold fine;simp only[Au,Av];split
 ·simp;omega
 split
 ·simp;omega
 split
 ·simp;omega
 simp;omega
theorem Nx(k p n:Int)(w:World):Calls Tryz.prog 132 #[nd k p n] w (Ans (.bool (fine ⟨k,p,n⟩)) w):=by
 have hf:=hid (Em k p n);go_in;go_wp2
 all_goals
  go_ret;refine Ans.mk (congrArg Value.bool ?_) (bl1 _ _);rw[Bool.eq_iff_iff,Em];simp only[Av,Ck,Ak,ne_eq,Bool.false_eq_true,iff_false] at *;omega
theorem Qj(k p n:Int)(w:World):Calls Tryz.prog 114 #[nd k p n] w (Ans (.bool (fine ⟨k,p,n⟩)) w):=by
 go_in;go_wp2
 all_goals
  go_ret;refine Ans.mk (congrArg Value.bool ?_) (bl1 _ _);rw[Bool.eq_iff_iff,Em];simp only[Av,Ck,Ak,ne_eq,Bool.false_eq_true,iff_false] at *;omega
def hl(a b:Int):Int:=if 4096 < a*b then 4097 else a*b
theorem S8(a b:Int)(w:World)(ha:1<=a)(hb:1<=b)(aB:b<=4097)(aC:a<=9223372036854775807):Calls Tryz.prog 106 #[.int .i64 a,.int .i64 b] w fun e w'=>e=.returned (.int .i64 (hl a b))/\w=w':=by
 by_cases h:4096 / b < a
 ·have h2:4096 < a*b:=(Int.ediv_lt_iff_lt_mul (by omega)).1 h;have aA:¬ b=0:=by omega
  have e:hl a b=4097:=if_pos h2;have H:=hid e;clear e h2;go_in;go_wp2;go_ret;exact⟨by rw[H.o];rfl,rfl⟩
 have h2:¬ 4096 < a*b:=fun h'=>h ((Int.ediv_lt_iff_lt_mul (by omega)).2 h');have aA:¬ b=0:=by omega
 have h3:0 < a*b:=Int.mul_pos (by omega) (by omega);have e:hl a b=a*b:=if_neg h2;have H:=hid e;clear e;go_in;go_wp2;go_ret;exact⟨by rw[H.o];rfl,rfl⟩
