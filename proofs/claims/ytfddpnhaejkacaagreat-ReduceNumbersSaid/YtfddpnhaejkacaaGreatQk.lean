import Derived.Test.YtfddpnhaejkacaaGreatSn
import Derived.Test.YtfddpnhaejkacaaGreatSo
import Derived.Test.YtfddpnhaejkacaaGreatRv
import Derived.Test.YtfddpnhaejkacaaGreatRu
import Derived.Test.YtfddpnhaejkacaaGreatQp
import Derived.Test.YtfddpnhaejkacaaGreatCfg
import Derived.Test.YtfddpnhaejkacaaGreatLow8
set_option linter.unusedSimpArgs false
set_option linter.unusedVariables false
namespace Go.Proofs.YtfddpnhaejkacaaGreat
open Go.RowKit Tab
def Tpe (w0:World) (b:Nat) (A0:Option Addr) (n0 k0:Nat) (f0:Nat→Int) (w:World):Prop:=Only (fun k=>k=b) w0 w∧∃ at_,TapeW w b b A0 n0 k0 f0 at_
section
variable {w0 w w':World} {b:Nat} {A0:Option Addr} {n0 k0:Nat} {f0:Nat→Int}
theorem Tpe.bel (h:Tpe w0 b A0 n0 k0 f0 w) (hb:Below w.heap.size w w'):Tpe w0 b A0 n0 k0 f0 w':=by
 obtain⟨h1,at_,T⟩:=h
 exact⟨h1.trans (Only.bel hb),at_,T.below hb T.lt⟩
theorem Tpe.gb (h:Tpe w0 b A0 n0 k0 f0 w) (hg:w.grownBy w' (some b)) {at_:Nat} (T:TapeW w' b b A0 n0 k0 f0 at_):Tpe w0 b A0 n0 k0 f0 w':=⟨h.1.trans (Only.gb hg rfl),at_,T⟩
theorem Tpe.base (h:Tpe w0 b A0 n0 k0 f0 w) {B:Nat} (hB:B≤b) (hs:B≤w0.heap.size):Below B w0 w:=⟨h.1.os,h.1.tape,h.1.output,h.1.size,fun k hk=>h.1.block k (by omega) (by omega)⟩
theorem Only.celln {g o:Nat} {v:Value} (h:Only (fun k=>k=b) w w') (hg:g≠b) (hc:w.cell? ⟨g,o,none⟩=some v):w'.cell? ⟨g,o,none⟩=some v :=
 (World.cell?_of_block (h.block g (World.block_lt_of_cell? _ _ hc) hg)).trans hc
theorem Only.cella {p:Addr} {v:Value} (h:Only (fun k=>k=b) w w') (hg:p.block≠b) (hc:w.cell? p=some v):w'.cell? p=some v :=
 (World.cell?_of_block (h.block p.block (World.block_lt_of_cell? _ _ hc) hg)).trans hc
theorem Only.rdb {α:Type} {f:α→List Value} {n:Nat} {A:Option Addr} {l:List α} (h:Only (fun k=>k=b) w w') (hr:RdB f w w.heap.size A n l) (hA:∀ k,obk A=some k→k≠b):RdB f w' w'.heap.size A n l:=⟨hr.len,h.rdv (B:=0) hr.rd hA⟩
theorem Only.rdr {n:Nat} {A:Option Addr} {l:List Rn} (h:Only (fun k=>k=b) w w') (hr:RdR w w.heap.size A n l) (hA:∀ k,obk A=some k→k≠b):RdR w' w'.heap.size A n l:=⟨hr.len,h.rdv (B:=0) hr.rd hA⟩
theorem Only.rdn {n:Nat} {A:Option Addr} {l:List Nd} (h:Only (fun k=>k=b) w w') (hr:RdN w w.heap.size A n l) (hA:∀ k,obk A=some k→k≠b):RdN w' w'.heap.size A n l:=⟨hr.len,h.rdv (B:=0) hr.rd hA,hr.bd⟩
end
theorem RdN.takeN {w:World} {B n k:Nat} {A:Option Addr} {l:List Nd} (h:RdN w B A n l) (hk:k≤n):RdN w B A k (l.take k):=by
 refine⟨by rw[List.length_take,h.len];omega,fun h0=>?_,fun x hx=>h.bd x (List.mem_of_mem_take hx)⟩
 rw[ns_take] at h0 ⊢
 obtain⟨ad,e,hb,hc⟩:=h.rd (by rw[List.length_take] at h0;omega)
 refine⟨ad,e,hb,fun j v hj=>hc j v ?_⟩
 rw[List.getElem?_take] at hj
 split at hj
 ·exact hj
 ·cases hj
theorem ltable_raw (H:ReduceW 41) (A1 A2 A3 A:Option Addr) (n1 n2 n3 n c1 c2 c3 c:Nat) (P:List PtV) (C:List ChV) (t:List Nd) (w:World) (hCf:CfW w w.heap.size A1 A2 n1 n2 P C) (hT:RdN w w.heap.size A n t)
  (q1:n1≤6) (q1c:n1≤c1) (q2:n2≤1048576) (hc:n≤c) (hn:n≤1048576) (hz:∀ x∈P,In64 x.per) :
  Calls Tryz.prog 13 #[.agg #[.slice A1 n1 c1,.slice A2 n2 c2,.slice A3 n3 c3],.slice A n c] w (Ans (.bool true) w):=by
 obtain⟨z,X,h1,h2,h3⟩:=raw_of A n c t w hT hc hn
 exact ltable_any H A1 A2 A3 A n1 n2 n3 n c1 c2 c3 c P C t X z w hCf hT q1 q1c q2 hc hn hz h1 h2 h3
def TblT (w0:World) (b:Nat) (A0:Option Addr) (n0 k0:Nat) (f0:Nat→Int) (e:Ending) (w':World):Prop :=
 ∃(A:Option Addr) (n c:Nat) (l:List Nd),e=.returned (.slice A n c)∧RdN w' w'.heap.size A n l∧n≤c∧n≤1048576∧Tpe w0 b A0 n0 k0 f0 w'
theorem tblt_any {w0:World} {b:Nat} {A0:Option Addr} {n0 k0:Nat} {f0:Nat→Int} (hm:n0≤140737488351232) (n1:Nat) (h1:1≤n1) (h2:n1≤6) (w:World) (h:Tpe w0 b A0 n0 k0 f0 w) :
  Calls Tryz.prog 14 #[.pointer (some ⟨b,0,none⟩),.int .i64 (n1:Int),.int .i64 3] w (TblT w0 b A0 n0 k0 f0):=by
 obtain⟨ho,at_,T⟩:=h
 refine(table_any b b A0 n0 k0 f0 hm n1 h1 h2 3 at_ w (by omega) T).mono ?_
 rintro e w1 ⟨x,k,A',n',c',at',rfl,hok,hown,hsz,hdp,T1,G1⟩
 have hl:=hown.len
 rw[List.length_cons,F.flat_length] at hl
 have h5:5 ^ (3+1)=625:=by decide
 exact⟨A',n',c',_,rfl,hown.rdn,hown.cap,by omega,Tpe.gb ⟨ho,at_,T⟩ G1 T1⟩
theorem fair_frm {k:Nat} {L:List Rn} (hL:∀ r∈L,Fair k r) (hk:k≤6) (h1:1≤L.length) (h2:L.length≤96):Frm L L.length :=
 ⟨h1,h2,by have:=fair_ticks hL;omega,fun r hr=>by have:=hL r hr;unfold Fair at this;omega⟩
end Go.Proofs.YtfddpnhaejkacaaGreat
