import Derived.Test.YtfmndmhjjbeokaaGreatDoorLow30
import Derived.Test.YtfmndmhjjbeokaaGreatDoorLow28
import Derived.Test.YtfmndmhjjbeokaaGreatDoorLow23
import Derived.Deep.Cut
import Derived.Test.YtfmndmhjjbeokaaGreatDoorLow6
namespace Go.Proofs.YtfmndmhjjbeokaaGreatDoor
set_option maxRecDepth 100000
open Go.RowKit Tab Txt
set_option linter.unusedSimpArgs false
set_option linter.unusedVariables false
theorem fine_mem:∀ (f:F),f.ok→∀ y∈f.flat,fine y=true
 | .nil,_,y,hy=>by simp [F.flat] at hy
 | .cons x k r,h,y,hy=>by
  obtain ⟨h1,_,h3,h4⟩:=h
  simp only [F.flat,List.mem_cons,List.mem_append] at hy
  rcases hy with rfl | hy | hy
  ·exact h1
  ·exact fine_mem k h3 y hy
  ·exact fine_mem r h4 y hy
def num6:List (List UInt8):=(List.range 6).map numB
theorem num6_get {i:Nat} (h:i < 6):num6[i]? = some (numB i):=by
 unfold num6
 rw [List.getElem?_map,List.getElem?_range h]
 rfl
theorem num6_len:∀ s∈num6,s.length≤64:=fun s hs=>by
 obtain ⟨i,hi,rfl⟩:=List.mem_map.1 hs
 have h1:=List.mem_range.1 hi
 rw [numB_low (by omega)]
 show 1≤64
 omega
def nodeT (x:Nd) (k:F):List UInt8:=txN (nmP num6) x (txX (nmP num6) k false)
end Go.Proofs.YtfmndmhjjbeokaaGreatDoor
namespace Go.Proofs.YtfmndmhjjbeokaaGreatDoor
open Go.RowKit Tab
set_option linter.unusedSimpArgs false
set_option linter.unusedVariables false
theorem flat_take {α:Type} {f:α→List Value} {s:Nat} (hf:∀ x,(f x).length=s) (l:List α) (k:Nat):(l.take k).flatMap f=(l.flatMap f).take (k*s):=by
 induction l generalizing k with
 | nil=>simp
 | cons x l ih =>
  cases k with
  | zero=>simp
  | succ k =>
   rw [List.take_succ_cons,List.flatMap_cons,List.flatMap_cons,ih,List.take_append,hf,Nat.succ_mul,List.take_of_length_le (l:=f x) (by rw [hf];omega)]
   congr 2
   omega
theorem RdV.take {w:World} {B:Nat} {A:Option Addr} {l:List Value} (h:RdV w B A l) (k:Nat):RdV w B A (l.take k):=fun hl=>by
 obtain ⟨ad,e,hb,hc⟩:=h (by rw [List.length_take] at hl;omega)
 refine ⟨ad,e,hb,fun j v hj=>hc j v ?_⟩
 rw [List.getElem?_take] at hj
 split at hj
 ·exact hj
 ·cases hj
theorem RdB.take {α:Type} {f:α→List Value} {s:Nat} {w:World} {B n k:Nat} {A:Option Addr} {l:List α} (h:RdB f w B A n l) (hf:∀ x,(f x).length=s) (hk:k≤n):RdB f w B A k (l.take k) :=
 ⟨by rw [List.length_take,h.len];omega,by rw [flat_take hf];exact h.rd.take _⟩
def fewX (x:Cf):Cf:=⟨x.A1,x.A2,x.A3,min x.n1 8,min x.n2 12,min x.n3 5,x.c1,x.c2,x.c3,x.P.take (min x.n1 8),x.C.take (min x.n2 12),x.T.take (min x.n3 5)⟩
theorem CfR.few {w:World} {x:Cf} (h:CfR w x):CfR w (fewX x):=by
 have k1:=h.k1
 have k2:=h.k2
 have k3:=h.k3
 have m1:=h.m1
 have m2:=h.m2
 have m3:=h.m3
 have z:=h.z
 exact ⟨h.pp.take pcq_len (Nat.min_le_left _ _),h.ch.take cc_len (Nat.min_le_left _ _),h.tb.take tcn_len (Nat.min_le_left _ _),fun y hy=>h.pt y (List.mem_of_mem_take hy),fun y hy=>h.tt y (List.mem_of_mem_take hy),by show min x.n1 8≤x.c1;omega,by show min x.n2 12≤x.c2;omega,by show min x.n3 5≤x.c3;omega,by show min x.n1 8≤_;omega,by show min x.n2 12≤_;omega,by show min x.n3 5≤_;omega,by have:=z.1;show min x.n1 8*104≤_;omega,by have:=z.2.1;show min x.n2 12*48≤_;omega,by have:=z.2.2.1;show min x.n3 5*24≤_;omega,fun y hy=>z.2.2.2.1 y (List.mem_of_mem_take hy),fun y hy=>z.2.2.2.2 y (List.mem_of_mem_take hy)⟩
end Go.Proofs.YtfmndmhjjbeokaaGreatDoor
namespace Go.Proofs.YtfmndmhjjbeokaaGreatDoor
open Go.RowKit Tab
set_option linter.unusedSimpArgs false
set_option linter.unusedVariables false
structure SmX (m:Nat) (x:Cf):Prop where
 p1:1≤x.n1
 p2:x.n1≤m
 c:x.n2≤m
 t:x.n3≤m
 pr:∀ y∈x.P,y.1.pn≤m
 nd:∀ y∈x.T,y.n≤1024+m
def OdV (m:Nat) (v:Value) (w:World):Prop:=∃ y,v=cfv y∧CfR w y∧SmX m y
theorem OdV.on {m:Nat} {v:Value} {w w':World} (h:OdV m v w) (hb:Below w.heap.size w w'):OdV m v w':=by
 obtain ⟨y,h1,h2,h3⟩:=h
 exact ⟨y,h1,h2.on hb,h3⟩
theorem In64.and (a:Int) (m:Nat) (hm:m < 9223372036854775808):In64 (bits .and .i64 a (m:Int)):=by
 obtain ⟨M,hM,hle⟩:=and_mask a m hm
 rw [hM]
 unfold In64
 omega
structure TapeC:Prop where
 cfg:∀ (A:Option Addr) (n cap:Nat) (f:Nat→Int) (w:World),RdC w w.heap.size A n (fun j=>.int .i64 (f j))→n≤140737488351232 →
  Calls Tryz.prog 8 #[.pointer (some ⟨w.heap.size,0,none⟩)] (w.alloc (.cells #[.slice A n cap,.int .i64 0] 26)) (fun e w'=>∃ y,e=.returned (cfv y)∧CfR w' y∧SmX 16 y∧Below w.heap.size w w')
end Go.Proofs.YtfmndmhjjbeokaaGreatDoor
