import Derived.Test.YtfmndmhjjbeokaaGreatDoorLow25
import Derived.Test.YtfmndmhjjbeokaaGreatDoorLow5
import Derived.Test.YtfmndmhjjbeokaaGreatDoorLow29
import Derived.Test.YtfmndmhjjbeokaaGreatDoorLow12
import Derived.Test.YtfmndmhjjbeokaaGreatDoorLow21
import Derived.Test.YtfmndmhjjbeokaaGreatDoorLow4
namespace Go.Proofs.YtfmndmhjjbeokaaGreatDoor
set_option maxRecDepth 100000
open Go.RowKit Tab Txt
set_option linter.unusedSimpArgs false
set_option linter.unusedVariables false
theorem elS:Elt 39 9 1 16 (.string ⟨#[]⟩):=⟨Tryz.underlying39,by kernel_rfl,rfl,by omega⟩
theorem sc_one (l:List (List UInt8)):∀ u∈l.flatMap sc,u.oneCell'=true:=by
 intro u hu
 obtain ⟨x,_,hx⟩:=List.mem_flatMap.1 hu
 obtain rfl:u=.string (bsOf x):=by simpa [sc] using hx
 rfl
theorem splitF_from {b:UInt8} {s:List UInt8} {a i:Nat} (hai:a≤i) (hno:∀ j,a≤j→j < i→∀ c,s[j]? = some c→c≠b) :
  (s[i]? = some b→splitF b (s.drop a)=((s.take i).drop a)::splitF b (s.drop (i+1)))∧(s.length≤i→splitF b (s.drop a)=[s.drop a]):=by
 have hx:b ∉ (s.take i).drop a:=fun hm=>by
  obtain ⟨k,hk⟩:=List.getElem?_of_mem hm
  have hlt:=(List.getElem?_eq_some_iff.1 hk).1
  rw [List.length_drop,List.length_take] at hlt
  rw [List.getElem?_drop,List.getElem?_take_of_lt (by omega)] at hk
  exact hno (a+k) (by omega) (by omega) b hk rfl
 constructor
 ·intro hi
  have hil:=(List.getElem?_eq_some_iff.1 hi).1
  have e:s.drop a=(s.take i).drop a++b::s.drop (i+1):=by
   have h1:s=s.take i++s.drop i:=(List.take_append_drop i s).symm
   have h2:s.drop i=b::s.drop (i+1):=by
    rw [List.drop_eq_getElem_cons hil]
    congr 1
    have:=List.getElem?_eq_getElem hil
    rw [hi] at this
    injection this with this
    exact this.symm
   have h3:s.drop a=(s.take i++s.drop i).drop a:=by rw [List.take_append_drop]
   rw [h3,List.drop_append_of_le_length (by rw [List.length_take];omega),h2]
  rw [e]
  exact split_at _ hx
 ·intro hl
  rw [List.take_of_length_le hl] at hx
  exact split_one hx
end Go.Proofs.YtfmndmhjjbeokaaGreatDoor
namespace Go.Proofs.YtfmndmhjjbeokaaGreatDoor
set_option maxRecDepth 100000
open Go.RowKit Tab Txt
set_option linter.unusedSimpArgs false
set_option linter.unusedVariables false
theorem num_20 {z:Int} (h:In64 z):(numB z.toNat).length≤20:=num_len_le 19 _ (by have:=h.2;omega)
theorem tx_len {nm:Int→List UInt8} (hnm:∀ p,(nm p).length≤64):∀ (f:F),(∀ y∈f.flat,In64 y.n)→∀ b,(txX nm f b).length≤f.sz*100
 | .nil,_,_=>by simp [txX]
 | .cons x k r,h,b=>by
  have h1:=tx_len hnm k (fun y hy=>h y (by simp [F.flat,hy])) false
  have h2:=tx_len hnm r (fun y hy=>h y (by simp [F.flat,hy])) true
  have h3:=num_20 (h x (by simp [F.flat]))
  have h4:=hnm x.p
  have h5:(txN nm x (txX nm k false)).length≤90+(txX nm k false).length:=by
   unfold txN
   split
   ·simp only [List.length_cons,List.length_append];omega
   ·split
    ·simp only [List.length_cons];omega
    ·split
     ·simp only [List.length_cons,List.length_append,List.length_nil];omega
     ·simp only [List.length_cons,List.length_append,List.length_nil];omega
  show ((if b=true then [44] else [])++(txN nm x (txX nm k false)++txX nm r true)).length≤(1+k.sz+r.sz)*100
  rw [List.length_append,List.length_append]
  have h6:(if b=true then ([44]:List UInt8) else []).length≤1:=by split <;> simp
  omega
theorem nmP_get {L:List (List UInt8)} {p:Int} (hp:0≤p) {x:List UInt8} (h:L[p.toNat]? = some x):nmP L p=x:=by
 unfold nmP
 rw [if_pos hp,List.getD_eq_getElem?_getD,h]
 rfl
theorem nmP_len {L:List (List UInt8)} (h:∀ s∈L,s.length≤64) (p:Int):(nmP L p).length≤64:=by
 unfold nmP
 split
 ·rw [List.getD_eq_getElem?_getD]
  cases e:L[p.toNat]? with
  | none=>show 0≤64;omega
  | some x=>exact h x (List.mem_of_getElem? e)
 ·show 0≤64;omega
end Go.Proofs.YtfmndmhjjbeokaaGreatDoor
namespace Go.Proofs.YtfmndmhjjbeokaaGreatDoor
set_option maxRecDepth 100000
open Go.RowKit Go.Sort Tab Txt
set_option linter.unusedSimpArgs false
set_option linter.unusedVariables false
def TabW (w:World):Prop:=Lib.TabIs Tryz.prog w tabN .u64 Lib.pow10Tab
theorem tab_num:Tryz.prog.globalNamed tabN=some 0:=by kernel_rfl
theorem TabW.on {w w':World} (h:TabW w) (hb:Below w.heap.size w w'):TabW w':=by
 unfold TabW Lib.TabIs World.var? at h ⊢
 rw [tab_num] at h ⊢
 simp only [Option.bind_some] at h ⊢
 have hlt:0 < w.heap.size:=by
  rcases Nat.lt_or_ge 0 w.heap.size with h' | h'
  ·exact h'
  ·rw [Array.getElem?_eq_none h'] at h;cases h
 rw [hb.block _ hlt]
 exact h
theorem dec_num (n:Nat):Lib.decDigits n=numB n:=by
 induction n using Nat.strongRecOn with
 | ind n ih =>
  rw [Lib.decDigits]
  rcases Nat.lt_or_ge n 10 with h | h
  ·rw [dif_pos h,numB_low h];rfl
  ·rw [dif_neg (by omega),numB_high h,ih (n / 10) (by omega)];rfl
theorem itoa_num (n:Nat):Lib.itoa (n:Int)=numB n:=by
 unfold Lib.itoa
 rw [if_neg (by omega),Int.toNat_natCast]
 exact dec_num n
theorem grown_below (w:World) (k:Nat) (os:Array Obj):Below w.heap.size w (grow (w.drewN k) os) :=
 ⟨rfl,rfl,rfl,by show w.heap.size≤(w.heap++os).size;rw [Array.size_append];omega,fun i hi=>by show (w.heap++os)[i]? = w.heap[i]?;rw [Array.getElem?_append_left hi]⟩
theorem tfmt_any (n:Nat) (hn:n≤9223372036854775807) (w:World) (h:TabW w):Calls Tryz.prog 72 #[.int .i64 (n:Int),.int .i64 10] w (Ans (.string (bsOf (numB n))) w) :=
 (Tryz.strconv_FormatInt_10 (n:Int) (by omega) (by omega) w h).mono fun e w' ⟨h1,k,os,h2⟩=>⟨by rw [h1,itoa_num];rfl,by rw [h2];exact grown_below w k os⟩
theorem tnumi_any (n:Nat) (hn:n≤9223372036854775807) (w:World) (h:TabW w):Calls Tryz.prog 37 #[.int .i64 (n:Int)] w (Ans (.string (bsOf (numB n))) w):=by
 have HF:=Lib.hid (tfmt_any n hn w h)
 generalize bsOf (numB n)=sv at HF ⊢
 go_enter Tryz.func37,Tryz.ntmps37
 go_wp2_with fail
 refine HF.out.mono ?_
 rintro e w1 ⟨rfl,hb⟩
 go_wp2_with fail
 go_ret
 exact ⟨rfl,hb⟩
theorem tnuml_any (n:Nat) (hn:n≤9223372036854775807) (w:World) (h:TabW w):Calls Tryz.prog 58 #[.int .i64 (n:Int)] w (Ans (.string (bsOf (numB n))) w):=by
 have HF:=Lib.hid (tfmt_any n hn w h)
 generalize bsOf (numB n)=sv at HF ⊢
 go_enter Tryz.func58,Tryz.ntmps58
 go_wp2_with fail
 refine HF.out.mono ?_
 rintro e w1 ⟨rfl,hb⟩
 go_wp2_with fail
 go_ret
 exact ⟨rfl,hb⟩
theorem tnumu_any (n:Nat) (hn:n≤4294967295) (w:World) (h:TabW w):Calls Tryz.prog 62 #[.int .u32 (n:Int)] w (Ans (.string (bsOf (numB n))) w):=by
 have HF:=Lib.hid (tfmt_any n (by omega) w h)
 generalize bsOf (numB n)=sv at HF ⊢
 have hw:IntKind.i64.wrap (n:Int)=(n:Int):=by rw [IntKind.wrap_i64];omega
 go_enter Tryz.func62,Tryz.ntmps62
 go_wp2_with fail
 refine HF.out.mono ?_
 rintro e w1 ⟨rfl,hb⟩
 go_wp2_with fail
 go_ret
 exact ⟨rfl,hb⟩
theorem join_inter (b:UInt8):∀ L:List (List UInt8),joinB b L=Lib.join L [b]
 | []=>rfl
 | [x]=>by rw [Lib.join_one];rfl
 | x::y::l=>by
  have ih:=join_inter b (y::l)
  rw [Lib.join_cons] at ih ⊢
  show x++b::joinB b (y::l)=_
  rw [ih]
  unfold Lib.joinTail
  simp
theorem flat_sc:∀ L:List (List UInt8),L.flatMap sc=L.map fun x=>Value.string (bsOf x)
 | []=>rfl
 | x::L=>by rw [List.flatMap_cons,flat_sc L];rfl
theorem tjoin_any {B g n c:Nat} {L:List (List UInt8)} {w:World} (b:UInt8) (h:OwnV 9 1 w B (some ⟨g,0,none⟩) n c (L.flatMap sc)) (hn:L.length=n) (hN:n≤1048576) (hlen:(joinB b L).length≤140737488355328) :
  Calls Tryz.prog 63 #[.slice (some ⟨g,0,none⟩) n c,.string (bsOf [b])] w (Ans (.string (bsOf (joinB b L))) w):=by
 have hc:∀ (j:Nat) (x:ByteArray),(L.map bsOf)[j]? = some x→w.cell? ⟨g,0+j,none⟩=some (.string x):=fun j x hx=>by
  rw [Nat.zero_add]
  rw [List.getElem?_map] at hx
  cases e:L[j]? with
  | none=>rw [e] at hx;cases hx
  | some y =>
   rw [e] at hx
   injection hx with hx
   have hlt:j < L.length:=(List.getElem?_eq_some_iff.1 e).1
   have h1:=World.ownsRow.cellAt h j (by omega)
   rw [h1,← hx,flat_sc,List.getElem?_map,e]
   rfl
 have hm:(L.map bsOf).map (·.data.toList)=L:=by
  rw [List.map_map]
  exact List.map_id'' (fun x=>toL_bsOf x) L
 have hj:=join_inter b L
 have:=Tryz.strings_Join g 0 c (L.map bsOf) (bsOf [b]) w hc (OwnV.obk_ge h (b:=g) rfl).2 (by rw [List.length_map];omega) (by rw [List.length_map,hn];exact OwnV.cap h) (by rw [hm];exact hj▸hlen)
 rw [hm,List.length_map,hn] at this
 refine this.mono fun e w' ⟨h1,h2⟩=>⟨?_,h2⟩
 rw [h1,hj]
 rfl
end Go.Proofs.YtfmndmhjjbeokaaGreatDoor
