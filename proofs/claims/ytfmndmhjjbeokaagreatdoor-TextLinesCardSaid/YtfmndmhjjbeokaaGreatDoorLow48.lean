import Derived.Test.YtfmndmhjjbeokaaGreatDoorLow47
import Derived.Test.YtfmndmhjjbeokaaGreatDoorLow30
import Derived.Test.YtfmndmhjjbeokaaGreatDoorLow35
import Derived.Test.YtfmndmhjjbeokaaGreatDoorLow39
import Derived.Test.YtfmndmhjjbeokaaGreatDoorLow14
namespace Go.Proofs.YtfmndmhjjbeokaaGreatDoor
open Tab Txt
set_option linter.unusedSimpArgs false
set_option linter.unusedVariables false
theorem lineD_of {c:Cft} {s:List UInt8} (h:lineS c s=none):lineD c s=none:=by unfold lineD;rw [h]
theorem badQ_none (c:Cft) (j:Nat):lineD c (badL j)=none:=by
 apply lineD_of
 match j with
 | 0 =>
  show lineS c [110,111,110,115,101,110,115,101]=none
  unfold lineS
  rw [if_neg (by decide),if_neg (by decide),if_neg (by decide),if_neg (by decide)]
 | 1 =>
  show lineS c [112,97,114,116]=none
  unfold lineS
  rw [if_neg (by decide),if_pos (by decide),show behindT (isB 32) [112,97,114,116]=[] by decide]
  rfl
 | 2 =>
  show lineS c [99,104,97,110,32,97,32,98]=none
  unfold lineS
  rw [if_neg (by decide),if_neg (by decide),if_pos (by decide),show behindT (isB 32) [99,104,97,110,32,97,32,98]=[32,97,32,98] by decide]
  have e:chanS (namesP c.P) [32,97,32,98]=none:=by
   unfold chanS
   rw [show takeB 32 [32,97,32,98]=some [97,32,98] by rfl,Option.bind_some]
   unfold knownS
   rw [show aheadT (isB 32) [97,32,98]=[97] by decide,show behindT (isB 32) [97,32,98]=[32,98] by decide]
   by_cases h:findF (namesP c.P) [97] < 0
   ·rw [if_pos h];rfl
   ·rw [if_neg h,Option.bind_some]
    dsimp only
    rw [show takeB 32 [32,98]=some [98] by rfl,Option.bind_some,show aheadT (isB 32) [98]=[98] by decide,show behindT (isB 32) [98]=[] by decide]
    by_cases h2:findF (namesP c.P) [98] < 0
    ·rw [if_pos h2];rfl
    ·rw [if_neg h2,Option.bind_some];rfl
  rw [e]
  rfl
 | 3 =>
  show lineS c [116,97,98,108,101,32,120]=none
  unfold lineS
  rw [if_neg (by decide),if_neg (by decide),if_neg (by decide),if_pos (by decide),show behindT (isB 32) [116,97,98,108,101,32,120]=[32,120] by decide]
  rfl
 | j+4 =>
  show lineS c [32]=none
  unfold lineS
  rw [if_neg (by decide),if_neg (by decide),if_neg (by decide),if_neg (by decide)]
theorem linesQ_take:∀ (l:List (List UInt8)) (i:Nat) (c d:Cft),linesQ i c l=.inr d→∀ k,k≤l.length→∃ c',∀ rest,linesQ i c (l.take k++rest)=linesQ (i+k) c' rest
 | l,i,c,d,h,0,_=>⟨c,fun rest=>by simp⟩
 | [],_,_,_,_,k+1,hk=>by simp at hk
 | x::l,i,c,d,h,k+1,hk=>by
  rw [linesQ_cons] at h
  cases e:lineD c x with
  | none=>rw [e] at h;cases h
  | some c1 =>
   rw [e] at h
   obtain ⟨c',h1⟩:=linesQ_take l (i+1) c1 d h k (by simpa using hk)
   refine ⟨c',fun rest=>?_⟩
   rw [List.take_succ_cons,List.cons_append,linesQ_cons,e]
   show linesQ (i+1) c1 (l.take k++rest)=_
   rw [h1 rest,show i+(k+1)=i+1+k by omega]
theorem badQ_free (j:Nat):(10:UInt8) ∉ badL j∧(badL j).length≤8:=by
 match j with
 | 0=>decide
 | 1=>decide
 | 2=>decide
 | 3=>decide
 | j+4=>show (10:UInt8) ∉ [32]∧[32].length≤8;decide
theorem textT_app (a b:List (List UInt8)):textT (a++b)=textT a++textT b:=by unfold textT;rw [List.flatMap_append]
theorem parse_bad {l:List (List UInt8)} {d:Cft} (h10:∀ x∈l,(10:UInt8) ∉ x) (h:linesP 0 cft0 (l++[[]])=.inr d) (hl:(textT l).length≤16300) (j k:Nat) (hk:k≤l.length) :
  parseQ (textT (l.take k)++((badL j++[10])++textT (l.drop k)))=(12,((k+1:Nat):Int),cft0):=by
 have e:textT (l.take k)++((badL j++[10])++textT (l.drop k))=textT (l.take k++badL j::l.drop k):=by
  rw [textT_app]
  rfl
 have hlen:(textT (l.take k++badL j::l.drop k)).length≤16384:=by
  rw [← e]
  have h1:textT l=textT (l.take k)++textT (l.drop k):=by rw [← textT_app,List.take_append_drop]
  have h2:=congrArg List.length h1
  have h3:=(badQ_free j).2
  simp only [List.length_append,List.length_cons,List.length_nil] at h2 ⊢
  omega
 have hsp:splitF 10 (textT (l.take k++badL j::l.drop k))=l.take k++badL j::(l.drop k++[[]]):=by
  rw [split_text]
  ·simp
  ·intro x hx
   rcases List.mem_append.1 hx with hx | hx
   ·exact h10 x (List.mem_of_mem_take hx)
   ·rcases List.mem_cons.1 hx with rfl | hx
    ·exact (badQ_free j).1
    ·exact h10 x (List.mem_of_mem_drop hx)
 obtain ⟨c',hc⟩:=linesQ_take (l++[[]]) 0 cft0 d (linesQ_at _ _ _ _ h) k (by rw [List.length_append];omega)
 have hc2:=hc (badL j::(l.drop k++[[]]))
 rw [List.take_append_of_le_length hk,linesQ_cons,badQ_none] at hc2
 rw [e]
 unfold parseQ
 rw [if_neg (by omega),hsp,hc2]
 dsimp only
 rw [Nat.zero_add]
def allT (l:List (List UInt8)) (b:List UInt8) (k i:Nat):List UInt8:=if i≤k then textT (l.take i) else textT (l.take k)++(b++textT ((l.drop k).take (i - k)))
theorem textT_one (x:List UInt8):textT [x]=x++[10]:=by simp [textT]
theorem allT_at {l:List (List UInt8)} {b:List UInt8} {k:Nat} {x:List UInt8} (hx:l[k]? = some x):allT l b k k++b++(x++[10])=allT l b k (k+1):=by
 have hlt:=(List.getElem?_eq_some_iff.1 hx).1
 unfold allT
 rw [if_pos (Nat.le_refl _),if_neg (by omega),show k+1 - k=1 by omega]
 have e:(l.drop k).take 1=[x]:=by
  have h:(l.drop k)[0]? = some x:=by rw [List.getElem?_drop];exact hx
  cases hd:l.drop k with
  | nil=>rw [hd] at h;cases h
  | cons y r=>rw [hd] at h;injection h with h;rw [h];rfl
 rw [e,textT_one,List.append_assoc]
theorem allT_last {l:List (List UInt8)} {b:List UInt8} {k:Nat} (hk:k=l.length):allT l b k k++b=allT l b k (k+1):=by
 unfold allT
 rw [if_pos (Nat.le_refl _),if_neg (by omega),List.drop_of_length_le (by omega)]
 simp [textT]
theorem allT_next {l:List (List UInt8)} {b:List UInt8} {k i:Nat} {x:List UInt8} (hx:l[i]? = some x) (hi:i≠k):allT l b k i++(x++[10])=allT l b k (i+1):=by
 unfold allT
 by_cases h:i≤k
 ·rw [if_pos h,if_pos (by omega),List.take_add_one,hx,Option.toList_some,textT_app,textT_one]
 ·rw [if_neg h,if_neg (by omega),show i+1 - k=(i - k)+1 by omega,List.take_add_one,List.getElem?_drop,show k+(i - k)=i by omega,hx,Option.toList_some,textT_app,textT_one]
  simp only [List.append_assoc]
theorem allT_end {l:List (List UInt8)} {b:List UInt8} {k:Nat} (hk:k < l.length):allT l b k l.length=allT l b k (l.length+1):=by
 unfold allT
 have e1:(l.drop k).take (l.length - k)=l.drop k:=List.take_of_length_le (by rw [List.length_drop];exact Nat.le_refl _)
 have e2:(l.drop k).take (l.length+1 - k)=l.drop k:=List.take_of_length_le (by rw [List.length_drop];omega)
 rw [if_neg (by omega),if_neg (by omega),e1,e2]
theorem allT_all {l:List (List UInt8)} {b:List UInt8} {k:Nat} (hk:k≤l.length):allT l b k (l.length+1)=textT (l.take k)++(b++textT (l.drop k)):=by
 unfold allT
 have e2:(l.drop k).take (l.length+1 - k)=l.drop k:=List.take_of_length_le (by rw [List.length_drop];omega)
 rw [if_neg (by omega),e2]
theorem textT_take_len (l:List (List UInt8)) (k:Nat):(textT (l.take k)).length≤(textT l).length:=by
 have h:textT l=textT (l.take k)++textT (l.drop k):=by rw [← textT_app,List.take_append_drop]
 rw [h,List.length_append]
 omega
theorem allT_len {l:List (List UInt8)} {b:List UInt8} (k i:Nat):(allT l b k i).length≤(textT l).length+b.length+(textT l).length:=by
 unfold allT
 split
 ·have:=textT_take_len l i;omega
 ·have h1:=textT_take_len l k
  have h2:=textT_take_len (l.drop k) (i - k)
  have h3:(textT (l.drop k)).length≤(textT l).length:=by
   have h:textT l=textT (l.take k)++textT (l.drop k):=by rw [← textT_app,List.take_append_drop]
   rw [h,List.length_append]
   omega
  simp only [List.length_append]
  omega
theorem five_of_rem (z:Int):∃ j:Nat,j < 5∧(z.tmod 5+5).tmod 5=(j:Int)∧-4≤z.tmod 5∧z.tmod 5≤4:=by
 have h1:-4≤z.tmod 5∧z.tmod 5≤4:=by
  rcases Int.le_total 0 z with h | h
  ·rw [Int.tmod_eq_emod_of_nonneg h];omega
  ·have e:z.tmod 5=-((-z) % 5):=by
    rw [← Int.tmod_eq_emod_of_nonneg (a:=-z) (by omega),Int.neg_tmod,Int.neg_neg]
   rw [e]
   omega
 have e2:(z.tmod 5+5).tmod 5=(z.tmod 5+5) % 5:=Int.tmod_eq_emod_of_nonneg (by omega)
 refine ⟨((z.tmod 5+5) % 5).toNat,by omega,by rw [e2];omega,h1⟩
theorem lines_len (P:List Pq) (C:List ChV) (T:List F):(linesT P C T).length=P.length+C.length+T.length:=by
 unfold linesT
 simp only [List.length_append,List.length_map]
 omega
end Go.Proofs.YtfmndmhjjbeokaaGreatDoor
namespace Go.Proofs.YtfmndmhjjbeokaaGreatDoor
set_option maxRecDepth 100000
open Go.RowKit Tab Txt
set_option linter.unusedSimpArgs false
set_option linter.unusedVariables false
theorem elStU:Elt 39 9 1 16 (.string ⟨#[]⟩):=⟨Tryz.underlying39,by kernel_rfl,rfl,by omega⟩
theorem run_makeSt (m:Nat) (hm:m≤1048576) (W:World):(Instr.makeSlice 39 (.int .i64 (m:Int)) (.int .i64 (m:Int))).run Tryz.prog W=.ok (.slice (some ⟨W.heap.size,0,none⟩) m m) (W.alloc (.cells (madeCells #[.string ⟨#[]⟩] m) 9)):=by
 obtain ⟨i,hi,hz,hs,hby⟩:=info_parts elStU.hi
 have hr:=run_make (P:=Tryz.prog) W 39 9 i _ elStU.ht hi hz .i64 .i64 m m (by omega) (by omega) (by rw [hby];omega) (by omega)
 rw [hs] at hr
 simp only [Int.toNat_natCast,Nat.mul_one] at hr
 exact hr
theorem made_strs (n:Nat):(madeCells #[Value.string ⟨#[]⟩] n).toList=List.replicate n (.string ⟨#[]⟩):=by
 apply List.ext_getElem?
 intro i
 rw [Array.getElem?_toList]
 rcases Nat.lt_or_ge i n with h | h
 ·have h1:=made_get (Value.string ⟨#[]⟩) n i h
  rw [h1,List.getElem?_replicate,if_pos h]
 ·rw [Array.getElem?_eq_none (by simp [size_madeCells];omega),List.getElem?_eq_none (by simp;omega)]
def stRow (L:List (List UInt8)) (n i:Nat):List Value:=(L.take i).flatMap sc++List.replicate (n - i) (.string ⟨#[]⟩)
theorem stRow_0 (L:List (List UInt8)) (n:Nat):stRow L n 0=List.replicate n (.string ⟨#[]⟩):=by simp [stRow]
theorem stRow_all {L:List (List UInt8)} {n:Nat} (h:L.length=n):stRow L n n=L.flatMap sc:=by
 unfold stRow
 rw [List.take_of_length_le (by omega),Nat.sub_self]
 simp
theorem sc_flen (L:List (List UInt8)):(L.flatMap sc).length=L.length:=by rw [flat_sc,List.length_map]
theorem stRow_set {L:List (List UInt8)} {n i:Nat} {x:List UInt8} (hi:i < n) (hx:L[i]? = some x):(stRow L n i).set i (.string (bsOf x))=stRow L n (i+1):=by
 have hlt:=(List.getElem?_eq_some_iff.1 hx).1
 unfold stRow
 have hl:((L.take i).flatMap sc).length=i:=by rw [sc_flen,List.length_take];omega
 rw [List.set_append_right _ _ (by omega),hl,Nat.sub_self]
 obtain ⟨k,hk⟩:∃ k,n - i=k+1:=⟨n - i - 1,by omega⟩
 rw [hk,show n - (i+1)=k by omega,List.replicate_succ,List.set_cons_zero,List.take_add_one,hx]
 simp [sc]
def kidT (nm:Int→List UInt8):F→List (List UInt8)
 | .nil=>[]
 | .cons x k r=>txN nm x (txX nm k false)::kidT nm r
theorem kidT_len (nm:Int→List UInt8):∀ f:F,(kidT nm f).length=f.cnt
 | .nil=>rfl
 | .cons x k r=>by simp [kidT,F.cnt,kidT_len nm r]
theorem kidT_join (nm:Int→List UInt8):∀ f:F,txX nm f false=joinB 44 (kidT nm f)
 | .nil=>rfl
 | .cons x k .nil=>by
  show ([]:List UInt8)++(txN nm x (txX nm k false)++txX nm .nil true)=txN nm x (txX nm k false)
  simp [txX]
 | .cons x k (.cons y k2 r)=>by
  have ih:=kidT_join nm (.cons y k2 r)
  show ([]:List UInt8)++(txN nm x (txX nm k false)++txX nm (.cons y k2 r) true)=txN nm x (txX nm k false)++44::joinB 44 (kidT nm (.cons y k2 r))
  rw [← ih,txX_comma,List.nil_append]
theorem kidT_dr (nm:Int→List UInt8):∀ (f:F) (i:Nat) (y:Nd) (k r:F),F.dr i f=.cons y k r→(kidT nm f)[i]? = some (txN nm y (txX nm k false))
 | .nil,i,y,k,r,h=>by cases i <;> simp [F.dr] at h
 | .cons x k' r',0,y,k,r,h=>by
  have h:F.cons x k' r'=.cons y k r:=h
  injection h with h1 h2 h3
  rw [h1,h2]
  rfl
 | .cons x k' r',i+1,y,k,r,h=>by
  have:=kidT_dr nm r' i y k r h
  show (txN nm x (txX nm k' false)::kidT nm r')[i+1]? = _
  rw [List.getElem?_cons_succ]
  exact this
def SplX (t:List UInt8) (q:Nat) (w:World) (e:Ending) (w':World):Prop:=e=.returned (.tuple #[.string (bsOf t),.int .i64 (q:Int)])∧Below w.heap.size w w'
set_option maxHeartbeats 4000000 in
theorem tspelt_any (A:Option Addr) (n cap:Nat) (l:List Nd) (hc:n≤cap) (hn:n≤1048576) (AN:Option Addr) (nn cn:Nat) (L:List (List UInt8)) (hL:∀ s∈L,s.length≤64) (M:Nat):∀ (p:Nat) (x:Nd) (k r:F) (t:List Nd) (w:World),k.sz < M→RdN w w.heap.size A n l→(F.cons x k r).ok→l.drop p=(F.cons x k r).flat++t →
  RdB sc w w.heap.size AN nn L→(∀ y∈l,y.k=1→y.p < nn)→TabW w →
  Calls Tryz.prog 64 #[.slice A n cap,.int .i64 p,.slice AN nn cn] w (SplX (txN (nmP L) x (txX (nmP L) k false)) (p+1+k.sz) w):=by
 induction M with
 | zero=>intro p x k r t w h;omega
 | succ M ih =>
  intro p x k r t w hM h hok hl hN hpp htb
  obtain ⟨hk,hfit,hd,hx⟩:=kids_at hok hl
  have hlen:=h.len
  rw [hlen] at hfit
  have hm:k.cnt≤n:=by have:=F.cnt_le_sz k;omega
  have HPD:=Lib.hid fun j hj=>pos_dr hok.2.2.1 hd (by omega) j hj
  have hkok:=Lib.hid hok.2.2.1
  have hkn:k.cnt=kn x:=hok.2.1
  have HFX:=Lib.hid hok.1
  have HXM:=Lib.hid (List.mem_of_getElem? hx)
  have hin64:∀ y∈k.flat,In64 y.n:=fun y hy=>(h.bd y (List.mem_of_mem_drop (i:=p+1) (by rw [hd];exact List.mem_append_left _ hy))).2.2
  have HTL:=Lib.hid (tx_len (nmP_len hL) k hin64 false)
  have HKZ:=Lib.hid (show k.sz≤1048576 by omega)
  have HFIT:=Lib.hid hfit
  obtain ⟨ad,x0,rfl,had,hx0,hxi,k0,k1,k2⟩:=h.at_ (i:=p) (by omega)
  obtain rfl:x0=x:=by rw [hx] at hx0;injection hx0 with h;exact h.symm
  have HXI:=Lib.hid hxi
  have hpn:p < n:=by omega
  have HIH:=Lib.hid ih
  have HH:=Lib.hid h
  have HNB:=Lib.hid hN
  have HPP:=Lib.hid hpp
  have HTB:=Lib.hid htb
  have HD:=Lib.hid hd
  have HMM:=Lib.hid hM
  have HKN:=Lib.hid hkn
  obtain ⟨xk,xp,xn⟩:=x0
  dsimp only at k0 k1 k2 HXI HFX HXM
  have hbl:=bl1 w (.cells #[.int .i64 xk,.int .i64 xp,.int .i64 xn] 54)
  have hf:∀ o v,(#[Value.int .i64 xk,.int .i64 xp,.int .i64 xn]:Array Value)[o]? = some v→(w.alloc (.cells #[.int .i64 xk,.int .i64 xp,.int .i64 xn] 54)).cell? ⟨w.heap.size,o,none⟩=some v:=fun o v hv=>(World.cell?_alloc_mark _ _ _ _ _).trans hv
  have hgw:w.heap.size < (w.alloc (.cells #[.int .i64 xk,.int .i64 xp,.int .i64 xn] 54)).heap.size:=by simp
  obtain ⟨TX,hTX⟩:∃ T,T=txX (nmP L) k false:=⟨_,rfl⟩
  obtain ⟨RES,hRES⟩:∃ T,T=txN (nmP L) ⟨xk,xp,xn⟩ TX:=⟨_,rfl⟩
  rw [← hTX] at HTL ⊢
  rw [← hRES]
  have HTX:=Lib.hid hTX
  have HRES:=Lib.hid hRES
  obtain ⟨p1,hp1⟩:∃ p1,p1=p+1:=⟨_,rfl⟩
  have e1:(p:Int)+1=(p1:Int):=by omega
  have e2:IntKind.i64.wrap (p1:Int)=(p1:Int):=by rw [IntKind.wrap_i64];omega
  have HP1:=Lib.hid hp1
  rw [← hp1] at hd HD HPD ⊢
  have hfx:=HFX.out
  have h1n:=fine_one hfx
  dsimp only at h1n
  obtain ⟨N,hNn⟩:∃ N:Nat,xn=(N:Int):=⟨xn.toNat,by omega⟩
  have hN63:N≤9223372036854775807:=by have:=hxi.2.2.2;dsimp only at this;omega
  have hnl:=num_len_le 19 N (by omega)
  clear hk hl hd hx hlen hok ih h hN hpp hin64 hxi hx0 hTX hRES htb hp1 hM hkn
  subst hNn
  have hres:=HRES.out
  unfold txN at hres
  dsimp only at hres
  have HRS:=Lib.hid hres
  unfold fine at hfx
  simp only [Bool.and_eq_true,decide_eq_true_eq] at hfx
  have hfx2:=hfx.2
  clear hres hfx HRES HFX h1n
  have HB0:=Lib.hid hbl
  have HNMK:Hid (∀ V,Below w.heap.size w V→TabW V):=Lib.hid fun V hv=>HTB.out.on hv
  try dsimp only at hfx2
  go_enter Tryz.func64,Tryz.ntmps64
  go_upto_region 3 with fail
  have hHFC:∀ V,Below (w.alloc (.cells #[.int .i64 xk,.int .i64 xp,.int .i64 (N:Int)] 54)).heap.size (w.alloc (.cells #[.int .i64 xk,.int .i64 xp,.int .i64 (N:Int)] 54)) V→∀ o v,(#[Value.int .i64 xk,.int .i64 xp,.int .i64 (N:Int)]:Array Value)[o]? = some v→V.cell? ⟨w.heap.size,o,none⟩=some v:=fun V hv o v hq=>(hv.cell (p:=⟨w.heap.size,o,none⟩) hgw).trans (hf o v hq)
  have HFC:=Lib.hid hHFC
  generalize w.alloc (.cells #[.int .i64 xk,.int .i64 xp,.int .i64 (N:Int)] 54)=w0 at HFC HB0 ⊢
  have f0:=HFC.out w0 (Below.refl _ _) 0 _ rfl
  have f1:=HFC.out w0 (Below.refl _ _) 1 _ rfl
  have f2:=HFC.out w0 (Below.refl _ _) 2 _ rfl
  have hsz:∀ {f:F},f.cnt=0→f.sz=0:=fun h=>by rw [F.cnt_zero h];rfl
  clear hHFC hbl hf hgw k0 k1 k2
  have HNQ:Hid (∀ V,Below w0.heap.size w0 V→Calls Tryz.prog 58 #[.int .i64 (N:Int)] V (fun e w'=>e=.returned (.string (bsOf (numB N)))∧Below w0.heap.size w0 w')):=Lib.hid fun V hv=>(tnuml_any N hN63 V (HNMK.out V (HB0.out.trans (hv.mono HB0.out.size)))).mono fun e w' ⟨h1,h2⟩=>⟨h1,hv.trans (h2.mono hv.size)⟩
  split at hfx2
  ·rename_i e1'
   subst e1'
   have hpq:=of_decide_eq_true hfx2
   have hpn2:=HPP.out _ HXM.out rfl
   dsimp only at hpn2
   obtain ⟨pn,hpe⟩:∃ q:Nat,xp=(q:Int):=⟨xp.toNat,by omega⟩
   subst hpe
   obtain ⟨adn,nx,rfl,hadn,hnx,c0,ck⟩:=(HNB.out.on HB0.out).at_ sc_len (by omega) (show pn < nn by omega)
   have c0:=c0 _ rfl
   rw [Nat.mul_one] at c0
   have hnm:nmP L (pn:Int)=nx:=nmP_get (by omega) hnx
   have hnl2:nx.length≤64:=hL _ (List.mem_of_getElem? hnx)
   have HR2:Hid (RES=119::(nx++58::numB N)):=Lib.hid (by have h:=HRS.out;rw [if_pos rfl,hnm] at h;exact h)
   obtain ⟨u1,hu1⟩:∃ t,t=[119]++nx:=⟨_,rfl⟩
   have lu1:u1.length≤104857800*2:=by rw [hu1,List.length_append];have q1:([119]:List UInt8).length≤2:=(by decide);have q2:(nx:List UInt8).length≤64:=hnl2;omega
   have haddu1:∀ W,(Op.stringOp .add ⟨#[119]⟩ (bsOf nx)).run Tryz.prog W=.ok (.string (bsOf u1)) W:=by
    rw [hu1]
    exact sadd ([119]) (nx) (by rw [← List.length_append,← hu1];omega)
   obtain ⟨u2,hu2⟩:∃ t,t=u1++[58]:=⟨_,rfl⟩
   have lu2:u2.length≤104857800*3:=by rw [hu2,List.length_append];have q1:(u1:List UInt8).length≤104857800*2:=lu1;have q2:([58]:List UInt8).length≤2:=(by decide);omega
   have haddu2:∀ W,(Op.stringOp .add (bsOf u1) ⟨#[58]⟩).run Tryz.prog W=.ok (.string (bsOf u2)) W:=by
    rw [hu2]
    exact sadd (u1) ([58]) (by rw [← List.length_append,← hu2];omega)
   obtain ⟨u3,hu3⟩:∃ t,t=u2++numB N:=⟨_,rfl⟩
   have lu3:u3.length≤104857800*4:=by rw [hu3,List.length_append];have q1:(u2:List UInt8).length≤104857800*3:=lu2;have q2:(numB N:List UInt8).length≤20:=hnl;omega
   have haddu3:∀ W,(Op.stringOp .add (bsOf u2) (bsOf (numB N))).run Tryz.prog W=.ok (.string (bsOf u3)) W:=by
    rw [hu3]
    exact sadd (u2) (numB N) (by rw [← List.length_append,← hu3];omega)
   have HU1:=Lib.hid hu1
   have HU2:=Lib.hid hu2
   have HU3:=Lib.hid hu3
   have HRU:Hid (RES=u3):=Lib.hid (by rw [HR2.out,HU3.out,HU2.out,HU1.out];simp)
   clear hu1 lu1 hu2 lu2 hu3 lu3
   have hpi:pn < nn:=by omega
   have HK0:Hid (p1+k.sz=p1):=Lib.hid (by rw [hsz (show k.cnt=0 from HKN.out)];rfl)
   have hadl:(adn.add pn).block < w0.heap.size:=by rw [add_block];exact hadn
   have HNR:Hid (∀ V,Below w0.heap.size w0 V→Calls Tryz.prog 58 #[.int .i64 (N:Int)] V (fun e w'=>e=.returned (.string (bsOf (numB N)))∧Below w0.heap.size w0 w'∧w'.cell? ⟨w.heap.size,1,none⟩=some (.int .i64 (pn:Int))∧w'.cell? ⟨w.heap.size,2,none⟩=some (.int .i64 (N:Int))∧w'.cell? (adn.add pn)=some (.string (bsOf nx)))):=Lib.hid fun V hv=>(HNQ.out V hv).mono fun e w' ⟨h1,h2⟩=>⟨h1,h2,HFC.out w' h2 1 _ rfl,HFC.out w' h2 2 _ rfl,(h2.cell hadl).trans c0⟩
   clear hfx2 hpq hpn2 hnx ck hnm HRS HNQ hnl2
   go_wp2_with fail
   go_region_with (go_at_call 58;refine (HNR.out _ (by first | exact Below.refl _ _ | exact (Below.refl _ _).drew | exact Below.drewN (Below.refl _ _) _)).mono ?_;rintro e w6 ⟨rfl,hb6,v0,v1,v2⟩)
   all_goals
    have HB6:=Lib.hid hb6
    clear hb6 v0 v1 v2 f0 f1 f2 c0
    go_wp2_with fail
    go_ret2
    rw [HRU.out,HK0.out]
    exact ⟨rfl,HB0.out.trans (HB6.out.mono HB0.out.size)⟩
  ·rename_i e1'
   have q1:(xk == 1)=false:=beq_eq_false_iff_ne.2 e1'
   split at hfx2
   ·rename_i e2'
    rcases e2' with e2' | e2'
    ·subst e2'
     have HR2:Hid (RES=105::numB N):=Lib.hid (by have h:=HRS.out;rw [if_neg (by decide),if_pos rfl] at h;exact h)
     obtain ⟨u1,hu1⟩:∃ t,t=[105]++numB N:=⟨_,rfl⟩
     have lu1:u1.length≤104857800*2:=by rw [hu1,List.length_append];have q1:([105]:List UInt8).length≤2:=(by decide);have q2:(numB N:List UInt8).length≤20:=hnl;omega
     have haddu1:∀ W,(Op.stringOp .add ⟨#[105]⟩ (bsOf (numB N))).run Tryz.prog W=.ok (.string (bsOf u1)) W:=by
      rw [hu1]
      exact sadd ([105]) (numB N) (by rw [← List.length_append,← hu1];omega)
     have HU1:=Lib.hid hu1
     have HRU:Hid (RES=u1):=Lib.hid (by rw [HR2.out,HU1.out];simp)
     clear hu1 lu1
     have HK0:Hid (p1+k.sz=p1):=Lib.hid (by rw [hsz (show k.cnt=0 from HKN.out)];rfl)
     clear hfx2 HRS e1' q1
     go_wp2_with fail
     refine (HNQ.out _ (Below.refl _ _)).mono ?_
     rintro e w7 ⟨rfl,hb7⟩
     go_wp2_with fail
     go_ret2
     rw [HRU.out,HK0.out]
     exact ⟨rfl,HB0.out.trans (hb7.mono HB0.out.size)⟩
    ·subst e2'
     have HR2:Hid (RES=114::(numB N++40::(TX++[41]))):=Lib.hid (by have h:=HRS.out;rw [if_neg (by decide),if_neg (by decide),if_neg (by decide)] at h;exact h)
     have hk1:k.cnt=1:=HKN.out
     obtain ⟨y,ky,r',ed⟩:∃ y ky r',k=.cons y ky r':=by
      cases k with
      | nil=>cases hk1
      | cons y ky r'=>exact ⟨y,ky,r',rfl⟩
     have hr0:r'=.nil:=F.cnt_zero (by rw [ed] at hk1;simp only [F.cnt] at hk1;omega)
     rw [hr0] at ed
     have htl:TX.length≤104857600:=by have:=HTL.out;have:=HKZ.out;omega
     have hTC:TX=txN (nmP L) y (txX (nmP L) ky false):=by rw [HTX.out,ed];simp [txX]
     have hky:ky.sz < M:=by have:=HMM.out;rw [ed] at this;simp only [F.sz] at this;omega
     have hkq:p1+1+ky.sz=p1+k.sz:=by rw [ed];simp only [F.sz];omega
     have HIC:=Lib.hid (HIH.out p1 y ky .nil _ w0 hky (HH.out.on HB0.out) (by rw [← ed];exact hkok.out) (by rw [HD.out,ed]) (HNB.out.on HB0.out) HPP.out (HNMK.out _ HB0.out))
     rw [← hTC,hkq] at HIC
     clear hTC hky hkq ed hr0 hk1
     obtain ⟨u1,hu1⟩:∃ t,t=[114]++numB N:=⟨_,rfl⟩
     have lu1:u1.length≤104857800*2:=by rw [hu1,List.length_append];have q1:([114]:List UInt8).length≤2:=(by decide);have q2:(numB N:List UInt8).length≤20:=hnl;omega
     have haddu1:∀ W,(Op.stringOp .add ⟨#[114]⟩ (bsOf (numB N))).run Tryz.prog W=.ok (.string (bsOf u1)) W:=by
      rw [hu1]
      exact sadd ([114]) (numB N) (by rw [← List.length_append,← hu1];omega)
     obtain ⟨u2,hu2⟩:∃ t,t=u1++[40]:=⟨_,rfl⟩
     have lu2:u2.length≤104857800*3:=by rw [hu2,List.length_append];have q1:(u1:List UInt8).length≤104857800*2:=lu1;have q2:([40]:List UInt8).length≤2:=(by decide);omega
     have haddu2:∀ W,(Op.stringOp .add (bsOf u1) ⟨#[40]⟩).run Tryz.prog W=.ok (.string (bsOf u2)) W:=by
      rw [hu2]
      exact sadd (u1) ([40]) (by rw [← List.length_append,← hu2];omega)
     obtain ⟨u3,hu3⟩:∃ t,t=u2++TX:=⟨_,rfl⟩
     have lu3:u3.length≤104857800*4:=by rw [hu3,List.length_append];have q1:(u2:List UInt8).length≤104857800*3:=lu2;have q2:(TX:List UInt8).length≤104857600:=htl;omega
     have haddu3:∀ W,(Op.stringOp .add (bsOf u2) (bsOf TX)).run Tryz.prog W=.ok (.string (bsOf u3)) W:=by
      rw [hu3]
      exact sadd (u2) (TX) (by rw [← List.length_append,← hu3];omega)
     obtain ⟨u4,hu4⟩:∃ t,t=u3++[41]:=⟨_,rfl⟩
     have lu4:u4.length≤104857800*5:=by rw [hu4,List.length_append];have q1:(u3:List UInt8).length≤104857800*4:=lu3;have q2:([41]:List UInt8).length≤2:=(by decide);omega
     have haddu4:∀ W,(Op.stringOp .add (bsOf u3) ⟨#[41]⟩).run Tryz.prog W=.ok (.string (bsOf u4)) W:=by
      rw [hu4]
      exact sadd (u3) ([41]) (by rw [← List.length_append,← hu4];omega)
     have HU1:=Lib.hid hu1
     have HU2:=Lib.hid hu2
     have HU3:=Lib.hid hu3
     have HU4:=Lib.hid hu4
     have HRU:Hid (RES=u4):=Lib.hid (by rw [HR2.out,HU4.out,HU3.out,HU2.out,HU1.out];simp)
     clear hu1 lu1 hu2 lu2 hu3 lu3 hu4 lu4
     clear hfx2 HRS e1' q1 htl
     go_wp2_with fail
     refine HIC.out.mono ?_
     rintro e w7 ⟨rfl,hb7⟩
     have g2:=HFC.out w7 hb7 2 _ rfl
     have HB7:=Lib.hid hb7
     clear hb7 f0 f1 f2
     go_wp2_with fail
     refine (HNQ.out _ HB7.out).mono ?_
     rintro e w8 ⟨rfl,hb8⟩
     go_wp2_with fail
     go_ret2
     rw [HRU.out]
     exact ⟨rfl,HB0.out.trans (hb8.mono HB0.out.size)⟩
   ·rename_i e2'
    have q2:(xk == 2)=false:=beq_eq_false_iff_ne.2 fun e=>e2' (.inl e)
    have q4:(xk == 4)=false:=beq_eq_false_iff_ne.2 fun e=>e2' (.inr e)
    split at hfx2
    ·rename_i e3'
     subst e3'
     have hN:=(of_decide_eq_true hfx2).2
     have hkc:k.cnt=N:=by rw [HKN.out];show (if (3:Int)=3 then ((N:Int)).toNat else _)=N;rw [if_pos rfl];omega
     have HR2:Hid (RES=115::40::(TX++[41])):=Lib.hid (by have h:=HRS.out;rw [if_neg (by decide),if_neg (by decide),if_pos rfl] at h;exact h)
     have htl:TX.length≤104857600:=by have:=HTL.out;have:=HKZ.out;omega
     have HHTL:=Lib.hid htl
     have hmk:=run_makeSt N (by omega) w0
     have hbm:=bl1 w0 (.cells (madeCells #[.string ⟨#[]⟩] N) 9)
     have hom:=ownV_lit w0 9 1 w0.heap.size (madeCells #[.string ⟨#[]⟩] N) N (by simp [size_madeCells]) (Nat.le_refl _) (by unfold maxLen;omega)
     rw [made_strs] at hom
     have HBM:=Lib.hid hbm
     have HOM:=Lib.hid hom
     have HKC:=Lib.hid hkc
     have HKT:=Lib.hid (kidT_join (nmP L) k)
     have HKL:Hid ((kidT (nmP L) k).length=N):=Lib.hid (by rw [kidT_len];exact hkc)
     have HDR:=Lib.hid (kidT_dr (nmP L) k)
     have hN128:N≤128:=by omega
     rw [← HTX.out] at HKT
     clear hfx2 HRS hbm hom hN hkc
     go_wp2_with fail
     generalize hwm:w0.alloc (.cells (madeCells #[.string ⟨#[]⟩] N) 9)=wm at HBM HOM ⊢
     go_loopw [1,12,65] (fun a _ s wr=>∃ i:Nat,i≤N∧a=.int .i64 (pos l p1 i:Nat)∧s=.int .i64 i∧OwnV 9 1 wr w0.heap.size (some ⟨w0.heap.size,0,none⟩) N N (stRow (kidT (nmP L) k) N i)∧Below w0.heap.size w0 wr) (fun _ _ s _=>N - (intOf s).toNat)
     case atStart=>exact ⟨0,by omega,rfl,rfl,by rw [stRow_0];exact HOM.out,HBM.out⟩
     case round =>
      obtain ⟨i,hi,rfl,rfl,ho,hb⟩:=hrel
      have HO:=Lib.hid ho
      have HB:=Lib.hid hb
      clear ho hb HOM HBM hwm
      by_cases hlt:i < N
      ·have hlti:(i:Int) < (N:Int):=by omega
       obtain ⟨hd,hsz1,hq1,hq2⟩:=HPD.out i (by have:=HKC.out;omega)
       obtain ⟨hd3,hsz3,hq3,hq4⟩:=HPD.out (i+1) (by have:=HKC.out;omega)
       obtain ⟨y,ky,r',ed⟩:=dr_cons (f:=k) (j:=i) (by have:=HKC.out;omega)
       have hok':=dr_ok hkok.out i
       have ed2:=dr_succ ed
       have hkt:=HDR.out i y ky r' ed
       rw [ed] at hd hsz1 hok'
       rw [ed2] at hsz3
       simp only [F.sz] at hsz1
       have hky:ky.sz < M:=by have:=HMM.out;omega
       have hnx:pos l p1 i+1+ky.sz=pos l p1 (i+1):=by omega
       have k1:=HB0.out.trans (HB.out.mono HB0.out.size)
       have HIC:=Lib.hid (HIH.out (pos l p1 i) y ky r' _ wr hky (HH.out.on k1) hok' hd (HNB.out.on k1) HPP.out (HNMK.out _ k1))
       rw [hnx] at HIC
       have HKTI:=Lib.hid hkt
       generalize txN (nmP L) y (txX (nmP L) ky false)=CT at HIC HKTI
       have hps:pos l p1 (i+1)≤1048576:=by have:=HH.out.len;omega
       generalize pos l p1 i=P at HIC hd hsz1 hq1 hq2 ⊢
       have HPS:=Lib.hid hps
       clear hd hsz1 hq1 hq2 hd3 hsz3 hq3 hq4 ed ed2 hok' hky hnx k1 hkt hps
       go_wp2_with fail
       refine HIC.out.mono ?_
       rintro e w4 ⟨rfl,hb4⟩
       have ho4:=OwnV.below HO.out rfl hb4
       have hb5:=HB.out.trans (hb4.mono HB.out.size)
       obtain ⟨z0,c1⟩:∃ v,w4.cell? ⟨w0.heap.size,i,none⟩=some v:=⟨_,(World.ownsRow.cellAt ho4 i (by omega)).trans (List.getElem?_eq_getElem (by rw [ho4.1];omega))⟩
       have c2:=World.ownsRow.frozenAt ho4 i
       have HO5:Hid (OwnV 9 1 (w4.setCell ⟨w0.heap.size,i,none⟩ (.string (bsOf CT))) w0.heap.size (some ⟨w0.heap.size,0,none⟩) N N (stRow (kidT (nmP L) k) N (i+1))):=Lib.hid (by rw [← stRow_set hlt HKTI.out];exact OwnV.set ho4 i _ (by rw [ho4.1];omega))
       have HB5:Hid (Below w0.heap.size w0 (w4.setCell ⟨w0.heap.size,i,none⟩ (.string (bsOf CT)))):=Lib.hid (hb5.setCell (p:=⟨w0.heap.size,i,none⟩) (Nat.le_refl _) _)
       clear ho4 hb5 hb4 HIC
       go_wp2_with fail
       go_roundw
       case rel=>exact ⟨i+1,by omega,rfl,by go_num,HO5.out,HB5.out⟩
       case measure=>simp [intOf];omega
      ·have hlti:¬ (i:Int) < (N:Int):=by omega
       obtain rfl:i=N:=by omega
       have hall:=stRow_all HKL.out
       have ho:=HO.out
       rw [hall] at ho
       obtain ⟨hd,hsz1,hq1,hq2⟩:=HPD.out i (by have:=HKC.out;omega)
       have e5:F.dr i k=.nil:=by rw [show i=k.cnt from HKC.out.symm];exact dr_all k
       rw [e5] at hsz1
       have HQ:Hid (pos l p1 i=p1+k.sz):=Lib.hid (by simpa [F.sz] using hsz1)
       have HJ:=Lib.hid (tjoin_any 44 ho HKL.out (by omega) (by rw [← HKT.out];have:=HHTL.out;omega))
       rw [← HKT.out] at HJ
       have htl:=HHTL.out
       clear hall ho hd hsz1 hq1 hq2 e5 HO
       obtain ⟨u1,hu1⟩:∃ t,t=[115,40]++TX:=⟨_,rfl⟩
       have lu1:u1.length≤104857800*2:=by rw [hu1,List.length_append];have q1:([115,40]:List UInt8).length≤2:=(by decide);have q2:(TX:List UInt8).length≤104857600:=htl;omega
       have haddu1:∀ W,(Op.stringOp .add ⟨#[115,40]⟩ (bsOf TX)).run Tryz.prog W=.ok (.string (bsOf u1)) W:=by
        rw [hu1]
        exact sadd ([115,40]) (TX) (by rw [← List.length_append,← hu1];omega)
       obtain ⟨u2,hu2⟩:∃ t,t=u1++[41]:=⟨_,rfl⟩
       have lu2:u2.length≤104857800*3:=by rw [hu2,List.length_append];have q1:(u1:List UInt8).length≤104857800*2:=lu1;have q2:([41]:List UInt8).length≤2:=(by decide);omega
       have haddu2:∀ W,(Op.stringOp .add (bsOf u1) ⟨#[41]⟩).run Tryz.prog W=.ok (.string (bsOf u2)) W:=by
        rw [hu2]
        exact sadd (u1) ([41]) (by rw [← List.length_append,← hu2];omega)
       have HU1:=Lib.hid hu1
       have HU2:=Lib.hid hu2
       have HRU:Hid (RES=u2):=Lib.hid (by rw [HR2.out,HU2.out,HU1.out];simp)
       clear hu1 lu1 hu2 lu2
       go_wp2_with fail
       refine HJ.out.mono ?_
       rintro e w7 ⟨rfl,hb7⟩
       go_wp2_with fail
       go_ret2
       rw [HRU.out,← HQ.out]
       exact ⟨rfl,HB0.out.trans ((HB.out.trans (hb7.mono HB.out.size)).mono HB0.out.size)⟩
    ·cases hfx2
end Go.Proofs.YtfmndmhjjbeokaaGreatDoor
namespace Go.Proofs.YtfmndmhjjbeokaaGreatDoor
set_option maxRecDepth 100000
open Go.RowKit Tab Txt
set_option linter.unusedSimpArgs false
set_option linter.unusedVariables false
set_option maxHeartbeats 400000 in
theorem ttxt_any (A:Option Addr) (n cap:Nat) (x:Nd) (k:F) (AN:Option Addr) (nn cn:Nat) (L:List (List UInt8)) (hL:∀ s∈L,s.length≤64) (w:World) (h:RdN w w.heap.size A n (x::k.flat)) (hc:n≤cap) (hn:n≤1048576) (hok:(F.cons x k .nil).ok) (hN:RdB sc w w.heap.size AN nn L) (hpp:∀ y∈x::k.flat,y.k=1→y.p < nn) (ht:TabW w) :
  Calls Tryz.prog 34 #[.slice A n cap,.slice AN nn cn] w (Ans (.string (bsOf (txN (nmP L) x (txX (nmP L) k false)))) w):=by
 have HC:=Lib.hid (tspelt_any A n cap (x::k.flat) hc hn AN nn cn L hL (k.sz+1) 0 x k .nil [] w (Nat.lt_succ_self _) h hok (by show x::k.flat=(x::(k.flat++[]))++[];simp) hN hpp ht)
 generalize txN (nmP L) x (txX (nmP L) k false)=T at HC ⊢
 generalize 0+1+k.sz=q at HC
 clear h hok hN hpp ht
 go_enter Tryz.func34,Tryz.ntmps34
 go_wp2_with fail
 refine HC.out.mono ?_
 rintro e w1 ⟨rfl,hb⟩
 go_wp2_with fail
 go_ret
 exact ⟨rfl,hb⟩
set_option maxHeartbeats 1000000 in
theorem tNode_tree (A:Option Addr) (n cap:Nat) (x:Nd) (k:F) (w:World) (h:RdN w w.heap.size A n (x::k.flat)) (hc:n≤cap) (hn:n≤1048576) (hok:(F.cons x k .nil).ok) (hr:Calls Tryz.prog 36 #[.slice A n cap] w (Ans (.int .i64 0) w)) (ht:TabW w) :
  Calls Tryz.prog 13 #[.slice A n cap] w (Ans (.string (bsOf (nodeT x k))) w):=by
 have H:=Lib.hid hr
 have HH:=Lib.hid h
 have HOK:=Lib.hid hok
 have HTB:=Lib.hid ht
 have HPP:Hid (∀ y∈x::k.flat,y.k=1→y.p < ((6:Nat):Int)):=Lib.hid fun y hy hk=>by
  have h1:=fine_mem (F.cons x k .nil) hok y (by rw [show (F.cons x k .nil).flat=x::(k.flat++[]) from rfl,List.append_nil];exact hy)
  unfold fine at h1
  rw [if_pos hk] at h1
  simp only [Bool.and_eq_true,decide_eq_true_eq] at h1
  omega
 clear h hr hok ht
 go_enter Tryz.func13,Tryz.ntmps13
 go_wp2_with fail
 refine H.out.mono ?_
 rintro e w1 ⟨rfl,hb1⟩
 have HB1:=Lib.hid hb1
 have hmk:(Instr.makeSlice 39 (.int .i64 6) (.int .i64 6)).run Tryz.prog w1=.ok (.slice (some ⟨w1.heap.size,0,none⟩) 6 6) (w1.alloc (.cells (madeCells #[.string ⟨#[]⟩] 6) 9)):=run_makeSt 6 (by omega) w1
 have hbm:=bl1 w1 (.cells (madeCells #[.string ⟨#[]⟩] 6) 9)
 have hom:=ownV_lit w1 9 1 w1.heap.size (madeCells #[.string ⟨#[]⟩] 6) 6 (by simp [size_madeCells]) (Nat.le_refl _) (by unfold maxLen;omega)
 rw [made_strs] at hom
 have HBM:=Lib.hid hbm
 have HOM:=Lib.hid hom
 clear hb1 hbm hom H
 go_wp2_with fail
 generalize w1.alloc (.cells (madeCells #[.string ⟨#[]⟩] 6) 9)=wm at HBM HOM ⊢
 go_loopw [4,11] (fun _ s wr=>∃ i:Nat,i≤6∧s=.int .i64 i∧OwnV 9 1 wr w1.heap.size (some ⟨w1.heap.size,0,none⟩) 6 6 (stRow num6 6 i)∧Below w1.heap.size w1 wr) (fun _ s _=>6 - (intOf s).toNat)
 case atStart=>exact ⟨0,by omega,rfl,by rw [stRow_0];exact HOM.out,HBM.out⟩
 case round =>
  obtain ⟨i,hi,rfl,ho,hb⟩:=hrel
  have HO:=Lib.hid ho
  have HB:=Lib.hid hb
  clear ho hb HOM HBM
  by_cases hlt:i < 6
  ·have hlti:(i:Int) < 6:=by omega
   have HNM:=Lib.hid (tnumi_any i (by omega) wr (HTB.out.on (HB1.out.trans (HB.out.mono HB1.out.size))))
   go_wp2_with fail
   refine HNM.out.mono ?_
   rintro e w4 ⟨rfl,hb4⟩
   have ho4:=OwnV.below HO.out rfl hb4
   have hb5:=HB.out.trans (hb4.mono HB.out.size)
   obtain ⟨z0,c1⟩:∃ v,w4.cell? ⟨w1.heap.size,i,none⟩=some v:=⟨_,(World.ownsRow.cellAt ho4 i (by omega)).trans (List.getElem?_eq_getElem (by rw [ho4.1];omega))⟩
   have c2:=World.ownsRow.frozenAt ho4 i
   have HO5:Hid (OwnV 9 1 (w4.setCell ⟨w1.heap.size,i,none⟩ (.string (bsOf (numB i)))) w1.heap.size (some ⟨w1.heap.size,0,none⟩) 6 6 (stRow num6 6 (i+1))):=Lib.hid (by rw [← stRow_set hlt (num6_get hlt)];exact OwnV.set ho4 i _ (by rw [ho4.1];omega))
   have HB5:Hid (Below w1.heap.size w1 (w4.setCell ⟨w1.heap.size,i,none⟩ (.string (bsOf (numB i))))):=Lib.hid (hb5.setCell (p:=⟨w1.heap.size,i,none⟩) (Nat.le_refl _) _)
   clear ho4 hb5 hb4 HNM
   go_wp2_with fail
   go_roundw
   case rel=>exact ⟨i+1,by omega,by go_num,HO5.out,HB5.out⟩
   case measure=>simp [intOf];omega
  ·have hlti:¬ (i:Int) < 6:=by omega
   obtain rfl:i=6:=by omega
   have ho:=HO.out
   rw [stRow_all (L:=num6) (n:=6) rfl] at ho
   have hB:=HB1.out.trans (HB.out.mono HB1.out.size)
   have HC:=Lib.hid (ttxt_any A n cap x k (some ⟨w1.heap.size,0,none⟩) 6 6 num6 num6_len wr (HH.out.on hB) hc hn HOK.out ⟨rfl,ho.rd⟩ HPP.out (HTB.out.on hB))
   have HBB:=Lib.hid hB
   clear ho hB
   go_wp2_with fail
   refine HC.out.mono ?_
   rintro e w3 ⟨rfl,hb3⟩
   go_wp2_with fail
   go_ret
   exact ⟨rfl,HBB.out.trans (hb3.mono HBB.out.size)⟩
end Go.Proofs.YtfmndmhjjbeokaaGreatDoor
