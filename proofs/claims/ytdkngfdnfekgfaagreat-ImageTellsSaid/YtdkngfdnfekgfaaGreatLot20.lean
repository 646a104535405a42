import Derived.Test.YtdkngfdnfekgfaaGreatLot19
set_option maxHeartbeats 4000000
set_option maxRecDepth 100000
set_option linter.unusedSimpArgs false
set_option linter.unusedVariables false
namespace Go.Proofs.YtdkngfdnfekgfaaGreat
open Go.RowKit Tab
theorem rt_cases(n D T:Nat):(rt n D T=0∧n≤128∧D≤16∧T≤4096)∨¬ rt n D T=0:=by
 unfold rt;by_cases h1:128 < n
 ·rw[if_pos h1];exact .inr (by omega)
 by_cases h2:16 < D
 ·rw[if_neg h1,if_pos h2];exact .inr (by omega)
 by_cases h3:4096 < T
 ·rw[if_neg h1,if_neg h2,if_pos h3];exact .inr (by omega)
 rw[if_neg h1,if_neg h2,if_neg h3];exact .inl ⟨rfl,by omega,by omega,by omega⟩
theorem OwnV.gb{E s:Nat}{w w':World}{B n c b:Nat}{A:Option Addr}{l:List Value}(h:OwnV E s w B A n c l)(hg:w.grownBy w' (some b))(hb:b < B):OwnV E s w' B A n c l :=
 h.keep fun k hk hlt=>hg.block k hlt (fun e=>by injection e with e;omega)
theorem Cur.belowB{w w':World}{b B:Nat}{A:Option Addr}{n cap:Nat}{l:List Nd}{td:List Rn}{tk gn:Nat}(h:Cur w b A n cap l td tk gn)(hb:Below B w w')(hlt:b < B):Cur w' b A n cap l td tk gn:=by
 obtain⟨c,st,p,hB,r⟩:=h.ex;exact⟨⟨⟨h.tb.rd.len,h.tb.rd.rd.keep fun q hq=>World.cell?_of_block (hb.block q.block (by omega)),h.tb.rd.bd⟩,h.tb.cap,h.tb.hn⟩,⟨c,st,p,hB.keep (hb.block b hlt),r⟩,h.low,h.low0,h.sum,h.pos⟩
theorem pleaves_any(A:Option Addr)(n cap:Nat)(x:Nd)(k:F)(w:World)(h:RdN w w.heap.size A n (x::k.flat))(hc:n≤cap)(hok:(F.cons x k .nil).ok)(hn:n≤128)(hd:k.dep+1≤16)(hl:F.tick x k.len≤4096):
  Calls Tryz.prog 116 #[.slice A n cap] w (MadeR (one x k.lvs) w):=by
 have hN:=new_right A n cap x k w h hc hok hn hd hl;have hpos:∀ r∈one x k.lvs,1≤r.n:=fun r hr=>lvs_pos hok r (by simpa [F.lvs] using hr);have hlen:=length_le_ticks hpos;rw[one_ticks,lvs_ticks] at hlen;unfold Born at hN;generalize x::k.flat=l at hN h;generalize one x k.lvs=L at hN hlen ⊢;have hLen:L.length≤4096:=by omega
 have HN:=hid hN;clear hN hpos hlen hok h;go_enter Tryz.func116,Tryz.ntmps116;go_wp2_with fail;refine HN.out.mono ?_;rintro e w1⟨b,A2,n2,c2,rfl,hC,hbb,hb1⟩;have HC:=hid hC;have hblt:=hC.lt;clear hC HN;go_wp2_with fail;go_loopw [3] (fun q wr=>∃(i c' gn:Nat) (A':Option Addr),i≤L.length∧q=.slice A' i c'∧OwnV 114 2 wr w1.heap.size A' i c' (rs (L.take i))∧Cur wr b A2 n2 c2 l (L.drop i) 0 gn∧Below w.heap.size w wr∧w1.heap.size≤wr.heap.size) (fun q _=>L.length - lenOf q)
 case atStart=>exact⟨0,0,0,none,by omega,rfl,by simpa [rs] using OwnV.nil _ _ _ _,by simpa using HC.out,hb1,Nat.le_refl _⟩
 obtain⟨i,c',gn,A',hi,rfl,how,hC,hb,hsz⟩:=hrel;have HOW:=hid how;have HCC:=hid hC;clear how hC HC;by_cases hlt:i < L.length
 ·obtain⟨r,hr⟩:∃ r,L[i]? = some r:=⟨_,List.getElem?_eq_getElem hlt⟩;have hC:=HCC.out;rw[drop_more hr] at hC;have hnx:=next_some b A2 n2 c2 l r _ 0 gn wr hC;rw[Nat.sub_zero] at hnx;have htk:rs (L.take (i+1))=rs (L.take i)++rs [r]:=by
   obtain⟨hi',e⟩:=List.getElem?_eq_some_iff.1 hr;rw[List.take_succ_eq_append_getElem hi',rs_append,e]
  have HNX:=hid hnx;have HTK:=hid htk;clear hC hnx htk hr HCC;generalize hrp:r.p=rp at HNX;generalize hrn:r.n=rn at HNX;have hrs:rs [r]=[.int .i64 rp,.int .i64 (rn:Int)]:=by rw[← hrp,← hrn];rfl
  have HRS:=hid hrs;clear hrs hrp hrn;go_wp2_with fail;refine HNX.out.mono ?_;rintro e w4⟨rfl,hC4,hG4⟩;have how4:=HOW.out.gb hG4 hblt;have k4:=below_gb hb hG4 hbb hb.size;have HCC:=hid hC4;have hs4:=hG4.size;clear hC4 hG4 HOW HNX;have hl4:=bl1 w4 (.cells #[.int .i64 rp,.int .i64 (rn:Int)] 114);have how5:=how4.below rfl hl4;have k5:=k4.trans (hl4.mono k4.size);have hC5:=HCC.out.below hl4;have hs5:=hl4.size;have b0:(w4.alloc (.cells #[.int .i64 rp,.int .i64 (rn:Int)] 114)).cell? ⟨w4.heap.size,0,none⟩=some (.int .i64 rp):=World.cell?_alloc_mark _ _ _ _ _;have b1:(w4.alloc (.cells #[.int .i64 rp,.int .i64 (rn:Int)] 114)).cell? ⟨w4.heap.size,1,none⟩=some (.int .i64 (rn:Int)):=World.cell?_alloc_mark _ _ _ _ _;have HC5:=hid hC5;have HO5:=hid how5;have HK5:=hid k5;clear hC5 how5 k5 how4 k4 hl4 HCC;have hlit:=fun W:World=>bl1 W (.cells #[.int .i64 rp,.int .i64 (rn:Int)] 114);have HLIT:=hid hlit;have hrd:=rdV_new (w4.alloc (.cells #[.int .i64 rp,.int .i64 (rn:Int)] 114)) #[.int .i64 rp,.int .i64 (rn:Int)] 114 (rs [r]) HRS.out.symm;have how6:=HO5.out.below rfl (HLIT.out (w4.alloc (.cells #[.int .i64 rp,.int .i64 (rn:Int)] 114)));have hB6:=(HLIT.out (w4.alloc (.cells #[.int .i64 rp,.int .i64 (rn:Int)] 114))).size;rw[show (w4.alloc (.cells #[.int .i64 rp,.int .i64 (rn:Int)] 114)).heap.size=w4.heap.size+1 by simp] at hrd;clear hlit;go_wp2_with (at_builtin;go_loud (refine wpList_appV elR rfl (.tmp 17) (.tmp 19) rfl rfl w1.heap.size A' i c' _ rfl how6 _ 1 1 _ _ rfl hrd rfl (rs_one _) (by omega) (by unfold maxLen;omega) (by omega) (i+1) rfl (rs (L.take (i+1))) HTK.out.symm ?_;intro A2 c2 w2 hw2 hb2 _));go_roundw
  case rel =>
   have k6:=HK5.out.trans ((HLIT.out _).mono HK5.out.size);exact⟨i+1,c2,_,A2,by omega,rfl,hw2,((HC5.out.below (HLIT.out _)).belowB hb2 hblt),k6.trans (hb2.mono hb1.size),by have:=hb2.size;omega⟩
  simp[lenOf];omega
 have e:L.drop i=[]:=List.drop_eq_nil_of_le (by omega);have e2:L.take i=L:=List.take_of_length_le (by omega);have hC:=HCC.out;rw[e] at hC;have how:=HOW.out;rw[e2] at how;have HOW2:=hid how;have hi2:i=L.length:=by omega
 have hnx:=next_end b A2 n2 c2 l 0 gn wr hC;have HNX:=hid hnx;clear e e2 hC how HOW HCC hnx;subst hi2;generalize hq:L.length=q at *;have HQ:=hid hq;clear hq;go_wp2_with fail;refine HNX.out.mono ?_;rintro e w4⟨rfl,hb4⟩;go_wp2_with fail;go_ret;have hl4:=bl1 w4 (.cells #[.int .i64 0,.int .i64 0] 114);have hb5:=hb4.trans (hl4.mono hb4.size);have how5:=HOW2.out.below rfl hb5;exact⟨A',c',by rw[HQ.out];rfl,by rw[HQ.out];exact how5.rdr,by rw[HQ.out];exact how5.cap,hb.trans (hb5.mono hb.size),(how5.weak hb1.size).newer⟩
def OfR(T:List Rn)(w:World)(e:Ending)(w':World):Prop :=
 if 96 < T.length then Ans (.tuple #[.slice none 0 0,.int .i64 3]) w e w' else
  ∃ A c,e=.returned (.tuple #[.slice A T.length c,.int .i64 0])∧RdR w' w'.heap.size A T.length T∧T.length≤c∧Below w.heap.size w w'∧∀ ad,A=some ad→w.heap.size≤ad.block
theorem of_wrong(A:Option Addr)(n cap:Nat)(w:World)(R:Int)(hR:Calls Tryz.prog 114 #[.slice A n cap] w (Ans (.int .i64 R) w))(h:¬ R=0):
  Calls Tryz.prog 100 #[.slice A n cap] w (Ans (.tuple #[.slice none 0 0,.int .i64 R]) w):=by
 have HR:=hid hR;have hne:(R != 0)=true:=bne_iff_ne.2 h;have hne2:(R == 0)=false:=beq_eq_false_iff_ne.2 h;clear hR;go_enter Tryz.func100,Tryz.ntmps100;go_wp2_with fail;refine HR.out.mono ?_;rintro e w1⟨rfl,hb1⟩;go_wp2_with fail;go_ret2;exact⟨rfl,hb1⟩
theorem of_tree(A:Option Addr)(n cap:Nat)(x:Nd)(k:F)(w:World)(h:RdN w w.heap.size A n (x::k.flat))(hc:n≤cap)(hok:(F.cons x k .nil).ok)(hn:n≤128)(hd:k.dep+1≤16)(hl:F.tick x k.len≤4096)
  (hR:Calls Tryz.prog 114 #[.slice A n cap] w (Ans (.int .i64 0) w)) :
  Calls Tryz.prog 100 #[.slice A n cap] w (OfR (tidy (one x k.lvs)) w):=by
 have hpos:∀ r∈one x k.lvs,1≤r.n:=fun r hr=>lvs_pos hok r (by simpa [F.lvs] using hr)
 have hlen:=length_le_ticks hpos
 have htk:ticks (one x k.lvs)≤4096:=by rw[one_ticks,lvs_ticks];exact hl
 have HL:=hid fun w' (h':RdN w' w'.heap.size A n (x::k.flat))=>pleaves_any A n cap x k w' h' hc hok hn hd hl
 generalize one x k.lvs=L at HL hlen htk ⊢
 have HT:=hid fun A2 c2 w2 (hr2:RdR w2 w2.heap.size A2 L.length L) (hc2:L.length≤c2)=>tidy_any A2 L.length c2 L w2 hr2 hc2 (by omega) (by omega)
 generalize tidy L=T at HT ⊢
 generalize x::k.flat=l at h HL
 unfold MadeR at HL HT
 have HR:=hid hR
 clear hR hpos hok
 go_enter Tryz.func100,Tryz.ntmps100
 go_wp2_with fail
 refine HR.out.mono ?_
 rintro e w1⟨rfl,hb1⟩
 go_wp2_with fail
 refine(HL.out w1 (h.on hb1)).mono ?_
 rintro e w2⟨A2,c2,rfl,hr2,hc2,hb2,_⟩
 have k2:=hb1.trans (hb2.mono hb1.size)
 have HT2:=hid (HT.out A2 c2 w2 hr2 hc2)
 clear HT hr2 HL HR hb1 hb2
 generalize L.length=q at hc2 HT2 ⊢
 go_wp2_with fail
 refine HT2.out.mono ?_
 rintro e w3⟨A3,c3,rfl,hr3,hc3,hb3,hnw⟩
 have k3:=k2.trans (hb3.mono k2.size)
 have HW:=hid fun ad e=>Nat.le_trans k2.size (hnw ad e)
 clear hnw
 by_cases h96:96 < T.length
 ·have H96:=hid h96
  have h96':(96:Int) < (T.length:Int):=by omega
  generalize T.length=m at h96' hc3 hr3 ⊢
  clear HT2 h96
  go_wp2_with fail
  go_ret2
  unfold OfR
  rw[if_pos H96.out]
  exact⟨rfl,k3⟩
 ·have H96:=hid h96
  have h96':¬ (96:Int) < (T.length:Int):=by omega
  have HR3:=hid hr3
  clear hr3 HT2 h96
  generalize hm:T.length=m at h96' hc3 HR3 ⊢
  have HM:=hid hm
  clear hm
  go_wp2_with fail
  go_ret2
  unfold OfR
  rw[if_neg H96.out]
  exact⟨A3,c3,by rw[HM.out];rfl,by rw[HM.out];exact HR3.out,by rw[HM.out];exact hc3,k3,HW.out⟩
end Go.Proofs.YtdkngfdnfekgfaaGreat
