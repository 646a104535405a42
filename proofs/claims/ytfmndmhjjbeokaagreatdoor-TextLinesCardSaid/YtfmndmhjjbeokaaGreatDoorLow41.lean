import Derived.Test.YtfmndmhjjbeokaaGreatDoorLow40
import Derived.Test.YtfmndmhjjbeokaaGreatDoorLow38
namespace Go.Proofs.YtfmndmhjjbeokaaGreatDoor
set_option maxRecDepth 100000
open Go.RowKit Tab Txt
set_option linter.unusedSimpArgs false
set_option linter.unusedVariables false
theorem chanP_eq (names:List (List UInt8)) (w0 w1 w2 w4 w5:List UInt8) (k:UInt8) (r:List UInt8):chanP names [w0,w1,w2,k::r,w4,w5] =
  if ((((decide (0≤findF names w1) && (decide (0≤findF names w2) && (decide (k=113) || decide (k::r=[115])))) && (if decide (k=113)=true then (valF lim40 r).2 else true)) && (valF lim32 w4).2) && (valF lim40 w5).2)=true then
   some ⟨findF names w1,findF names w2,decide (k=113),(if decide (k=113)=true then ((valF lim40 r).1:Int) else 0),((valF lim32 w4).1:Int),((valF lim40 w5).1:Int)⟩ else none:=by
 have e:chanP names [w0,w1,w2,k::r,w4,w5]=if (decide (0≤findF names w1) && (decide (0≤findF names w2) && ((valF lim32 w4).2 && (valF lim40 w5).2)))=true then
   (if k=113 then (if (valF lim40 r).2=true then some ⟨findF names w1,findF names w2,true,((valF lim40 r).1:Int),((valF lim32 w4).1:Int),((valF lim40 w5).1:Int)⟩ else none)
    else if k=115∧r=[] then some ⟨findF names w1,findF names w2,false,0,((valF lim32 w4).1:Int),((valF lim40 w5).1:Int)⟩ else none) else none:=rfl
 rw [e]
 clear e
 generalize decide (0≤findF names w1)=d1
 generalize decide (0≤findF names w2)=d2
 generalize (valF lim32 w4).2=d3
 generalize (valF lim40 w5).2=d4
 by_cases hk:k=113
 ·subst hk
  generalize (valF lim40 r).2=d5
  cases d1 <;> cases d2 <;> cases d3 <;> cases d4 <;> cases d5 <;> simp
 ·by_cases hs:k=115∧r=[]
  ·obtain ⟨rfl,rfl⟩:=hs
   cases d1 <;> cases d2 <;> cases d3 <;> cases d4 <;> simp
  ·have hs2:¬ (k::r=[115]):=fun e=>by injection e with a b;exact hs ⟨a,b⟩
   rw [decide_eq_false hk,decide_eq_false hs2,if_neg hk,if_neg hs]
   cases d1 <;> cases d2 <;> cases d3 <;> cases d4 <;> simp
structure PchW (W0:World) (L:List Value) (live:Nat→Bool) (a:Act) (w:World):Prop where
 on:Below W0.heap.size W0 w
 un:live 16=true→live 17=false→∃ g,a.eval (.tmp 6)=.pointer (some ⟨g,0,none⟩)∧W0.heap.size≤g∧OwnV 66 6 w W0.heap.size (some ⟨g,0,none⟩) 1 1 [.int .i64 0,.int .i64 0,.bool false,.int .i64 0,.int .u32 0,.int .i64 0]
 at_:live 17=true→∃ g,a.eval (.tmp 6)=.pointer (some ⟨g,0,none⟩)∧W0.heap.size≤g∧OwnV 66 6 w W0.heap.size (some ⟨g,0,none⟩) 1 1 L
theorem PchW.upd {W0:World} {L:List Value} {live:Nat→Bool} {a:Act} {w:World} (h:PchW W0 L live a w) (i:Nat) (d:Tmp) (v:Value) (hi:i≠16) (hj:i≠17) (hd:d≠6):PchW W0 L (Rgs.upd live i) (a.put (some d) v) w:=by
 have e:Rgs.upd live i 16=live 16:=by unfold Rgs.upd;simp [Ne.symm hi]
 have e2:Rgs.upd live i 17=live 17:=by unfold Rgs.upd;simp [Ne.symm hj]
 refine ⟨h.on,fun h1 h2=>?_,fun h1=>?_⟩
 ·rw [Reg.eval_other _ _ _ _ hd];exact h.un (e▸h1) (e2▸h2)
 ·rw [Reg.eval_other _ _ _ _ hd];exact h.at_ (e2▸h1)
end Go.Proofs.YtfmndmhjjbeokaaGreatDoor
namespace Go.Proofs.YtfmndmhjjbeokaaGreatDoor
set_option maxRecDepth 100000
open Go.RowKit Tab Txt
set_option linter.unusedSimpArgs false
set_option linter.unusedVariables false
def stripP (y:Pq):Pq:=(⟨y.1.name,y.1.bud,y.1.per,y.1.sched,y.1.stop,none,y.2.length,y.2.length,y.1.h0,y.1.h1,y.1.h2,y.1.h3,y.1.h4⟩,y.2)
theorem names_strip (P:List Pq):namesP (P.map stripP)=namesP P:=by
 unfold namesP
 rw [List.map_map]
 rfl
theorem num_read {z:Int} (h:0≤z) (m:Nat) (h2:z≤m):valF m (numB z.toNat)=(z.toNat,true):=valF_num (by omega)
theorem proc_read {q:Int×Int} (h:prcF q=true):procP (procT q)=some q:=by
 unfold prcF at h
 simp only [Bool.and_eq_true,decide_eq_true_eq] at h
 have e:splitF 58 (procT q)=[numB q.1.toNat,numB q.2.toNat]:=by
  unfold procT
  rw [split_at _ (num_ne (b:=58) (.inr (by decide))),split_one (num_ne (b:=58) (.inr (by decide)))]
 unfold procP
 rw [e]
 dsimp only
 rw [num_read (by omega) lim40 (by unfold lim40;omega),num_read (by omega) lim40 (by unfold lim40;omega)]
 refine (if_pos rfl).trans ?_
 obtain ⟨a,b⟩:=q
 dsimp only at h ⊢
 rw [Int.toNat_of_nonneg (by omega),Int.toNat_of_nonneg (by omega)]
theorem procs_read:∀ (l:List (Int×Int)),(∀ q∈l,prcF q=true)→procsP (l.map procT)=some l
 | [],_=>rfl
 | q::l,h=>by
  have h1:=proc_read (h q (by simp))
  have h2:=procs_read l fun x hx=>h x (by simp [hx])
  rw [List.map_cons]
  unfold procsP
  rw [h1,h2]
  rfl
theorem flag_read (a b:Bool):flagP (flagT a b)=some (a,b):=by cases a <;> cases b <;> rfl
theorem heal_num {z:Int} (h:0≤z∧z≤2):∃ c:UInt8,numB z.toNat=[c]∧c.toNat=48+z.toNat∧48≤c.toNat∧c.toNat≤50:=by
 rcases (by omega:z=0∨z=1∨z=2) with rfl | rfl | rfl
 ·exact ⟨48,by decide,by decide,by decide,by decide⟩
 ·exact ⟨49,by decide,by decide,by decide,by decide⟩
 ·exact ⟨50,by decide,by decide,by decide,by decide⟩
theorem heal_read {x:PtV} (h:∀ j,0≤hv5 x j∧hv5 x j≤2):healP (healT x)=some (x.h0,x.h1,x.h2,x.h3,x.h4):=by
 have i0:0≤x.h0∧x.h0≤2:=h 0
 have i1:0≤x.h1∧x.h1≤2:=h 1
 have i2:0≤x.h2∧x.h2≤2:=h 2
 have i3:0≤x.h3∧x.h3≤2:=h 3
 have i4:0≤x.h4∧x.h4≤2:=h 4
 obtain ⟨c0,e0,f0,a0⟩:=heal_num i0
 obtain ⟨c1,e1,f1,a1⟩:=heal_num i1
 obtain ⟨c2,e2,f2,a2⟩:=heal_num i2
 obtain ⟨c3,e3,f3,a3⟩:=heal_num i3
 obtain ⟨c4,e4,f4,a4⟩:=heal_num i4
 unfold healT
 rw [e0,e1,e2,e3,e4]
 show healP [c0,c1,c2,c3,c4]=_
 unfold healP
 dsimp only
 rw [decide_eq_true a0,decide_eq_true a1,decide_eq_true a2,decide_eq_true a3,decide_eq_true a4]
 refine (if_pos rfl).trans ?_
 have k0:(c0.toNat:Int) - 48=x.h0:=by omega
 have k1:(c1.toNat:Int) - 48=x.h1:=by omega
 have k2:(c2.toNat:Int) - 48=x.h2:=by omega
 have k3:(c3.toNat:Int) - 48=x.h3:=by omega
 have k4:(c4.toNat:Int) - 48=x.h4:=by omega
 rw [k0,k1,k2,k3,k4]
theorem proc_ne {q:Int×Int} {b:UInt8} (hb:b.toNat < 48):b ∉ procT q:=by
 unfold procT
 intro hm
 rcases List.mem_append.1 hm with h | h
 ·exact num_ne (.inl hb) h
 ·rcases List.mem_cons.1 h with h | h
  ·rw [h] at hb;exact absurd hb (by decide)
  ·exact num_ne (.inl hb) h
theorem part_read {y:Pq} (h:PrIn y) (hl:y.2≠[]):partP (partW y)=some (stripP y):=by
 have e1:splitF 44 (joinB 44 (y.2.map procT))=y.2.map procT:=split_join (by simpa using hl) fun w hw=>by
  obtain ⟨q,_,rfl⟩:=List.mem_map.1 hw
  exact proc_ne (by decide)
 unfold partW partP
 dsimp only
 rw [num_read h.bud.1 lim40 (by have:=h.bud;unfold lim40;omega),num_read h.per.1 lim40 (by have:=h.per;unfold lim40;omega),e1,procs_read _ h.pr,flag_read,heal_read h.hl]
 have hn:nameF (bsOf (toL y.1.name))=true:=h.name
 rw [hn]
 refine (if_pos rfl).trans ?_
 dsimp only
 rw [Int.toNat_of_nonneg h.bud.1,Int.toNat_of_nonneg h.per.1]
 rfl
theorem join_ne {b c:UInt8} (hbc:b≠c):∀ {l:List (List UInt8)},(∀ x∈l,b ∉ x)→b ∉ joinB c l
 | [],_=>by simp [joinB]
 | [x],h=>h x (by simp)
 | x::y::l,h=>by
  show b ∉ x++c::joinB c (y::l)
  intro hm
  rcases List.mem_append.1 hm with h1 | h1
  ·exact h x (by simp) h1
  ·rcases List.mem_cons.1 h1 with h2 | h2
   ·exact hbc h2
   ·exact join_ne hbc (fun z hz=>h z (List.mem_cons_of_mem _ hz)) h2
theorem part_ne {y:Pq} (h:PrIn y) {b:UInt8} (hb:b.toNat < 44):∀ w∈partW y,b ∉ w:=by
 have hb2:∀ c:UInt8,44≤c.toNat→b≠c:=fun c hc e=>by rw [e] at hb;omega
 intro w hw
 unfold partW at hw
 simp only [List.mem_cons,List.not_mem_nil,or_false] at hw
 rcases hw with rfl | rfl | rfl | rfl | rfl | rfl | rfl
 ·intro hm
  simp only [wPart,List.mem_cons,List.not_mem_nil,or_false] at hm
  rcases hm with h | h | h | h <;> exact hb2 _ (by decide) h
 ·exact name_ne h.name (.inl (by omega))
 ·exact num_ne (.inl (by omega))
 ·exact num_ne (.inl (by omega))
 ·intro hm
  have:∀ c∈flagT y.1.sched y.1.stop,44≤c.toNat:=by cases y.1.sched <;> cases y.1.stop <;> decide
  have:=this _ hm
  omega
 ·unfold healT
  intro hm
  simp only [List.mem_append] at hm
  rcases hm with h | h | h | h | h <;> exact num_ne (.inl (by omega)) h
 ·exact join_ne (hb2 44 (by decide)) fun w hw=>by
   obtain ⟨q,_,rfl⟩:=List.mem_map.1 hw
   exact proc_ne (by omega)
structure NmsR (N:List (List UInt8)):Prop where
 ok:∀ s∈N,∃ t,nameF t=true∧s=toL t
 one:∀ (i j:Nat) (s:List UInt8),i < j→N[i]? = some s→N[j]?≠some s
theorem NmsR.at_ {N:List (List UInt8)} (h:NmsR N) {p:Int} (hp:0≤p∧p < N.length):∃ t,nameF t=true∧nmP N p=toL t∧findF N (nmP N p)=p:=by
 have hlt:p.toNat < N.length:=by omega
 have e:=List.getElem?_eq_getElem hlt
 have hn:=nmP_get hp.1 e
 obtain ⟨t,h1,h2⟩:=h.ok _ (List.mem_of_getElem? e)
 refine ⟨t,h1,by rw [hn,h2],?_⟩
 rw [hn,findF_at e fun j hj he=>h.one j _ _ hj he e]
 omega
theorem NmsR.ne {N:List (List UInt8)} (h:NmsR N) {b:UInt8} (hb:b.toNat < 48) (p:Int):b ∉ nmP N p:=by
 unfold nmP
 split
 ·rw [List.getD_eq_getElem?_getD]
  cases e:N[p.toNat]? with
  | none=>simp
  | some s =>
   obtain ⟨t,h1,h2⟩:=h.ok _ (List.mem_of_getElem? e)
   rw [Option.getD_some,h2]
   exact name_ne h1 (.inl hb)
 ·simp
theorem chan_read {N:List (List UInt8)} (h:NmsR N) {x:ChV} (hx:PcIn N.length x):chanP N (chanW N x)=some x:=by
 obtain ⟨t1,_,_,k1⟩:=h.at_ hx.fr
 obtain ⟨t2,_,_,k2⟩:=h.at_ hx.tt
 have e4:valF lim32 (numB x.max.toNat)=(x.max.toNat,true):=num_read hx.max.1 lim32 (by have:=hx.max;unfold lim32;omega)
 have e5:valF lim40 (numB x.late.toNat)=(x.late.toNat,true):=num_read hx.late.1 lim40 (by have:=hx.late;unfold lim40;omega)
 have e3:valF lim40 (numB x.cap.toNat)=(x.cap.toNat,true):=num_read hx.cap.1 lim40 (by have:=hx.cap;unfold lim40;omega)
 unfold chanW
 cases hq:x.queue with
 | true =>
  rw [if_pos rfl,chanP_eq,k1,k2,e3,e4,e5,decide_eq_true hx.fr.1,decide_eq_true hx.tt.1]
  refine (if_pos rfl).trans ?_
  dsimp only
  rw [decide_eq_true (rfl:(113:UInt8)=113),if_pos rfl,Int.toNat_of_nonneg hx.cap.1,Int.toNat_of_nonneg hx.max.1,Int.toNat_of_nonneg hx.late.1,← hq]
 | false =>
  rw [if_neg (by decide),chanP_eq,k1,k2,e4,e5,decide_eq_true hx.fr.1,decide_eq_true hx.tt.1]
  refine (if_pos rfl).trans ?_
  dsimp only
  rw [decide_eq_false (show ¬ (115:UInt8)=113 by decide),if_neg (by decide),Int.toNat_of_nonneg hx.max.1,Int.toNat_of_nonneg hx.late.1,← hq,← hx.q hq]
theorem chan_ne {N:List (List UInt8)} (h:NmsR N) (x:ChV) {b:UInt8} (hb:b.toNat < 44):∀ w∈chanW N x,b ∉ w:=by
 have hb2:∀ c:UInt8,44≤c.toNat→b≠c:=fun c hc e=>by rw [e] at hb;omega
 intro w hw
 unfold chanW at hw
 simp only [List.mem_cons,List.not_mem_nil,or_false] at hw
 rcases hw with rfl | rfl | rfl | rfl | rfl | rfl
 ·intro hm
  simp only [wChan,List.mem_cons,List.not_mem_nil,or_false] at hm
  rcases hm with h | h | h | h <;> exact hb2 _ (by decide) h
 ·exact h.ne (by omega) _
 ·exact h.ne (by omega) _
 ·split
  ·intro hm
   rcases List.mem_cons.1 hm with h | h
   ·exact hb2 _ (by decide) h
   ·exact num_ne (.inl (by omega)) h
  ·intro hm
   simp only [List.mem_cons,List.not_mem_nil,or_false] at hm
   exact hb2 _ (by decide) hm
 ·exact num_ne (.inl (by omega))
 ·exact num_ne (.inl (by omega))
theorem tx_ne {nm:Int→List UInt8} {b:UInt8} (hb:b.toNat < 40) (hn:∀ p,b ∉ nm p):∀ (f:F) (c:Bool),b ∉ txX nm f c
 | .nil,_=>by simp [txX]
 | .cons x k r,c=>by
  have hb2:∀ c:UInt8,40≤c.toNat→b≠c:=fun c hc e=>by rw [e] at hb;omega
  have h1:=tx_ne hb hn k false
  have h2:=tx_ne hb hn r true
  have hnum:b ∉ numB x.n.toNat:=num_ne (.inl (by omega))
  have h3:b ∉ txN nm x (txX nm k false):=by
   unfold txN
   intro hm
   split at hm
   ·simp only [List.mem_cons,List.mem_append] at hm
    rcases hm with h | h | h | h
    ·exact hb2 _ (by decide) h
    ·exact hn _ h
    ·exact hb2 _ (by decide) h
    ·exact hnum h
   ·split at hm
    ·simp only [List.mem_cons] at hm
     rcases hm with h | h
     ·exact hb2 _ (by decide) h
     ·exact hnum h
    ·split at hm
     ·simp only [List.mem_cons,List.mem_append,List.not_mem_nil,or_false] at hm
      rcases hm with h | h | h | h
      ·exact hb2 _ (by decide) h
      ·exact hb2 _ (by decide) h
      ·exact h1 h
      ·exact hb2 _ (by decide) h
     ·simp only [List.mem_cons,List.mem_append,List.not_mem_nil,or_false] at hm
      rcases hm with h | h | h | h | h
      ·exact hb2 _ (by decide) h
      ·exact hnum h
      ·exact hb2 _ (by decide) h
      ·exact h1 h
      ·exact hb2 _ (by decide) h
  show b ∉ (if c=true then [44] else [])++(txN nm x (txX nm k false)++txX nm r true)
  intro hm
  rcases List.mem_append.1 hm with h | h
  ·split at h
   ·simp only [List.mem_cons,List.not_mem_nil,or_false] at h
    exact hb2 _ (by decide) h
   ·simp at h
  ·rcases List.mem_append.1 h with h | h
   ·exact h3 h
   ·exact h2 h
theorem tab_ne {N:List (List UInt8)} (h:NmsR N) (f:F) {b:UInt8} (hb:b.toNat < 40):∀ w∈tabW N f,b ∉ w:=by
 have hb2:∀ c:UInt8,40≤c.toNat→b≠c:=fun c hc e=>by rw [e] at hb;omega
 intro w hw
 unfold tabW at hw
 simp only [List.mem_cons,List.not_mem_nil,or_false] at hw
 rcases hw with rfl | rfl
 ·intro hm
  simp only [wTable,List.mem_cons,List.not_mem_nil,or_false] at hm
  rcases hm with h | h | h | h | h <;> exact hb2 _ (by decide) h
 ·exact tx_ne hb (h.ne (by omega)) f false
structure TbIn (n:Nat) (f:F):Prop where
 one:∃ x k,f=.cons x k .nil
 ok:f.ok
 dep:f.dep≤16
 sz:f.sz≤128
 nl:∀ y∈f.flat,y.n.toNat≤lim40
 p:∀ y∈f.flat,y.k=1→0≤y.p∧y.p < n
theorem tab_read {N:List (List UInt8)} (h:NmsR N) {f:F} (hf:TbIn N.length f):tabP N (tabW N f)=some (ndT0 f.flat):=by
 obtain ⟨x,k,rfl⟩:=hf.one
 have e:=tableR_tx (nm:=nmP N) (look:=findF N) hf.ok (fun y hy=>⟨hf.nl y hy,fun hk=>by
  obtain ⟨t,h1,h2,h3⟩:=h.at_ (hf.p y hy hk)
  refine ⟨h3,fun c hc=>?_⟩
  rw [h2] at hc
  have hb:=name_bytes h1 c hc
  unfold st4 st3
  have n1:c≠58:=fun e=>by rw [e] at hb;revert hb;decide
  have n2:c≠44:=fun e=>by rw [e] at hb;revert hb;decide
  have n3:c≠40:=fun e=>by rw [e] at hb;revert hb;decide
  have n4:c≠41:=fun e=>by rw [e] at hb;revert hb;decide
  rw [decide_eq_false n1,decide_eq_false n2,decide_eq_false n3,decide_eq_false n4]
  rfl⟩) hf.dep hf.sz
 unfold tabP tabW
 dsimp only
 rw [e]
 rfl
theorem line_at (i:Nat) (c c':Cft) (W:List (List UInt8)) (rest:List (List UInt8)) (w0:List UInt8) (W':List (List UInt8)) (hW:W=w0::W') (h0:w0≠[]) (h1:w0.head?≠some 35) (hn:∀ w∈W,(32:UInt8) ∉ w) (hw:wordsP c W=some c') :
  linesP i c (joinB 32 W::rest)=linesP (i+1) c' rest:=by
 have hh:(joinB 32 W).head? = w0.head?:=by rw [hW];exact join_head h0
 have hs:skipB (joinB 32 W)=false:=by
  unfold skipB
  have e1:¬ joinB 32 W=[]:=fun e=>by
   rw [e] at hh
   cases w0 with
   | nil=>exact h0 rfl
   | cons a b=>cases hh
  rw [decide_eq_false e1,hh,decide_eq_false h1]
  rfl
 have hsp:splitF 32 (joinB 32 W)=W:=split_join (by rw [hW];simp) hn
 show (if skipB (joinB 32 W)=true then _ else _)=_
 rw [hs,if_neg (by decide),hsp,hw]
theorem lines_part:∀ (P:List Pq) (i:Nat) (c:Cft) (rest:List (List UInt8)),(∀ y∈P,PrIn y∧y.2≠[]) →
  linesP i c (P.map (fun y=>joinB 32 (partW y))++rest)=linesP (i+P.length) ⟨c.P++P.map stripP,c.C,c.T⟩ rest
 | [],i,c,rest,_=>by simp
 | y::P,i,c,rest,h=>by
  obtain ⟨h1,h2⟩:=h y (by simp)
  have e:wordsP c (partW y)=some ⟨c.P++[stripP y],c.C,c.T⟩:=by
   unfold wordsP
   rw [if_pos (show (partW y).head? = some wPart from rfl),part_read h1 h2]
   rfl
  rw [List.map_cons,List.cons_append,line_at i c _ (partW y) _ wPart _ rfl (by decide) (by decide) (part_ne h1 (by decide)) e,lines_part P (i+1) _ rest fun z hz=>h z (by simp [hz])]
  simp [Nat.add_assoc,Nat.add_comm 1]
theorem lines_chan (N:List (List UInt8)) (hN:NmsR N):∀ (C:List ChV) (i:Nat) (c:Cft) (rest:List (List UInt8)),namesP c.P=N→(∀ x∈C,PcIn N.length x) →
  linesP i c (C.map (fun x=>joinB 32 (chanW N x))++rest)=linesP (i+C.length) ⟨c.P,c.C++C,c.T⟩ rest
 | [],i,c,rest,_,_=>by simp
 | x::C,i,c,rest,hc,h=>by
  have e:wordsP c (chanW N x)=some ⟨c.P,c.C++[x],c.T⟩:=by
   unfold wordsP
   rw [if_neg (show ¬ (chanW N x).head? = some wPart from fun e=>by injection e with e;revert e;decide),if_pos (show (chanW N x).head? = some wChan from rfl),hc,chan_read hN (h x (by simp))]
   rfl
  rw [List.map_cons,List.cons_append,line_at i c _ (chanW N x) _ wChan _ rfl (by decide) (by decide) (chan_ne hN x (by decide)) e,lines_chan N hN C (i+1) _ rest (by exact hc) fun z hz=>h z (by simp [hz])]
  simp [Nat.add_assoc,Nat.add_comm 1]
theorem lines_tab (N:List (List UInt8)) (hN:NmsR N):∀ (T:List F) (i:Nat) (c:Cft),namesP c.P=N→(∀ f∈T,TbIn N.length f) →
  linesP i c (T.map (fun f=>joinB 32 (tabW N f))++[[]])=.inr ⟨c.P,c.C,c.T++T.map fun f=>ndT0 f.flat⟩
 | [],i,c,_,_=>by
  show linesP i c [[]]=_
  simp [linesP,skipB]
 | f::T,i,c,hc,h=>by
  have e:wordsP c (tabW N f)=some ⟨c.P,c.C,c.T++[ndT0 f.flat]⟩:=by
   unfold wordsP
   rw [if_neg (show ¬ (tabW N f).head? = some wPart from fun e=>by injection e with e;revert e;decide),if_neg (show ¬ (tabW N f).head? = some wChan from fun e=>by injection e with e;revert e;decide),if_pos (show (tabW N f).head? = some wTable from rfl),hc,tab_read hN (h f (by simp))]
   rfl
  rw [List.map_cons,List.cons_append,line_at i c _ (tabW N f) _ wTable _ rfl (by decide) (by decide) (tab_ne hN f (by decide)) e,lines_tab N hN T (i+1) _ (by exact hc) fun z hz=>h z (by simp [hz])]
  simp
theorem parse_text (P:List Pq) (C:List ChV) (T:List F) (hP:∀ y∈P,PrIn y∧y.2≠[]) (hN:NmsR (namesP P)) (hC:∀ x∈C,PcIn P.length x) (hT:∀ f∈T,TbIn P.length f) (hl:(textT (linesT P C T)).length≤16384)
  (hw:(whereF (P.map stripP) C (T.map fun f=>ndT0 f.flat)).1=0):parseP (textT (linesT P C T))=(0,0,⟨P.map stripP,C,T.map fun f=>ndT0 f.flat⟩):=by
 have hNl:(namesP P).length=P.length:=by unfold namesP;rw [List.length_map]
 have h10:∀ x∈linesT P C T,(10:UInt8) ∉ x:=by
  intro x hx
  unfold linesT at hx
  rcases List.mem_append.1 hx with h | h
  ·obtain ⟨y,hy,rfl⟩:=List.mem_map.1 h
   exact join_ne (by decide) (part_ne (hP y hy).1 (by decide))
  ·rcases List.mem_append.1 h with h | h
   ·obtain ⟨y,hy,rfl⟩:=List.mem_map.1 h
    exact join_ne (by decide) (chan_ne hN y (by decide))
   ·obtain ⟨y,hy,rfl⟩:=List.mem_map.1 h
    exact join_ne (by decide) (tab_ne hN y (by decide))
 have hlin:linesP 0 cft0 (splitF 10 (textT (linesT P C T)))=.inr ⟨P.map stripP,C,T.map fun f=>ndT0 f.flat⟩:=by
  rw [split_text h10]
  unfold linesT
  rw [List.append_assoc,List.append_assoc,lines_part P _ _ _ hP,lines_chan (namesP P) hN C _ _ _ (by show namesP ([]++P.map stripP)=_;rw [List.nil_append,names_strip]) (by rw [hNl];exact hC),
   lines_tab (namesP P) hN T _ _ (by show namesP ([]++P.map stripP)=_;rw [List.nil_append,names_strip]) (by rw [hNl];exact hT)]
  rfl
 unfold parseP
 rw [if_neg (by omega),hlin]
 dsimp only
 rw [if_pos hw]
end Go.Proofs.YtfmndmhjjbeokaaGreatDoor
namespace Go.Proofs.YtfmndmhjjbeokaaGreatDoor
set_option maxRecDepth 100000
open Go.RowKit Tab Txt
set_option linter.unusedSimpArgs false
set_option linter.unusedVariables false
theorem right_names {P:List Pq} (h:∀ j,j < P.length→ptE P j=0):NmsR (namesP P):=by
 constructor
 ·intro s hs
  obtain ⟨y,hy,rfl⟩:=List.mem_map.1 hs
  obtain ⟨k,hk⟩:=List.getElem?_of_mem hy
  exact ⟨y.1.name,(PrIn.of hk (h k (List.getElem?_eq_some_iff.1 hk).1)).name,rfl⟩
 ·intro i j s hij hi hj
  unfold namesP at hi hj
  rw [List.getElem?_map] at hi hj
  obtain ⟨x,hx,ex⟩:=Option.map_eq_some_iff.1 hi
  obtain ⟨y,hy,ey⟩:=Option.map_eq_some_iff.1 hj
  have hw:=h j (List.getElem?_eq_some_iff.1 hy).1
  have hnm:x.1.name=y.1.name:=by
   have e:=congrArg bsOf (ex.trans ey.symm)
   exact e
  have:=ptE_twice hy hij hx (decide_eq_true hnm)
  rw [this] at hw
  cases hw
theorem lines_skip {x:List UInt8} (hx:skipB x=true) (i:Nat) (c:Cft) (l:List (List UInt8)):linesP i c (x::l)=linesP (i+1) c l:=by
 show (if skipB x=true then _ else _)=_
 rw [if_pos hx]
theorem lines_inr:∀ (l:List (List UInt8)) (i j:Nat) (c d:Cft),linesP i c l=.inr d→linesP j c l=.inr d
 | [],_,_,_,_,h=>h
 | x::l,i,j,c,d,h=>by
  unfold linesP at h ⊢
  split at h
  ·rename_i hs
   rw [if_pos hs]
   exact lines_inr l _ _ c d h
  ·rename_i hs
   rw [if_neg hs]
   cases hw:wordsP c (splitF 32 x) with
   | none=>rw [hw] at h;cases h
   | some c'=>rw [hw] at h;exact lines_inr l _ _ c' d h
theorem lines_take:∀ (l:List (List UInt8)) (i:Nat) (c d:Cft),linesP i c l=.inr d→∀ k,k≤l.length→∃ c',(∀ rest,linesP i c (l.take k++rest)=linesP (i+k) c' rest)∧linesP (i+k) c' (l.drop k)=.inr d
 | l,i,c,d,h,0,_=>⟨c,fun rest=>by simp,by simpa using h⟩
 | [],_,_,_,_,k+1,hk=>by simp at hk
 | x::l,i,c,d,h,k+1,hk=>by
  have hk':k≤l.length:=by simpa using hk
  unfold linesP at h
  split at h
  ·rename_i hs
   obtain ⟨c',h1,h2⟩:=lines_take l (i+1) c d h k hk'
   refine ⟨c',fun rest=>?_,?_⟩
   ·rw [List.take_succ_cons,List.cons_append,lines_skip hs,h1 rest,show i+(k+1)=i+1+k by omega]
   ·rw [List.drop_succ_cons,show i+(k+1)=i+1+k by omega]
    exact h2
  ·rename_i hs
   cases hw:wordsP c (splitF 32 x) with
   | none=>rw [hw] at h;cases h
   | some c1 =>
    rw [hw] at h
    obtain ⟨c',h1,h2⟩:=lines_take l (i+1) c1 d h k hk'
    refine ⟨c',fun rest=>?_,?_⟩
    ·rw [List.take_succ_cons,List.cons_append]
     show (if skipB x=true then _ else _)=_
     rw [if_neg hs,hw]
     dsimp only
     rw [h1 rest,show i+(k+1)=i+1+k by omega]
    ·rw [List.drop_succ_cons,show i+(k+1)=i+1+k by omega]
     exact h2
def badL (z:Nat):List UInt8:=match z with
 | 0=>[110,111,110,115,101,110,115,101]
 | 1=>[112,97,114,116]
 | 2=>[99,104,97,110,32,97,32,98]
 | 3=>[116,97,98,108,101,32,120]
 | _=>[32]
theorem split_app {b:UInt8}:∀ (x s:List UInt8),splitF b (x++b::s)=splitF b x++splitF b s:=by
 intro x
 induction x with
 | nil =>
  intro s
  rw [List.nil_append,splitF_cons,if_pos rfl]
  rfl
 | cons c x ih =>
  intro s
  rw [List.cons_append,splitF_cons,splitF_cons]
  by_cases hc:c=b
  ·rw [if_pos hc,if_pos hc,ih]
   rfl
  ·rw [if_neg hc,if_neg hc,ih]
   cases hx:splitF b x with
   | nil=>exact absurd hx (split_ne b x)
   | cons y l=>rfl
theorem parse_remarks (l:List (List UInt8)) (d:Cft) (h10:∀ x∈l,(10:UInt8) ∉ x) (h:linesP 0 cft0 (l++[[]])=.inr d) (hl:(textT l).length≤16300) (hw:(whereF d.P d.C d.T).1=0) :
  parseP ([35,10,10]++(textT l++[10,35,32,101,110,100]))=(0,0,d):=by
 have e:splitF 10 ([35,10,10]++(textT l++[10,35,32,101,110,100]))=[35]::[]::(l++[[]]++[[35,32,101,110,100]]):=by
  show splitF 10 ([35]++10::([]++10::(textT l++10::[35,32,101,110,100])))=_
  rw [split_app,split_app,split_app,split_text h10]
  rfl
 have e2:linesP 0 cft0 ([35]::[]::(l++[[]]++[[35,32,101,110,100]]))=.inr d:=by
  rw [lines_skip (by decide),lines_skip (by decide)]
  have h2:=lines_inr _ 0 2 _ _ h
  obtain ⟨c',h3,h4⟩:=lines_take (l++[[]]) 2 cft0 d h2 (l++[[]]).length (Nat.le_refl _)
  rw [List.take_length] at h3
  rw [List.drop_length] at h4
  rw [h3,lines_skip (by decide)]
  exact lines_inr [] _ _ c' d h4
 unfold parseP
 rw [if_neg (by simp only [List.length_append,List.length_cons,List.length_nil];omega),e,e2]
 dsimp only
 rw [if_pos hw]
end Go.Proofs.YtfmndmhjjbeokaaGreatDoor
