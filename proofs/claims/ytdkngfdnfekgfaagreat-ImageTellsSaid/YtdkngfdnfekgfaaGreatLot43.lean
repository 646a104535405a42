import Derived.Test.YtdkngfdnfekgfaaGreatLot42
set_option maxHeartbeats 8000000
set_option maxRecDepth 100000
set_option linter.unusedSimpArgs false
set_option linter.unusedVariables false
namespace Go.Proofs.YtdkngfdnfekgfaaGreat
open Go.RowKit Tab
structure ApK(α:Type)where
 E:Nat
 s:Nat
 E2:Nat
 s2:Nat
 TC:Nat
 tc:Nat
 TR:Nat
 tr:Nat
 fv:α→Value
 fc:α→List Value
 ra:α→Option Addr
 rn:α→Nat
 rc:α→Nat
 rl:α→List Value
 pu:α→Prop
structure RdPh(TR tr b gr:Nat)(cs:Nat→Bool)(RD:(Nat→Bool)→World→Prop):Prop where
 row:∀ live w,RD live w→∃ l,OwnV TR tr w b (some ⟨gr,0,none⟩) 1 1 l
 keep:∀(S:Nat→Prop) live w w',RD live w→KpS S w w'→¬ S gr→(∀ k,S k→b≤k)→RD live w'
 upd:∀ live i w,cs i=false→RD live w→RD (Rgs.upd live i) w
structure ApG{α:Type}(K:ApK α)(cs:Nat→Bool)(RD:(Nat→Bool)→World→Prop)(b gr B BC il ia is:Nat):Prop where
 rs:RdPh K.TR K.tr b gr cs RD
 t1:K.E≠K.TR
 t2:K.E2≠K.TR
 t3:K.TC≠K.TR
 t4:K.E≠K.TC
 t5:K.E2≠K.TC
 t6:K.E2≠K.E
 b1:b≤B
 b2:b≤BC
 c1:cs il=false
 c2:cs ia=false
 c3:cs is=false
 n1:il≠ia
 n2:il≠is
 n3:ia≠is
structure ApS{α:Type}(K:ApK α)(RD:(Nat→Bool)→World→Prop)(gr B BC gc ic il ia is:Nat)(tC tB tA:Tmp)(k:Nat)(L:List Value)(A:Option Addr)(n c:Nat)(l0:List Value)(W0:World)(live:Nat→Bool)(a:Act)(w:World):Prop where
 kp:KpS (fun q=>q=gr∨q=gc∨obk A=some q) W0 w
 rd:RD live w
 row:live ia=false→OwnV K.E K.s w B A n c l0
 cel:live is=false→OwnV K.TC K.tc w BC (some ⟨gc,0,none⟩) 1 1 L
 y:live ic=true→∃ y,K.pu y∧OwnV K.E2 K.s2 w B (K.ra y) (K.rn y) (K.rc y) (K.rl y)∧(live il=false→a.eval (.tmp tC)=K.fv y) ∧
  (live il=true→live ia=false→∃ gb,a.eval (.tmp tB)=.slice (some ⟨gb,0,none⟩) 1 1∧OwnV K.E K.s w W0.heap.size (some ⟨gb,0,none⟩) 1 1 (K.fc y)) ∧
  (live ia=true→∃ A' c',(live is=false→a.eval (.tmp tA)=.slice A' (n+1:Nat) c')∧OwnV K.E K.s w B A' (n+1) c' (l0++K.fc y)∧(live is=true→OwnV K.TC K.tc w BC (some ⟨gc,0,none⟩) 1 1 (L.set k (.slice A' (n+1:Nat) c'))))
section
variable {α:Type} {K:ApK α} {cs:Nat→Bool} {RD:(Nat→Bool)→World→Prop} {b gr B BC gc ic il ia is:Nat} {tC tB tA:Tmp} {k:Nat} {L:List Value} {A:Option Addr} {n c:Nat} {l0:List Value} {W0:World} {live:Nat→Bool} {a:Act} {w w':World}
theorem ApS.start{a:Act}(rd:RD (fun _=>false) W0)(ho:OwnV K.E K.s W0 B A n c l0)(hc:OwnV K.TC K.tc W0 BC (some ⟨gc,0,none⟩) 1 1 L):ApS K RD gr B BC gc ic il ia is tC tB tA k L A n c l0 W0 (fun _=>false) a W0 :=
 ⟨KpS.refl _,rd,fun _=>ho,fun _=>hc,fun e=>by cases e⟩
theorem ApS.upd(g:ApG K cs RD b gr B BC il ia is)(h:ApS K RD gr B BC gc ic il ia is tC tB tA k L A n c l0 W0 live a w)(i:Nat)(d:Tmp)(v:Value)(hi:i≠ic∧i≠il∧i≠ia∧i≠is)(hd:d≠tC∧d≠tB∧d≠tA)(hg:w.grownBy w' (some gr))(hr:RD (Rgs.upd live i) w'):
  ApS K RD gr B BC gc ic il ia is tC tB tA k L A n c l0 W0 (Rgs.upd live i) (a.put (some d) v) w':=by
 obtain⟨i0,i1,i2,i3⟩:=hi;obtain⟨d1,d2,d3⟩:=hd;obtain⟨lr,hrow⟩:=g.rs.row _ _ h.rd;have q:∀ {E s B n c:Nat} {A:Option Addr} {l:List Value},OwnV E s w B A n c l→E≠K.TR→OwnV E s w' B A n c l:=fun ho hE=>KpS.row hg ho hrow hE;refine⟨h.kp.trans (KpS.gb hg (.inl rfl)),hr,?_,?_,?_⟩
 ·rw[upd_ne i2];exact fun e=>q (h.row e) g.t1
 ·rw[upd_ne i3];exact fun e=>q (h.cel e) g.t3
 rw[upd_ne i0,upd_ne i1,upd_ne i2,upd_ne i3,Reg.eval_other _ _ _ _ d1,Reg.eval_other _ _ _ _ d2,Reg.eval_other _ _ _ _ d3];exact fun e=>by
  obtain⟨y,y1,y2,y3,y4,y5⟩:=h.y e;exact⟨y,y1,q y2 g.t2,y3,fun e1 e2=>by obtain⟨gb,q1,q2⟩:=y4 e1 e2;exact⟨gb,q1,q q2 g.t1⟩,fun e1=>by obtain⟨A',c',q1,q2,q3⟩:=y5 e1;exact⟨A',c',q1,q q2 g.t1,fun e2=>q (q3 e2) g.t3⟩⟩
theorem ApS.id(g:ApG K cs RD b gr B BC il ia is)(h:ApS K RD gr B BC gc ic il ia is tC tB tA k L A n c l0 W0 live a w)(i:Nat)(d:Tmp)(v:Value)(hi:i≠ic∧i≠il∧i≠ia∧i≠is)(hd:d≠tC∧d≠tB∧d≠tA)(hc:cs i=false):
  ApS K RD gr B BC gc ic il ia is tC tB tA k L A n c l0 W0 (Rgs.upd live i) (a.put (some d) v) w:=h.upd g i d v hi hd (gb_refl _ _) (g.rs.upd _ _ _ hc h.rd)
theorem ApS.mk'(g:ApG K cs RD b gr B BC il ia is)(h:ApS K RD gr B BC gc ic il ia is tC tB tA k L A n c l0 W0 live a w)(h1:live il=false)(h2:live ia=false)(h3:live is=false)(hi:ic≠il∧ic≠ia∧ic≠is)(hg:w.grownBy w' (some gr))(hr:RD (Rgs.upd live ic) w')(y:α)(hp:K.pu y)(ho:OwnV K.E2 K.s2 w' B (K.ra y) (K.rn y) (K.rc y) (K.rl y))(hz:tC < a.tmps.size):
  ApS K RD gr B BC gc ic il ia is tC tB tA k L A n c l0 W0 (Rgs.upd live ic) (a.put (some tC) (K.fv y)) w':=by
 obtain⟨i1,i2,i3⟩:=hi;obtain⟨lr,hrow⟩:=g.rs.row _ _ h.rd;have q:∀ {E s B n c:Nat} {A:Option Addr} {l:List Value},OwnV E s w B A n c l→E≠K.TR→OwnV E s w' B A n c l:=fun ho hE=>KpS.row hg ho hrow hE;refine⟨h.kp.trans (KpS.gb hg (.inl rfl)),hr,fun _=>q (h.row h2) g.t1,fun _=>q (h.cel h3) g.t3,fun _=>⟨y,hp,ho,fun _=>Reg.eval_same _ _ _ hz,?_,?_⟩⟩
 ·rw[upd_ne i1,h1];exact fun e=>by cases e
 rw[upd_ne i2,h2];exact fun e=>by cases e
theorem ApS.lit(g:ApG K cs RD b gr B BC il ia is)(h:ApS K RD gr B BC gc ic il ia is tC tB tA k L A n c l0 W0 live a w)(h0:live ic=true)(h1:live il=false)(h2:live ia=false)(h3:live is=false)(hi:il≠ic)(hs:∀ y,(K.fc y).length=K.s)(hz:tB < a.tmps.size):
  ∃ y,a.eval (.tmp tC)=K.fv y∧ApS K RD gr B BC gc ic il ia is tC tB tA k L A n c l0 W0 (Rgs.upd live il) (a.put (some tB) (.slice (some ⟨w.heap.size,0,none⟩) 1 1)) (w.alloc (.cells (K.fc y).toArray K.E)):=by
 obtain⟨y,y1,y2,y3,y4,y5⟩:=h.y h0;have hb:=bl1 w (.cells (K.fc y).toArray K.E);refine⟨y,y3 h1,h.kp.trans (KpS.bel hb),g.rs.keep (fun _=>False) _ _ _ (g.rs.upd _ _ _ g.c1 h.rd) (KpS.bel hb) (fun e=>e) (fun _ e=>e.elim),fun _=>OwnV.below (h.row h2) rfl hb,fun _=>OwnV.below (h.cel h3) rfl hb,fun _=>⟨y,y1,OwnV.below y2 rfl hb,?_,?_,?_⟩⟩
 ·exact fun e=>absurd e (by rw[Rgs.upd_self];decide)
 ·exact fun _ _=>⟨_,Reg.eval_same _ _ _ hz,by simpa using ownV_lit w K.E K.s W0.heap.size (K.fc y).toArray 1 (by simpa using hs y) h.kp.size (by unfold maxLen;omega)⟩
 rw[upd_ne g.n1,h2];exact fun e=>by cases e
theorem ApS.app{T bb:Nat}{z:Value}(e:Elt T K.E K.s bb z)(g:ApG K cs RD b gr B BC il ia is)(h:ApS K RD gr B BC gc ic il ia is tC tB tA k L A n c l0 W0 live a w)(h0:live ic=true)(h1:live il=true)(h2:live ia=false)(h3:live is=false)(hi:ia≠ic)(hs:∀ y,(K.fc y).length=K.s)(hon:∀ y,∀ u∈K.fc y,u.oneCell'=true)(hn:n≤1000)(hbb:bb≤1000)(hB:B≤W0.heap.size)(hz:tA < a.tmps.size):
  ∃ gb,a.eval (.tmp tB)=.slice (some ⟨gb,0,none⟩) 1 1∧∃ A' c' w',(Builtin.append_ #[T,T] T #[.slice A n c,.slice (some ⟨gb,0,none⟩) 1 1]).run Tryz.prog w=.ok (.slice A' (n+1) c') w' ∧
   ApS K RD gr B BC gc ic il ia is tC tB tA k L A n c l0 W0 (Rgs.upd live ia) (a.put (some tA) (.slice A' (n+1:Nat) c')) w':=by
 obtain⟨y,y1,y2,y3,y4,y5⟩:=h.y h0
 obtain⟨gb,hq,hr⟩:=y4 h1 h2
 have ho:=h.row h2
 obtain⟨lr,hrow⟩:=g.rs.row _ _ h.rd
 have hmul:(n+1)*bb≤1001*1000:=Nat.mul_le_mul (by omega) hbb
 obtain⟨A',c',w',hrun,g1,g2,g3⟩:=run_appX e w B A n c l0 ho ⟨gb,0,none⟩ 1 1 (K.fc y) w.heap.size (OwnV.rd hr) (by rw[hs y,Nat.one_mul]) Nat.one_pos (hon y) (by omega) (by unfold maxLen;omega) (Nat.le_trans hB h.kp.size)
 refine⟨gb,hq,A',c',w',hrun,h.kp.trans (KpS.grew g3 fun k hk=>.inr (.inr hk)),?_,?_,?_,fun _=>⟨y,y1,OwnV.grew y2 ho g.t6 g3,?_,?_,?_⟩⟩
 ·exact g.rs.keep (fun q=>obk A=some q) _ _ _ (g.rs.upd _ _ _ g.c2 h.rd) (KpS.grew g3 fun k hk=>hk) (fun e=>ho.ne hrow g.t1 gr e rfl) (fun q e=>Nat.le_trans g.b1 (ho.obk_ge e).1)
 ·exact fun e=>absurd e (by rw[Rgs.upd_self];decide)
 ·exact fun _=>OwnV.grew (h.cel h3) ho (fun e=>g.t4 e.symm) g3
 ·rw[upd_ne (Ne.symm g.n1),h1];exact fun e=>by cases e
 ·exact fun _ e=>absurd e (by rw[Rgs.upd_self];decide)
 ·rw[upd_ne g.n3]
  exact fun _=>⟨A',c',fun _=>Reg.eval_same _ _ _ hz,g1,fun e=>by rw[h3] at e;cases e⟩
theorem ApS.sto(g:ApG K cs RD b gr B BC il ia is)(h:ApS K RD gr B BC gc ic il ia is tC tB tA k L A n c l0 W0 live a w)(h0:live ic=true)(h1:live il=true)(h2:live ia=true)(h3:live is=false)(hi:is≠ic)(hk:k < L.length):
  ∃ A' c',a.eval (.tmp tA)=.slice A' (n+1:Nat) c'∧ApS K RD gr B BC gc ic il ia is tC tB tA k L A n c l0 W0 (Rgs.upd live is) a (w.setCell ⟨gc,k,none⟩ (.slice A' (n+1:Nat) c')):=by
 obtain⟨y,y1,y2,y3,y4,y5⟩:=h.y h0;obtain⟨A',c',q1,q2,_⟩:=y5 h2;have hc:=h.cel h3;obtain⟨lr,hrow⟩:=g.rs.row _ _ h.rd;have oth:∀ {E s B' m d:Nat} {D:Option Addr} {l:List Value},OwnV E s w B' D m d l→E≠K.TC→OwnV E s (w.setCell ⟨gc,k,none⟩ (.slice A' (n+1:Nat) c')) B' D m d l:=fun q e=>OwnV.other q _ _ (q.ne' hc e);refine⟨A',c',q1 h3,h.kp.trans (KpS.set (.inr (.inl rfl)) _ _),?_,?_,?_,fun _=>⟨y,y1,oth y2 g.t5,?_,?_,?_⟩⟩
 ·exact g.rs.keep (fun q=>q=gc) _ _ _ (g.rs.upd _ _ _ g.c3 h.rd) (KpS.set (S:=fun q=>q=gc) rfl _ _) (fun e=>hc.ne hrow g.t3 gr (by rw[e];rfl) rfl) (fun q e=>by subst e;exact Nat.le_trans g.b2 (hc.obk_ge (b:=q) rfl).1)
 ·rw[upd_ne (Ne.symm g.n3),h2];exact fun e=>by cases e
 ·exact fun e=>absurd e (by rw[Rgs.upd_self];decide)
 ·rw[upd_ne (Ne.symm g.n2),h1];exact fun e=>by cases e
 ·rw[upd_ne (Ne.symm g.n3),h2];exact fun _ e=>by cases e
 exact fun _=>⟨A',c',fun e=>absurd e (by rw[Rgs.upd_self];decide),oth q2 g.t4,fun _=>OwnV.set hc k _ hk⟩
theorem ApS.fin(h:ApS K RD gr B BC gc ic il ia is tC tB tA k L A n c l0 W0 live a w)(h0:live ic=true)(h2:live ia=true)(h3:live is=true):
  ∃ y A' c',K.pu y∧OwnV K.E2 K.s2 w B (K.ra y) (K.rn y) (K.rc y) (K.rl y)∧OwnV K.E K.s w B A' (n+1) c' (l0++K.fc y)∧OwnV K.TC K.tc w BC (some ⟨gc,0,none⟩) 1 1 (L.set k (.slice A' (n+1:Nat) c')):=by
 obtain⟨y,y1,y2,_,_,y5⟩:=h.y h0;obtain⟨A',c',_,q2,q3⟩:=y5 h2;exact⟨y,A',c',y1,y2,q2,q3 h3⟩
end
def nv(s:List UInt8):Int:=(RP.num s).1
def nx(s:List UInt8):List UInt8:=(RP.num s).2
theorem nv_in(s:List UInt8):In64 (nv s):=(Num.dec_bounds s).1
theorem RpI.step{b g:Nat}{s t:List UInt8}{w0 w:World}{f:FuncId}{v:Value}(q:RpI b g s w0 w)(h:∀ {w:World},ImR b g s w→Calls Tryz.prog f #[.pointer (some ⟨g,0,none⟩)] w fun e w'=>e=.returned v∧RpI b g t w w'):Calls Tryz.prog f #[.pointer (some ⟨g,0,none⟩)] w fun e w'=>e=.returned v∧RpI b g t w0 w' :=
 (h q.r).mono fun _ _ h=>⟨h.1,q.trans h.2⟩
theorem nsmall{b g:Nat}{s:List UInt8}{w:World}(h:ImR b g s w):Calls Tryz.prog 88 #[.pointer (some ⟨g,0,none⟩)] w fun e w'=>e=.returned (.int .i64 (nv s))∧RpI b g (nx s) w w':=ismall_any h
theorem nnumber{b g:Nat}{s:List UInt8}{w:World}(h:ImR b g s w):Calls Tryz.prog 60 #[.pointer (some ⟨g,0,none⟩)] w fun e w'=>e=.returned (.int .i64 (nv s))∧RpI b g (nx s) w w':=inum_any h
theorem nflag{b g:Nat}{s:List UInt8}{w:World}(h:ImR b g s w):Calls Tryz.prog 87 #[.pointer (some ⟨g,0,none⟩)] w fun e w'=>e=.returned (.bool (decide (nv s=1)))∧RpI b g (nx s) w w':=iflag_any h
theorem chanG_P(s:List UInt8):chanG RP s=(⟨nv s,nv (nx s),decide (nv (nx (nx s))=1),nv (nx (nx (nx s))),IntKind.u32.wrap (nv (nx (nx (nx (nx s))))),nv (nx (nx (nx (nx (nx s)))))⟩,nx (nx (nx (nx (nx (nx s)))))):=rfl
theorem ichan_any{b g:Nat}{s:List UInt8}{w:World}(h:ImR b g s w):Calls Tryz.prog 62 #[.pointer (some ⟨g,0,none⟩)] w (fun e w'=>e=.returned (cv (chanG RP s).1)∧RpI b g (chanG RP s).2 w w'):=by
 rw[chanG_P];have hb0:=bl1 w (.cells #[.int .i64 0,.int .i64 0,.bool false,.int .i64 0,.int .u32 0,.int .i64 0] 63);have ho0:=ownV_lit w 63 6 w.heap.size #[.int .i64 0,.int .i64 0,.bool false,.int .i64 0,.int .u32 0,.int .i64 0] 1 rfl (Nat.le_refl _) (by unfold maxLen;omega);have HS:=hid (show ImR b g s _ from h.bel hb0);have HO:=hid ho0;have HB:=hid hb0;have H0:=hid h;clear hb0 ho0 h;go_enter Tryz.func62,Tryz.ntmps62;go_upto_region 1 with fail;generalize w.alloc (.cells #[.int .i64 0,.int .i64 0,.bool false,.int .i64 0,.int .u32 0,.int .i64 0] 63)=W0 at HS HO HB ⊢;obtain⟨g2,hg2⟩:∃ g,g=w.heap.size:=⟨_,rfl⟩;rw[← hg2] at HO ⊢;have HG2:=hid hg2;clear hg2;have q:RpI b g s W0 W0:=RpI.refl HS.out;go_wp2_with (first
  | (go_at_call 88;refine(q.step nsmall).mono ?_;clear q;rintro e w1⟨rfl,q⟩)
  | (go_at_call 87;refine(q.step nflag).mono ?_;clear q;rintro e w1⟨rfl,q⟩)
  | (go_at_call 60;refine(q.step nnumber).mono ?_;clear q;rintro e w1⟨rfl,q⟩)
  | (refine wpList_storeX (l:=cc ⟨nv s,nv (nx s),decide (nv (nx (nx s))=1),nv (nx (nx (nx s))),nv (nx (nx (nx (nx s)))) % 4294967296,nv (nx (nx (nx (nx (nx s)))))⟩) rfl (.tmp 2) (.tmp 16) rfl rfl rfl (szCh _) (q.own HS.out HO.out (by decide)) rfl (i_cc _) ?_;intro w9 ho9 hg9))
 exact bodyPost_ret (results_oneX rfl (agCh _) (szCh _) rfl ho9) rfl ⟨by rw[IntKind.wrap_u32'];rfl,RpI.fin H0.out HB.out q hg9 (Nat.le_of_eq HG2.out.symm)⟩
theorem tabG_P(s:List UInt8):tabG RP s=rowG (nodeG RP) (cntG 128 (nv s)) (nx s):=rfl
theorem itab_any{b g:Nat}{s:List UInt8}{w:World}(h:ImR b g s w):Calls Tryz.prog 63 #[.pointer (some ⟨g,0,none⟩)] w (fun e w'=>∃ A n c,e=.returned (.slice A n c)∧OwnV 70 3 w' w.heap.size A n c (ns (tabG RP s).1)∧(tabG RP s).1.length=n∧RpI b g (tabG RP s).2 w w'):=by
 rw[tabG_P];have H0:=hid h;have q:RpI b g s w w:=RpI.refl h;clear h;obtain⟨M,hmin⟩:∃ M,min (nv s) 128=M:=⟨_,rfl⟩;have HM:Hid ((cntG 128 (nv s):Int)=max M 0):=hid (by unfold cntG;omega);have hM:M≤128:=by omega
 have hif1:(if nv s≤128 then nv s else 128)=M:=by split <;> omega
 have hif2:(if (128:Int) < nv s then 128 else nv s)=M:=by split <;> omega
 generalize cntG 128 (nv s)=m at HM ⊢;go_enter Tryz.func63,Tryz.ntmps63;go_wp2_with (go_at_call 60;refine(q.step nnumber).mono ?_;clear q;rintro e w1⟨rfl,q⟩);clear hmin hif1 hif2;go_loopw [3,7] (fun o v wr=>∃(k c:Nat) (A:Option Addr),k≤m∧v=.int .i64 k∧o=.slice A k c∧OwnV 70 3 wr w.heap.size A k c (ns (rowG (nodeG RP) k (nx s)).1)∧RpI b g (rowG (nodeG RP) k (nx s)).2 w wr) (fun _ v _=>m - (intOf v).toNat)
 case atStart=>exact⟨0,0,none,by omega,rfl,rfl,OwnV.nil _ _ _ _,q⟩
 obtain⟨k,c,A,hk,rfl,rfl,ho,q⟩:=hrel;have HE:Hid (rowG (nodeG RP) (k+1) (nx s)=((rowG (nodeG RP) k (nx s)).1++[⟨nv (rowG (nodeG RP) k (nx s)).2,nv (nx (rowG (nodeG RP) k (nx s)).2),nv (nx (nx (rowG (nodeG RP) k (nx s)).2))⟩],nx (nx (nx (rowG (nodeG RP) k (nx s)).2)))):=hid rfl;have hl:(rowG (nodeG RP) k (nx s)).1.length=k:=rowG_len _ _ _;obtain⟨⟨l,t⟩,hr⟩:∃ r,r=rowG (nodeG RP) k (nx s):=⟨_,rfl⟩;rw[← hr] at ho hl HE q;have HRR:=hid hr.symm;clear hr;dsimp only at ho hl HE q;have HO:=hid ho;have HQ:=hid q;have HSZ:Hid (w.heap.size≤wr.heap.size):=hid q.gb.size;have hm:=HM.out;clear ho;by_cases hlt:k < m
 ·have hlti:(k:Int) < M:=by omega
  have q2:RpI b g t wr wr:=RpI.refl q.r;clear q;go_wp2_with (first
   | (go_at_call 88;refine(q2.step nsmall).mono ?_;clear q2;rintro e w2⟨rfl,q2⟩)
   | (go_at_call 60;refine(q2.step nnumber).mono ?_;clear q2;rintro e w2⟨rfl,q2⟩;have hb3:=bl1 w2 (.cells #[.int .i64 (nv t),.int .i64 (nv (nx t)),.int .i64 (nv (nx (nx t)))] 70);have ho3:=OwnV.below (q2.own HQ.out.r HO.out (by decide)) rfl hb3;have hlr:=ownV_lit w2 70 3 w2.heap.size #[.int .i64 (nv t),.int .i64 (nv (nx t)),.int .i64 (nv (nx (nx t)))] 1 rfl (Nat.le_refl _) (by unfold maxLen;omega);have hbs:=Nat.le_trans HSZ.out (Nat.le_trans q2.gb.size hb3.size))
   | (at_builtin;refine wpList_appX elN rfl (.tmp 9) (.tmp 17) rfl rfl w.heap.size A k c _ rfl ho3 ⟨w2.heap.size,0,none⟩ 1 1 _ _ rfl hlr.rd rfl Nat.one_pos (ns_one [⟨nv t,nv (nx t),nv (nx (nx t))⟩]) (by omega) (by unfold maxLen;omega) hbs (k+1) rfl _ rfl ?_;intro A4 c4 w4 ho4 hb4 hg4))
  go_roundw
  case rel =>
   refine⟨k+1,c4,A4,by omega,by go_num,rfl,by rw[HE.out,ns_append];exact ho4,?_⟩;rw[HE.out];have q3:=(HQ.out.trans q2).bel hb3;have hq:=(q2.r.bel hb3);refine⟨?_,?_⟩
   ·obtain⟨vr,hr,_⟩:=hq;exact q3.r.on (S:=fun j=>obk A=some j) (KpS.grew hg4 fun j hj=>hj) (fun e=>ho3.ne hr (by decide) g e rfl) (fun j e=>Nat.le_trans (ImR.ge H0.out) (ho3.obk_ge e).1)
   exact gb_bow q3.gb hg4 fun j e=>(ho3.obk_ge e).1
  simp[intOf];omega
 have hlti:¬ (k:Int) < M:=by omega
 obtain rfl:k=m:=by omega
 go_wp2_with fail;go_ret;have hrr:=HRR.out;exact⟨A,k,c,rfl,by rw[hrr];exact HO.out,by rw[hrr];exact hl,by rw[hrr];exact q⟩
theorem nname{b g:Nat}{s:List UInt8}{w:World}(h:ImR b g s w):Calls Tryz.prog 86 #[.pointer (some ⟨g,0,none⟩)] w fun e w'=>e=.returned (.string (RP.str s).1)∧RpI b g (RP.str s).2 w w':=iname_any h
theorem name_few(s:List UInt8):(RP.str s).1.size≤12:=by
 show (str (Num.cut 12 s).1).size≤12;have e:(str (Num.cut 12 s).1).size=(Num.cut 12 s).1.length:=by show ((Num.cut 12 s).1.toArray).size=_;simp
 rw[e];by_cases h:Num.cutok 12 s
 ·rw[Num.cut_yes h];obtain⟨_,h2,h3,h4⟩:=h;dsimp only;rw[List.length_take];omega
 rw[Num.cut_no h];exact Nat.zero_le _
def RDL(b g:Nat)(s0 s1 s2:List UInt8)(i j:Nat)(live:Nat→Bool)(w:World):Prop:=ImR b g (if live j=true then s2 else if live i=true then s1 else s0) w
theorem rdl_ph(b g:Nat)(s0 s1 s2:List UInt8)(i j:Nat):RdPh 80 1 b g (fun k=>k == i || k == j) (RDL b g s0 s1 s2 i j) where
 row live w h:=by
  obtain⟨v,h1,_⟩:=h;exact⟨_,h1⟩
 keep S live w w' h k h1 h2:=ImR.on h k h1 h2
 upd live k w hc h:=by
  simp only[Bool.or_eq_false_iff,beq_eq_false_iff_ne] at hc;unfold RDL;rw[upd_ne hc.1,upd_ne hc.2];exact h
theorem rdl_start{b g i j:Nat}{s0 s1 s2:List UInt8}{w:World}(h:ImR b g s0 w):RDL b g s0 s1 s2 i j (fun _=>false) w:=by unfold RDL;simpa using h
def KPr(Q:Int×Int):ApK (Int×Int):=⟨59,2,5,1,57,11,80,1,fun q=>.agg #[.int .i64 q.1,.int .i64 q.2],prc,fun _=>none,fun _=>0,fun _=>0,fun _=>[],fun q=>q=Q⟩
theorem elPrI:Elt 54 59 2 16 (.agg #[.int .i64 0,.int .i64 0]):=⟨Tryz.underlying54,by kernel_rfl,rfl,by omega⟩
theorem kpr_g{b B g:Nat}(s0 s1 s2:List UInt8)(Q:Int×Int)(h:b≤B):ApG (KPr Q) (fun k=>k == 3 || k == 5) (RDL b g s0 s1 s2 3 5) b g B B 7 8 10:=⟨rdl_ph _ _ _ _ _ _ _,Nat.ne_of_beq_eq_false rfl,Nat.ne_of_beq_eq_false rfl,Nat.ne_of_beq_eq_false rfl,Nat.ne_of_beq_eq_false rfl,Nat.ne_of_beq_eq_false rfl,Nat.ne_of_beq_eq_false rfl,h,h,rfl,rfl,rfl,by decide,by decide,by decide⟩
def hlC(l:List Int):List Value:=(l++List.replicate (5 - l.length) 0).map (.int .i64)
theorem hlC_set{l:List Int}{i:Nat}(hl:l.length=i)(hi:i < 5)(z:Int):(hlC l).set i (.int .i64 z)=hlC (l++[z]):=by
 subst hl;unfold hlC;rw[← List.map_set,List.length_append,List.length_singleton,show 5 - l.length=(5 - (l.length+1))+1 by omega,List.replicate_succ,List.set_append_right _ _ (Nat.le_refl _),Nat.sub_self,List.set_cons_zero,List.append_assoc];rfl
theorem hlC_get{l:List Int}{i:Nat}(hl:l.length=i)(hi:i < 5):(hlC l)[i]? = some (.int .i64 0):=by
 subst hl;unfold hlC;rw[List.getElem?_map,List.getElem?_append_right (Nat.le_refl _),Nat.sub_self,List.getElem?_replicate];simp;omega
def PrtA(K:PtK)(w:World)(y:Pq)(w':World):Prop:=coreK y=K∧(y.2.length=y.1.pn∧y.1.pn≤3)∧(In64 y.1.per∧y.1.name.size≤12)∧OwnV 59 2 w' w.heap.size y.1.pa y.1.pn y.1.pc (y.2.flatMap prc)
def PrtE(b g:Nat)(G:PtK×List UInt8)(w:World)(e:Ending)(w':World):Prop:=∃ y:Pq,e=.returned (pv y.1)∧PrtA G.1 w y w'∧RpI b g G.2 w w'
theorem five{l:List Int}(h:l.length=5):∃ a b c d e,l=[a,b,c,d,e]:=by
 match l,h with
 | [a,b,c,d,e],_=>exact⟨a,b,c,d,e,rfl⟩
theorem ipart_any{b g:Nat}{s:List UInt8}{w:World}(h:ImR b g s w):Calls Tryz.prog 61 #[.pointer (some ⟨g,0,none⟩)] w (PrtE b g (partG RP s) w):=by
 have hb0:=bl1 w (.cells #[.string ⟨#[]⟩,.int .i64 0,.int .i64 0,.bool false,.bool false,.slice none 0 0,.int .i64 0,.int .i64 0,.int .i64 0,.int .i64 0,.int .i64 0] 57);have HO:=hid (ownV_lit w 57 11 w.heap.size #[.string ⟨#[]⟩,.int .i64 0,.int .i64 0,.bool false,.bool false,.slice none 0 0,.int .i64 0,.int .i64 0,.int .i64 0,.int .i64 0,.int .i64 0] 1 rfl (Nat.le_refl _) (by unfold maxLen;omega));have HS:=hid (show ImR b g s _ from h.bel hb0);have HB:=hid hb0;have H0:=hid h;have HBW:=hid h.ge;have HNF:=hid (name_few s);have HEP:Hid (partG RP s=(⟨(RP.str s).1,nv (RP.str s).2,nv (nx (RP.str s).2),decide (nv (nx (nx (RP.str s).2))=1),decide (nv (nx (nx (nx (RP.str s).2)))=1),(procsG RP (nx (nx (nx (nx (RP.str s).2))))).1,(rowG (RP.int 0 2) 5 (procsG RP (nx (nx (nx (nx (RP.str s).2))))).2).1⟩,(rowG (RP.int 0 2) 5 (procsG RP (nx (nx (nx (nx (RP.str s).2))))).2).2)):=hid rfl;have HIN:=hid (nv_in (nx (RP.str s).2));generalize partG RP s=G at HEP ⊢;clear hb0 h;go_enter Tryz.func61,Tryz.ntmps61;go_upto_region 1 with fail;generalize w.alloc (.cells #[.string ⟨#[]⟩,.int .i64 0,.int .i64 0,.bool false,.bool false,.slice none 0 0,.int .i64 0,.int .i64 0,.int .i64 0,.int .i64 0,.int .i64 0] 57)=W0 at HS HO HB ⊢;obtain⟨g2,hg2⟩:∃ g,g=w.heap.size:=⟨_,rfl⟩;rw[← hg2] at HO ⊢;have HG2:=hid hg2;clear hg2;have q:RpI b g s W0 W0:=RpI.refl HS.out;go_upto_region 2 with (first
  | (go_at_call 86;refine(q.step nname).mono ?_;clear q;rintro e w1⟨rfl,q⟩)
  | (go_at_call 60;refine(q.step nnumber).mono ?_;clear q;rintro e w1⟨rfl,q⟩)
  | (go_at_call 87;refine(q.step nflag).mono ?_;clear q;rintro e w1⟨rfl,q⟩))
 obtain⟨nm,hnm⟩:∃ x,x=(RP.str s).1:=⟨_,rfl⟩;obtain⟨s1,hs1⟩:∃ x,x=(RP.str s).2:=⟨_,rfl⟩;rw[← hnm] at HNF HEP ⊢;rw[← hs1] at HEP HIN q ⊢;generalize nv s1=bu at HEP ⊢;generalize nv (nx s1)=pe at HEP HIN ⊢;generalize decide (nv (nx (nx s1))=1)=sc at HEP ⊢;generalize decide (nv (nx (nx (nx s1)))=1)=st at HEP ⊢;generalize nx (nx (nx (nx s1)))=t0 at HEP q ⊢;have hb3:=bl1 w1 (.cells #[.string nm,.int .i64 bu,.int .i64 pe,.bool sc,.bool st,.slice none 0 0,.int .i64 0,.int .i64 0,.int .i64 0,.int .i64 0,.int .i64 0] 57);have hp3:=ownV_lit w1 57 11 w1.heap.size #[.string nm,.int .i64 bu,.int .i64 pe,.bool sc,.bool st,.slice none 0 0,.int .i64 0,.int .i64 0,.int .i64 0,.int .i64 0,.int .i64 0] 1 rfl (Nat.le_refl _) (by unfold maxLen;omega);have hr3:=OwnV.below (q.own HS.out HO.out (by decide)) rfl hb3;have hw0:W0.heap.size≤w1.heap.size:=q.gb.size;have hw1:w.heap.size < W0.heap.size:=by have:=(HO.out.obk_ge (b:=g2) rfl).2;have:=HG2.out;omega
 have q:=q.bel hb3;generalize w1.alloc (.cells #[.string nm,.int .i64 bu,.int .i64 pe,.bool sc,.bool st,.slice none 0 0,.int .i64 0,.int .i64 0,.int .i64 0,.int .i64 0,.int .i64 0] 57)=w3 at hb3 hp3 hr3 q ⊢;obtain⟨g3,hg3⟩:∃ g,g=w1.heap.size:=⟨_,rfl⟩;rw[← hg3] at hp3 ⊢;have HLT:Hid (g2 < g3∧w.heap.size≤g3):=hid (by have:=HG2.out;omega);have HP3:=hid (hp3.weak (show w.heap.size≤g3 by omega));have HR3:=hid (hr3.weak (Nat.le_of_eq HG2.out.symm));clear hb3 hp3 hr3 hw0 hw1 hg3 hnm hs1;have HGB0:Hid (w.grownBy w3 (some g)):=hid (gb_lay HB.out q.gb);have HQ3:=hid q.r;have q2:RpI b g t0 w3 w3:=RpI.refl q.r;clear q;obtain⟨M,hmin⟩:∃ M,min (nv t0) 3=M:=⟨_,rfl⟩;have HM:Hid ((cntG 3 (nv t0):Int)=max M 0):=hid (by unfold cntG;omega);have hM:M≤3:=by omega
 have hif2:(if (3:Int) < nv t0 then 3 else nv t0)=M:=by split <;> omega
 have HPG:Hid (procsG RP t0=rowG (procG RP) (cntG 3 (nv t0)) (nx t0)):=hid rfl;have HM3:=hid (cntG_le 3 (nv t0));generalize cntG 3 (nv t0)=m at HM HPG HM3;go_wp2_with (go_at_call 60;refine(q2.step nnumber).mono ?_;clear q2;rintro e w4⟨rfl,q2⟩);clear hmin hif2;have HP4:=hid (q2.own HQ3.out HP3.out (by decide));go_loopw [19] (fun v wr=>∃(k c:Nat) (A:Option Addr),k≤m∧v=.int .i64 k∧ImR b g (rowG (procG RP) k (nx t0)).2 wr∧OwnV 57 11 wr w.heap.size (some ⟨g3,0,none⟩) 1 1 [.string nm,.int .i64 bu,.int .i64 pe,.bool sc,.bool st,.slice A k c,.int .i64 0,.int .i64 0,.int .i64 0,.int .i64 0,.int .i64 0]∧OwnV 59 2 wr w.heap.size A k c ((rowG (procG RP) k (nx t0)).1.flatMap prc)∧OwnV 57 11 wr w.heap.size (some ⟨g2,0,none⟩) 1 1 [.string ⟨#[]⟩,.int .i64 0,.int .i64 0,.bool false,.bool false,.slice none 0 0,.int .i64 0,.int .i64 0,.int .i64 0,.int .i64 0,.int .i64 0]∧w.grownBy wr (some g)) (fun v _=>m - (intOf v).toNat)
 case atStart=>exact⟨0,0,none,by omega,rfl,q2.r,HP4.out,OwnV.nil _ _ _ _,q2.own HQ3.out HR3.out (by decide),gb_trans HGB0.out q2.gb⟩
 obtain⟨k,c,A,hk,rfl,hqr,hpt,hpo,hrs,hgb⟩:=hrel;have hl:(rowG (procG RP) k (nx t0)).1.length=k:=rowG_len _ _ _;have HE:Hid (rowG (procG RP) (k+1) (nx t0)=((rowG (procG RP) k (nx t0)).1++[(nv (rowG (procG RP) k (nx t0)).2,nv (nx (rowG (procG RP) k (nx t0)).2))],nx (nx (rowG (procG RP) k (nx t0)).2))):=hid rfl;obtain⟨⟨l,t⟩,hr⟩:∃ r,r=rowG (procG RP) k (nx t0):=⟨_,rfl⟩;rw[← hr] at hqr hpo hl HE;have HRR:=hid hr.symm;dsimp only at hqr hpo hl HE;have HQR:=hid hqr;have HPT:=hid hpt;have HPO:=hid hpo;have HRS:=hid hrs;have HGB:=hid hgb;have HHL:=hid hl;have hm:=HM.out;have HSZ:Hid (w.heap.size≤wr.drew.heap.size):=hid hgb.size;clear hr hqr hpt hpo hrs hgb hl q2;by_cases hlt:k < m
 ·have hlti:(k:Int) < M:=by omega
  have h3:=HM3.out;have HRK:Hid (¬ (g2=g∨g2=g3∨obk A=some g2)):=hid (by
   rintro (e | e | e)
   ·obtain⟨vr,hr,_⟩:=HQR.out;exact HRS.out.ne hr (by decide) g2 rfl (by rw[e];rfl)
   ·have:=HLT.out;omega
   exact HRS.out.ne HPO.out (by decide) g2 rfl e)
  go_upto_region 4 with fail;refine Rgs.region (by kernel_rfl) (by kernel_rfl) (fun(opn:Nat) (vl:Value) (_:World)=>match opn with
    | 0=>vl=.pointer (some ⟨g3,5,none⟩)
    | 1=>vl=.slice A k c
    | 2=>vl=.pointer (some ⟨g,0,none⟩)
    | 3=>vl=.int .i64 (nv t)
    | 4=>vl=.pointer (some ⟨g,0,none⟩)
    | 5=>vl=.int .i64 (nv (nx t))
    | 9=>vl=.pointer (some ⟨g3,5,none⟩)
    | _=>True) (ApS (KPr (nv t,nv (nx t))) (RDL b g t (nx t) (nx (nx t)) 3 5) g w.heap.size w.heap.size g3 6 7 8 10 27 28 29 5 [.string nm,.int .i64 bu,.int .i64 pe,.bool sc,.bool st,.slice A k c,.int .i64 0,.int .i64 0,.int .i64 0,.int .i64 0,.int .i64 0] A k c ((l.flatMap prc)) wr.drew) (ApS.start (rdl_start (HQR.out.bel (Below.refl _ _).drew)) HPO.out HPT.out) (Rgs.steps_of ?_) ?_
  ·refine⟨?_,?_,?_,?_,?_,?_,?_,?_,?_,?_,?_,trivial⟩<;>intro a w1 live S E D C h0 hk hX
   ·have e0:a.eval (.tmp 3)=.pointer (some ⟨g3,0,none⟩):=E 3 rfl;exact Rgs.va (.pointer (some ⟨g3,5,none⟩)) (hX.id (kpr_g t (nx t) (nx (nx t)) (nv t,nv (nx t)) HBW.out) 0 21 _ (by decide) (by decide) rfl)
   ·have l8:=Reg.not_live C h0 (j:=8) rfl rfl;have l10:=Reg.not_live C l8 (j:=10) rfl rfl;have e0:a.eval (.tmp 21)=.pointer (some ⟨g3,5,none⟩):=D 0 rfl _ _ rfl rfl;have hc:=(rowf (hX.cel l10) 5 _ rfl).1;exact Rgs.va (.slice A k c) (hX.id (kpr_g t (nx t) (nx (nx t)) (nv t,nv (nx t)) HBW.out) 1 22 _ (by decide) (by decide) rfl)
   ·have e0:a.eval (.tmp 0)=.pointer (some ⟨g,0,none⟩):=E 0 rfl;exact Rgs.va (.pointer (some ⟨g,0,none⟩)) (hX.id (kpr_g t (nx t) (nx (nx t)) (nv t,nv (nx t)) HBW.out) 2 23 _ (by decide) (by decide) rfl)
   ·have d23:_=_:=D 2 rfl _ _ rfl rfl;have l6:=Reg.not_live C h0 (j:=6) rfl rfl;have l7:=Reg.not_live C l6 (j:=7) rfl rfl;have l8:=Reg.not_live C l7 (j:=8) rfl rfl;have l10:=Reg.not_live C l8 (j:=10) rfl rfl;have l5:=Reg.not_live C h0 (j:=5) rfl rfl;have hr:=hX.rd;unfold RDL at hr;simp only[h0,l5,if_true,Bool.false_eq_true,if_false] at hr;refine Rgs.call rfl (Reg.wanted_free rfl) 88 #[.pointer (some ⟨g,0,none⟩)] (by have c:=Reg.consts a;generalize a.eval=ρ at *;simp[execOp,go_sem,c.1,c.2,d23]) ?_;refine(nsmall hr).mono ?_;rintro e w5⟨rfl,q5⟩;exact⟨_,rfl,rfl,hX.upd (kpr_g t (nx t) (nx (nx t)) (nv t,nv (nx t)) HBW.out) 3 24 _ (by decide) (by decide) q5.gb (by unfold RDL;simp only[Rgs.upd_self,upd_ne (show 3≠5 by decide),l5,if_true,Bool.false_eq_true,if_false];exact q5.r),fun _ _ _ h=>h⟩
   ·have e0:a.eval (.tmp 0)=.pointer (some ⟨g,0,none⟩):=E 0 rfl;exact Rgs.va (.pointer (some ⟨g,0,none⟩)) (hX.id (kpr_g t (nx t) (nx (nx t)) (nv t,nv (nx t)) HBW.out) 4 25 _ (by decide) (by decide) rfl)
   ·have d25:_=_:=D 4 rfl _ _ rfl rfl;have l6:=Reg.not_live C h0 (j:=6) rfl rfl;have l7:=Reg.not_live C l6 (j:=7) rfl rfl;have l8:=Reg.not_live C l7 (j:=8) rfl rfl;have l10:=Reg.not_live C l8 (j:=10) rfl rfl;have k3:live 3=true:=hk 3 rfl;have hr:=hX.rd;unfold RDL at hr;simp only[h0,k3,if_true,Bool.false_eq_true,if_false] at hr;refine Rgs.call rfl (Reg.wanted_free rfl) 88 #[.pointer (some ⟨g,0,none⟩)] (by have c:=Reg.consts a;generalize a.eval=ρ at *;simp[execOp,go_sem,c.1,c.2,d25]) ?_;refine(nsmall hr).mono ?_;rintro e w5⟨rfl,q5⟩;exact⟨_,rfl,rfl,hX.upd (kpr_g t (nx t) (nx (nx t)) (nv t,nv (nx t)) HBW.out) 5 26 _ (by decide) (by decide) q5.gb (by unfold RDL;simp only[Rgs.upd_self,if_true];exact q5.r),fun _ _ _ h=>h⟩
   ·have l7:=Reg.not_live C h0 (j:=7) rfl rfl;have l8:=Reg.not_live C l7 (j:=8) rfl rfl;have l10:=Reg.not_live C l8 (j:=10) rfl rfl;have d24:_=_:=D 3 rfl _ _ rfl rfl;have d26:_=_:=D 5 rfl _ _ rfl rfl;have hX2:=hX.mk' (kpr_g t (nx t) (nx (nx t)) (nv t,nv (nx t)) HBW.out) l7 l8 l10 (by decide) (gb_refl _ _) ((kpr_g t (nx t) (nx (nx t)) (nv t,nv (nx t)) HBW.out).rs.upd _ _ _ rfl hX.rd) (nv t,nv (nx t)) rfl (OwnV.nil _ _ _ _) (by rw[S];exact(by decide:27 < 42));exact Rgs.val rfl (Reg.wanted_free rfl) (.agg #[.int .i64 (nv t),.int .i64 (nv (nx t))]) (by have c:=Reg.consts a;generalize a.eval=ρ at *;simp[execOp,go_sem,c.1,c.2,d24,d26]) trivial hX2
   ·have l8:=Reg.not_live C h0 (j:=8) rfl rfl;have l10:=Reg.not_live C l8 (j:=10) rfl rfl;obtain⟨y,hy,hX2⟩:=hX.lit (kpr_g t (nx t) (nx (nx t)) (nv t,nv (nx t)) HBW.out) (hk 6 rfl) h0 l8 l10 (by decide) (fun _=>rfl) (by rw[S];exact(by decide:28 < 42));have hy2:a.eval (.tmp 27)=.agg #[.int .i64 y.1,.int .i64 y.2]:=hy;exact Rgs.grow rfl (Reg.wanted_free rfl) (.slice (some ⟨w1.heap.size,0,none⟩) 1 1) (w1.alloc (.cells #[.int .i64 y.1,.int .i64 y.2] 59)) (by have c:=Reg.consts a;generalize a.eval=ρ at *;simp[execOp,go_sem,c.1,c.2,hy2]) trivial hX2 (fun _ _ _ h=>h)
   ·have l10:=Reg.not_live C h0 (j:=10) rfl rfl;have d0:_=_:=D 1 rfl _ _ rfl rfl;obtain⟨gb,qb,A',c',w',hrun,hX2⟩:=hX.app elPrI (kpr_g t (nx t) (nx (nx t)) (nv t,nv (nx t)) HBW.out) (C 7 _ rfl (hk 7 rfl) 6 rfl) (hk 7 rfl) h0 l10 (by decide) (fun _=>rfl) (fun y u hu=>prc_one [y] u (by simpa [KPr] using hu)) (by omega) (by decide) (HSZ.out) (by rw[S];exact(by decide:29 < 42));refine Rgs.grow rfl (Reg.wanted_free rfl) (.slice A' (k+1:Nat) c') w' ?_ trivial hX2 (fun _ _ _ h=>h);have cc:=Reg.consts a;generalize a.eval=ρ at *;simp only[execOp,resolve,invoke,builtin,Sem.run_bind,Sem.run_pure,Result.andThen_ok,List.map_toArray,List.map_cons,List.map_nil,d0,qb,hrun]
   ·have e0:a.eval (.tmp 3)=.pointer (some ⟨g3,0,none⟩):=E 3 rfl;exact Rgs.va (.pointer (some ⟨g3,5,none⟩)) (hX.id (kpr_g t (nx t) (nx (nx t)) (nv t,nv (nx t)) HBW.out) 9 30 _ (by decide) (by decide) rfl)
   have d0:_=_:=D 9 rfl _ _ rfl rfl;have kb:=C 8 _ rfl (hk 8 rfl) 7 rfl;obtain⟨A',c',qa,hX2⟩:=hX.sto (kpr_g t (nx t) (nx (nx t)) (nv t,nv (nx t)) HBW.out) (C 7 _ rfl kb 6 rfl) kb (hk 8 rfl) h0 (by decide) (by simp);obtain⟨hc,hf⟩:=rowf (hX.cel h0) 5 _ rfl;exact Rgs.store rfl (Reg.wanted_free rfl) (w1.setCell ⟨g3,5,none⟩ (.slice A' (k+1:Nat) c')) (by have c:=Reg.consts a;generalize a.eval=ρ at *;simp[execOp,go_sem,c.1,c.2,d0,qa,hc,hf]) trivial hX2 (fun _ _ _ h=>h)
  intro a w4 live hs hd E D Hl hX;have hrd:=hX.rd;unfold RDL at hrd;simp only[Hl 3 (by decide),Hl 5 (by decide),if_true] at hrd;have HKP:=hid hX.kp;obtain⟨y,A4,c4,hy,ho2,ho1,hcl⟩:=hX.fin (Hl 6 (by decide)) (Hl 8 (by decide)) (Hl 10 (by decide));have HRD:=hid hrd;have HY:=hid hy;have HO2:=hid ho2;have HO1:=hid ho1;have HCL:=hid hcl;rw[Rgs.act_ws a _ _ hs hd E [21,22,23,24,25,26,27,28,29,30] (by kernel_rfl)];simp only[List.foldl,List.setIfInBounds_toArray,List.set_cons_succ,List.set_cons_zero];clear E D Hl hX hrd hy ho2 ho1 hcl;generalize a.eval=ρ;clear a hs hd;have HKR:=hid (HRD.out);obtain rfl:y=(nv t,nv (nx t)):=HY.out;go_wp2_with fail;go_roundw
  case rel =>
   refine⟨k+1,c4,A4,by omega,by go_num,?_,?_,?_,?_,?_⟩
   ·rw[HE.out];exact HRD.out
   ·exact HCL.out
   ·rw[HE.out,List.flatMap_append];exact HO1.out
   ·exact HKP.out.own HRS.out fun j e=>by injection e with e;subst e;exact HRK.out
   exact kps_gb (gb_drew HGB.out) HKP.out (fun j e=>by
    rcases e with e | e | e
    ·exact .inl e
    ·have:=HLT.out;exact .inr (by omega)
    exact .inr (HPO.out.obk_ge e).1)
  simp[intOf];omega
 have hlti:¬ (k:Int) < M:=by omega
 have hkm:k=m:=by omega
 have hkm3:k≤3:=by have:=HM3.out;omega
 subst hkm;have HEG:Hid (G=(⟨nm,bu,pe,sc,st,l,(rowG (RP.int 0 2) 5 t).1⟩,(rowG (RP.int 0 2) 5 t).2)):=hid (by rw[HEP.out,HPG.out,HRR.out]);clear HEP HPG HRR HE HM hm HM3 hM;go_wp2_with fail;go_loopw [4,32] (fun _ v wx=>∃ i:Nat,i≤5∧v=.int .i64 i∧ImR b g (rowG (RP.int 0 2) i t).2 wx∧OwnV 57 11 wx w.heap.size (some ⟨g3,0,none⟩) 1 1 ([.string nm,.int .i64 bu,.int .i64 pe,.bool sc,.bool st,.slice A k c]++hlC (rowG (RP.int 0 2) i t).1)∧OwnV 59 2 wx w.heap.size A k c (l.flatMap prc)∧OwnV 57 11 wx w.heap.size (some ⟨g2,0,none⟩) 1 1 [.string ⟨#[]⟩,.int .i64 0,.int .i64 0,.bool false,.bool false,.slice none 0 0,.int .i64 0,.int .i64 0,.int .i64 0,.int .i64 0,.int .i64 0]∧w.grownBy wx (some g)) (fun _ v _=>5 - (intOf v).toNat)
 case atStart=>exact⟨0,by omega,rfl,HQR.out,HPT.out,HPO.out,HRS.out,HGB.out⟩
 obtain⟨i,hi,rfl,hqr,hpt,hpo,hrs,hgb⟩:=hrel;have hl:(rowG (RP.int 0 2) i t).1.length=i:=rowG_len _ _ _;have HE:Hid (rowG (RP.int 0 2) (i+1) t=((rowG (RP.int 0 2) i t).1++[nv (rowG (RP.int 0 2) i t).2],nx (rowG (RP.int 0 2) i t).2)):=hid rfl;obtain⟨⟨hs,u⟩,hr⟩:∃ r,r=rowG (RP.int 0 2) i t:=⟨_,rfl⟩;rw[← hr] at hqr hpt hl HE;have HRR:=hid hr.symm;dsimp only at hqr hpt hl HE;have HPT2:=hid hpt;have HPO2:=hid hpo;have HRS2:=hid hrs;have HGB2:=hid hgb;have HQ2:=hid hqr;have HHL2:=hid hl;have q2:RpI b g u wr wr:=RpI.refl hqr;clear hr hqr hpt hpo hrs hgb hl;by_cases hlt:i < 5
 ·have hlti:(i:Int) < 5:=by omega
  have HNW:Hid (∀ w2,RpI b g (nx u) wr w2→w2.cell? ⟨g3,6+i,none⟩=some (.int .i64 0)∧w2.frozen? ⟨g3,6+i,none⟩=false):=hid fun w2 q=>rowf (q.own HQ2.out HPT2.out (by decide)) (6+i) _ (by
   rw[List.getElem?_append_right (by show 6≤_;omega),show 6+i - [Value.string nm,.int .i64 bu,.int .i64 pe,.bool sc,.bool st,.slice A k c].length=i by show 6+i - 6=i;omega];exact hlC_get HHL2.out hlt)
  go_wp2_with (go_at_call 88;refine(q2.step nsmall).mono ?_;clear q2;rintro e w2⟨rfl,q2⟩;obtain⟨hc,hf⟩:=HNW.out w2 q2);go_roundw
  case rel =>
   have hp2:=q2.own HQ2.out HPT2.out (by decide);have ho2:=q2.own HQ2.out HPO2.out (by decide);have hr2:=q2.own HQ2.out HRS2.out (by decide);have h36:=HLT.out;refine⟨i+1,by omega,by go_num,?_,?_,?_,?_,?_⟩
   ·rw[HE.out];exact q2.r.on (S:=fun j=>j=g3) (KpS.set (S:=fun j=>j=g3) rfl _ _) (fun e=>by
     obtain⟨vr,hr,_⟩:=q2.r;exact hp2.ne hr (by decide) g3 rfl (by rw[e];rfl)) (fun j e=>by have:=HBW.out;omega)
   ·rw[HE.out];have h:=hp2.set (6+i) (.int .i64 (nv u)) (by rw[List.length_append];show 6+i < 6+_;unfold hlC;rw[List.length_map,List.length_append,List.length_replicate];have:=HHL2.out;omega);rw[List.set_append_right _ _ (by show 6≤_;omega),show 6+i - [Value.string nm,.int .i64 bu,.int .i64 pe,.bool sc,.bool st,.slice A k c].length=i by show 6+i - 6=i;omega,hlC_set HHL2.out hlt] at h;exact h
   ·exact ho2.other _ _ (ho2.ne' hp2 (by decide))
   ·exact hr2.other _ _ (fun j e=>by injection e with e;injection e with e;show j≠g3;omega)
   exact kps_gb (S:=fun j=>j=g3) (gb_trans HGB2.out q2.gb) (KpS.set (S:=fun j=>j=g3) rfl _ _) (fun j e=>by omega)
  simp[intOf];omega
 have hlti:¬ (i:Int) < 5:=by omega
 obtain rfl:i=5:=by omega
 obtain⟨a0,a1,a2,a3,a4,rfl⟩:=five HHL2.out;go_upto_region 11 with fail;refine wp_region_lit (wpList_loadX rfl (.tmp 3) rfl rfl (agPt _) (szPt _) HPT2.out (wpList_storeX (l:=[.string nm,.int .i64 bu,.int .i64 pe,.bool sc,.bool st,.slice A k c,.int .i64 a0,.int .i64 a1,.int .i64 a2,.int .i64 a3,.int .i64 a4]) rfl (.tmp 2) (.tmp 41) rfl rfl rfl (szPt _) HRS2.out rfl (i_pcq (⟨nm,bu,pe,sc,st,A,k,c,a0,a1,a2,a3,a4⟩,[])) fun w9 ho9 hg9=>?_));go_wp2_with fail;refine bodyPost_ret (results_oneX rfl (agPt _) (szPt _) rfl ho9) rfl ?_;refine⟨(⟨nm,bu,pe,sc,st,A,k,c,a0,a1,a2,a3,a4⟩,l),rfl,⟨?_,⟨HHL.out,hkm3⟩,⟨HIN.out,HNF.out⟩,?_⟩,?_,?_⟩
 ·rw[HEG.out,HRR.out];rfl
 ·exact OwnV.keep' HPO2.out fun j e=>hg9.block j (HPO2.out.older e) fun e2=>HPO2.out.ne HRS2.out (by decide) j e (by rw[e2];rfl)
 ·rw[HEG.out,HRR.out];exact HQ2.out.on (S:=fun j=>j=g2) (KpS.gb hg9 rfl) (fun e=>by
   obtain⟨vr,hr,_⟩:=HQ2.out;exact HRS2.out.ne hr (by decide) g2 rfl (by rw[e];rfl)) (fun j e=>by have:=HBW.out;have:=HG2.out;omega)
 exact kps_gb (S:=fun j=>j=g2) HGB2.out (KpS.gb hg9 rfl) (fun j e=>by have:=HG2.out;omega)
end Go.Proofs.YtdkngfdnfekgfaaGreat
