import Derived.Test.YtfmndmhjjbeokaaGreatDoorShelf
import Derived.Test.YtfmndmhjjbeokaaGreatDoorLow22
import Derived.LaidMore
import Derived.Stop.LaidErr
set_option maxRecDepth 100000
set_option linter.unusedSimpArgs false
set_option linter.unusedVariables false
namespace Go.Proofs.YtfmndmhjjbeokaaGreatDoor
open Go.RowKit Go.Sort Tab Txt
def Hr(w:World):Prop:=Lib.TabIs Tryz.prog w tabN .u64 Lib.pow10Tab
theorem We:Tryz.prog.globalNamed tabN=some 0:=by kernel_rfl
theorem Hr.on{w w':World}(h:Hr w)(hb:Below w.heap.size w w'):Hr w':=by
 unfold Hr Lib.TabIs World.var? at h |-;rw[We] at h |-;simp only[As] at h |-;have aA:0 < w.heap.size:=by
  rcases Bk 0 w.heap.size with h' | h'
  ·exact h'
  rw[Dn h'] at h;cases h
 rw[hb.block _ aA];exact h
theorem jd(n:Nat):Lib.decDigits n=numB n:=by
 induction n using Nat.strongRecOn with
 | ind n ih =>
  rw[Lib.decDigits];rcases Bk n 10 with h | h
  ·rw[dif_pos h,numB_low h];rfl
  rw[dif_neg (by omega),numB_high h,ih (n / 10) (by omega)];rfl
theorem da(n:Nat):Lib.itoa (n:Int)=numB n:=by
 unfold Lib.itoa;rw[if_neg (by omega),Bx];exact jd n
theorem Tc(w:World)(k:Nat)(os:Array Obj):Below w.heap.size w (grow (w.drewN k) os) :=
 ⟨rfl,rfl,rfl,by show w.heap.size<=(w.heap++os).size;rw[Array.size_append];omega,fun i hi=>by show (w.heap++os)[i]? = w.heap[i]?;rw[Array.getElem?_append_left hi]⟩
theorem No(n:Nat)(hn:n<=9223372036854775807)(w:World)(h:Hr w):Calls Tryz.prog 72 #[.int .i64 (n:Int),.int .i64 10] w (Ans (.string (bsOf (numB n))) w) :=
 (Tryz.strconv_FormatInt_10 (n:Int) (by omega) (by omega) w h).mono fun e w' ⟨h1,k,os,h2⟩=>⟨by rw[h1,da];rfl,by rw[h2];exact Tc w k os⟩
theorem Hu(n:Nat)(hn:n<=9223372036854775807)(w:World)(h:Hr w):Calls Tryz.prog 37 #[.int .i64 (n:Int)] w (Ans (.string (bsOf (numB n))) w):=by
 have HF:=hid (No n hn w h);generalize bsOf (numB n)=sv at HF |-;go_in;go_wp2_with fail;refine HF.o.mono ?_;rintro e w1⟨rfl,hb⟩;go_wp2;go_ret;exact⟨rfl,hb⟩
theorem Ht(n:Nat)(hn:n<=9223372036854775807)(w:World)(h:Hr w):Calls Tryz.prog 58 #[.int .i64 (n:Int)] w (Ans (.string (bsOf (numB n))) w):=by
 have HF:=hid (No n hn w h);generalize bsOf (numB n)=sv at HF |-;go_in;go_wp2_with fail;refine HF.o.mono ?_;rintro e w1⟨rfl,hb⟩;go_wp2;go_ret;exact⟨rfl,hb⟩
theorem Pv(n:Nat)(hn:n<=4294967295)(w:World)(h:Hr w):Calls Tryz.prog 62 #[.int .u32 (n:Int)] w (Ans (.string (bsOf (numB n))) w):=by
 have HF:=hid (No n (by omega) w h);generalize bsOf (numB n)=sv at HF |-;have hw:IntKind.i64.wrap (n:Int)=(n:Int):=by rw[Cm];omega
 go_in;go_wp2_with fail;refine HF.o.mono ?_;rintro e w1⟨rfl,hb⟩;go_wp2;go_ret;exact⟨rfl,hb⟩
theorem Og(b:UInt8):∀ L:List (List UInt8),joinB b L=Lib.join L [b]
 | []=>rfl
 | [x]=>by rw[Lib.join_one];rfl
 | x::y::l=>by
  have ih:=Og b (y::l)
  rw[Lib.join_cons] at ih |-
  show x++b::joinB b (y::l)=_
  rw[ih]
  unfold Lib.joinTail
  simp
theorem Rg:∀ L:List (List UInt8),L.flatMap sc=L.map fun x=>Value.string (bsOf x)
 | []=>rfl
 | x::L=>by rw[Cu,Rg L];rfl
theorem Lx{B g n c:Nat}{L:List (List UInt8)}{w:World}(b:UInt8)(h:OwnV 9 1 w B (some ⟨g,0,none⟩) n c (L.flatMap sc))(hn:L.length=n)(hN:n<=1048576)(aA:(joinB b L).length<=140737488355328):
  Calls Tryz.prog 63 #[.slice (some ⟨g,0,none⟩) n c,.string (bsOf [b])] w (Ans (.string (bsOf (joinB b L))) w):=by
 have hc:∀(j:Nat) (x:ByteArray),(L.map bsOf)[j]? = some x->w.cell? ⟨g,0+j,none⟩=some (.string x):=fun j x hx=>by
  rw[Dr];rw[Bm] at hx;cases e:L[j]? with
  | none=>rw[e] at hx;cases hx
  | some y =>
   rw[e] at hx;injection hx with hx;have aB:j < L.length:=(Af.1 e).1;have h1:=Ah h j (by omega);rw[h1,<- hx,Rg,Bm,e];rfl
 have hm:(L.map bsOf).map (·.data.toList)=L:=by
  rw[List.map_map];exact List.map_id'' (fun x=>toL_bsOf x) L
 have hj:=Og b L;have:=Tryz.strings_Join g 0 c (L.map bsOf) (bsOf [b]) w hc (OwnV.obk_ge h (b:=g) rfl).2 (by rw[Bi];omega) (by rw[Bi,hn];exact OwnV.cap h) (by rw[hm];exact hj▸aA);rw[hm,Bi,hn] at this;refine this.mono fun e w' ⟨h1,h2⟩=>⟨?_,h2⟩;rw[h1,hj];rfl
end Go.Proofs.YtfmndmhjjbeokaaGreatDoor
namespace Go.Proofs.YtfmndmhjjbeokaaGreatDoor
open Go.ChangeShapes Go.WideShapes Go.ChangeAt Go.RowKit
def Of:List (String×DataW Unit):=Rows.textTablesRow.laid
theorem dm(os:Os)(args:Array Value):laidMetH Tryz.prog Of ((World.doorLaid Tryz.prog 24 os).forCall (fun _ _=>0) ⟨#[],args,[]⟩).memory :=
 laidMetH_of_parts3 (fuel:=8) (laidMet_of_run' 8 (by kernel_rfl) (by kernel_rfl)) (by kernel_rfl) (by kernel_rfl)
theorem Qu{W:World}(h:laidMetH Tryz.prog Of W):Hr W:=by
 rw[MakeChecks.laidMetH_plain _ _ _ (by kernel_rfl)] at h;have h2:laidMet Tryz.prog [(tabN,Lib.tabData .u64 Lib.pow10Tab)] W:=by
  have h1:=laidMet.tail (laidMet.tail (x:=(Rows.textTablesRow.laid.headD ("",.nil))) (r:=Rows.textTablesRow.laid.tail) h);have e:Rows.textTablesRow.laid.tail.tail=[(tabN,Lib.tabData .u64 Lib.pow10Tab)]:=by rfl
  rw[<- e];exact h1
 exact Lib.tabIs_of_head (g:=0) (t:=186) (e:=176) (n:=20) We (by kernel_rfl) Tryz.underlying186 Tryz.underlying176 (by kernel_rfl) (by kernel_rfl) h2
end Go.Proofs.YtfmndmhjjbeokaaGreatDoor
namespace Go.Proofs.YtfmndmhjjbeokaaGreatDoor
namespace Txt
open Tab
def Rds(f:Nat->List UInt8->Option (List Nd×List UInt8)):Prop:=∀ rm s x,f rm s=some x->x.2.length < s.length/\x.1.length<=rm/\0 < x.1.length
theorem numT_len{s:List UInt8}{x:Nat×List UInt8}(h:numT s=some x):x.2.length < s.length:=by
 unfold numT at h;split at h
 ·rename_i hv;injection h with h;subst h;have e:aheadT st3 s++behindT st3 s=s:=List.takeWhile_append_dropWhile;have h1:0 < (aheadT st3 s).length:=by
   cases ha:aheadT st3 s with
   | nil=>rw[ha] at hv;cases hv
   | cons c l=>exact Nat.succ_pos _
  have h2:=congrArg List.length e;rw[Aa] at h2;show (behindT st3 s).length < s.length;omega
 cases h
theorem kidsR_len{f:Nat->List UInt8->Option (List Nd×List UInt8)}(hf:Rds f):∀(k rm:Nat) (s:List UInt8) (y:List Nd×Nat×List UInt8),kidsR f k rm s=some y->y.2.2.length<=s.length/\y.1.length<=rm
 | 0,rm,s,y,h=>by cases h
 | k+1,rm,s,y,h=>by
  rw[kidsR_succ] at h
  cases ht:takeB 44 s with
  | none =>
   rw[ht] at h
   injection h with h
   subst h
   exact⟨Ag _,Cr _⟩
  | some s1 =>
   rw[ht] at h
   have es:=takeB_some ht
   have h:(match f rm s1 with | none=>none | some x=>match kidsR f k (rm - x.1.length) x.2 with | none=>none | some y=>some (x.1++y.1,y.2.1+1,y.2.2))=some y:=h
   cases hx:f rm s1 with
   | none=>rw[hx] at h;cases h
   | some x =>
    rw[hx] at h
    have h1:=hf rm s1 x hx
    have h:(match kidsR f k (rm - x.1.length) x.2 with | none=>none | some y=>some (x.1++y.1,y.2.1+1,y.2.2))=some y:=h
    cases hy:kidsR f k (rm - x.1.length) x.2 with
    | none=>rw[hy] at h;cases h
    | some z =>
     rw[hy] at h
     have h2:=kidsR_len hf k _ _ z hy
     injection h with h
     subst h
     rw[es]
     simp only[Ad,Aa]
     omega
theorem kidsR_fuel{f:Nat->List UInt8->Option (List Nd×List UInt8)}(hf:Rds f):∀(k k' rm:Nat) (s:List UInt8),s.length < k->s.length < k'->kidsR f k rm s=kidsR f k' rm s
 | 0,_,_,_,h,_=>absurd h (Nat.not_lt_zero _)
 | _,0,_,_,_,h=>absurd h (Nat.not_lt_zero _)
 | k+1,k'+1,rm,s,h,h'=>by
  rw[kidsR_succ,kidsR_succ]
  cases ht:takeB 44 s with
  | none=>rfl
  | some s1 =>
   have es:=takeB_some ht
   show (match f rm s1 with | none=>none | some x=>match kidsR f k (rm - x.1.length) x.2 with | none=>none | some y=>some (x.1++y.1,y.2.1+1,y.2.2))=(match f rm s1 with | none=>none | some x=>match kidsR f k' (rm - x.1.length) x.2 with | none=>none | some y=>some (x.1++y.1,y.2.1+1,y.2.2))
   cases hx:f rm s1 with
   | none=>rfl
   | some x =>
    have h1:=hf rm s1 x hx
    rw[es,Ad] at h h'
    show (match kidsR f k (rm - x.1.length) x.2 with | none=>none | some y=>some (x.1++y.1,y.2.1+1,y.2.2))=(match kidsR f k' (rm - x.1.length) x.2 with | none=>none | some y=>some (x.1++y.1,y.2.1+1,y.2.2))
    rw[kidsR_fuel hf k k' (rm - x.1.length) x.2 (by omega) (by omega)]
theorem winT_len{look:List UInt8->Int}{s:List UInt8}{x:List Nd×List UInt8}(h:winT look s=some x):x.2.length < s.length/\x.1.length=1:=by
 unfold winT at h;split at h
 ·cases h
 cases ht:takeB 58 (behindT st4 s) with
 | none=>rw[ht] at h;cases h
 | some r =>
  rw[ht] at h;have h:(numT r).map (fun x=>([(⟨1,look (aheadT st4 s),x.1⟩:Nd)],x.2))=some x:=h;obtain⟨y,hy,rfl⟩:=Option.map_eq_some_iff.1 h;have h1:=numT_len hy;have h2:=congrArg List.length (takeB_some ht);have h3:=behind_le st4 s;rw[Ad] at h2;exact⟨by show y.2.length < _;omega,rfl⟩
theorem seqT_len{f:Nat->List UInt8->Option (List Nd×List UInt8)}(hf:Rds f){rm:Nat}{s:List UInt8}{x:List Nd×List UInt8}(h:seqT f rm s=some x):x.2.length < s.length/\x.1.length<=rm+1/\0 < x.1.length:=by
 unfold seqT at h;cases ht:takeB 40 s with
 | none=>rw[ht] at h;cases h
 | some s1 =>
  rw[ht] at h;have es:=takeB_some ht;have h:(match f rm s1 with | none=>none | some x=>match kidsR f (x.2.length+1) (rm - x.1.length) x.2 with | none=>none | some y=>(takeB 41 y.2.2).map fun s4=>((⟨3,0,((y.2.1+1:Nat):Int)⟩:Nd)::(x.1++y.1),s4))=some x:=h;cases hx:f rm s1 with
  | none=>rw[hx] at h;cases h
  | some z =>
   rw[hx] at h;have h1:=hf rm s1 z hx;have h:(match kidsR f (z.2.length+1) (rm - z.1.length) z.2 with | none=>none | some y=>(takeB 41 y.2.2).map fun s4=>((⟨3,0,((y.2.1+1:Nat):Int)⟩:Nd)::(z.1++y.1),s4))=some x:=h;cases hy:kidsR f (z.2.length+1) (rm - z.1.length) z.2 with
   | none=>rw[hy] at h;cases h
   | some y =>
    rw[hy] at h;have h2:=kidsR_len hf _ _ _ y hy;have h:(takeB 41 y.2.2).map (fun s4=>((⟨3,0,((y.2.1+1:Nat):Int)⟩:Nd)::(z.1++y.1),s4))=some x:=h;obtain⟨s4,h4,rfl⟩:=Option.map_eq_some_iff.1 h;have e4:=congrArg List.length (takeB_some h4);rw[es];simp only[Ad,Aa] at e4 |-;omega
theorem repT_len{f:Nat->List UInt8->Option (List Nd×List UInt8)}(hf:Rds f){rm:Nat}{s:List UInt8}{x:List Nd×List UInt8}(h:repT f rm s=some x):x.2.length < s.length/\x.1.length<=rm+1/\0 < x.1.length:=by
 unfold repT at h;cases hv:numT s with
 | none=>rw[hv] at h;cases h
 | some v =>
  rw[hv] at h;have h1:=numT_len hv;have h:(match takeB 40 v.2 with | none=>none | some s2=>match f rm s2 with | none=>none | some x=>(takeB 41 x.2).map fun s4=>((⟨4,0,v.1⟩:Nd)::x.1,s4))=some x:=h;cases ht:takeB 40 v.2 with
  | none=>rw[ht] at h;cases h
  | some s2 =>
   rw[ht] at h;have es:=congrArg List.length (takeB_some ht);have h:(match f rm s2 with | none=>none | some x=>(takeB 41 x.2).map fun s4=>((⟨4,0,v.1⟩:Nd)::x.1,s4))=some x:=h;cases hx:f rm s2 with
   | none=>rw[hx] at h;cases h
   | some z =>
    rw[hx] at h;have h2:=hf rm s2 z hx;have h:(takeB 41 z.2).map (fun s4=>((⟨4,0,v.1⟩:Nd)::z.1,s4))=some x:=h;obtain⟨s4,h4,rfl⟩:=Option.map_eq_some_iff.1 h;have e4:=congrArg List.length (takeB_some h4);simp only[Ad] at e4 es |-;omega
theorem nodeR_rds(look:List UInt8->Int):∀ lv,Rds (nodeR look lv)
 | 0=>fun rm s x h=>by cases h
 | lv+1=>fun rm s x h=>by
  have ih:=nodeR_rds look lv
  have h:stepR look (nodeR look lv) rm s=some x:=h
  cases rm with
  | zero=>cases h
  | succ rm =>
   cases s with
   | nil=>cases h
   | cons c s =>
    rw[stepR_cons] at h
    rw[Ad]
    split at h
    ·have:=winT_len h
     omega
    ·split at h
     ·obtain⟨y,hy,rfl⟩:=Option.map_eq_some_iff.1 h
      have:=numT_len hy
      exact⟨by show y.2.length < _;omega,by show 1<=_;omega,Cv⟩
     ·split at h
      ·have:=seqT_len ih h
       omega
      ·split at h
       ·have:=repT_len ih h
        omega
       ·cases h
end Txt
namespace Txt
open Tab
def numL(m:Nat):Nat->List UInt8->Option (Nat×List UInt8)
 | n,[]=>if n=0 then none else some (n,[])
 | n,c::r=>if isD c=true then (if m < n*10+(c.toNat - 48) then none else numL m (n*10+(c.toNat - 48)) r) else if n=0 then none else some (n,c::r)
theorem numL_cons(m n:Nat)(c:UInt8)(r:List UInt8):numL m n (c::r)=if isD c=true then (if m < n*10+(c.toNat - 48) then none else numL m (n*10+(c.toNat - 48)) r) else if n=0 then none else some (n,c::r):=rfl
def numS(m:Nat):List UInt8->Option (Nat×List UInt8)
 | []=>none
 | c::r=>if c=48 then some (0,r) else numL m 0 (c::r)
theorem numS_cons(m:Nat)(c:UInt8)(r:List UInt8):numS m (c::r)=if c=48 then some (0,r) else numL m 0 (c::r):=rfl
theorem numL_end{m n:Nat}(hn:n≠0){t:List UInt8}(ht:∀ c,t.head? = some c->isD c=false):numL m n t=some (n,t):=by
 cases t with
 | nil=>unfold numL;rw[if_neg hn]
 | cons c r=>rw[numL_cons,ht c rfl,if_neg (by decide),if_neg hn]
theorem numL_num(m:Nat)(t:List UInt8):∀ n,1<=n->n<=m->numL m 0 (numB n++t)=numL m n t:=by
 intro n;induction n using Nat.strongRecOn generalizing t with
 | ind n ih =>
  intro h1 hn;rcases Bk n 10 with h | h
  ·rw[numB_low h];show numL m 0 (dg n::t)=_;rw[numL_cons,dg_isD h,if_pos rfl,dg_nat h,show 0*10+(48+n - 48)=n by omega,if_neg (by omega)]
  rw[numB_high h,Ar,ih (n / 10) (by omega) _ (by omega) (by omega)];show numL m (n / 10) (dg (n % 10)::t)=_;rw[numL_cons,dg_isD (by omega),if_pos rfl,dg_nat (by omega),show n / 10*10+(48+n % 10 - 48)=n by omega,if_neg (by omega)]
theorem numS_num{m n:Nat}(hn:n<=m){t:List UInt8}(ht:∀ c,t.head? = some c->isD c=false):numS m (numB n++t)=some (n,t):=by
 rcases Dm n with rfl | h
 ·rfl
 have h1:=numL_num m t n h hn;have h2:=num_head n h;have h3:=num_pos n;cases e:numB n with
 | nil=>rw[e] at h3;exact absurd h3 (by decide)
 | cons c r =>
  rw[e] at h1 h2;rw[Bo] at h1 |-;rw[numS_cons,if_neg (fun e=>h2 (by rw[e];rfl)),h1,numL_end (by omega) ht]
theorem isD_nat{c:UInt8}(h:isD c=true):48<=c.toNat/\c.toNat<=57:=by
 unfold isD at h;simpa only[Au,Av] using h
theorem dg_of{c:UInt8}(h:isD c=true):dg (c.toNat - 48)=c:=by
 have:=isD_nat h;apply Cz.1;rw[dg_nat (by omega)];omega
theorem valL_inv(m:Nat):∀(k:Nat) (w:List UInt8) (n:Nat),w.length<=k->valL m 0 w=some n->w≠[]->(w.length=1\/w.head?≠some 48)->w=numB n/\(w.head?≠some 48->0 < n)
 | 0,w,n,hk,_,h0,_=>absurd (List.eq_nil_of_length_eq_zero (by omega)) h0
 | k+1,w,n,hk,h,h0,h1=>by
  obtain⟨u,c,rfl⟩:∃ u c,w=u++[c]:=⟨w.dropLast,w.getLast h0,(List.dropLast_concat_getLast h0).symm⟩
  rw[valL_app] at h
  cases hu:valL m 0 u with
  | none=>rw[hu] at h;cases h
  | some a =>
   rw[hu] at h
   change valL m a [c]=some n at h
   rw[valL_cons] at h
   split at h
   ·rename_i hc
    simp only[Au,Av] at hc
    have hd:=isD_nat hc.1
    change some (a*10+(c.toNat - 48))=some n at h
    injection h with h
    cases u with
    | nil =>
     have ha:a=0:=by
      change some 0=some a at hu
      injection hu with hu
      exact hu.symm
     subst ha
     have hn:n=c.toNat - 48:=by omega
     refine⟨?_,fun aA=>?_⟩
     ·rw[numB_low (by omega),hn,dg_of hc.1];rfl
     ·rcases Dm n with h3 | h3
      ·exact absurd (congrArg some (Cz.1 (show c.toNat=(48:UInt8).toNat by rw[show (48:UInt8).toNat=48 from rfl];omega))) aA
      ·exact h3
    | cons x u =>
     have hx:(x::u).head?≠some 48:=by
      rcases h1 with h1 | h1
      ·simp at h1
      ·exact h1
     have hl:(x::u).length<=k:=by rw[Aa] at hk;simp only[Ad,Bh] at hk |-;omega
     obtain⟨i1,i2⟩:=valL_inv m k (x::u) a hl hu (by simp) (.inr hx)
     have ha:=i2 hx
     refine⟨?_,fun _=>by omega⟩
     rw[numB_high (show 10<=n by omega),show n / 10=a by omega,show n % 10=c.toNat - 48 by omega,dg_of hc.1,<- i1]
   ·cases h
theorem valF_inv{m:Nat}{w:List UInt8}(h:(valF m w).2=true):w=numB (valF m w).1/\(valF m w).1<=m:=by
 unfold valF at h |-;split at h
 ·cases h
 rename_i a ha;simp only[Au,Dh,Av,Bool.not_eq_true',decide_eq_false_iff_not] at h;obtain⟨h1,h2,h3⟩:=h;exact⟨(valL_inv m _ w a (Ag _) ha (fun e=>by rw[e] at h1;exact absurd h1 (by decide)) h3).1,h2⟩
theorem behind_head(p:UInt8->Bool)(s:List UInt8):∀ c,(behindT p s).head? = some c->p c=true:=by
 intro c h;have:=List.head?_dropWhile_not (fun c=>!p c) s;unfold behindT at h;rw[h] at this;simpa using this
theorem ahead_behind(p:UInt8->Bool)(s:List UInt8):aheadT p s++behindT p s=s:=List.takeWhile_append_dropWhile
theorem numT_numS{s:List UInt8}{x:Nat×List UInt8}(h:numT s=some x):numS lim40 s=some x:=by
 unfold numT at h;split at h
 ·rename_i hv;obtain⟨h1,h2⟩:=valF_inv hv;injection h with h;subst h;have e:=ahead_behind st3 s;rw[h1] at e;have:=numS_num (m:=lim40) h2 (t:=behindT st3 s) fun c hc=>by
   have h3:=behind_head st3 s c hc;cases hd:isD c with
   | false=>rfl
   | true=>rw[isD_st3 hd] at h3;cases h3
  rw[e] at this;exact this
 cases h
def winS(whose:List UInt8->Option (Int×List UInt8))(s:List UInt8):Option (List Nd×List UInt8):=match whose s with
 | none=>none
 | some p=>match takeB 58 p.2 with
  | none=>none
  | some r=>(numS lim40 r).map fun x=>([⟨1,p.1,x.1⟩],x.2)
def repS(f:Nat->List UInt8->Option (List Nd×List UInt8))(rm:Nat)(s:List UInt8):Option (List Nd×List UInt8):=match numS lim40 s with
 | none=>none
 | some v=>match takeB 40 v.2 with
  | none=>none
  | some s2=>match f rm s2 with
   | none=>none
   | some x=>(takeB 41 x.2).map fun s4=>(⟨4,0,v.1⟩::x.1,s4)
def stepS(whose:List UInt8->Option (Int×List UInt8))(f:Nat->List UInt8->Option (List Nd×List UInt8)):Nat->List UInt8->Option (List Nd×List UInt8)
 | 0,_=>none
 | _+1,[]=>none
 | rm+1,c::s=>if c=119 then winS whose s else if c=105 then (numS lim40 s).map fun x=>([⟨2,0,x.1⟩],x.2) else if c=115 then seqT f rm s else if c=114 then repS f rm s else none
theorem stepS_cons(whose:List UInt8->Option (Int×List UInt8))(f:Nat->List UInt8->Option (List Nd×List UInt8))(rm:Nat)(c:UInt8)(s:List UInt8):stepS whose f (rm+1) (c::s)=if c=119 then winS whose s else if c=105 then (numS lim40 s).map fun x=>([⟨2,0,x.1⟩],x.2) else if c=115 then seqT f rm s else if c=114 then repS f rm s else none:=rfl
def nodeS(whose:List UInt8->Option (Int×List UInt8)):Nat->Nat->List UInt8->Option (List Nd×List UInt8)
 | 0=>fun _ _=>none
 | lv+1=>stepS whose (nodeS whose lv)
def tableS(whose:List UInt8->Option (Int×List UInt8))(s:List UInt8):Option (List Nd×List UInt8):=nodeS whose 16 128 s
def LookS(look:List UInt8->Int)(whose:List UInt8->Option (Int×List UInt8)):Prop:=∀ s r,0<=look (aheadT st4 s)->takeB 58 (behindT st4 s)=some r->whose s=some (look (aheadT st4 s),behindT st4 s)
theorem kids_more{f g:Nat->List UInt8->Option (List Nd×List UInt8)}(h:∀ rm s x,f rm s=some x->g rm s=some x):∀(k rm:Nat) (s:List UInt8) (y:List Nd×Nat×List UInt8),kidsR f k rm s=some y->kidsR g k rm s=some y
 | 0,_,_,_,hy=>by cases hy
 | k+1,rm,s,y,hy=>by
  rw[kidsR_succ] at hy |-
  split at hy
  ·exact hy
  ·split at hy
   ·cases hy
   ·rename_i s1 _ x hx
    rw[h _ _ _ hx]
    split at hy
    ·cases hy
    ·rename_i z hz
     dsimp only
     rw[kids_more h k _ _ _ hz]
     exact hy
theorem seq_more{f g:Nat->List UInt8->Option (List Nd×List UInt8)}(h:∀ rm s x,f rm s=some x->g rm s=some x){rm:Nat}{s:List UInt8}{y:List Nd×List UInt8}(hy:seqT f rm s=some y):seqT g rm s=some y:=by
 unfold seqT at hy |-;split at hy
 ·cases hy
 split at hy
 ·cases hy
 rename_i s1 _ x hx;rw[h _ _ _ hx];split at hy
 ·cases hy
 rename_i z hz;dsimp only;rw[kids_more h _ _ _ _ hz];exact hy
theorem nodeR_S{look:List UInt8->Int}{whose:List UInt8->Option (Int×List UInt8)}(hl:LookS look whose):∀(lv rm:Nat) (s:List UInt8) (x:List Nd×List UInt8),nodeR look lv rm s=some x->nodeS whose lv rm s=some x
 | 0,_,_,_,h=>by cases h
 | lv+1,0,_,_,h=>by cases h
 | lv+1,rm+1,[],_,h=>by cases h
 | lv+1,rm+1,c::s,x,h=>by
  change stepR look (nodeR look lv) (rm+1) (c::s)=some x at h
  show stepS whose (nodeS whose lv) (rm+1) (c::s)=some x
  rw[stepR_cons] at h
  rw[stepS_cons]
  split at h
  ·rename_i hc
   rw[if_pos hc]
   unfold winT at h
   unfold winS
   split at h
   ·cases h
   ·rename_i hp
    split at h
    ·cases h
    ·rename_i r hr
     rw[hl s r (by omega) hr]
     dsimp only
     rw[hr]
     cases hn:numT r with
     | none=>rw[hn] at h;cases h
     | some v=>rw[hn] at h;dsimp only;rw[numT_numS hn];exact h
  ·rename_i hc
   rw[if_neg hc]
   split at h
   ·rename_i hc
    rw[if_pos hc]
    cases hn:numT s with
    | none=>rw[hn] at h;cases h
    | some v=>rw[hn] at h;rw[numT_numS hn];exact h
   ·rename_i hc
    rw[if_neg hc]
    split at h
    ·rename_i hc
     rw[if_pos hc]
     exact seq_more (nodeR_S hl lv) h
    ·rename_i hc
     rw[if_neg hc]
     split at h
     ·rename_i hc
      rw[if_pos hc]
      unfold repT at h
      unfold repS
      split at h
      ·cases h
      ·rename_i v hv
       rw[numT_numS hv]
       dsimp only
       split at h
       ·cases h
       ·rename_i s2 h2
        rw[h2]
        dsimp only
        split at h
        ·cases h
        ·rename_i y hy
         rw[nodeR_S hl lv _ _ _ hy]
         exact h
     ·cases h
theorem tableR_S{look:List UInt8->Int}{whose:List UInt8->Option (Int×List UInt8)}(hl:LookS look whose){s:List UInt8}{l:List Nd}(h:tableR look s=some l):tableS whose s=some (l,[]):=by
 have hg:=nodeR_S hl 16 128 s;unfold tableR at h;unfold tableS;generalize nodeR look 16 128 s=R at h hg;generalize nodeS whose 16 128 s=R' at hg |-;cases R with
 | none=>cases h
 | some x =>
  have h:(if x.2=[] then some x.1 else none)=some l:=h;rw[hg x rfl];split at h
  ·rename_i he;injection h with h;rw[<- h,<- he]
  cases h
