import Derived.Test.YtdkngfdnfekgfaaGreatLot29
set_option maxHeartbeats 1000000
set_option maxRecDepth 100000
set_option linter.unusedSimpArgs false
set_option linter.unusedVariables false
namespace Go.Proofs.YtdkngfdnfekgfaaGreat
open Go.RowKit
theorem first_byte(f k:Nat)(hf:f≤128)(hk:k≤8):(((UInt8.ofNat (f+k)).toNat:Nat):Int)=f+k:=by simp;omega
theorem low_byte(v:Nat):(v:Int) % 256=((UInt8.ofNat v).toNat:Int):=by simp
theorem be_move(v:Nat)(y r:List UInt8)(h:v≠0)(hy:Num.be v++y=r):Num.be (v / 256)++UInt8.ofNat v::y=r:=by
 rw[← hy,Num.be_pos v h];simp
theorem rput_any(A:Option Addr)(n cap:Nat)(l:List UInt8)(z:Int)(w:World)(h:Rd w w.heap.size A n l)(hn:n+9≤140737488355328)(h1:-9223372036854775808≤z)(h2:z≤9223372036854775807):
  Calls Tryz.prog 25 #[.slice A n cap,.int .i64 z] w (Made w (n+1+Num.wid z.natAbs) (l++Num.enc z)):=by
 by_cases hz:z < 0
 ·obtain⟨u,rfl,hu0,hu⟩:∃ u:Nat,z=-(u:Int)∧0 < u∧u≤9223372036854775808:=⟨z.natAbs,by omega,by omega,by omega⟩;have eu:(-(u:Int)).natAbs=u:=by omega
  have ew:IntKind.u64.wrap (-IntKind.u64.wrap (-(u:Int)))=(u:Int):=by simp only[IntKind.wrap_u64];omega
  have es:Num.enc (-(u:Int))=UInt8.ofNat (128+Num.wid u)::Num.be u:=by unfold Num.enc Num.sgn;rw[eu,if_pos (by omega)]
  rw[eu,es];have EU:=hid ew;have hw8:Num.wid u≤8:=Num.wid_le u 8 (by have:(256:Nat) ^ 8=18446744073709551616:=(by decide);omega);have E1:=hid (first_byte 128 (Num.wid u) (by omega) hw8);clear es eu ew;go_enter Tryz.func25,Tryz.ntmps25;go_wp2;go_loopw [5,7] (fun t x wr=>∃(v m:Nat) (A:Option Addr) (c:Nat) (y:List UInt8),t=.int .u64 v∧x=.slice A m c∧Own wr w.heap.size A m c y∧Num.be v++y=Num.be u∧v≤u∧Below w.heap.size w wr) (fun t _ _=>(intOf t).toNat)
  case atStart=>exact⟨u,0,none,0,[],u64_eq (by have:=EU.out;omega),rfl,World.ownsRow_nil _ _ _ _,List.append_nil _,Nat.le_refl _,Below.refl _ _⟩
  obtain⟨v,m,A2,c2,y,rfl,rfl,hw,hy,hv,hb⟩:=hrel;have H2:=hid hy;have hm:Num.wid v+m=Num.wid u:=by have:=congrArg List.length hy;rw[List.length_append,hw.len] at this;exact this
  have hsz:=hb.size;clear hy;by_cases hv0:0 < v
  ·have E2:=hid (low_byte v);go_wp2_with (at_builtin;go_loud (refine wpList_app rfl (.tmp 20) (.tmp 21) rfl rfl w.heap.size (some ⟨wr.heap.size,0,none⟩) 1 1 [UInt8.ofNat v] rfl (own_lit1 wr w.heap.size _ _ E2.out hsz) A2 m c2 y wr.heap.size rfl (hw.rd.alloc (Nat.le_refl _) _) (1+m) rfl (UInt8.ofNat v::y) rfl (by omega) (by simp;omega) ?_;intro A3 c3 w3 hw3 hb3));go_roundw
   case rel=>exact⟨v / 256,1+m,A3,c3,UInt8.ofNat v::y,by go_num,rfl,hw3,be_move v y _ (by omega) H2.out,by omega,(hb.alloc hsz _).trans hb3⟩
   simp[intOf];omega
  obtain rfl:v=0:=by omega
  obtain rfl:m=Num.wid u:=by rw[Num.wid_zero] at hm;omega
  obtain rfl:y=Num.be u:=by have:=H2.out;rwa [Num.be_zero,List.nil_append] at this
  clear hm H2;go_wp2_with (first
   | (at_builtin;refine wpList_app rfl (.tmp 23) (.tmp 24) rfl rfl wr.heap.size (some ⟨wr.heap.size,0,none⟩) 0 0 [] rfl (own_lit wr wr.heap.size [] #[] rfl (Nat.le_refl _) (by decide)) A n cap l w.heap.size rfl ((h.below hb).alloc hsz _) n (Nat.zero_add _) l (List.nil_append _) (by omega) (by simp) ?_;intro A3 c3 w3 hw3 hb3;have hc3:Below wr.heap.size wr w3:=((Below.refl _ _).alloc (Nat.le_refl _) _).trans hb3;have hz3:=hc3.size)
   | (at_builtin;refine wpList_app rfl (.tmp 25) (.tmp 31) rfl rfl wr.heap.size A3 n c3 l rfl (hw3.below rfl ((Below.refl _ _).alloc (Nat.le_refl _) _)) (some ⟨w3.heap.size,0,none⟩) 1 1 [UInt8.ofNat (128+Num.wid u)] (w3.heap.size+1) rfl (rd_lit1 w3 _ _ (by have:=E1.out;omega)) (n+1) rfl (l++[UInt8.ofNat (128+Num.wid u)]) rfl (by omega) (by simp;omega) ?_;intro A4 c4 w4 hw4 hb4;have hc4:Below wr.heap.size wr w4:=(hc3.alloc hz3 _).trans hb4;have hz4:=hc4.size)
   | (at_builtin;refine wpList_app rfl (.tmp 32) (.tmp 33) rfl rfl wr.heap.size A4 (n+1) c4 _ rfl hw4 A2 (Num.wid u) c2 (Num.be u) wr.heap.size rfl (hw.rd.below hc4) (n+1+Num.wid u) rfl (l++UInt8.ofNat (128+Num.wid u)::Num.be u) (by simp) (by omega) hz4 ?_;intro A5 c5 w5 hw5 hb5))
  go_ret;exact⟨A5,c5,rfl,hw5.weak hsz,hb.trans ((hc4.trans hb5).mono hsz)⟩
 obtain⟨u,rfl⟩:∃ u:Nat,z=(u:Int):=⟨z.natAbs,by omega⟩;have eu:((u:Int)).natAbs=u:=by omega
 have hu:u≤9223372036854775808:=by omega
 have ew:(u:Int)=(u:Int):=rfl;have es:Num.enc (u:Int)=UInt8.ofNat (0+Num.wid u)::Num.be u:=by unfold Num.enc Num.sgn;rw[eu,if_neg (by omega)]
 rw[eu,es];have EU:=hid ew;have hw8:Num.wid u≤8:=Num.wid_le u 8 (by have:(256:Nat) ^ 8=18446744073709551616:=(by decide);omega);have E1:=hid (first_byte 0 (Num.wid u) (by omega) hw8);clear es eu ew;go_enter Tryz.func25,Tryz.ntmps25;go_wp2;go_loopw [5,7] (fun t x wr=>∃(v m:Nat) (A:Option Addr) (c:Nat) (y:List UInt8),t=.int .u64 v∧x=.slice A m c∧Own wr w.heap.size A m c y∧Num.be v++y=Num.be u∧v≤u∧Below w.heap.size w wr) (fun t _ _=>(intOf t).toNat)
 case atStart=>exact⟨u,0,none,0,[],u64_eq (by have:=EU.out;omega),rfl,World.ownsRow_nil _ _ _ _,List.append_nil _,Nat.le_refl _,Below.refl _ _⟩
 obtain⟨v,m,A2,c2,y,rfl,rfl,hw,hy,hv,hb⟩:=hrel;have H2:=hid hy;have hm:Num.wid v+m=Num.wid u:=by have:=congrArg List.length hy;rw[List.length_append,hw.len] at this;exact this
 have hsz:=hb.size;clear hy;by_cases hv0:0 < v
 ·have E2:=hid (low_byte v);go_wp2_with (at_builtin;go_loud (refine wpList_app rfl (.tmp 20) (.tmp 21) rfl rfl w.heap.size (some ⟨wr.heap.size,0,none⟩) 1 1 [UInt8.ofNat v] rfl (own_lit1 wr w.heap.size _ _ E2.out hsz) A2 m c2 y wr.heap.size rfl (hw.rd.alloc (Nat.le_refl _) _) (1+m) rfl (UInt8.ofNat v::y) rfl (by omega) (by simp;omega) ?_;intro A3 c3 w3 hw3 hb3));go_roundw
  case rel=>exact⟨v / 256,1+m,A3,c3,UInt8.ofNat v::y,by go_num,rfl,hw3,be_move v y _ (by omega) H2.out,by omega,(hb.alloc hsz _).trans hb3⟩
  simp[intOf];omega
 obtain rfl:v=0:=by omega
 obtain rfl:m=Num.wid u:=by rw[Num.wid_zero] at hm;omega
 obtain rfl:y=Num.be u:=by have:=H2.out;rwa [Num.be_zero,List.nil_append] at this
 clear hm H2;go_wp2_with (first
  | (at_builtin;refine wpList_app rfl (.tmp 23) (.tmp 24) rfl rfl wr.heap.size (some ⟨wr.heap.size,0,none⟩) 0 0 [] rfl (own_lit wr wr.heap.size [] #[] rfl (Nat.le_refl _) (by decide)) A n cap l w.heap.size rfl ((h.below hb).alloc hsz _) n (Nat.zero_add _) l (List.nil_append _) (by omega) (by simp) ?_;intro A3 c3 w3 hw3 hb3;have hc3:Below wr.heap.size wr w3:=((Below.refl _ _).alloc (Nat.le_refl _) _).trans hb3;have hz3:=hc3.size)
  | (at_builtin;refine wpList_app rfl (.tmp 25) (.tmp 31) rfl rfl wr.heap.size A3 n c3 l rfl (hw3.below rfl ((Below.refl _ _).alloc (Nat.le_refl _) _)) (some ⟨w3.heap.size,0,none⟩) 1 1 [UInt8.ofNat (0+Num.wid u)] (w3.heap.size+1) rfl (rd_lit1 w3 _ _ (by have:=E1.out;omega)) (n+1) rfl (l++[UInt8.ofNat (0+Num.wid u)]) rfl (by omega) (by simp;omega) ?_;intro A4 c4 w4 hw4 hb4;have hc4:Below wr.heap.size wr w4:=(hc3.alloc hz3 _).trans hb4;have hz4:=hc4.size)
  | (at_builtin;refine wpList_app rfl (.tmp 32) (.tmp 33) rfl rfl wr.heap.size A4 (n+1) c4 _ rfl hw4 A2 (Num.wid u) c2 (Num.be u) wr.heap.size rfl (hw.rd.below hc4) (n+1+Num.wid u) rfl (l++UInt8.ofNat (0+Num.wid u)::Num.be u) (by simp) (by omega) hz4 ?_;intro A5 c5 w5 hw5 hb5))
 go_ret;exact⟨A5,c5,rfl,hw5.weak hsz,hb.trans ((hc4.trans hb5).mono hsz)⟩
theorem copied_at(A:Option Addr)(n cap:Nat)(l:List UInt8)(M:Int)(m:Nat)(w:World)(h:Rd w w.heap.size A n l)(hM:M=(m:Int))(hn:n≤140737488355328)(hm:m≤140737488355328):
  Calls Tryz.prog 103 #[.slice A n cap,.int .i64 M] w (Made w n l):=by
 subst hM;exact copied_any A n cap l m w h hn hm
theorem put_any(A:Option Addr)(n cap:Nat)(l:List UInt8)(z:Int)(w:World)(h:Rd w w.heap.size A n l)(hn:n+9≤140737488355328)(h1:-9223372036854775808≤z)(h2:z≤9223372036854775807):
  Calls Tryz.prog 81 #[.slice A n cap,.int .i64 z] w (Made w (n+1+Num.wid z.natAbs) (l++Num.enc z)):=by
 go_enter Tryz.func81,Tryz.ntmps81;go_wp2_with fail;refine(copied_at A n cap l 9 9 w h rfl (by omega) (by omega)).mono ?_;rintro e w1⟨A1,c1,rfl,hw1,hb1⟩;go_wp2_with fail;refine(number_any A1 n c1 w.heap.size l z w1 hw1 hb1.size hn h1 h2).mono ?_;rintro e w2⟨A2,c2,rfl,hw2,hb2⟩;go_wp2_with fail;go_ret;exact⟨A2,c2,rfl,hw2,hb1.trans hb2⟩
theorem wid_size(n:Nat)(h:n≤140737488355328):Num.wid n≤8:=Num.wid_le n 8 (by have:(256:Nat) ^ 8=18446744073709551616:=(by decide);omega)
theorem text_any(A:Option Addr)(n cap:Nat)(l:List UInt8)(s:ByteArray)(w:World)(h:Rd w w.heap.size A n l)(hn:n+s.size+9≤140737488355328):
  Calls Tryz.prog 83 #[.slice A n cap,.string s] w (Made w (n+1+Num.wid s.size+s.size) (l++Num.enc s.size++s.data.toList)):=by
 have hw8:=wid_size s.size (by omega);have ea:((s.size:Int)).natAbs=s.size:=by omega
 have EA:=hid ea;clear ea;go_enter Tryz.func83,Tryz.ntmps83;go_wp2_with fail;refine(copied_at A n cap l _ (9+s.size) w h (by omega) (by omega) (by omega)).mono ?_;rintro e w1⟨A1,c1,rfl,hw1,hb1⟩;go_wp2_with fail;refine(number_any A1 n c1 w.heap.size l s.size w1 hw1 hb1.size (by omega) (by omega) (by omega)).mono ?_;rw[EA.out];rintro e w2⟨A2,c2,rfl,hw2,hb2⟩;go_wp2_with (at_builtin;refine wpList_apps rfl (.tmp 14) (.tmp 15) rfl rfl w.heap.size A2 _ c2 _ rfl hw2 s rfl (n+1+Num.wid s.size+s.size) rfl _ rfl (by omega) ((hb1.trans hb2).size) ?_;intro A3 c3 w3 hw3 hb3);go_ret;exact⟨A3,c3,rfl,hw3,(hb1.trans hb2).trans hb3⟩
theorem rtext_any(A:Option Addr)(n cap:Nat)(l:List UInt8)(s:ByteArray)(w:World)(h:Rd w w.heap.size A n l)(hn:n+s.size+9≤140737488355328):
  Calls Tryz.prog 26 #[.slice A n cap,.string s] w (Made w (n+1+Num.wid s.size+s.size) (l++Num.enc s.size++s.data.toList)):=by
 have hw8:=wid_size s.size (by omega);have ea:((s.size:Int)).natAbs=s.size:=by omega
 have EA:=hid ea;clear ea;go_enter Tryz.func26,Tryz.ntmps26;go_wp2_with fail;refine(rput_any A n cap l s.size w h (by omega) (by omega) (by omega)).mono ?_;rw[EA.out];rintro e w2⟨A2,c2,rfl,hw2,hb2⟩;go_wp2_with (at_builtin;refine wpList_apps rfl (.tmp 8) (.tmp 9) rfl rfl w.heap.size A2 _ c2 _ rfl hw2 s rfl (n+1+Num.wid s.size+s.size) rfl _ rfl (by omega) (hb2.size) ?_;intro A3 c3 w3 hw3 hb3);go_ret;exact⟨A3,c3,rfl,hw3,hb2.trans hb3⟩
theorem put_at(A:Option Addr)(n cap:Nat)(l:List UInt8)(Z z:Int)(w:World)(h:Rd w w.heap.size A n l)(hZ:Z=z)(hn:n+9≤140737488355328)(h1:-9223372036854775808≤z)(h2:z≤9223372036854775807):
  Calls Tryz.prog 81 #[.slice A n cap,.int .i64 Z] w (Made w (n+1+Num.wid z.natAbs) (l++Num.enc z)):=by
 subst hZ;exact put_any A n cap l Z w h hn h1 h2
theorem rput_at(A:Option Addr)(n cap:Nat)(l:List UInt8)(Z z:Int)(w:World)(h:Rd w w.heap.size A n l)(hZ:Z=z)(hn:n+9≤140737488355328)(h1:-9223372036854775808≤z)(h2:z≤9223372036854775807):
  Calls Tryz.prog 25 #[.slice A n cap,.int .i64 Z] w (Made w (n+1+Num.wid z.natAbs) (l++Num.enc z)):=by
 subst hZ;exact rput_any A n cap l Z w h hn h1 h2
def fl(b:Bool):Int:=if b then 1 else 0
theorem fl_bd(b:Bool):(-9223372036854775808≤fl b∧fl b≤9223372036854775807):=by cases b <;> decide
theorem flag_any(A:Option Addr)(n cap:Nat)(l:List UInt8)(b:Bool)(w:World)(h:Rd w w.heap.size A n l)(hn:n+9≤140737488355328):
  Calls Tryz.prog 84 #[.slice A n cap,.bool b] w (Made w (n+1+Num.wid (fl b).natAbs) (l++Num.enc (fl b))):=by
 cases b
 ·go_enter Tryz.func84,Tryz.ntmps84;go_wp2_with fail;refine(put_at A n cap l 0 (fl false) w h rfl (by omega) (fl_bd _).1 (fl_bd _).2).mono ?_;rintro e w2⟨A2,c2,rfl,hw2,hb2⟩;go_wp2_with fail;go_ret;exact⟨A2,c2,rfl,hw2,hb2⟩
 go_enter Tryz.func84,Tryz.ntmps84;go_wp2_with fail;refine(put_at A n cap l 1 (fl true) w h rfl (by omega) (fl_bd _).1 (fl_bd _).2).mono ?_;rintro e w2⟨A2,c2,rfl,hw2,hb2⟩;go_wp2_with fail;go_ret;exact⟨A2,c2,rfl,hw2,hb2⟩
theorem rflag_any(A:Option Addr)(n cap:Nat)(l:List UInt8)(b:Bool)(w:World)(h:Rd w w.heap.size A n l)(hn:n+9≤140737488355328):
  Calls Tryz.prog 27 #[.slice A n cap,.bool b] w (Made w (n+1+Num.wid (fl b).natAbs) (l++Num.enc (fl b))):=by
 cases b
 ·go_enter Tryz.func27,Tryz.ntmps27;go_wp2_with fail;refine(rput_at A n cap l 0 (fl false) w h rfl (by omega) (fl_bd _).1 (fl_bd _).2).mono ?_;rintro e w2⟨A2,c2,rfl,hw2,hb2⟩;go_wp2_with fail;go_ret;exact⟨A2,c2,rfl,hw2,hb2⟩
 go_enter Tryz.func27,Tryz.ntmps27;go_wp2_with fail;refine(rput_at A n cap l 1 (fl true) w h rfl (by omega) (fl_bd _).1 (fl_bd _).2).mono ?_;rintro e w2⟨A2,c2,rfl,hw2,hb2⟩;go_wp2_with fail;go_ret;exact⟨A2,c2,rfl,hw2,hb2⟩
end Go.Proofs.YtdkngfdnfekgfaaGreat
namespace Go.Proofs.YtdkngfdnfekgfaaGreat
namespace Crc
def poly:BitVec 32:=0x04c11db7#32
def stp(c:BitVec 32):BitVec 32:=if c.msb then (c <<< 1) ^^^ poly else c <<< 1
def stpN:Nat→BitVec 32→BitVec 32
 | 0,c=>c
 | n+1,c=>stp (stpN n c)
def up(x:UInt8):BitVec 32:=(x.toBitVec.setWidth 32) <<< 24
def nxt(c:BitVec 32)(x:UInt8):BitVec 32:=stpN 8 (c ^^^ up x)
def fld(c:BitVec 32)(l:List UInt8):BitVec 32:=l.foldl nxt c
def ones:BitVec 32:=BitVec.allOnes 32
def of(l:List UInt8):BitVec 32:= ~~~ fld ones l
def sb(c:BitVec 32):List UInt8:=[UInt8.ofBitVec (c.extractLsb' 24 8),UInt8.ofBitVec (c.extractLsb' 16 8),UInt8.ofBitVec (c.extractLsb' 8 8),UInt8.ofBitVec (c.extractLsb' 0 8)]
def rd1(c:BitVec 32)(x:UInt8):BitVec 32:=c <<< 8 ||| x.toBitVec.setWidth 32
def rd(l:List UInt8):BitVec 32:=l.foldl rd1 0#32
theorem fld_append(c:BitVec 32)(l m:List UInt8):fld c (l++m)=fld (fld c l) m:=by
 simp[fld,List.foldl_append]
theorem low0:∀ x:BitVec 8,stpN 24 (x.setWidth 32)=(x.setWidth 32) <<< 24:=by decide +kernel
theorem four_inj(x0 x1 x2 x3 y0 y1 y2 y3:UInt8)
  (h:up x0 ^^^ ((x1.toBitVec.setWidth 32) <<< 16) ^^^ ((x2.toBitVec.setWidth 32) <<< 8) ^^^ (x3.toBitVec.setWidth 32) =
   up y0 ^^^ ((y1.toBitVec.setWidth 32) <<< 16) ^^^ ((y2.toBitVec.setWidth 32) <<< 8) ^^^ (y3.toBitVec.setWidth 32)):x0=y0∧x1=y1∧x2=y2∧x3=y3:=by
 have key:∀ i,(up x0 ^^^ ((x1.toBitVec.setWidth 32) <<< 16) ^^^ ((x2.toBitVec.setWidth 32) <<< 8) ^^^ (x3.toBitVec.setWidth 32)).getLsbD i =
   (up y0 ^^^ ((y1.toBitVec.setWidth 32) <<< 16) ^^^ ((y2.toBitVec.setWidth 32) <<< 8) ^^^ (y3.toBitVec.setWidth 32)).getLsbD i:=fun i=>by rw[h]
 have part:∀(x y:UInt8),(∀ i,i < 8→x.toBitVec.getLsbD i=y.toBitVec.getLsbD i)→x=y:=fun x y hxy=>by
  apply UInt8.eq_of_toBitVec_eq
  apply BitVec.eq_of_getLsbD_eq
  intro i hi;exact hxy i hi
 have z:∀(x:UInt8) (j:Nat),8≤j→x.toBitVec.getLsbD j=false:=fun x j hj=>BitVec.getLsbD_of_ge _ _ hj
 have bit:∀(x0 x1 x2 x3:UInt8) (i:Nat),(up x0 ^^^ ((x1.toBitVec.setWidth 32) <<< 16) ^^^ ((x2.toBitVec.setWidth 32) <<< 8) ^^^ (x3.toBitVec.setWidth 32)).getLsbD i =
   ((((decide (i < 32) && (!decide (i < 24) && x0.toBitVec.getLsbD (i - 24))) ^^ (decide (i < 32) && (!decide (i < 16) && x1.toBitVec.getLsbD (i - 16)))) ^^
    (decide (i < 32) && (!decide (i < 8) && x2.toBitVec.getLsbD (i - 8)))) ^^ (decide (i < 32) && x3.toBitVec.getLsbD i)):=fun x0 x1 x2 x3 i=>by
  simp only[up,BitVec.getLsbD_xor,BitVec.getLsbD_shiftLeft,BitVec.getLsbD_setWidth]
  by_cases h32:i < 32
  ·simp[h32,show i - 24 < 32 by omega,show i - 16 < 32 by omega,show i - 8 < 32 by omega]
  ·simp[h32]
 simp only[bit] at key
 refine⟨part _ _ fun i hi=>?_,part _ _ fun i hi=>?_,part _ _ fun i hi=>?_,part _ _ fun i hi=>?_⟩
 ·have:=key (24+i)
  rw[z x1 (24+i - 16) (by omega),z y1 (24+i - 16) (by omega),z x2 (24+i - 8) (by omega),z y2 (24+i - 8) (by omega),z x3 (24+i) (by omega),z y3 (24+i) (by omega),show 24+i - 24=i by omega] at this
  simpa [show 24+i < 32 by omega,show ¬ 24+i < 24 by omega] using this
 ·have:=key (16+i)
  rw[z x2 (16+i - 8) (by omega),z y2 (16+i - 8) (by omega),z x3 (16+i) (by omega),z y3 (16+i) (by omega),show 16+i - 16=i by omega] at this
  simpa [show 16+i < 32 by omega,show 16+i < 24 by omega,show ¬ 16+i < 16 by omega] using this
 ·have:=key (8+i)
  rw[z x3 (8+i) (by omega),z y3 (8+i) (by omega),show 8+i - 8=i by omega] at this
  simpa [show 8+i < 32 by omega,show 8+i < 24 by omega,show 8+i < 16 by omega,show ¬ 8+i < 8 by omega] using this
 ·have:=key i
  simpa [show i < 32 by omega,show i < 24 by omega,show i < 16 by omega,hi] using this
theorem rd_four(x0 x1 x2 x3:UInt8):rd [x0,x1,x2,x3]=up x0 ^^^ ((x1.toBitVec.setWidth 32) <<< 16) ^^^ ((x2.toBitVec.setWidth 32) <<< 8) ^^^ (x3.toBitVec.setWidth 32):=by
 have z:∀(x:UInt8) (j:Nat),8≤j→x.toBitVec.getLsbD j=false:=fun x j hj=>BitVec.getLsbD_of_ge _ _ hj;apply BitVec.eq_of_getLsbD_eq;intro i hi;simp only[rd,rd1,List.foldl,up,BitVec.getLsbD_xor,BitVec.getLsbD_or,BitVec.getLsbD_shiftLeft,BitVec.getLsbD_setWidth];rcases(show i < 8∨(8≤i∧i < 16)∨(16≤i∧i < 24)∨24≤i from by omega) with h | h | h | h
 ·simp[hi,h,show i < 16 by omega,show i < 24 by omega]
 ·simp[hi,h,show ¬ i < 8 by omega,show i - 8 < 8 by omega,show i < 24 by omega,z x3 i (by omega),show i - 8 < 32 by omega]
 ·simp[hi,h,show ¬ i < 8 by omega,show ¬ i < 16 by omega,show ¬ i - 8 < 8 by omega,show i - 16 < 8 by omega,show ¬ 8≤i - 16 by omega,z x3 i (by omega),z x2 (i - 8) (by omega),show i - 8 < 32 by omega,show i - 16 < 32 by omega,show i - 8 - 8=i - 16 by omega]
 simp[hi,h,show ¬ i < 8 by omega,show ¬ i < 16 by omega,show ¬ i < 24 by omega,show ¬ i - 8 < 8 by omega,show ¬ i - 8 - 8 < 8 by omega,z x3 i (by omega),z x2 (i - 8) (by omega),z x1 (i - 16) (by omega),show i - 8 < 32 by omega,show i - 8 - 8 < 32 by omega,show i - 16 < 32 by omega,show i - 8 - 8 - 8 < 32 by omega,show i - 8 - 8 - 8=i - 24 by omega,show i - 8 - 8=i - 16 by omega,show i - 24 < 32 by omega,show ¬ i - 16 < 8 by omega,show i - 16 - 8=i - 24 by omega]
theorem rd_inj(l m:List UInt8)(hl:l.length=4)(hm:m.length=4)(h:rd l=rd m):l=m:=by
 match l,m,hl,hm,h with
 | [x0,x1,x2,x3],[y0,y1,y2,y3],_,_,h =>
  rw[rd_four,rd_four] at h;obtain⟨rfl,rfl,rfl,rfl⟩:=four_inj _ _ _ _ _ _ _ _ h;rfl
theorem rd_sb(c:BitVec 32):rd (sb c)=c:=by
 unfold sb;rw[rd_four];apply BitVec.eq_of_getLsbD_eq;intro i hi;simp only[up,BitVec.getLsbD_xor,BitVec.getLsbD_shiftLeft,BitVec.getLsbD_setWidth,BitVec.getLsbD_extractLsb',UInt8.toBitVec_ofBitVec];rcases(show i < 8∨(8≤i∧i < 16)∨(16≤i∧i < 24)∨24≤i from by omega) with h | h | h | h
 ·simp[hi,h,show i < 16 by omega,show i < 24 by omega]
 ·simp[hi,h,show ¬ i < 8 by omega,show i - 8 < 8 by omega,show i < 24 by omega,show i - 8 < 32 by omega,show 8+(i - 8)=i by omega]
 ·simp[hi,h,show ¬ i < 8 by omega,show ¬ i < 16 by omega,show ¬ i - 8 < 8 by omega,show i - 16 < 8 by omega,show i - 16 < 32 by omega,show 16+(i - 16)=i by omega]
 simp[hi,h,show ¬ i < 8 by omega,show ¬ i < 16 by omega,show ¬ i < 24 by omega,show ¬ i - 8 < 8 by omega,show ¬ i - 16 < 8 by omega,show i - 24 < 8 by omega,show i - 24 < 32 by omega,show 24+(i - 24)=i by omega]
theorem sb_length(c:BitVec 32):(sb c).length=4:=rfl
def seal4(l:List UInt8):List UInt8:=l++sb (of l)
theorem rd_iff(l m:List UInt8)(hm:m.length=4):of l=rd m↔m=sb (of l):=by
 constructor
 ·intro h;exact rd_inj _ _ hm (sb_length _) (by rw[rd_sb,h])
 rintro rfl;exact(rd_sb _).symm
end Crc
open Go.RowKit
theorem bx(a b:BitVec 32):bits .xor .u32 (a.toNat:Int) (b.toNat:Int)=((a ^^^ b).toNat:Int):=by
 rw[u32_xor_nat _ _ a.isLt b.isLt,BitVec.toNat_xor]
theorem bor(a b:BitVec 32):bits .or .u32 (a.toNat:Int) (b.toNat:Int)=((a ||| b).toNat:Int):=by
 rw[u32_or_nat _ _ a.isLt b.isLt,BitVec.toNat_or]
theorem up_nat(x:UInt8):(x.toNat:Int) % 4294967296*16777216 % 4294967296=((Crc.up x).toNat:Int):=by
 have h:x.toNat < 256:=x.toBitVec.isLt;have e:(Crc.up x).toNat=x.toNat*16777216 % 4294967296:=by
  simp[Crc.up,BitVec.toNat_shiftLeft,Nat.shiftLeft_eq]
 rw[e];omega
theorem start_nat(c:BitVec 32)(x:UInt8):bits .xor .u32 (c.toNat:Int) ((x.toNat:Int) % 4294967296*16777216 % 4294967296)=((Crc.stpN 0 (c ^^^ Crc.up x)).toNat:Int):=by
 rw[up_nat,bx];rfl
theorem msb_yes(c:BitVec 32)(h:c.msb=true):((c.toNat:Int) / 2147483648 == 1)=true:=by
 have:=c.isLt;rw[BitVec.msb_eq_decide] at h;simp at h ⊢;omega
theorem msb_no(c:BitVec 32)(h:¬ c.msb=true):((c.toNat:Int) / 2147483648 == 1)=false:=by
 rw[BitVec.msb_eq_decide] at h;simp at h ⊢;omega
theorem shl_nat(c:BitVec 32):(c.toNat:Int)*(2:Int) % (4294967296:Int)=((c <<< 1).toNat:Int):=by
 rw[BitVec.toNat_shiftLeft];simp[Nat.shiftLeft_eq]
theorem stp_yes(c:BitVec 32)(h:c.msb=true):bits .xor .u32 ((c.toNat:Int)*(2:Int) % (4294967296:Int)) 79764919=((Crc.stp c).toNat:Int):=by
 rw[shl_nat];show bits .xor .u32 _ (((79764919#32).toNat:Nat):Int)=_;rw[bx];unfold Crc.stp;rw[if_pos h];rfl
theorem stp_no(c:BitVec 32)(h:¬ c.msb=true):(c.toNat:Int)*(2:Int) % (4294967296:Int)=((Crc.stp c).toNat:Int):=by
 rw[shl_nat];unfold Crc.stp;rw[if_neg h]
theorem u32_eq{a b:Int}(h:a=b):Value.int .u32 a=.int .u32 b:=by rw[h]
theorem ret_u32{a b:Int}(h:a=b):Ending.returned (.int .u32 a)=.returned (.int .u32 b):=by rw[h]
theorem rnext_any(c:BitVec 32)(x:UInt8)(w:World):
  Calls Tryz.prog 51 #[.int .u32 (c.toNat:Int),.int .u8 (x.toNat:Int)] w fun e w'=>e=.returned (.int .u32 ((Crc.nxt c x).toNat:Int))∧w=w':=by
 go_enter Tryz.func51,Tryz.ntmps51;go_wp2;go_loop [0,5] (fun t i=>∃ k:Nat,k≤8∧i=.int .i64 k∧t=.int .u32 ((Crc.stpN k (c ^^^ Crc.up x)).toNat:Int)) (fun _ i=>8 - (intOf i).toNat)
 case atStart=>exact⟨0,by omega,rfl,u32_eq (start_nat c x)⟩
 obtain⟨k,hk,rfl,rfl⟩:=hrel;by_cases hlt:k < 8
 ·by_cases hm:(Crc.stpN k (c ^^^ Crc.up x)).msb=true
  ·have h1:=msb_yes _ hm;have H:=hid (stp_yes _ hm);clear hm;go_wp2;go_round
   case rel=>exact⟨k+1,by omega,by go_num,u32_eq H.out⟩
   simp[intOf];omega
  have h1:=msb_no _ hm;have H:=hid (stp_no _ hm);clear hm;go_wp2;go_round
  case rel=>exact⟨k+1,by omega,by go_num,u32_eq H.out⟩
  simp[intOf];omega
 obtain rfl:k=8:=by omega
 go_wp2;go_ret;exact⟨rfl,rfl⟩
theorem fld_snoc(c:BitVec 32)(l:List UInt8)(k:Nat)(x:UInt8)(h:l[k]? = some x):Crc.fld c (l.take (k+1))=Crc.nxt (Crc.fld c (l.take k)) x:=by
 have:l.take (k+1)=l.take k++[x]:=by rw[List.take_add_one,h];rfl
 rw[this,Crc.fld_append];rfl
theorem flip_nat(c:BitVec 32):bits .xor .u32 (-1) (c.toNat:Int)=((~~~c).toNat:Int):=by
 show IntKind.u32.wrap ((BitVec.ofInt 32 (-1) ^^^ BitVec.ofInt 32 (c.toNat:Int)).toNat:Int)=_;have:BitVec.ofInt 32 (c.toNat:Int)=c:=by simp
 rw[this,IntKind.wrap_u32'];have e:(BitVec.ofInt 32 (-1) ^^^ c)= ~~~c:=by
  rw[show BitVec.ofInt 32 (-1)=BitVec.allOnes 32 from by decide];exact BitVec.allOnes_xor
 rw[e];have:=(~~~c).isLt;omega
theorem of_end(n:Nat)(l:List UInt8)(h:l.length=n):bits .xor .u32 (-1) ((Crc.fld Crc.ones (l.take n)).toNat:Int)=((Crc.of l).toNat:Int):=by
 rw[List.take_of_length_le (by omega),flip_nat];rfl
theorem rsum_any(A:Option Addr)(n cap:Nat)(l:List UInt8)(B:Nat)(w:World)(h:Rd w B A n l)(hn:n≤9223372036854775807):
  Calls Tryz.prog 29 #[.slice A n cap] w fun e w'=>e=.returned (.int .u32 ((Crc.of l).toNat:Int))∧w=w':=by
 have H0:=hid h.1;go_enter Tryz.func29,Tryz.ntmps29;go_wp2;go_loop [3,4] (fun t i=>∃ k:Nat,k≤n∧i=.int .i64 k∧t=.int .u32 ((Crc.fld Crc.ones (l.take k)).toNat:Int)) (fun _ i=>n - (intOf i).toNat)
 case atStart=>exact⟨0,by omega,rfl,rfl⟩
 obtain⟨k,hk,rfl,rfl⟩:=hrel;by_cases hlt:k < n
 ·obtain⟨ad,x,rfl,_,hx,hc⟩:=h.at_ hlt;have H:=hid (fld_snoc Crc.ones l k x hx);clear hx;go_wp2_with (go_at_call 51;refine(rnext_any _ _ _).mono ?_;rintro e w'⟨rfl,rfl⟩);go_round
  case rel=>exact⟨k+1,by omega,by go_num,by rw[H.out]⟩
  simp[intOf];omega
 obtain rfl:k=n:=by omega
 go_wp2;go_ret;exact⟨ret_u32 (of_end k l H0.out),rfl⟩
theorem byte24(c:BitVec 32):(c.toNat:Int) / (16777216:Int)=(((UInt8.ofBitVec (c.extractLsb' 24 8)).toNat:Nat):Int):=by
 have h:=c.isLt;have:(UInt8.ofBitVec (c.extractLsb' 24 8)).toNat=(c.toNat >>> 24) % 256:=by simp
 rw[this,Nat.shiftRight_eq_div_pow];omega
theorem byte16(c:BitVec 32):(c.toNat:Int) / (65536:Int) % (256:Int)=(((UInt8.ofBitVec (c.extractLsb' 16 8)).toNat:Nat):Int):=by
 have:(UInt8.ofBitVec (c.extractLsb' 16 8)).toNat=(c.toNat >>> 16) % 256:=by simp
 rw[this,Nat.shiftRight_eq_div_pow];omega
theorem byte8(c:BitVec 32):(c.toNat:Int) / (256:Int) % (256:Int)=(((UInt8.ofBitVec (c.extractLsb' 8 8)).toNat:Nat):Int):=by
 have:(UInt8.ofBitVec (c.extractLsb' 8 8)).toNat=(c.toNat >>> 8) % 256:=by simp
 rw[this,Nat.shiftRight_eq_div_pow];omega
theorem byte0(c:BitVec 32):(c.toNat:Int) % (256:Int)=(((UInt8.ofBitVec (c.extractLsb' 0 8)).toNat:Nat):Int):=by
 have:(UInt8.ofBitVec (c.extractLsb' 0 8)).toNat=c.toNat % 256:=by simp
 rw[this];omega
theorem sum_cells(c:BitVec 32):(#[Value.int .u8 ((c.toNat:Int) / 16777216),.int .u8 ((c.toNat:Int) / 65536 % 256),.int .u8 ((c.toNat:Int) / 256 % 256),.int .u8 ((c.toNat:Int) % 256)]:Array Value).toList=bs (Crc.sb c):=by
 rw[byte24,byte16,byte8,byte0];rfl
theorem sb_small(c:BitVec 32):(Crc.sb c).length≤4096:=by rw[Crc.sb_length];omega
theorem rseal_any(A:Option Addr)(n cap:Nat)(l:List UInt8)(w:World)(h:Rd w w.heap.size A n l)(hn:n≤140737488355000):
  Calls Tryz.prog 13 #[.slice A n cap] w (Made w (n+4) (Crc.seal4 l)):=by
 go_enter Tryz.func13,Tryz.ntmps13;go_wp2_with (first
  | (go_at_call 29;refine(rsum_any _ _ _ _ _ _ h (by omega)).mono ?_;rintro e w'⟨rfl,rfl⟩)
  | (at_builtin;refine wpList_app rfl (.tmp 6) (.tmp 7) rfl rfl w.heap.size (some ⟨w.heap.size,0,none⟩) 0 0 [] rfl (own_lit w w.heap.size [] #[] rfl (Nat.le_refl _) (by decide)) A n cap l w.heap.size rfl (h.alloc (Nat.le_refl _) _) n (Nat.zero_add _) l (List.nil_append _) (by omega) (by simp) ?_;intro A1 c1 w1 hw1 hb1)
  | (at_builtin;refine wpList_app rfl (.tmp 8) (.tmp 20) rfl rfl w.heap.size A1 n c1 l rfl (hw1.below rfl ((Below.refl _ _).alloc (Nat.le_refl _) _)) (some ⟨w1.heap.size,0,none⟩) 4 4 (Crc.sb (Crc.of l)) _ rfl (own_lit w1 w.heap.size (Crc.sb (Crc.of l)) _ (sum_cells _) (by have:=hb1.size;simp at this;omega) (sb_small _)).rd (n+4) rfl (Crc.seal4 l) rfl (by omega) (by have:=hb1.size;simp at this ⊢;omega) ?_;intro A2 c2 w2 hw2 hb2))
 go_ret;refine⟨A2,c2,rfl,hw2,?_⟩;have s1:=hb1.size;simp at s1;exact((Below.refl _ _).alloc (Nat.le_refl _) _).trans (hb1.trans (((Below.refl _ _).alloc (by omega) _).trans hb2))
end Go.Proofs.YtdkngfdnfekgfaaGreat
