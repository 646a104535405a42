import Derived.Test.YtfddpnhaejkacaaGreatRk
import Derived.Test.YtfddpnhaejkacaaGreatLow12
set_option linter.unusedSimpArgs false
set_option linter.unusedVariables false
namespace Go.Proofs.YtfddpnhaejkacaaGreat
open Go.RowKit Tab
theorem frm_of_ofz {n:Nat} {x:Nd} {k:F} (hok:(F.cons x k .nil).ok) (hz:ofz n (k.dep+1) (one x k.lvs)=0):Frm (tidy (one x k.lvs)) (tidy (one x k.lvs)).length:=by
 obtain⟨h1,h2⟩:=ofz_runs hok
 obtain⟨_,_,h3,h4⟩:=ofz_ok hz
 exact⟨h1,h4,by rw[ticks_tidy];exact h3,h2⟩
theorem frm_row {w:World} {B:Nat} {t:TbV} (h:TbAt w B t) (hf:Frame t):Frm (rowF t) (rowF t).length:=frm_of_ofz h.ok hf.1
theorem tidy_row (t:TbV):tidy (rowF t)=rowF t:=tidy_tidy _
structure Told (P:List PtV) (C:List ChV) (t:List Nd) (X:List Rn) (now:List Nd) (Z:List Rn) (r:Rep):Prop where
 eq:tblF P C t X 0=(now,r,0)
 tbl:∃ x k,now=x::k.flat∧(F.cons x k .nil).ok∧tidy (one x k.lvs)=Z∧ofz now.length (k.dep+1) (one x k.lvs)=0
 len:now.length≤t.length
 ticks:ticks Z=ticks X
 tk:∀ q,tkOf q Z=tkOf q X
 swi:swi Z≤swi X
 holds:holdsF (wordsL Z) P C=0
 same:SameW (depP P C) X Z
 frm:Frm Z Z.length
 kept:r.kept=true→now=t∧r.moves=0
 done:r.kept=false→drwB P C Z=false
 nodes:r.nodes=now.length
 wasn:r.wasn=t.length
 was:r.was=X.length
 runs:r.runs=Z.length
 again:r.kept=false→tblF P C now Z 0=(now,⟨0,Z.length,Z.length,now.length,now.length,false⟩,0)
theorem told {P:List PtV} {C:List ChV} {x:Nd} {k:F} {X:List Rn} (hok:(F.cons x k .nil).ok) (hX:tidy (one x k.lvs)=X) (hz:ofz (x::k.flat).length (k.dep+1) (one x k.lvs)=0) (hk:holdsF (wordsL X) P C=0) :
  ∃ now Z r,Told P C (x::k.flat) X now Z r:=by
 have hF:Frm X X.length:=by rw[← hX];exact frm_of_ofz hok hz
 have hT:tidy X=X:=by rw[← hX];exact tidy_tidy _
 have h:=redF_redd (P:=P) (C:=C) X.length X hF (Nat.le_refl _)
 by_cases hl:(x::k.flat).length < (outF P C X).length
 ·exact⟨_,X,_,tblF_kept hk hl,⟨x,k,rfl,hok,hX,hz⟩,Nat.le_refl _,rfl,fun _=>rfl,Nat.le_refl _,hk,SameW.refl _ _,hF,fun _=>⟨rfl,rfl⟩,fun h=>(by cases h),rfl,rfl,rfl,rfl,fun h=>(by cases h)⟩
 ·obtain⟨x',k',e1,e2,_,e4,e5⟩:=outF_of (P:=P) (C:=C) hF hT
  refine⟨outF P C X,(redF P C X.length X).1,_,tblF_turned hk hl,⟨x',k',e1,e2,e4,e5⟩,by omega,h.ticks,h.tk,h.swi,okF_iff.1 (h.ok (okF_iff.2 hk)),h.same,h.frm,fun h=>(by cases h),fun _=>?_,rfl,rfl,rfl,rfl,fun _=>tblF_again hF hk⟩
  have:=drawF_none (h.tidy hT) h.done
  unfold drwB
  rw[this]
  rfl
end Go.Proofs.YtfddpnhaejkacaaGreat
