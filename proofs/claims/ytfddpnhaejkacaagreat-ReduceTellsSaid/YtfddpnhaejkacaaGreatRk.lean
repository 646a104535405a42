import Derived.Test.YtfddpnhaejkacaaGreatLow12
set_option linter.unusedSimpArgs false
set_option linter.unusedVariables false
namespace Go.Proofs.YtfddpnhaejkacaaGreat
open Go.RowKit Tab
theorem tabI_back {L:List Rn} (hF:Frm L L.length):∃ x k,tabI L.length (itemsI L)=x::k.flat∧(F.cons x k .nil).ok∧one x k.lvs=L∧k.dep+1≤16∧(tabI L.length (itemsI L)).length≤L.length+1:=by
 have hl:=hF.le
 obtain⟨f',hit,e⟩:=tab_items (L:=L) (by omega) L.length (itemsF L) (Items.start hF.all hF.pos)
 rw[itemsI_parts] at e
 obtain⟨x,k,e1,hok,ho,hd,_,_,h2⟩:=hit.table hl
 have e2:(F.cons x k .nil).flat=x::k.flat:=by simp[F.flat]
 rw[e,e1,e2]
 refine⟨x,k,rfl,hok,ho,hd,?_⟩
 rw[List.length_cons,F.flat_length]
 exact h2
def outF (P:List PtV) (C:List ChV) (X:List Rn):List Nd:=tabI (redF P C X.length X).1.length (itemsI (redF P C X.length X).1)
theorem tblF_kept {P:List PtV} {C:List ChV} {t:List Nd} {X:List Rn} (hk:holdsF (wordsL X) P C=0) (h:t.length < (outF P C X).length):tblF P C t X 0=(t,⟨0,X.length,X.length,t.length,t.length,true⟩,0):=by
 unfold outF at h
 unfold tblF
 rw[if_neg (by simp),if_neg (by rw[hk];simp),if_pos h]
theorem tblF_turned {P:List PtV} {C:List ChV} {t:List Nd} {X:List Rn} (hk:holdsF (wordsL X) P C=0) (h:¬ t.length < (outF P C X).length):tblF P C t X 0=(outF P C X,⟨(redF P C X.length X).2,(redF P C X.length X).1.length,X.length,(outF P C X).length,t.length,false⟩,0):=by
 unfold outF at h
 unfold tblF
 rw[if_neg (by simp),if_neg (by rw[hk];simp),if_neg h]
 rfl
theorem okF_iff {P:List PtV} {C:List ChV} {X:List Rn}:okF P C X=true↔holdsF (wordsL X) P C=0:=by
 unfold okF
 simp
theorem outF_again {P:List PtV} {C:List ChV} {X:List Rn} (hF:Frm X X.length):redF P C (redF P C X.length X).1.length (redF P C X.length X).1=((redF P C X.length X).1,0)∧outF P C (redF P C X.length X).1=outF P C X:=by
 have h:=redF_redd (P:=P) (C:=C) X.length X hF (Nat.le_refl _)
 have e:=redF_end h.done (redF P C X.length X).1.length
 refine⟨e,?_⟩
 show tabI (redF P C (redF P C X.length X).1.length (redF P C X.length X).1).1.length (itemsI (redF P C (redF P C X.length X).1.length (redF P C X.length X).1).1)=_
 rw[e]
 rfl
theorem tblF_again {P:List PtV} {C:List ChV} {X:List Rn} (hF:Frm X X.length) (hk:holdsF (wordsL X) P C=0) :
  tblF P C (outF P C X) (redF P C X.length X).1 0=(outF P C X,⟨0,(redF P C X.length X).1.length,(redF P C X.length X).1.length,(outF P C X).length,(outF P C X).length,false⟩,0):=by
 have h:=redF_redd (P:=P) (C:=C) X.length X hF (Nat.le_refl _)
 obtain⟨e1,e2⟩:=outF_again (P:=P) (C:=C) hF
 have hk2:holdsF (wordsL (redF P C X.length X).1) P C=0:=okF_iff.1 (h.ok (okF_iff.2 hk))
 rw[tblF_turned hk2 (by rw[e2];omega),e2,e1]
theorem ofz_nought2 {n D:Nat} {L:List Rn} (h1:n≤128) (h2:D≤16) (h3:ticks L≤4096) (h4:(tidy L).length≤96):ofz n D L=0:=by
 have e:rt n D (ticks L)=0:=by
  unfold rt
  rw[if_neg (by omega),if_neg (by omega),if_neg (by omega)]
 unfold ofz
 rw[if_pos e,if_neg (by omega)]
theorem outF_of {P:List PtV} {C:List ChV} {X:List Rn} (hF:Frm X X.length) (hT:tidy X=X):∃ x k,outF P C X=x::k.flat∧(F.cons x k .nil).ok∧one x k.lvs=(redF P C X.length X).1∧tidy (one x k.lvs)=(redF P C X.length X).1∧ofz (outF P C X).length (k.dep+1) (one x k.lvs)=0:=by
 have h:=redF_redd (P:=P) (C:=C) X.length X hF (Nat.le_refl _)
 have hf:=h.frm
 have h96:=hf.le
 obtain⟨x,k,e,hok,ho,hd,hlen⟩:=tabI_back hf
 have ht:=h.tidy hT
 refine⟨x,k,e,hok,ho,by rw[ho,ht],?_⟩
 have hlen2:(outF P C X).length≤(redF P C X.length X).1.length+1:=hlen
 rw[ho]
 exact ofz_nought2 (by omega) hd hf.tk (by rw[ht];exact h96)
end Go.Proofs.YtfddpnhaejkacaaGreat
