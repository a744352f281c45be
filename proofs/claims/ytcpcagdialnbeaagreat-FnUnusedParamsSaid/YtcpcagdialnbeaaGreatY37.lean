/- Generic texts and models for the proofs of this seat: part 37. -/
import Derived.Test.YtcpcagdialnbeaaGreatY36
set_option linter.unusedVariables false
set_option linter.unusedSimpArgs false
namespace Go.Proofs.YtcpcagdialnbeaaGreat
open Go
def za5 (x:PM):List AC:=[.int x.o,.int x.n,.sl 3 x.kids]
structure PIn (D:List DM) (R:List PM):Prop where
 d:∀ d ∈ D,DOk d
 r:∀ x ∈ R,POk x
 dl:D.length ≤ zaE
 rl:R.length ≤ zaE
theorem zzO {ds fs:List (List AC)} (h:Fit .prog [.sl 3 ds,.sl 5 fs]):∃ D R,ds = zaf D ∧ fs = zal R ∧ PIn D R:=by
 generalize ht:Ty.prog = t at h
 generalize hx:[AC.sl 3 ds,AC.sl 5 fs] = x at h
 cases h with
 | prog ds' fs' hd hf h1 h2 =>
  simp only [List.cons.injEq,AC.sl.injEq,true_and,and_true] at hx
  obtain ⟨rfl,rfl⟩:=hx
  obtain ⟨D,rfl,hD⟩:=zwY h1
  obtain ⟨R,rfl,hR⟩:=zyr h2
  exact ⟨D,R,rfl,rfl,hD,hR,by simpa [zaf] using hd,by simpa [zal] using hf⟩
 | _ => cases ht
structure VP (D:List DM) (R:List PM):Prop where
 cp:CP D R
 pos:1 ≤ R.length
 small:∀ k,k < R.length → cS (za5 (gP R k)) ≤ 29
 nm:∀ k,k < R.length → Nm R.length (za5 (gP R k))
 sg:znZ D R = true
 ty:∀ k,k < R.length → zkG [.agg [.sl 3 (zaf D),.sl 5 (zal R)],.cell (.sl 1 (zad (gP R k).ps)),.agg (za5 (gP R k))] = rI (gP R k).r
section
variable {D:List DM} {R:List PM}
theorem zwC {x:List AC}:decide (zsf x < 0) = !decide (cS x ≤ 29):=by
 unfold zsf
 split
 ·rename_i h; rw [decide_eq_true h,decide_eq_false (by omega)]; rfl
 ·rename_i h; rw [decide_eq_false h]; rfl
theorem zwc (hi:PIn D R) (hs:znZ D R = true) (hv:CP D R) {k:Nat} (hk:k < R.length) {t:Int} (hT:cS (za5 (gP R k)) ≤ 29 → zyq D R (gP R k).ps [] (za5 (gP R k)) t) :
  zkG [.agg [.sl 3 (zaf D),.sl 5 (zal R)],.cell (.sl 1 (zad (gP R k).ps)),.agg (za5 (gP R k))] = rI (if cS (za5 (gP R k)) ≤ 29 then t else -1):=by
 have hx:=hi.r _ (zgS hk)
 refine zsj (zai (zlO D R hi.d hi.r hi.dl) ?_)
 rw [hs]
 refine zaa rfl (zai (zoh D _ hx.ps.len) ?_)
 have ha:(gP R k).ps.all (zeo D) = true:=by
  rw [List.all_eq_true]
  exact fun t ht => isTy_iff.2 ((hv.ps k hk).2 t ht)
 rw [ha]
 refine zaa rfl (zay (zuw hx.b) ?_)
 rw [zwC]
 show (bif !decide (cS (za5 (gP R k)) ≤ 29) then _ else _) = _
 by_cases h:cS (za5 (gP R k)) ≤ 29
 ·rw [if_pos h,decide_eq_true h]
  exact zaa rfl (zay (hT h).2.1 rfl)
 ·rw [if_neg h,decide_eq_false h]
  exact zac rfl rfl
theorem zyb (hi:PIn D R):∃ b,zaN [.agg [.sl 3 (zaf D),.sl 5 (zal R)]] = rB b ∧ zbe [.agg [.sl 3 (zaf D),.sl 5 (zal R)]] = rB b ∧ (b = true → VP D R):=by
 rcases hs:znZ D R with _ | _
 ·refine ⟨false,zid (zai (zlO D R hi.d hi.r hi.dl) ?_),zij (zai (zo9 D R hi.d hi.r hi.dl) ?_),(fun h => by cases h)⟩
  ·rw [hs]; exact zac rfl rfl
  ·rw [hs]; exact zac rfl rfl
 have hv:=zGO hi.r hs
 have hR:=hv.rl
 have h1:1 ≤ R.length:=by
  simp only [znZ,Bool.and_eq_true,decide_eq_true_eq] at hs
  exact hs.2.1
 obtain ⟨T,hT⟩:=zwF (m:=R.length) (P:=fun k t => cS (za5 (gP R k)) ≤ 29 → zyq D R (gP R k).ps [] (za5 (gP R k)) t) (fun k hk => by
  by_cases h:cS (za5 (gP R k)) ≤ 29
  ·have hx:=hi.r _ (zgS hk)
   obtain ⟨t,ht⟩:=zCJ hv 30 _ _ _ hx.b (by show cS (za5 (gP R k)) < 30; omega) (by omega) (gP R k).ps [] (fun t ht => by rw [List.append_nil] at ht; exact (hv.ps k hk).2 t ht) (by rw [List.append_nil]; have:=(hv.ps k hk).1; omega)
   exact ⟨t,fun _ => ht⟩
  ·exact ⟨0,fun h' => absurd h' h⟩)
 let okF:Nat → Bool:=fun k => decide (cS (za5 (gP R k)) ≤ 29) && (T k == (gP R k).r)
 refine ⟨(List.range R.length).all okF,zid (zai (zlO D R hi.d hi.r hi.dl) ?_),zij (zai (zo9 D R hi.d hi.r hi.dl) ?_),fun h => ⟨hv,h1,fun k hk => ?_,fun k hk => ?_,hs,fun k hk => ?_⟩⟩
 ·rw [hs]
  refine zaa rfl ?_
  have key:∀ m k:Nat,k + m = R.length → zdt (zaf D) (zal R) (zal R) (((zal R).length:Nat):Int) (k:Int) = rB (((List.range R.length).drop k).all okF):=by
   intro m
   induction m with
   | zero => intro k hk; exact zga (zaa (decide_eq_false (by rw [zaF]; omega)) (by rw [List.drop_eq_nil_of_le (by simp; omega)]; rfl))
   | succ m ih =>
    intro k hk
    have hlt:k < R.length:=by omega
    have hrr:=hv.r k hlt
    rw [zl3 hlt]
    refine zga (zac (decide_eq_true (by rw [zaF]; omega)) (zaH (k:=k) rfl hlt (zay (zwc hi hs hv hlt (hT k hlt)) ?_)))
    show _ = rB ((decide (cS (za5 (gP R k)) ≤ 29) && (T k == (gP R k).r)) && _)
    by_cases h:cS (za5 (gP R k)) ≤ 29
    ·rw [if_pos h,decide_eq_true h]
     by_cases hq:T k = (gP R k).r
     ·rw [eqt hq]
      exact zaa (nef hq) (by rw [wrk (by unfold zaE; omega)]; exact ih (k + 1) (by omega))
     ·rw [eqf hq]
      exact zac (net hq) rfl
    ·rw [if_neg h,decide_eq_false h]
     exact zac (net (by omega)) rfl
  have:=key R.length 0 (by omega)
  rw [List.drop_zero] at this
  exact this
 ·rw [hs]
  refine zaa rfl ?_
  have key:∀ m k:Nat,k + m = R.length → zdr (zaf D) (zal R) (k:Int) = rB (((List.range R.length).drop k).all okF):=by
   intro m
   induction m with
   | zero => intro k hk; exact zf9 (zaa (decide_eq_false (by rw [zaF]; omega)) (by rw [List.drop_eq_nil_of_le (by simp; omega)]; rfl))
   | succ m ih =>
    intro k hk
    have hlt:k < R.length:=by omega
    have hrr:=hv.r k hlt
    have hx:=hi.r _ (zgS hlt)
    rw [zl3 hlt]
    refine zf9 (zac (decide_eq_true (by rw [zaF]; omega)) (zaH (k:=k) rfl hlt (zay (zqE hx.b) ?_)))
    rw [zwC]
    show (bif !decide (cS (za5 (gP R k)) ≤ 29) then _ else _) = rB ((decide (cS (za5 (gP R k)) ≤ 29) && (T k == (gP R k).r)) && _)
    by_cases h:cS (za5 (gP R k)) ≤ 29
    ·rw [decide_eq_true h]
     have ht:=(hT k hlt h).2.2.1
     rw [List.append_nil] at ht
     refine zaa rfl (zaH (k:=k) rfl hlt (zaH (k:=k) rfl hlt (zay ht (zaH (k:=k) rfl hlt ?_))))
     by_cases hq:T k = (gP R k).r
     ·rw [eqt hq]
      exact zaa (nef hq) (by rw [wrk (by unfold zaE; omega)]; exact ih (k + 1) (by omega))
     ·rw [eqf hq]
      exact zac (net hq) rfl
    ·rw [decide_eq_false h]
     exact zac rfl rfl
  have:=key R.length 0 (by omega)
  rw [List.drop_zero] at this
  exact this
 ·rw [List.all_eq_true] at h
  have:=h k (by simpa using hk)
  simp only [okF,Bool.and_eq_true,decide_eq_true_eq] at this
  exact this.1
 ·rw [List.all_eq_true] at h
  have:=h k (by simpa using hk)
  simp only [okF,Bool.and_eq_true,decide_eq_true_eq,beq_iff_eq] at this
  have hr:=(hv.r k hk).1
  exact (hT k hk this.1).2.2.2 (by omega)
 ·rw [List.all_eq_true] at h
  have:=h k (by simpa using hk)
  simp only [okF,Bool.and_eq_true,decide_eq_true_eq,beq_iff_eq] at this
  rw [zwc hi hs hv hk (hT k hk),if_pos this.1,this.2]
end
def zlm (T:Nat → Int):Nat → Nat → Int
 | 0,_ => 0
 | m + 1,k => T k + zlm T m (k + 1)
theorem zso {kids:List (List AC)} {T:Nat → Int} (h:∀ k,k < kids.length → 0 ≤ T k ∧ T k ≤ ((1 + cS (kids.getD k []):Nat):Int)):∀ m k:Nat,k + m = kids.length → 0 ≤ zlm T m k ∧ zlm T m k ≤ (zj3 kids k:Nat)
 | 0,k,hk => by
  obtain rfl:k = kids.length:=by omega
  rw [zs3]
  exact ⟨Int.le_refl _,Int.le_refl _⟩
 | m + 1,k,hk => by
  have:=zso h m (k + 1) (by omega)
  have h1:=h k (by omega)
  rw [zgq (show k < kids.length by omega)]
  unfold zlm
  omega
theorem zEt (op num:Int) (kids:List (List AC)) (T:Nat → Int) (hml:kids.length ≤ zaE) (h:∀ k,k < kids.length → 0 ≤ T k ∧ T k ≤ ((1 + cS (kids.getD k []):Nat):Int)) (hb:∀ k,k < kids.length → ∃ o n ks,kids.getD k [] = [.int o,.int n,.sl 3 ks])
  (hT:∀ k,k < kids.length → zbl [.agg (kids.getD k []),.cell (.int op),.cell (.int num)] = rI (T k)):∀ m k:Nat,k + m = kids.length → ∀ c:Int,0 ≤ c → c + (zj3 kids k:Nat) ≤ 1000 → zbJ op num c kids ((kids.length:Nat):Int) (k:Int) = rI (c + zlm T m k):=by
 intro m
 induction m with
 | zero =>
  intro k hk c h0 h1
  refine zbX (zaa (decide_eq_false (by omega)) ?_)
  rw [zlm,Int.add_zero]
 | succ m ih =>
  intro k hk c h0 h1
  have hlt:k < kids.length:=by omega
  obtain ⟨o,n,ks,e⟩:=hb k hlt
  have ht:=hT k hlt
  have hb1:=h k hlt
  have hr:=zgq hlt
  have hrl:kids.length - k ≤ zj3 kids k:=by unfold zj3; omega
  rw [e] at ht
  refine zbX (zac (decide_eq_true (by omega)) (zcj hlt e (zay ht ?_)))
  rw [wr (by omega) (by omega),wrk (by omega),ih (k + 1) (by omega) _ (by omega) (by omega),zlm,Int.add_assoc]
theorem zDn (kids:List (List AC)):kids.length ≤ zj3 kids 0:=by unfold zj3; omega
theorem zDG (v o n:Int) (kids:List (List AC)) (T:Nat → Int) (hml:kids.length ≤ zaE) (h:∀ k,k < kids.length → 0 ≤ T k ∧ T k ≤ ((1 + cS (kids.getD k []):Nat):Int)) (hb:∀ k,k < kids.length → ∃ o n ks,kids.getD k [] = [.int o,.int n,.sl 3 ks])
  (hT:∀ k,k < kids.length → zd8 [.agg (kids.getD k []),.cell (.int v)] = rI (T k)):∀ m k:Nat,k + m = kids.length → ∀ c:Int,0 ≤ c → c + (zj3 kids k:Nat) ≤ 1000 → zdn v o n kids c (k:Int) = rI (c + zlm T m k):=by
 intro m
 induction m with
 | zero =>
  intro k hk c h0 h1
  refine zjF (zaa (decide_eq_false (by omega)) ?_)
  rw [zlm,Int.add_zero]
 | succ m ih =>
  intro k hk c h0 h1
  have hlt:k < kids.length:=by omega
  obtain ⟨o,n,ks,e⟩:=hb k hlt
  have ht:=hT k hlt
  have hb1:=h k hlt
  have hr:=zgq hlt
  have hrl:kids.length - k ≤ zj3 kids k:=by unfold zj3; omega
  rw [e] at ht
  refine zjF (zac (decide_eq_true (by omega)) (zcj hlt e (zay ht ?_)))
  rw [wr (by omega) (by omega),wrk (by omega),ih (k + 1) (by omega) _ (by omega) (by omega),zlm,Int.add_assoc]
theorem zE1:∀ (s:Nat) (v o n:Int) (kids:List (List AC)),Fit .expr [.int o,.int n,.sl 3 kids] → cS [.int o,.int n,.sl 3 kids] < s → s ≤ 31 →
  ∃ m:Int,(0 ≤ m ∧ m ≤ ((1 + cS [.int o,.int n,.sl 3 kids]:Nat):Int)) ∧ zbl [.agg [.int o,.int n,.sl 3 kids],.cell (.int 9),.cell (.int v)] = rI m ∧ zd8 [.agg [.int o,.int n,.sl 3 kids],.cell (.int v)] = rI m:=by
 intro s
 induction s with
 | zero => intro v o n kids _ h; omega
 | succ s ihs =>
  intro v o n kids hf hs hs31
  obtain ⟨_,hn,hml,hk⟩:=zlR hf
  have hb:∀ k,k < kids.length → ∃ o n ks,kids.getD k [] = [.int o,.int n,.sl 3 ks]:=fun k hlt => by
   obtain ⟨o',n',ks,e,_⟩:=zez hk hlt
   exact ⟨o',n',ks,e⟩
  obtain ⟨T,hT⟩:=zwF (m:=kids.length) (P:=fun k t => (0 ≤ t ∧ t ≤ ((1 + cS (kids.getD k []):Nat):Int)) ∧ zbl [.agg (kids.getD k []),.cell (.int 9),.cell (.int v)] = rI t ∧ zd8 [.agg (kids.getD k []),.cell (.int v)] = rI t) (fun k hlt => by
   obtain ⟨o',n',ks,e,hf'⟩:=zez hk hlt
   have h1:=zlE hlt (o:=o) (n:=n)
   rw [e] at h1
   simp only [e]
   exact ihs v o' n' ks hf' (by omega) (by omega))
  have hbd:=fun k hk => (hT k hk).1
  have hsum:=zso hbd kids.length 0 (by omega)
  have hr0:=zlA o n kids
  have hlr:=zDn kids
  have li:=zEt 9 v kids T hml hbd hb (fun k hk => (hT k hk).2.1) kids.length 0 (by omega)
  have ls:=zDG v o n kids T hml hbd hb (fun k hk => (hT k hk).2.2) kids.length 0 (by omega)
  by_cases ho:o = 9
  ·by_cases hv:n = v
   ·refine ⟨1 + zlm T kids.length 0,by omega,zbu (zac (eqt ho) (zac (eqt hv) (li 1 (by omega) (by omega)))),ziK (zac (eqt ho) (zac (eqt hv) (ls 1 (by omega) (by omega))))⟩
   ·refine ⟨0 + zlm T kids.length 0,by omega,zbu (zac (eqt ho) (zaa (eqf hv) (li 0 (by omega) (by omega)))),ziK (zac (eqt ho) (zaa (eqf hv) (ls 0 (by omega) (by omega))))⟩
  ·refine ⟨0 + zlm T kids.length 0,by omega,zbu (zaa (eqf ho) (li 0 (by omega) (by omega))),ziK (zaa (eqf ho) (ls 0 (by omega) (by omega)))⟩
end Go.Proofs.YtcpcagdialnbeaaGreat
