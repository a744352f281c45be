/- Generic texts and models for the proofs of this seat: part 36. -/
import Derived.Test.YtbodfaghedolbaaY35
set_option linter.unusedVariables false
set_option linter.unusedSimpArgs false
namespace Go.Proofs.Ytbodfaghedolbaa
open Go
section
variable {D:List DM} {R:List PM}
noncomputable abbrev iTy (D:List DM) (R:List PM) (G M:List Int) (x:List AC):Option AV:=zbk [.agg [.sl 3 (zak D),.sl 5 (zaD R)],.agg [.sl 1 (zae G),.sl 1 (zae M)],.agg x]
noncomputable abbrev sTy (D:List DM) (R:List PM) (V:List Int) (x:List AC):Option AV:=zaG [.agg [.sl 3 (zak D),.sl 5 (zaD R)],.cell (.sl 1 (zae V)),.agg x]
inductive Nm (m:Nat):List AC → Prop
 | node (o n:Int) (kids:List (List AC)) (h:o = 9 ∨ o = 10 → 0 ≤ n ∧ n < m) (hk:∀ k,k < kids.length → Nm m (kids.getD k [])):Nm m [.int o,.int n,.sl 3 kids]
def zs7 (D:List DM) (R:List PM) (G M:List Int) (x:List AC) (t:Int):Prop:=okT D t ∧ iTy D R G M x = rI t ∧ sTy D R (G ++ M) x = rI t ∧ (0 ≤ t → Nm R.length x)
theorem zf2 {P:Prop} (h:0 ≤ (-1:Int)):P:=absurd h (by decide)
theorem zsP {T:Nat → Int} {t0:Int}:∀ m k,0 ≤ chk T t0 m k → 0 ≤ t0 ∧ ∀ i,k ≤ i → i < k + m → T i = t0
 | 0,k,h => ⟨h,fun i h1 h2 => by omega⟩
 | m + 1,k,h => by
  unfold chk at h
  split at h
  ·rename_i e
   obtain ⟨h0,h1⟩:=zsP m (k + 1) h
   refine ⟨h0,fun i g1 g2 => ?_⟩
   by_cases hi:i = k
   ·rw [hi]; exact e
   ·exact h1 i (by omega) (by omega)
  ·exact zf2 h
theorem zlb {T:Nat → Int} {m:Nat} {types:List Int} (h:tyL T m = types) (hp:∀ t ∈ types,0 ≤ t):∀ k,k < m → 0 ≤ T k:=fun k hk => by
 have h1:k < (tyL T m).length:=by rw [zdd]; exact hk
 have h2:=List.getElem_mem h1
 rw [zpJ] at h2
 rw [h] at h2
 exact hp _ h2
theorem zrj {D:List DM} {R:List PM} (hv:CP D R) {o n:Int} {T:Nat → Int} {m:Nat} (h:0 ≤ zl2 D R o n (tyL T m)):(o = 9 ∨ o = 10 → 0 ≤ n ∧ n < R.length) ∧ ∀ k,k < m → 0 ≤ T k:=by
 unfold zl2 at h
 split at h
 ·rename_i h0
  refine ⟨by omega,fun k hk => ?_⟩
  split at h
  ·rename_i hc
   rw [zdd] at hc
   omega
  ·exact zf2 h
 split at h
 ·refine ⟨by omega,?_⟩
  split at h
  ·rename_i hc
   exact zlb hc.2 (by simp)
  ·exact zf2 h
 split at h
 ·refine ⟨by omega,?_⟩
  split at h
  ·rename_i hc
   exact zlb hc.2 (by simp)
  ·exact zf2 h
 split at h
 ·refine ⟨by omega,?_⟩
  split at h
  ·exact zf2 h
  ·rename_i hn
   split at h
   ·rename_i hc
    exact zlb hc fun t ht => ((zvz hv hn).2 t ht).1
   ·exact zf2 h
 split at h
 ·split at h
  ·rename_i hc
   refine ⟨fun _ => hc,?_⟩
   split at h
   ·rename_i hq
    exact zlb hq fun t ht => ((hv.ps n.toNat (by omega)).2 t ht).1
   ·exact zf2 h
  ·exact zf2 h
 split at h
 ·split at h
  ·rename_i hc
   refine ⟨fun _ => hc,?_⟩
   split at h
   ·exact zf2 h
   ·split at h
    ·rename_i hq
     exact zlb hq fun t ht => ((hv.ps n.toNat (by omega)).2 t (List.mem_of_mem_take ht)).1
    ·exact zf2 h
  ·exact zf2 h
 split at h
 ·rename_i h9 h10 _
  refine ⟨fun h' => by omega,?_⟩
  split at h
  ·split at h
   ·rename_i hc
    rw [zdd] at hc
    intro k hk
    have ha:=hc.2.1
    have hb:=hc.2.2
    rw [zkD T (by omega)] at ha
    rw [zkD T (show 1 < m by omega),zkD T (show 0 < m by omega)] at hb
    simp only [zkb,Bool.and_eq_true,decide_eq_true_eq,beq_iff_eq] at ha
    have h2:=isTy_iff.1 ha.2.1
    have:=(hv.dv.arr ((T 0).toNat - 1) (by omega) ha.2.2).1
    rcases (by omega:k = 0 ∨ k = 1) with rfl | rfl
    ·omega
    ·omega
   ·exact zf2 h
  ·exact zf2 h
 ·exact zf2 h
theorem zud (G M:List Int) (hM:M.length ≤ 2147483648) (o n:Int) (kids:List (List AC)) (fs:List (List Int)) (T:Nat → Int) (hl:fs.length + 1 = kids.length) (hm:kids.length ≤ 1048576) (h3:∀ k,k < fs.length → (fs.getD k []).length ≤ 3)
  (hb:∀ k,k < kids.length → ∃ o n ks,kids.getD k [] = [.int o,.int n,.sl 3 ks])
  (hT:∀ k,k < fs.length → iTy D R G (M ++ fs.getD k []) (kids.getD (1 + k) []) = rI (T k)) (t0:Int) :
  ∀ m k:Nat,k + m = fs.length → zb9 (zak D) (zaD R) (zae G) (zae M) o n kids (zcF fs) t0 (k:Int) = rI (chk T t0 m k):=by
 intro m
 induction m with
 | zero =>
  intro k hk
  exact ze9 (zab (decide_eq_false (by rw [zaW]; omega)) rfl)
 | succ m ih =>
  intro k hk
  have hlt:k < fs.length:=by omega
  obtain ⟨o',n',ks,e⟩:=hb (1 + k) (by omega)
  have ht:=hT k hlt
  rw [e] at ht
  have w:zai (1 + (k:Int)) = ((1 + k:Nat):Int):=by rw [wr (by omega) (by omega)]; omega
  refine ze9 (zad (decide_eq_true (by rw [zaW]; omega)) (zj9 (k:=k) rfl (by omega) (zrM (zrW G M _ (by have:=h3 k hlt; omega)) ?_)))
  rw [w]
  refine zdm (k:=1 + k) (by omega) e (zaC ht ?_)
  unfold chk
  by_cases hq:T k = t0
  ·rw [if_pos hq,wrk (by unfold za8; omega)]
   exact zab (nef hq) (ih (k + 1) (by omega))
  ·rw [if_neg hq]
   exact zad (net hq) rfl
theorem zvc (hv:CP D R) (V:List Int) (hV:V.length ≤ 2147483648) (o n:Int) (kids:List (List AC)) (j:Nat) (hj:j < D.length) (T:Nat → Int) (hl:(gD D j).cs.length + 1 = kids.length)
  (hb:∀ k,k < kids.length → ∃ o n ks,kids.getD k [] = [.int o,.int n,.sl 3 ks])
  (hT:∀ k,k < (gD D j).cs.length → sTy D R (V ++ (gD D j).cs.getD k []) (kids.getD (1 + k) []) = rI (T k)) (t0:Int) :
  ∀ m k:Nat,k + m = (gD D j).cs.length → zcJ (zae V) (zak D) (zaD R) o n kids (zae (cL D j)) t0 (k:Int) = rI (chk T t0 m k):=by
 have hc:=hv.dv.cs j hj
 intro m
 induction m with
 | zero =>
  intro k hk
  exact zfT (zab (decide_eq_false (by rw [zac,ziG]; omega)) rfl)
 | succ m ih =>
  intro k hk
  have hlt:k < (gD D j).cs.length:=by omega
  obtain ⟨o',n',ks,e⟩:=hb (1 + k) (by omega)
  have ht:=hT k hlt
  rw [e] at ht
  obtain ⟨c1,c2⟩:=zqM (D:=D) hj hlt
  have hf:=zhy hv.dv ((zbr (D.take j) + k:Nat):Int)
  rw [if_neg (by omega),c2] at hf
  have h3:=(hv.dv.c j hj _ (zef hlt [])).1
  have w:zai (1 + (k:Int)) = ((1 + k:Nat):Int):=by rw [wr (by omega) (by omega)]; omega
  refine zfT (zad (decide_eq_true (by rw [zac,ziG]; omega)) (zhP (k:=k) rfl (by rw [ziG]; exact hlt) ?_))
  rw [zrP hlt,w]
  refine zaP hf (zaP (zjj V _ (by omega)) (zdm (k:=1 + k) (by omega) e (zaC ht ?_)))
  unfold chk
  by_cases hq:T k = t0
  ·rw [if_pos hq,wrk (by unfold za8; omega)]
   exact zab (nef hq) (ih (k + 1) (by omega))
  ·rw [if_neg hq]
   exact zad (net hq) rfl
theorem zyt (hv:CP D R):∀ (s:Nat) (o n:Int) (kids:List (List AC)),Fit .expr [.int o,.int n,.sl 3 kids] → cS [.int o,.int n,.sl 3 kids] < s → s ≤ 31 → ∀ G M:List Int,(∀ t ∈ G ++ M,0 ≤ t ∧ t ≤ D.length) → (G ++ M).length + 3 * s ≤ 1048576 →
  ∃ t,zs7 D R G M [.int o,.int n,.sl 3 kids] t:=by
 intro s
 induction s with
 | zero => intro o n kids _ h; omega
 | succ s ihs =>
  intro o n kids hf hs hs31 G M hV hlen
  obtain ⟨_,hn,hml,hk⟩:=zrX hf
  have hcs:=zee o n kids
  have hm:kids.length ≤ 1048576:=by omega
  have hb:∀ k,k < kids.length → ∃ o n ks,kids.getD k [] = [.int o,.int n,.sl 3 ks]:=fun k hlt => by
   obtain ⟨o',n',ks,e,_⟩:=znb hk hlt
   exact ⟨o',n',ks,e⟩
  -- a kid in a scope
  have kid:∀ k,k < kids.length → ∀ X:List Int,X.length ≤ 3 → (∀ t ∈ X,0 ≤ t ∧ t ≤ D.length) → ∃ t,zs7 D R G (M ++ X) (kids.getD k []) t:=fun k hlt X hX hXt => by
   obtain ⟨o',n',ks,e,hf'⟩:=znb hk hlt
   have h1:=zrU hlt (o:=o) (n:=n)
   rw [e] at h1 ⊢
   refine ihs o' n' ks hf' (by omega) (by omega) G (M ++ X) (fun t ht => ?_) (by rw [← List.append_assoc,List.length_append]; omega)
   rw [← List.append_assoc] at ht
   rcases List.mem_append.1 ht with ht | ht
   ·exact hV t ht
   ·exact hXt t ht
  obtain ⟨T,hT⟩:=zug (fun k hlt => kid k hlt [] (by simp) (fun t ht => by cases ht))
  simp only [List.append_nil] at hT
  have hTi:∀ k,k < kids.length → ∀ o n ks,kids.getD k [] = [.int o,.int n,.sl 3 ks] → iTy D R G M [.int o,.int n,.sl 3 ks] = rI (T k):=fun k hlt o n ks e => by
   have:=(hT k hlt).2.1
   rw [e] at this
   exact this
  have hTs:∀ k,k < kids.length → ∀ o n ks,kids.getD k [] = [.int o,.int n,.sl 3 ks] → sTy D R (G ++ M) [.int o,.int n,.sl 3 ks] = rI (T k):=fun k hlt o n ks e => by
   have:=(hT k hlt).2.2.1
   rw [e] at this
   exact this
  have hGM:G.length + M.length ≤ 1048576:=by rw [List.length_append] at hlen; omega
  by_cases h12:o = 12
  ·subst h12
   by_cases h0:kids.length = 0
   rotate_left
   ·exact ⟨-1,.inl rfl,zcY (zad rfl (zad (decide_eq_true (by omega)) rfl)),zc2 (zab rfl (zad rfl (zab (nz h0) rfl))),zf2⟩
   refine ⟨tv (G ++ M) n,?_,zcY (zad rfl (zab (decide_eq_false (by omega)) (zaC (zq6 G M (by omega) (by omega) hn) rfl))),zc2 (zab rfl (zad rfl (zad (zr h0) (zaH (zdO _ _ _) ?_)))),fun _ => .node _ _ _ (fun h => by omega) (fun k hk => by omega)⟩
   ·unfold tv
    split
    ·rename_i hc
     exact .inr (hV _ (zef (by omega) 0))
    ·exact .inl rfl
   ·have hw:zai ((((zae (G ++ M)).length:Nat):Int) - 1) = ((G ++ M).length:Int) - 1:=by rw [zac,List.length_append]; exact wr (by omega) (by omega)
    rw [hw]
    unfold tv
    by_cases hc:0 ≤ n ∧ n < (G ++ M).length
    ·rw [if_pos hc,decide_eq_true hc.1,decide_eq_true (show n ≤ ((G ++ M).length:Int) - 1 by omega)]
     exact zad rfl (zhP (k:=n.toNat) (by omega) (by omega) rfl)
    ·rw [if_neg hc]
     refine zab ?_ rfl
     rw [Bool.and_eq_false_iff,decide_eq_false_iff_not,decide_eq_false_iff_not]
     omega
  by_cases h13:o = 13
  ·subst h13
   have hi:∀ r,zgH [.agg [.sl 3 (zak D),.sl 5 (zaD R)],.agg [.sl 1 (zae G),.sl 1 (zae M)],.agg [.int 13,.int n,.sl 3 kids]] = rI r → iTy D R G M [.int 13,.int n,.sl 3 kids] = rI r:=fun r h => zcY (zab rfl (zad rfl (zaC h rfl)))
   have hsp:∀ r,(bif (n == 0) then
        bif (((kids.length:Nat):Int) == 2) then
         zal kids 0 [.int 0,.int 0,.sl 3 []] fun n25 n26 l27 =>
         zaa (zaG [.agg [.sl 3 (zak D),.sl 5 (zaD R)],.cell (.sl 1 (zae (G ++ M))),.agg [.int n25,.int n26,.sl 3 l27]]) false [(false,[.int 0])] fun n28 =>
         bif (decide (n28 ≥ 0)) then
          zaa (zbq [.cell (.sl 1 (zae (G ++ M))),.cell (.sl 1 [[.int n28]])]) false [(false,[.sl 1 []])] fun l29 =>
          zal kids 1 [.int 0,.int 0,.sl 3 []] fun n30 n31 l32 =>
          zaa (zaG [.agg [.sl 3 (zak D),.sl 5 (zaD R)],.cell (.sl 1 l29),.agg [.int n30,.int n31,.sl 3 l32]]) false [(false,[.int 0])] fun n33 =>
          some (.v (.cell (.int n33)))
         else
          some (.v (.cell (.int (-1))))
        else
         some (.v (.cell (.int (-1))))
       else
        some (.v (.cell (.int (-1)))):Option AV) = rI r → sTy D R (G ++ M) [.int 13,.int n,.sl 3 kids] = rI r:=fun r h => zc2 (zab rfl (zab rfl (zab rfl (zab rfl (zab rfl (zcw (zab rfl (zab rfl (zab rfl (zad rfl h))))))))))
   by_cases h0:n = 0
   rotate_left
   ·exact ⟨-1,.inl rfl,hi _ (zdt (zad (net h0) rfl)),hsp _ (zab (eqf h0) rfl),zf2⟩
   by_cases h2:kids.length = 2
   rotate_left
   ·exact ⟨-1,.inl rfl,hi _ (zdt (zab (nef h0) (zad (net (by omega)) rfl))),hsp _ (zad (eqt h0) (zab (eqf (by omega)) rfl)),zf2⟩
   obtain ⟨o0,n0,k0,e0⟩:=hb 0 (by omega)
   obtain ⟨o1,n1,k1,e1⟩:=hb 1 (by omega)
   have t0i:=hTi 0 (by omega) _ _ _ e0
   have t0s:=hTs 0 (by omega) _ _ _ e0
   have t0o:=(hT 0 (by omega)).1
   by_cases hn0:T 0 < 0
   ·exact ⟨-1,.inl rfl,hi _ (zdt (zab (nef h0) (zab (nef (by omega)) (zeS (by omega) e0 (zaC t0i (zad (decide_eq_true hn0) rfl)))))),
     hsp _ (zad (eqt h0) (zad (eqt (by omega)) (zeS (by omega) e0 (zaC t0s (zab (decide_eq_false (by omega)) rfl))))),zf2⟩
   obtain ⟨t,ht1,ht2,ht3,ht4⟩:=kid 1 (by omega) [T 0] (by simp) (fun x hx => by
    simp only [List.mem_singleton] at hx
    subst hx
    rcases t0o with h | h <;> omega)
   rw [e1] at ht2 ht3 ht4
   rw [← List.append_assoc] at ht3
   exact ⟨t,ht1,hi _ (zdt (zab (nef h0) (zab (nef (by omega)) (zeS (by omega) e0 (zaC t0i (zab (decide_eq_false hn0) (zrM (zrW G M [T 0] (by simp; omega)) (zdm (k:=1) (by omega) e1 (zaC ht2 rfl))))))))),
    hsp _ (zad (eqt h0) (zad (eqt (by omega)) (zeS (by omega) e0 (zaC t0s (zad (decide_eq_true (by omega)) (zaP (zjj (G ++ M) [T 0] (by simp; omega)) (zdm (k:=1) (by omega) e1 (zaC ht3 rfl)))))))),fun h => .node _ _ _ (fun h => by omega) (fun k hk => by
     rcases (by omega:k = 0 ∨ k = 1) with rfl | rfl
     ·exact (hT 0 (by omega)).2.2.2 (by omega)
     ·rw [e1]; exact ht4 h)⟩
  by_cases h7:o = 7
  ·subst h7
   have hi:∀ r,zhU [.agg [.sl 3 (zak D),.sl 5 (zaD R)],.agg [.sl 1 (zae G),.sl 1 (zae M)],.agg [.int 7,.int n,.sl 3 kids]] = rI r → iTy D R G M [.int 7,.int n,.sl 3 kids] = rI r:=fun r h => zcY (zab rfl (zab rfl (zad rfl (zaC h rfl))))
   have hsp:∀ r,(bif (n == 0) then
        bif (((kids.length:Nat):Int) == 3) then
          zal kids 0 [.int 0,.int 0,.sl 3 []] fun n34 n35 l36 =>
          zaa (zaG [.agg [.sl 3 (zak D),.sl 5 (zaD R)],.cell (.sl 1 (zae (G ++ M))),.agg [.int n34,.int n35,.sl 3 l36]]) false [(false,[.int 0])] fun n37 =>
          bif (n37 == 0) then
           zal kids 1 [.int 0,.int 0,.sl 3 []] fun n38 n39 l40 =>
           zaa (zaG [.agg [.sl 3 (zak D),.sl 5 (zaD R)],.cell (.sl 1 (zae (G ++ M))),.agg [.int n38,.int n39,.sl 3 l40]]) false [(false,[.int 0])] fun n41 =>
           zal kids 2 [.int 0,.int 0,.sl 3 []] fun n42 n43 l44 =>
           zaa (zaG [.agg [.sl 3 (zak D),.sl 5 (zaD R)],.cell (.sl 1 (zae (G ++ M))),.agg [.int n42,.int n43,.sl 3 l44]]) false [(false,[.int 0])] fun n45 =>
           bif (n45 == n41) then
            some (.v (.cell (.int n41)))
           else
            some (.v (.cell (.int (-1))))
          else
           some (.v (.cell (.int (-1))))
         else
          some (.v (.cell (.int (-1))))
       else
        some (.v (.cell (.int (-1)))):Option AV) = rI r → sTy D R (G ++ M) [.int 7,.int n,.sl 3 kids] = rI r:=fun r h => zc2 (zab rfl (zab rfl (zab rfl (zab rfl (zab rfl (zcw (zab rfl (zab rfl (zab rfl (zab rfl (zad rfl h)))))))))))
   by_cases h0:n = 0
   rotate_left
   ·exact ⟨-1,.inl rfl,hi _ (zfn (zad (net h0) rfl)),hsp _ (zab (eqf h0) rfl),zf2⟩
   by_cases h2:kids.length = 3
   rotate_left
   ·exact ⟨-1,.inl rfl,hi _ (zfn (zab (nef h0) (zad (net (by omega)) rfl))),hsp _ (zad (eqt h0) (zab (eqf (by omega)) rfl)),zf2⟩
   obtain ⟨o0,n0,k0,e0⟩:=hb 0 (by omega)
   obtain ⟨o1,n1,k1,e1⟩:=hb 1 (by omega)
   obtain ⟨o2,n2,k2,e2⟩:=hb 2 (by omega)
   have pre:∀ r,(bif T 0 != 0 then rI (-1) else bif T 2 != T 1 then rI (-1) else rI (T 1)) = rI r → iTy D R G M [.int 7,.int n,.sl 3 kids] = rI r:=fun r h => by
    refine hi _ (zfn (zab (nef h0) (zab (nef (by omega)) (zdm (k:=1) (by omega) e1 (zaC (hTi 1 (by omega) _ _ _ e1) (zeS (by omega) e0 (zaC (hTi 0 (by omega) _ _ _ e0) ?_)))))))
    by_cases hq:T 0 = 0
    ·rw [nef hq] at h
     refine zab (nef hq) (zdm (k:=2) (by omega) e2 (zaC (hTi 2 (by omega) _ _ _ e2) ?_))
     exact h
    ·rw [net hq] at h
     exact zad (net hq) h
   have prs:∀ r,(bif T 0 == 0 then (bif T 2 == T 1 then rI (T 1) else rI (-1)) else rI (-1)) = rI r → sTy D R (G ++ M) [.int 7,.int n,.sl 3 kids] = rI r:=fun r h => by
    refine hsp _ (zad (eqt h0) (zad (eqt (by omega)) (zeS (by omega) e0 (zaC (hTs 0 (by omega) _ _ _ e0) ?_))))
    by_cases hq:T 0 = 0
    ·rw [eqt hq] at h
     exact zad (eqt hq) (zdm (k:=1) (by omega) e1 (zaC (hTs 1 (by omega) _ _ _ e1) (zdm (k:=2) (by omega) e2 (zaC (hTs 2 (by omega) _ _ _ e2) h))))
    ·rw [eqf hq] at h
     exact zab (eqf hq) h
   by_cases hq:T 0 = 0
   rotate_left
   ·exact ⟨-1,.inl rfl,pre _ (zad (net hq) rfl),prs _ (zab (eqf hq) rfl),zf2⟩
   by_cases hq2:T 2 = T 1
   ·exact ⟨T 1,(hT 1 (by omega)).1,pre _ (zab (nef hq) (zab (nef hq2) rfl)),prs _ (zad (eqt hq) (zad (eqt hq2) rfl)),fun h => .node _ _ _ (fun h => by omega) (fun k hk => (hT k hk).2.2.2 (by
     rcases (by omega:k = 0 ∨ k = 1 ∨ k = 2) with rfl | rfl | rfl <;> omega))⟩
   ·exact ⟨-1,.inl rfl,pre _ (zab (nef hq) (zad (net hq2) rfl)),prs _ (zad (eqt hq) (zab (eqf hq2) rfl)),zf2⟩
  by_cases h8:o = 8
  ·subst h8
   have hi:∀ r,zfp [.agg [.sl 3 (zak D),.sl 5 (zaD R)],.agg [.sl 1 (zae G),.sl 1 (zae M)],.agg [.int 8,.int n,.sl 3 kids]] = rI r → iTy D R G M [.int 8,.int n,.sl 3 kids] = rI r:=fun r h => zcY (zab rfl (zab rfl (zab rfl (zad rfl (zaC h rfl)))))
   have hsp:∀ r,zhe [.agg [.sl 3 (zak D),.sl 5 (zaD R)],.cell (.sl 1 (zae (G ++ M))),.agg [.int 8,.int n,.sl 3 kids]] = rI r → sTy D R (G ++ M) [.int 8,.int n,.sl 3 kids] = rI r:=fun r h => zc2 (zab rfl (zab rfl (zab rfl (zab rfl (zab rfl (zcw (zab rfl (zab rfl (zab rfl (zab rfl (zab rfl (zad rfl (zaC h rfl)))))))))))))
   have hl4:=hv.dv.len
   rcases hd:zvH D n with _ | _
   ·refine ⟨-1,.inl rfl,hi _ (zgc (zaH (zqy (by omega) n) (by rw [hd]; exact zad rfl rfl))),hsp _ (zhv (zaP (zrL hv.dv n) ?_)),zf2⟩
    refine zad ?_ rfl
    rw [zac]
    refine zr ?_
    split
    ·rename_i hc
     rw [ziG]
     unfold zvH at hd
     rw [decide_eq_true (show 0 < n by omega),isTy_iff.2 (show 0 ≤ n ∧ n ≤ (D.length:Int) by omega)] at hd
     simp only [Bool.true_and,decide_eq_false_iff_not] at hd
     omega
    ·rfl
   have hda:(1 ≤ n ∧ n ≤ D.length) ∧ 0 < (gD D (n.toNat - 1)).cs.length:=by
    unfold zvH at hd
    simp only [Bool.and_eq_true,decide_eq_true_eq] at hd
    have:=isTy_iff.1 hd.2.1
    exact ⟨by omega,hd.2.2⟩
   have hco:=zrL hv.dv n
   rw [if_pos hda.1] at hco
   have hj:n.toNat - 1 < D.length:=by omega
   have w:zai (n - 1) = ((n.toNat - 1:Nat):Int):=by rw [wr (by omega) (by omega)]; omega
   generalize hjd:n.toNat - 1 = j at hj w hco hda
   have hc3:=hv.dv.cs j hj
   have hfs:∀ k,k < (gD D j).cs.length → ((gD D j).cs.getD k []).length ≤ 3 ∧ ∀ t ∈ (gD D j).cs.getD k [],0 ≤ t ∧ t ≤ D.length:=fun k hk => hv.dv.c j hj _ (zef hk [])
   have wl:zai (1 + ((((gD D j).cs.length:Nat)):Int)) = ((1 + (gD D j).cs.length:Nat):Int):=by rw [wr (by omega) (by omega)]; omega
   have prei:∀ r,(bif (((kids.length:Nat):Int) != ((1 + (gD D j).cs.length:Nat):Int)) then rI (-1) else
     zal kids 0 [.int 0,.int 0,.sl 3 []] fun n12 n13 l14 =>
     zaa (zbk [.agg [.sl 3 (zak D),.sl 5 (zaD R)],.agg [.sl 1 (zae G),.sl 1 (zae M)],.agg [.int n12,.int n13,.sl 3 l14]]) false [(false,[.int 0])] fun n15 =>
     bif (n15 != n) then
      some (.v (.cell (.int (-1))))
     else
      zal (zcF (gD D j).cs) 0 [.sl 1 []] fun l16 =>
      zaa (zgF [.agg [.sl 1 (zae G),.sl 1 (zae M)],.cell (.sl 1 l16)]) false [(true,[.sl 1 [],.sl 1 []])] fun l17 l18 =>
      zal kids 1 [.int 0,.int 0,.sl 3 []] fun n19 n20 l21 =>
      zaa (zbk [.agg [.sl 3 (zak D),.sl 5 (zaD R)],.agg [.sl 1 l17,.sl 1 l18],.agg [.int n19,.int n20,.sl 3 l21]]) false [(false,[.int 0])] fun n22 =>
      zb9 (zak D) (zaD R) (zae G) (zae M) 8 n kids (zcF (gD D j).cs) n22 1:Option AV) = rI r → iTy D R G M [.int 8,.int n,.sl 3 kids] = rI r:=fun r h => by
    refine hi _ (zgc (zaH (zqy (by omega) n) ?_))
    rw [hd]
    refine zab rfl (zbE (k:=j) w hj ?_)
    rw [zaW,wl]
    exact h
   have pres:∀ r,(bif (((kids.length:Nat):Int) != ((1 + (gD D j).cs.length:Nat):Int)) then rI (-1) else
     zal kids 0 [.int 0,.int 0,.sl 3 []] fun n8 n9 l10 =>
     zaa (zaG [.agg [.sl 3 (zak D),.sl 5 (zaD R)],.cell (.sl 1 (zae (G ++ M))),.agg [.int n8,.int n9,.sl 3 l10]]) false [(false,[.int 0])] fun n11 =>
     bif (n11 != n) then
      some (.v (.cell (.int (-1))))
     else
      zal (zae (cL D j)) 0 [.int 0] fun n12 =>
      zaa (zaE [.cell (.sl 3 (zak D)),.cell (.int n12)]) false [(false,[.sl 1 []])] fun l13 =>
      zaa (zbq [.cell (.sl 1 (zae (G ++ M))),.cell (.sl 1 l13)]) false [(false,[.sl 1 []])] fun l14 =>
      zal kids 1 [.int 0,.int 0,.sl 3 []] fun n15 n16 l17 =>
      zaa (zaG [.agg [.sl 3 (zak D),.sl 5 (zaD R)],.cell (.sl 1 l14),.agg [.int n15,.int n16,.sl 3 l17]]) false [(false,[.int 0])] fun n18 =>
      zcJ (zae (G ++ M)) (zak D) (zaD R) 8 n kids (zae (cL D j)) n18 1:Option AV) = rI r → sTy D R (G ++ M) [.int 8,.int n,.sl 3 kids] = rI r:=fun r h => by
    refine hsp _ (zhv (zaP hco ?_))
    rw [zac,ziG,wl]
    exact zab (nz (by omega)) h
   by_cases hl:kids.length = 1 + (gD D j).cs.length
   rotate_left
   ·exact ⟨-1,.inl rfl,prei _ (zad (net (by omega)) rfl),pres _ (zad (net (by omega)) rfl),zf2⟩
   obtain ⟨o0,n0,k0,e0⟩:=hb 0 (by omega)
   by_cases hq:T 0 = n
   rotate_left
   ·exact ⟨-1,.inl rfl,prei _ (zab (nef (by omega)) (zeS (by omega) e0 (zaC (hTi 0 (by omega) _ _ _ e0) (zad (net hq) rfl)))),
     pres _ (zab (nef (by omega)) (zeS (by omega) e0 (zaC (hTs 0 (by omega) _ _ _ e0) (zad (net hq) rfl)))),zf2⟩
   obtain ⟨S,hS⟩:=zug (m:=(gD D j).cs.length) (fun k hlt => kid (1 + k) (by omega) ((gD D j).cs.getD k []) (hfs k hlt).1 (hfs k hlt).2)
   have hSs:∀ k,k < (gD D j).cs.length → sTy D R ((G ++ M) ++ (gD D j).cs.getD k []) (kids.getD (1 + k) []) = rI (S k):=fun k hk => by
    rw [List.append_assoc]
    exact (hS k hk).2.2.1
   obtain ⟨o1,n1,k1,e1⟩:=hb 1 (by omega)
   have s0i:=(hS 0 hda.2).2.1
   have s0s:=hSs 0 hda.2
   rw [e1] at s0i s0s
   have li:=zud (D:=D) (R:=R) G M (by omega) 8 n kids (gD D j).cs S (by omega) hm (fun k hk => (hfs k hk).1) hb (fun k hk => (hS k hk).2.1) (S 0) ((gD D j).cs.length - 1) 1 (by omega)
   have ls:=zvc hv (G ++ M) (by rw [List.length_append]; omega) 8 n kids j hj S (by omega) hb hSs (S 0) ((gD D j).cs.length - 1) 1 (by omega)
   obtain ⟨c1,c2⟩:=zqM (D:=D) hj hda.2
   have hfl:=zhy hv.dv ((zbr (D.take j) + 0:Nat):Int)
   rw [if_neg (by omega),c2] at hfl
   have hb0:M.length + ((gD D j).cs.getD 0 []).length ≤ 68719476736:=by
    have:=(hfs 0 hda.2).1
    omega
   have hb1:(G ++ M).length + ((gD D j).cs.getD 0 []).length ≤ 68719476736:=by
    have:=(hfs 0 hda.2).1
    rw [List.length_append]
    omega
   refine ⟨chk S (S 0) ((gD D j).cs.length - 1) 1,zut (hS 0 hda.2).1 _ _,prei _ (zab (nef (by omega)) (zeS (by omega) e0 (zaC (hTi 0 (by omega) _ _ _ e0) (zab (nef hq) (zj9 (k:=0) rfl hda.2 (zrM (zrW G M _ hb0) (zdm (k:=1) (by omega) e1 (zaC s0i li)))))))),?_,fun h => .node _ _ _ (fun h => by omega) (fun k hk => ?_)⟩
   rotate_left
   ·obtain ⟨g1,g2⟩:=zsP _ _ h
    by_cases h0:k = 0
    ·subst h0; exact (hT 0 (by omega)).2.2.2 (by omega)
    ·have hk':k - 1 < (gD D j).cs.length:=by omega
     have:=(hS (k - 1) hk').2.2.2 (by
      by_cases h1:k - 1 = 0
      ·rw [h1]; exact g1
      ·rw [g2 (k - 1) (by omega) (by omega)]; exact g1)
     rw [show 1 + (k - 1) = k by omega] at this
     exact this
   refine pres _ (zab (nef (by omega)) (zeS (by omega) e0 (zaC (hTs 0 (by omega) _ _ _ e0) (zab (nef hq) (zhP (k:=0) rfl (by rw [ziG]; exact hda.2) ?_)))))
   rw [zrP hda.2]
   exact zaP hfl (zaP (zjj (G ++ M) _ hb1) (zdm (k:=1) (by omega) e1 (zaC s0s ls)))
  exact ⟨zl2 D R o n (tyL T kids.length),zyg hv o n _,zcY (zab (eqf h12) (zab (eqf h13) (zab (eqf h7) (zab (eqf h8) (zaP (ztM G M kids (by omega) T hb hTi) (zaC (zqK hv o n _ (by rw [zdd]; exact hml)) rfl)))))),
   zzq hv (G ++ M) kids hml T hb hTs h12 h13 h7 h8,fun h => .node _ _ _ (zrj hv h).1 (fun k hk => (hT k hk).2.2.2 ((zrj hv h).2 k hk))⟩
end
end Go.Proofs.Ytbodfaghedolbaa
namespace Go.Proofs.Ytbodfaghedolbaa
open Go
def ze4 (x:PM):List AC:=[.int x.o,.int x.n,.sl 3 x.kids]
structure PIn (D:List DM) (R:List PM):Prop where
 d:∀ d ∈ D,DOk d
 r:∀ x ∈ R,POk x
 dl:D.length ≤ za8
 rl:R.length ≤ za8
theorem zzk {ds fs:List (List AC)} (h:Fit .prog [.sl 3 ds,.sl 5 fs]):∃ D R,ds = zak D ∧ fs = zaD R ∧ PIn D R:=by
 generalize ht:Ty.prog = t at h
 generalize hx:[AC.sl 3 ds,AC.sl 5 fs] = x at h
 cases h with
 | prog ds' fs' hd hf h1 h2 =>
  simp only [List.cons.injEq,AC.sl.injEq,true_and,and_true] at hx
  obtain ⟨rfl,rfl⟩:=hx
  obtain ⟨D,rfl,hD⟩:=zq7 h1
  obtain ⟨R,rfl,hR⟩:=zs3 h2
  exact ⟨D,R,rfl,rfl,hD,hR,by simpa [zak] using hd,by simpa [zaD] using hf⟩
 | _ => cases ht
structure VP (D:List DM) (R:List PM):Prop where
 cp:CP D R
 pos:1 ≤ R.length
 small:∀ k,k < R.length → cS (ze4 (gP R k)) ≤ 29
 nm:∀ k,k < R.length → Nm R.length (ze4 (gP R k))
 sg:zjW D R = true
 ty:∀ k,k < R.length → zfP [.agg [.sl 3 (zak D),.sl 5 (zaD R)],.cell (.sl 1 (zae (gP R k).ps)),.agg (ze4 (gP R k))] = rI (gP R k).r
section
variable {D:List DM} {R:List PM}
theorem zrn {x:List AC}:decide (zqZ x < 0) = !decide (cS x ≤ 29):=by
 unfold zqZ
 split
 ·rename_i h; rw [decide_eq_true h,decide_eq_false (by omega)]; rfl
 ·rename_i h; rw [decide_eq_false h]; rfl
theorem zqL (hi:PIn D R) (hs:zjW D R = true) (hv:CP D R) {k:Nat} (hk:k < R.length) {t:Int} (hT:cS (ze4 (gP R k)) ≤ 29 → zs7 D R (gP R k).ps [] (ze4 (gP R k)) t) :
  zfP [.agg [.sl 3 (zak D),.sl 5 (zaD R)],.cell (.sl 1 (zae (gP R k).ps)),.agg (ze4 (gP R k))] = rI (if cS (ze4 (gP R k)) ≤ 29 then t else -1):=by
 have hx:=hi.r _ (zjv hk)
 refine znz (zaH (zgk D R hi.d hi.r hi.dl) ?_)
 rw [hs]
 refine zab rfl (zaH (zkh D _ hx.ps.len) ?_)
 have ha:(gP R k).ps.all (zdl D) = true:=by
  rw [List.all_eq_true]
  exact fun t ht => isTy_iff.2 ((hv.ps k hk).2 t ht)
 rw [ha]
 refine zab rfl (zaC (zte hx.b) ?_)
 rw [zrn]
 show (bif !decide (cS (ze4 (gP R k)) ≤ 29) then _ else _) = _
 by_cases h:cS (ze4 (gP R k)) ≤ 29
 ·rw [if_pos h,decide_eq_true h]
  exact zab rfl (zaC (hT h).2.1 rfl)
 ·rw [if_neg h,decide_eq_false h]
  exact zad rfl rfl
theorem zx1 (hi:PIn D R):∃ b,zeX [.agg [.sl 3 (zak D),.sl 5 (zaD R)]] = rB b ∧ zfa [.agg [.sl 3 (zak D),.sl 5 (zaD R)]] = rB b ∧ (b = true → VP D R):=by
 rcases hs:zjW D R with _ | _
 ·refine ⟨false,zfC (zaH (zgk D R hi.d hi.r hi.dl) ?_),zfy (zaH (zkS D R hi.d hi.r hi.dl) ?_),(fun h => by cases h)⟩
  ·rw [hs]; exact zad rfl rfl
  ·rw [hs]; exact zad rfl rfl
 have hv:=zzU hi.r hs
 have hR:=hv.rl
 have h1:1 ≤ R.length:=by
  simp only [zjW,Bool.and_eq_true,decide_eq_true_eq] at hs
  exact hs.2.1
 obtain ⟨T,hT⟩:=zug (m:=R.length) (P:=fun k t => cS (ze4 (gP R k)) ≤ 29 → zs7 D R (gP R k).ps [] (ze4 (gP R k)) t) (fun k hk => by
  by_cases h:cS (ze4 (gP R k)) ≤ 29
  ·have hx:=hi.r _ (zjv hk)
   obtain ⟨t,ht⟩:=zyt hv 30 _ _ _ hx.b (by show cS (ze4 (gP R k)) < 30; omega) (by omega) (gP R k).ps [] (fun t ht => by rw [List.append_nil] at ht; exact (hv.ps k hk).2 t ht) (by rw [List.append_nil]; have:=(hv.ps k hk).1; omega)
   exact ⟨t,fun _ => ht⟩
  ·exact ⟨0,fun h' => absurd h' h⟩)
 let okF:Nat → Bool:=fun k => decide (cS (ze4 (gP R k)) ≤ 29) && (T k == (gP R k).r)
 refine ⟨(List.range R.length).all okF,zfC (zaH (zgk D R hi.d hi.r hi.dl) ?_),zfy (zaH (zkS D R hi.d hi.r hi.dl) ?_),fun h => ⟨hv,h1,fun k hk => ?_,fun k hk => ?_,hs,fun k hk => ?_⟩⟩
 ·rw [hs]
  refine zab rfl ?_
  have key:∀ m k:Nat,k + m = R.length → zcL (zak D) (zaD R) (zaD R) (((zaD R).length:Nat):Int) (k:Int) = rB (((List.range R.length).drop k).all okF):=by
   intro m
   induction m with
   | zero => intro k hk; exact zeA (zab (decide_eq_false (by rw [zbu]; omega)) (by rw [List.drop_eq_nil_of_le (by simp; omega)]; rfl))
   | succ m ih =>
    intro k hk
    have hlt:k < R.length:=by omega
    have hrr:=hv.r k hlt
    rw [ziD hlt]
    refine zeA (zad (decide_eq_true (by rw [zbu]; omega)) (zaT (k:=k) rfl hlt (zaC (zqL hi hs hv hlt (hT k hlt)) ?_)))
    show _ = rB ((decide (cS (ze4 (gP R k)) ≤ 29) && (T k == (gP R k).r)) && _)
    by_cases h:cS (ze4 (gP R k)) ≤ 29
    ·rw [if_pos h,decide_eq_true h]
     by_cases hq:T k = (gP R k).r
     ·rw [eqt hq]
      exact zab (nef hq) (by rw [wrk (by unfold za8; omega)]; exact ih (k + 1) (by omega))
     ·rw [eqf hq]
      exact zad (net hq) rfl
    ·rw [if_neg h,decide_eq_false h]
     exact zad (net (by omega)) rfl
  have:=key R.length 0 (by omega)
  rw [List.drop_zero] at this
  exact this
 ·rw [hs]
  refine zab rfl ?_
  have key:∀ m k:Nat,k + m = R.length → zcG (zak D) (zaD R) (k:Int) = rB (((List.range R.length).drop k).all okF):=by
   intro m
   induction m with
   | zero => intro k hk; exact zeC (zab (decide_eq_false (by rw [zbu]; omega)) (by rw [List.drop_eq_nil_of_le (by simp; omega)]; rfl))
   | succ m ih =>
    intro k hk
    have hlt:k < R.length:=by omega
    have hrr:=hv.r k hlt
    have hx:=hi.r _ (zjv hlt)
    rw [ziD hlt]
    refine zeC (zad (decide_eq_true (by rw [zbu]; omega)) (zaT (k:=k) rfl hlt (zaC (zlC hx.b) ?_)))
    rw [zrn]
    show (bif !decide (cS (ze4 (gP R k)) ≤ 29) then _ else _) = rB ((decide (cS (ze4 (gP R k)) ≤ 29) && (T k == (gP R k).r)) && _)
    by_cases h:cS (ze4 (gP R k)) ≤ 29
    ·rw [decide_eq_true h]
     have ht:=(hT k hlt h).2.2.1
     rw [List.append_nil] at ht
     refine zab rfl (zaT (k:=k) rfl hlt (zaT (k:=k) rfl hlt (zaC ht (zaT (k:=k) rfl hlt ?_))))
     by_cases hq:T k = (gP R k).r
     ·rw [eqt hq]
      exact zab (nef hq) (by rw [wrk (by unfold za8; omega)]; exact ih (k + 1) (by omega))
     ·rw [eqf hq]
      exact zad (net hq) rfl
    ·rw [decide_eq_false h]
     exact zad rfl rfl
  have:=key R.length 0 (by omega)
  rw [List.drop_zero] at this
  exact this
 ·rw [List.all_eq_true] at h
  have:=h k (by simpa using hk)
  simp only [okF,Bool.and_eq_true,decide_eq_true_eq] at this
  exact this.1
 ·rw [List.all_eq_true] at h
  have:=h k (by simpa using hk)
  simp only [okF,Bool.and_eq_true,decide_eq_true_eq,beq_iff_eq] at this
  have hr:=(hv.r k hk).1
  exact (hT k hk this.1).2.2.2 (by omega)
 ·rw [List.all_eq_true] at h
  have:=h k (by simpa using hk)
  simp only [okF,Bool.and_eq_true,decide_eq_true_eq,beq_iff_eq] at this
  rw [zqL hi hs hv hk (hT k hk),if_pos this.1,this.2]
end
end Go.Proofs.Ytbodfaghedolbaa
namespace Go.Proofs.Ytbodfaghedolbaa
open Go Go.RowKit
theorem zlB {ds fs:List (List AC)} (hp:zyi ds fs) :
  evM X_laws_FnValidProgram 100000 (.run (zid 3 (cOf Try.f4))) [] [(3,.box [.sl 3 ds,.sl 5 fs])] = some (.v (.cell (.bool true))):=by
 obtain ⟨D,R,rfl,rfl,hi⟩:=zzk hp.1
 obtain ⟨b,h1,h2,h3⟩:=zx1 hi
 have hS:zcD [.agg [.sl 3 (zak D),.sl 5 (zaD R)]] = rB b:=zji (zaH h2 rfl)
 refine zhD (zaH h1 (zaH hS (zab (by simp) ?_)))
 cases b with
 | false => exact zad rfl (zaH hS rfl)
 | true =>
  refine zab rfl ?_
  have hv:=h3 rfl
  have hR:R.length ≤ 10:=by have:=hp.2.2; rwa [zbu] at this
  have key:∀ m k:Nat,k + m = R.length → zcd (zak D) (zaD R) (k:Int) = rB true:=by
   intro m
   induction m with
   | zero =>
    intro k hk
    refine zd0 (zab (decide_eq_false (by rw [zbu]; omega)) (zaH (zgk D R hi.d hi.r hi.dl) ?_))
    rw [hv.sg]
   | succ m ih =>
    intro k hk
    have hlt:k < R.length:=by omega
    refine zd0 (zad (decide_eq_true (by rw [zbu]; omega)) (zaT (k:=k) rfl hlt (zaT (k:=k) rfl hlt (zaC (hv.ty k hlt) (zaT (k:=k) rfl hlt (zab (nef rfl) ?_))))))
    rw [wrk (by unfold za8; omega)]
    exact ih (k + 1) (by omega)
  exact key R.length 0 (by omega)
theorem zjP (A:Option Addr) (n c:Nat) (w:World) (h:zo0 w A n c):Calls Try.prog 4 #[.slice A n c] w fun e w' => e = .returned (.bool true) ∧ Below w.heap.size w w' :=
 ziz (fun _ _ hp => zlB hp) (fun _ _ _ _ h => zi8 h) A n c w h
end Go.Proofs.Ytbodfaghedolbaa
