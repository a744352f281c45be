/- What a block uses, in order; the numbers of a list below a bound, as an ascending list. Nothing here speaks of a program's code. -/
import Derived.Test.YtdooageiopnhaaaIm
import Derived.Test.YtdooageiopnhaaaU0
namespace Go.Proofs.Ytdooageiopnhaaa
open Go.RowKit
mutual
def St.uses : St → List Int
  | .mk o _ _ a ks => cond (isC o) [] (a ++ usesB ks)
def Bl.uses : Bl → List Int
  | .mk ss r => usesS ss ++ [r]
def usesB : List Bl → List Int
  | [] => []
  | b :: bs => b.uses ++ usesB bs
def usesS : List St → List Int
  | [] => []
  | s :: ss => s.uses ++ usesS ss
end
theorem st_uses (s : St) : s.uses = cond (isC s.op) [] (s.args ++ usesB s.kids) := by cases s; simp [St.uses, St.op, St.args, St.kids]
theorem bl_uses (b : Bl) : b.uses = usesS b.steps ++ [b.result] := by cases b; simp [Bl.uses, Bl.steps, Bl.result]
theorem usesS_append (a b : List St) : usesS (a ++ b) = usesS a ++ usesS b := by
  induction a with
  | nil => simp [usesS]
  | cons x a ih => simp only [List.cons_append, usesS, ih, List.append_assoc]
theorem usesB_append (a b : List Bl) : usesB (a ++ b) = usesB a ++ usesB b := by
  induction a with
  | nil => simp [usesB]
  | cons x a ih => simp only [List.cons_append, usesB, ih, List.append_assoc]
theorem usesS_step {ss : List St} {k : Nat} (h : k < ss.length) : usesS (ss.take (k + 1)) = usesS (ss.take k) ++ (nthS ss k).uses := by
  rw [List.take_succ_eq_append_getElem h, usesS_append, nthS_of h]; simp [usesS]
theorem usesB_step {bs : List Bl} {k : Nat} (h : k < bs.length) : usesB (bs.take (k + 1)) = usesB (bs.take k) ++ (nthB bs k).uses := by
  rw [List.take_succ_eq_append_getElem h, usesB_append, nthB_of h]; simp [usesB]
theorem usesS_all {ss : List St} {k : Nat} (h : ¬ k < ss.length) : usesS (ss.take k) = usesS ss := by rw [List.take_of_length_le (by omega)]
theorem usesB_all {bs : List Bl} {k : Nat} (h : ¬ k < bs.length) : usesB (bs.take k) = usesB bs := by rw [List.take_of_length_le (by omega)]
mutual
theorem st_uses_len : (s : St) → s.uses.length ≤ s.sum Wz
  | .mk o n i a ks => by
    have h1 := usesB_len ks
    have e1 : Wz.s o a = 1 + a.length := rfl
    have e2 : Wz.k o = true := rfl
    simp only [St.uses, St.sum, e1, e2, cond_true]
    rcases isC o with _ | _
    · simp only [cond_false, List.length_append]; omega
    · simp
theorem bl_uses_len : (b : Bl) → b.uses.length ≤ b.sum Wz
  | .mk ss r => by
    have h1 := usesS_len ss
    have e1 : Wz.b r = 1 := rfl
    simp only [Bl.uses, Bl.sum, e1, List.length_append, List.length_cons, List.length_nil]
    omega
theorem usesB_len : (bs : List Bl) → (usesB bs).length ≤ sumB Wz bs
  | [] => by simp [usesB]
  | b :: bs => by
    have h1 := bl_uses_len b
    have h2 := usesB_len bs
    simp only [usesB, sumB, List.length_append]
    omega
theorem usesS_len : (ss : List St) → (usesS ss).length ≤ sumS Wz ss
  | [] => by simp [usesS]
  | s :: ss => by
    have h1 := st_uses_len s
    have h2 := usesS_len ss
    simp only [usesS, sumS, List.length_append]
    omega
end
/-- Is a number one of 0..n-1? -/
def inB (n v : Int) : Bool := decide (0 ≤ v) && decide (v < n)
theorem inB_yes {n v : Int} (h1 : 0 ≤ v) (h2 : v < n) : inB n v = true := by simp [inB, h1, h2]
theorem inB_no {n v : Int} (h : 0 ≤ v → ¬ v < n) : inB n v = false := by
  unfold inB
  by_cases h1 : 0 ≤ v
  · rw [decide_eq_false (h h1), Bool.and_false]
  · rw [decide_eq_false h1]; rfl
/-- The numbers of a list below a bound, put into an ascending list. -/
def setL (n : Int) : List Int → List Int → List Int
  | acc, [] => acc
  | acc, v :: xs => setL n (cond (inB n v) (ins v acc) acc) xs
theorem setL_append (n : Int) (acc a b : List Int) : setL n acc (a ++ b) = setL n (setL n acc a) b := by
  induction a generalizing acc with
  | nil => rfl
  | cons x a ih => simp only [List.cons_append, setL, ih]
theorem setL_step (n : Int) (acc : List Int) {xs : List Int} {k : Nat} (h : k < xs.length) : setL n acc (xs.take (k + 1)) = cond (inB n xs[k]) (ins xs[k] (setL n acc (xs.take k))) (setL n acc (xs.take k)) := by
  rw [List.take_succ_eq_append_getElem h, setL_append]; rfl
theorem setL_all (n : Int) (acc : List Int) {xs : List Int} {k : Nat} (h : ¬ k < xs.length) : setL n acc (xs.take k) = setL n acc xs := by rw [List.take_of_length_le (by omega)]
theorem setL_ok (n : Int) (xs : List Int) : ∀ acc, Asc acc → Asc (setL n acc xs) ∧ (setL n acc xs).length ≤ acc.length + xs.length ∧ ∀ x, x ∈ setL n acc xs ↔ x ∈ acc ∨ (x ∈ xs ∧ inB n x = true) := by
  induction xs with
  | nil => intro acc h; exact ⟨h, Nat.le_refl _, fun x => by simp [setL]⟩
  | cons v xs ih =>
    intro acc h
    simp only [setL]
    rcases hv : inB n v with _ | _
    · simp only [cond_false]
      obtain ⟨a1, a2, a3⟩ := ih acc h
      refine ⟨a1, by simp only [List.length_cons]; omega, fun x => ?_⟩
      rw [a3, List.mem_cons]
      constructor
      · rintro (h | ⟨h, h'⟩)
        · exact .inl h
        · exact .inr ⟨.inr h, h'⟩
      · rintro (h | ⟨rfl | h, h'⟩)
        · exact .inl h
        · rw [hv] at h'; cases h'
        · exact .inr ⟨h, h'⟩
    · simp only [cond_true]
      obtain ⟨a1, a2, a3⟩ := ih (ins v acc) (ins_asc h)
      have := ins_length v acc
      refine ⟨a1, by simp only [List.length_cons]; omega, fun x => ?_⟩
      rw [a3, List.mem_cons, ins_mem]
      constructor
      · rintro ((rfl | h) | ⟨h, h'⟩)
        · exact .inr ⟨.inl rfl, hv⟩
        · exact .inl h
        · exact .inr ⟨.inr h, h'⟩
      · rintro (h | ⟨rfl | h, h'⟩)
        · exact .inl (.inr h)
        · exact .inl (.inl rfl)
        · exact .inr ⟨h, h'⟩
theorem asc_nil' : Asc [] := fun _ _ _ h => absurd h (by simp)
/-- Ascending lists with the same members are the same. -/
theorem asc_ext {a b : List Int} (ha : Asc a) (hb : Asc b) (h : ∀ x, x ∈ a ↔ x ∈ b) : a = b := by
  rw [asc_iff] at ha hb
  induction a generalizing b with
  | nil =>
    cases b with
    | nil => rfl
    | cons y b => exact absurd ((h y).2 (by simp)) (by simp)
  | cons x a ih =>
    cases b with
    | nil => exact absurd ((h x).1 (by simp)) (by simp)
    | cons y b =>
      rw [List.pairwise_cons] at ha hb
      have e : x = y := by
        rcases List.mem_cons.1 ((h x).1 (by simp)) with e | hx
        · exact e
        · rcases List.mem_cons.1 ((h y).2 (by simp)) with e | hy
          · exact e.symm
          · have h1 := ha.1 y hy
            have h2 := hb.1 x hx
            omega
      subst e
      refine congrArg (x :: ·) (ih ha.2 hb.2 fun z => ?_)
      constructor
      · intro hz
        rcases List.mem_cons.1 ((h z).1 (by simp [hz])) with e | h'
        · have := ha.1 z hz; omega
        · exact h'
      · intro hz
        rcases List.mem_cons.1 ((h z).2 (by simp [hz])) with e | h'
        · have := hb.1 z hz; omega
        · exact h'
/-- The numbers of two ascending lists. -/
def uni (a b : List Int) : List Int := b.foldl (fun acc v => ins v acc) a
theorem uni_ok (b : List Int) : ∀ a, Asc a → Asc (uni a b) ∧ ∀ x, x ∈ uni a b ↔ x ∈ a ∨ x ∈ b := by
  induction b with
  | nil => intro a h; exact ⟨h, fun x => by simp [uni]⟩
  | cons v b ih =>
    intro a h
    obtain ⟨h1, h2⟩ := ih (ins v a) (ins_asc h)
    refine ⟨h1, fun x => ?_⟩
    show x ∈ uni (ins v a) b ↔ _
    rw [h2, ins_mem, List.mem_cons]
    constructor
    · rintro ((h | h) | h) <;> simp [h]
    · rintro (h | h | h) <;> simp [h]
theorem set_halves (n : Int) (a b : List Int) : uni (setL n [] a) (setL n [] b) = setL n [] (a ++ b) := by
  obtain ⟨a1, _, a3⟩ := setL_ok n a [] asc_nil'
  obtain ⟨b1, _, b3⟩ := setL_ok n b [] asc_nil'
  obtain ⟨c1, _, c3⟩ := setL_ok n (a ++ b) [] asc_nil'
  obtain ⟨u1, u2⟩ := uni_ok (setL n [] b) _ a1
  refine asc_ext u1 c1 fun x => ?_
  rw [u2, a3, b3, c3, List.mem_append]
  constructor
  · rintro ((h | ⟨h, h'⟩) | h | ⟨h, h'⟩)
    · cases h
    · exact .inr ⟨.inl h, h'⟩
    · cases h
    · exact .inr ⟨.inr h, h'⟩
  · rintro (h | ⟨h | h, h'⟩)
    · cases h
    · exact .inl (.inr ⟨h, h'⟩)
    · exact .inr (.inr ⟨h, h'⟩)
/-- How far the walk over two ascending lists has come. -/
structure UniAt (a b : List Int) (i j : Nat) (ys : List Int) : Prop where
  asc : Asc ys
  mem : ∀ x, x ∈ ys ↔ x ∈ a.take i ∨ x ∈ b.take j
  la : ∀ x ∈ ys, ∀ k (_ : i ≤ k) (h : k < a.length), x < a[k]
  lb : ∀ x ∈ ys, ∀ k (_ : j ≤ k) (h : k < b.length), x < b[k]
  len : ys.length ≤ i + j
theorem UniAt.zero (a b : List Int) : UniAt a b 0 0 [] := ⟨asc_nil', by simp, by simp, by simp, by simp⟩
theorem asc_push {ys : List Int} {n : Int} (h : Asc ys) (hn : ∀ x ∈ ys, x < n) : Asc (ys ++ [n]) := by
  rw [asc_iff] at h ⊢
  rw [List.pairwise_append]
  exact ⟨h, by simp, fun x hx y hy => by simp at hy; rw [hy]; exact hn x hx⟩
theorem asc_lt {xs : List Int} (h : Asc xs) {i j : Nat} (hij : i < j) (hj : j < xs.length) : xs[i] < xs[j] := by
  have := h i j hij hj
  rwa [nth_of (by omega), nth_of hj] at this
theorem UniAt.left {a b : List Int} {i j : Nat} {ys : List Int} (h : UniAt a b i j ys) (ha : Asc a) (hb : Asc b) (hi : i < a.length) (hl : ∀ (hj : j < b.length), a[i] < b[j]) : UniAt a b (i + 1) j (ys ++ [a[i]]) := by
  refine ⟨asc_push h.asc fun x hx => h.la x hx i (Nat.le_refl _) hi, fun x => ?_, fun x hx k hk hk2 => ?_, fun x hx k hk hk2 => ?_, ?_⟩
  · rw [List.mem_append, h.mem, take_more hi, List.mem_append]
    constructor
    · rintro ((h | h) | h) <;> simp [h]
    · rintro ((h | h) | h) <;> simp [h]
  · rcases List.mem_append.1 hx with hx | hx
    · exact h.la x hx k (by omega) hk2
    · simp at hx; rw [hx]; exact asc_lt ha (by omega) hk2
  · rcases List.mem_append.1 hx with hx | hx
    · exact h.lb x hx k hk hk2
    · simp at hx
      rw [hx]
      have h1 := hl (by omega)
      by_cases e : j = k
      · subst e; exact h1
      · have := asc_lt hb (show j < k by omega) hk2; omega
  · have := h.len; simp; omega
theorem UniAt.right {a b : List Int} {i j : Nat} {ys : List Int} (h : UniAt a b i j ys) (ha : Asc a) (hb : Asc b) (hj : j < b.length) (hl : ∀ (hi : i < a.length), b[j] < a[i]) : UniAt a b i (j + 1) (ys ++ [b[j]]) := by
  refine ⟨asc_push h.asc fun x hx => h.lb x hx j (Nat.le_refl _) hj, fun x => ?_, fun x hx k hk hk2 => ?_, fun x hx k hk hk2 => ?_, ?_⟩
  · rw [List.mem_append, h.mem, take_more hj, List.mem_append]
    constructor
    · rintro ((h | h) | h) <;> simp [h]
    · rintro (h | h | h) <;> simp [h]
  · rcases List.mem_append.1 hx with hx | hx
    · exact h.la x hx k hk hk2
    · simp at hx
      rw [hx]
      have h1 := hl (by omega)
      by_cases e : i = k
      · subst e; exact h1
      · have := asc_lt ha (show i < k by omega) hk2; omega
  · rcases List.mem_append.1 hx with hx | hx
    · exact h.lb x hx k (by omega) hk2
    · simp at hx; rw [hx]; exact asc_lt hb (by omega) hk2
  · have := h.len; simp; omega
theorem UniAt.both {a b : List Int} {i j : Nat} {ys : List Int} (h : UniAt a b i j ys) (ha : Asc a) (hb : Asc b) (hi : i < a.length) (hj : j < b.length) (he : a[i] = b[j]) : UniAt a b (i + 1) (j + 1) (ys ++ [b[j]]) := by
  refine ⟨asc_push h.asc fun x hx => h.lb x hx j (Nat.le_refl _) hj, fun x => ?_, fun x hx k hk hk2 => ?_, fun x hx k hk hk2 => ?_, ?_⟩
  · rw [List.mem_append, h.mem, take_more hj, take_more hi, List.mem_append, List.mem_append, he]
    constructor
    · rintro ((h | h) | h) <;> simp [h]
    · rintro ((h | h) | h | h) <;> simp [h]
  · rcases List.mem_append.1 hx with hx | hx
    · exact h.la x hx k (by omega) hk2
    · simp at hx; rw [hx, ← he]; exact asc_lt ha (by omega) hk2
  · rcases List.mem_append.1 hx with hx | hx
    · exact h.lb x hx k (by omega) hk2
    · simp at hx; rw [hx]; exact asc_lt hb (by omega) hk2
  · have := h.len; simp; omega
theorem UniAt.last {a b : List Int} {i j : Nat} {ys : List Int} (h : UniAt a b i j ys) (ha : Asc a) (hi : ¬ i < a.length) (hj : ¬ j < b.length) : ys = uni a b := by
  obtain ⟨u1, u2⟩ := uni_ok b a ha
  refine asc_ext h.asc u1 fun x => ?_
  rw [h.mem, u2, List.take_of_length_le (by omega), List.take_of_length_le (by omega)]
/-- What UsedFrom answers. -/
def usedV (n k : Int) (ss : List St) (r : Int) : List Int := if 0 ≤ k ∧ k ≤ ss.length ∧ sumS W1 ss ≤ 600 then setL n [] (usesS (ss.drop k.toNat) ++ [r]) else []
end Go.Proofs.Ytdooageiopnhaaa
