/- Generic texts and models for the proofs of this seat: part 10. -/
import Derived.Test.YtbodfaghedolbaaS09
set_option linter.unusedVariables false
set_option linter.unusedSimpArgs false
namespace Go.Proofs.Ytbodfaghedolbaa
open Go Go.RowKit
section
variable {P : Program} {L : Lay} {S : Sig} {call : Orc} {p : Stb} {w : World} {a : Act} {s s' : VS} {q : SPe} {o : Oper}
def isStore (o : Oper) : Bool := match o.op with | .store .. => true | _ => false
def takesOk0 (L : Lay) (S : Sig) (o : Oper) : Bool := match o.op with
  | .call { callee := .value (.func f), args, argTypes } => decide ((S.sg f).takes.length ≤ args.size) && ((S.sg f).takes.zip argTypes.toList).all fun e => e.1.isNone || (L.el e.2).isSome
  | _ => true
def homeOk (L : Lay) (S : Sig) (o : Oper) : Bool := match o.op with
  | .call { callee := .value (.func f), .. } =>
    (!L.home (f + 1) o.dst || ((S.sg f).takes.isEmpty && (match L.el o.type with | some e => (S.sg f).gives == [(0, e.size)] | none => false))) && (!L.lent f || ((S.sg f).takes.isEmpty && (S.sg f).gives.isEmpty))
  | _ => true
def takesOk (L : Lay) (S : Sig) (o : Oper) : Bool := takesOk0 L S o && homeOk L S o
theorem toList_one {α : Type} {xs : Array α} {x : α} (h : xs.toList = [x]) : xs = #[x] := by apply Array.ext'; simpa using h
theorem toList_two {α : Type} {xs : Array α} {x y : α} (h : xs.toList = [x, y]) : xs = #[x, y] := by apply Array.ext'; simpa using h
theorem op_ok (hL : LayOk P L) (hC : CallOk P S call) (hs : vopP L call o s = some s') (hst : isStore o = false) (hsee : ∀ x ∈ o.op.operands.toList, Sees p w a.tmps s x) (hsz : a.tmps.size = s.σ.length) (hz : Zp p w) (hq : SPeOk q s)
    (hr : ∀ x ∈ eats L S o, Rt p w (a.eval x.1) x.2) (hd : Apart ((eats L S o).map fun x => a.eval x.1)) (hlen : takesOk0 L S o = true) : OpGoal P L S q o a p w s' := by
  unfold vopP at hs
  split at hs
  · rename_i x hop
    exact op_move (.inl hop) hs (hsee x (by simp [hop, Op.operands])) hsz hz
  · rename_i x hop
    exact op_move (.inr hop) hs (hsee x (by simp [hop, Op.operands])) hsz hz
  · rename_i c x y hop
    exact op_pick hop hs (hsee c (by simp [hop, Op.operands])) (hsee x (by simp [hop, Op.operands])) (hsee y (by simp [hop, Op.operands])) hsz hz
  · rename_i t hop
    exact op_alloc hL hop hs hsz hz
  · rename_i t x hop
    exact op_box hop hs (hsee x (by simp [hop, Op.operands])) hsz hz
  · rename_i t ps hop
    exact op_build hL hop hs (fun x hx => hsee x.2 (by simp only [hop, Op.operands]; exact List.mem_map_of_mem hx)) hsz hz
  · rename_i t n ps hop
    exact op_buildSlice hL hop hs (fun x hx => hsee x.2 (by simp only [hop, Op.operands]; exact List.mem_map_of_mem hx)) hsz hz
  · rename_i t x hop
    exact op_load hL hop hs (hsee x (by simp [hop, Op.operands])) hsz hz hq
  · rename_i t x v hop
    simp [isStore, hop] at hst
  · rename_i op t x y u hop
    split at hs
    · rename_i m hm
      exact op_binB hL hop hm hs (hsee x (by simp [hop, Op.operands])) (hsee y (by simp [hop, Op.operands])) hsz hz
    · exact op_bin hop hs (hsee x (by simp [hop, Op.operands])) (hsee y (by simp [hop, Op.operands])) hsz hz
  · rename_i t x hop
    exact op_not hop hs (hsee x (by simp [hop, Op.operands])) hsz hz
  · rename_i t x f hop
    exact op_fieldAddr hL hop hs (hsee x (by simp [hop, Op.operands])) hsz hz
  · rename_i t x ix hop
    exact op_indexAddr hL hop hs (hsee x (by simp [hop, Op.operands])) (hsee ix (by simp [hop, Op.operands])) hsz hz
  · rename_i t x lo hi hop
    exact op_slice hL hop hs (hsee x (by simp [hop, Op.operands])) (fun y hy => hsee y (by simp [hop, Op.operands, hy])) (fun y hy => hsee y (by simp [hop, Op.operands, hy])) hsz hz
  · rename_i x j hop
    exact op_extract ⟨x, j, hop, hs, hsee _ (by simp [hop, Op.operands])⟩ hsz hz
  · rename_i t l c hop
    exact op_makeSlice hL hop hs (hsee l (by simp [hop, Op.operands])) (hsee c (by simp [hop, Op.operands])) hsz hz
  · rename_i args ats hop
    split at hs
    · rename_i x hx
      split at hs
      · rename_i hone
        have := toList_one hx
        subst this
        exact op_len hL hop rfl hone hs (hsee x (by simp [hop, Op.operands, Call.operands])) hsz hz
      · cases hs
    · cases hs
  · rename_i args ats hop
    split at hs
    · rename_i x y hx
      have := toList_two hx
      subst this
      have hats : ∃ t, ats = #[t, t] := by
        simp only [Option.bind_eq_some_iff] at hs
        obtain ⟨e, he, ⟨k, r⟩, _, ⟨k', r'⟩, _, hs⟩ := hs
        simp only at hs
        split at hs
        · rename_i hc
          refine ⟨ats.getD 0 0, ?_⟩
          have h2 := hc.2.2.2.1
          have h1 := hc.2.2.1
          apply Array.ext'
          match hl : ats.toList with
          | [t, u] =>
            have : ats = #[t, u] := toList_two hl
            subst this
            simp at h1 ⊢
            exact h1.symm
          | [] => have := congrArg List.length hl; simp [h2] at this
          | [_] => have := congrArg List.length hl; simp [h2] at this
          | _ :: _ :: _ :: _ => have := congrArg List.length hl; simp [h2] at this
        · cases hs
      obtain ⟨t, rfl⟩ := hats
      refine op_append hL hop (s' := s') ?_ (hsee x (by simp [hop, Op.operands, Call.operands])) (hsee y (by simp [hop, Op.operands, Call.operands])) hsz hz hr
      rw [← hs]
      simp
    · cases hs
  · rename_i args ats hop
    split at hs
    · rename_i x y hx
      have := toList_two hx
      subst this
      exact op_max hop hs (hsee x (by simp [hop, Op.operands, Call.operands])) (hsee y (by simp [hop, Op.operands, Call.operands])) hsz hz
    · cases hs
  · rename_i f args ats hop
    exact op_call hC hop hs (by simp [takesOk0, hop] at hlen; exact hlen.1) (fun x hx => hsee x (by simp [hop, Op.operands, Call.operands]; exact .inr (by simpa using hx))) hsz hz hr hd
  · cases hs
theorem argsV_slice : ∀ (xs : List Operand) (ts : List Nat) (vs : List SV), argsV L s xs ts = some vs → ∀ (i : Nat) (x : Operand) (t : Nat), xs[i]? = some x → ts[i]? = some t → (L.el t).isSome = true → ∃ k r, svOf L s t x = some (.cell (.sl k r))
  | [], _, _, _, i, x, t, hx, _, _ => by simp at hx
  | _ :: _, [], _, h, i, x, t, _, ht, _ => by simp at ht
  | y :: ys, u :: us, _, h, i, x, t, hx, ht, he => by
    simp only [argsV, Option.bind_eq_some_iff] at h
    obtain ⟨v, hv, h⟩ := h
    split at h
    case isFalse => cases h
    rename_i hok
    simp only [Option.map_eq_some_iff] at h
    obtain ⟨vs, h, rfl⟩ := h
    match i with
    | 0 =>
      simp at hx ht
      subst hx ht
      obtain ⟨e, he⟩ := Option.isSome_iff_exists.1 he
      unfold okArg at hok
      rw [he] at hok
      simp only at hok
      split at hok
      · exact ⟨_, _, hv⟩
      · cases hok
    | i + 1 => exact argsV_slice ys us vs h i x t (by simpa using hx) (by simpa using ht) he
theorem eats_rep (hs : vopP L call o s = some s') (hsee : ∀ x ∈ o.op.operands.toList, Sees p w a.tmps s x) (hlen : takesOk0 L S o = true) : ∀ x ∈ eats L S o, ∃ c, Rep p w (a.eval x.1) c := by
  intro x hx
  unfold eats at hx
  split at hx
  · rename_i args ats hop
    split at hx
    · rename_i y z e hy he
      simp only [List.mem_singleton] at hx
      subst hx
      simp only [vopP, hop, hy, he, Option.bind_eq_some_iff] at hs
      obtain ⟨_, _, ⟨k, r⟩, hr, _⟩ := hs
      exact ⟨_, rowsO_rep hr (hsee y (by
        have : args = #[y, z] := toList_two hy
        subst this
        simp [hop, Op.operands, Call.operands]))⟩
    · cases hx
  · rename_i f args ats hop
    simp only [List.mem_filterMap, Option.map_eq_some_iff] at hx
    obtain ⟨⟨y, ko⟩, hm, k, hk, rfl⟩ := hx
    simp only at hk
    subst hk
    obtain ⟨i, hi, hti⟩ := mem_zip_get hm
    simp only [vopP, hop, Option.bind_eq_some_iff] at hs
    obtain ⟨vs, hvs, _⟩ := hs
    simp only [takesOk0, hop, Bool.and_eq_true, List.all_eq_true] at hlen
    have hlt : i < ats.toList.length := by
      have key : ∀ (xs : List Operand) (ts : List Nat) (vs : List SV), argsV L s xs ts = some vs → xs.length = ts.length := by
        intro xs
        induction xs with
        | nil => intro ts vs h; cases ts with | nil => rfl | cons t ts => simp [argsV] at h
        | cons x xs ih =>
          intro ts vs h
          cases ts with
          | nil => simp [argsV] at h
          | cons t ts =>
            simp only [argsV, Option.bind_eq_some_iff] at h
            obtain ⟨v, _, h⟩ := h
            split at h
            case isFalse => cases h
            simp only [Option.map_eq_some_iff] at h
            obtain ⟨vs, h, _⟩ := h
            simp [ih _ _ h]
      rw [← key _ _ _ hvs]
      exact (List.getElem?_eq_some_iff.1 hi).1
    have ht : ats.toList[i]? = some (ats.toList[i]'hlt) := List.getElem?_eq_getElem _
    have := hlen.2 _ (get_mem_zip hti ht)
    simp at this
    obtain ⟨k', r, hsv⟩ := argsV_slice _ _ _ hvs i y _ hi ht (by simpa using this)
    exact ⟨_, svOf_rep hsv (hsee y (by
      simp [hop, Op.operands, Call.operands]
      exact .inr (by simpa using List.mem_of_getElem? hi)))⟩
  · cases hx
structure Frames (o : Oper) (s s' : VS) : Prop where
  len : s'.σ.length = s.σ.length
  get : ∀ t, o.dst ≠ some t → s'.get t = s.get t
  pe : ∀ t r, o.dst ≠ some t → s'.pe.lookup t = some r → s.pe.lookup t = some r ∧ ∀ d, o.dst = some d → r.at d = false
theorem lookup_filter {β : Type} (f : Nat × β → Bool) {t : Nat} {r : β} : ∀ {l : List (Nat × β)}, (l.filter f).lookup t = some r → (∀ x ∈ l, x.1 = t → f x = false → True) → (∃ y ∈ l, y = (t, r) ∧ f y = true)
  | [], h, _ => by cases h
  | x :: l, h, _ => by
    rcases hf : f x with _ | _
    · rw [List.filter_cons_of_neg (by simp [hf])] at h
      obtain ⟨y, hy, e⟩ := lookup_filter f h (fun _ _ _ _ => trivial)
      exact ⟨y, List.mem_cons_of_mem _ hy, e⟩
    · rw [List.filter_cons_of_pos (by simp [hf])] at h
      obtain ⟨k, v⟩ := x
      simp only [List.lookup] at h
      split at h
      · rename_i he
        cases h
        exact ⟨_, List.mem_cons_self, by simp at he; simp [he], hf⟩
      · obtain ⟨y, hy, e⟩ := lookup_filter f h (fun _ _ _ _ => trivial)
        exact ⟨y, List.mem_cons_of_mem _ hy, e⟩
def NoTwice {β : Type} : List (Nat × β) → Prop
  | [] => True
  | x :: l => (∀ y ∈ l, y.1 ≠ x.1) ∧ NoTwice l
theorem NoTwice.filter {β : Type} (f : Nat × β → Bool) : ∀ {l : List (Nat × β)}, NoTwice l → NoTwice (l.filter f)
  | [], _ => trivial
  | x :: l, ⟨h1, h2⟩ => by
    rcases hf : f x with _ | _
    · rw [List.filter_cons_of_neg (by simp [hf])]
      exact NoTwice.filter f h2
    · rw [List.filter_cons_of_pos (by simp [hf])]
      exact ⟨fun y hy => h1 y (List.mem_filter.1 hy).1, NoTwice.filter f h2⟩
theorem NoTwice.lookup {β : Type} {t : Nat} {r : β} : ∀ {l : List (Nat × β)}, NoTwice l → (t, r) ∈ l → l.lookup t = some r
  | [], _, h => by cases h
  | (k, v) :: l, ⟨h1, h2⟩, h => by
    rcases List.mem_cons.1 h with h | h
    · cases h; simp [List.lookup]
    · simp only [List.lookup]
      have : (t == k) = false := by
        have := h1 _ h
        simp at this ⊢
        exact this
      rw [this]
      exact NoTwice.lookup h2 h
theorem put_frames (hn : NoTwice s.pe) (x : AV) : Frames o s (s.put o.dst x) ∧ NoTwice (s.put o.dst x).pe := by
  cases hd : o.dst with
  | none => exact ⟨⟨rfl, fun _ _ => rfl, fun t r _ h => ⟨h, fun d hd' => by cases hd'.symm.trans hd⟩⟩, hn⟩
  | some d =>
    refine ⟨⟨by simp [VS.put], fun t ht => ?_, fun t r ht h => ?_⟩, hn.filter _⟩
    · have hne : d ≠ t := fun e => ht (by rw [hd, e])
      simp only [VS.get, VS.put, List.getD, List.getElem?_set_ne hne]
    · obtain ⟨y, hy, rfl, hf⟩ := lookup_filter _ h (fun _ _ _ _ => trivial)
      simp only [Bool.and_eq_true, Bool.not_eq_true'] at hf
      exact ⟨hn.lookup hy, fun d' hd' => by rw [hd] at hd'; cases hd'; exact hf.2⟩
theorem ptr_frames (hn : NoTwice s.pe) {d : Nat} (hd : o.dst = some d) (r0 : Ptr) : Frames o s { (s.put (some d) .und) with pe := (d, r0) :: (s.put (some d) .und).pe } ∧ NoTwice ((d, r0) :: (s.put (some d) .und).pe) := by
  obtain ⟨hf, hn'⟩ := put_frames (o := o) hn .und
  rw [hd] at hf hn'
  refine ⟨⟨hf.len, fun t ht => hf.get t ht, fun t r ht h => ?_⟩, fun y hy => ?_, hn'⟩
  · have hne : t ≠ d := fun e => ht (by rw [hd, e])
    simp only [List.lookup] at h
    rw [show (t == d) = false by simpa using hne] at h
    exact hf.pe t r ht h
  · simp only [VS.put, List.mem_filter, Bool.and_eq_true, Bool.not_eq_true', beq_eq_false_iff_ne] at hy
    exact hy.2.1
theorem vopP_frames (hs : vopP L call o s = some s') (hst : isStore o = false) (hn : NoTwice s.pe) : Frames o s s' ∧ NoTwice s'.pe := by
  unfold vopP at hs
  split at hs <;> try simp only [Option.bind_eq_some_iff, Option.map_eq_some_iff] at hs
  · obtain ⟨v, _, rfl⟩ := hs; exact put_frames hn _
  · obtain ⟨v, _, rfl⟩ := hs; exact put_frames hn _
  · obtain ⟨_, _, v, _, rfl⟩ := hs; exact put_frames hn _
  · obtain ⟨_, _, rfl⟩ := hs; exact put_frames hn _
  · obtain ⟨_, _, _, _, hs⟩ := hs; split at hs <;> cases hs; exact put_frames hn _
  · obtain ⟨_, _, hs⟩ := hs; split at hs
    · simp only [Option.map_eq_some_iff] at hs; obtain ⟨_, _, rfl⟩ := hs; exact put_frames hn _
    · cases hs
  · obtain ⟨_, _, _, _, hs⟩ := hs; split at hs <;> cases hs; exact put_frames hn _
  · obtain ⟨_, _, _, _, hs⟩ := hs
    split at hs
    · split at hs
      · simp only [Option.map_eq_some_iff] at hs; obtain ⟨_, _, rfl⟩ := hs; exact put_frames hn _
      · cases hs
    · split at hs
      · split at hs
        · simp only [Option.map_eq_some_iff] at hs; obtain ⟨_, _, rfl⟩ := hs; exact put_frames hn _
        · cases hs
      · cases hs
    · cases hs
  · rename_i hop; simp [isStore, hop] at hst
  · split at hs
    · simp only [Option.bind_eq_some_iff] at hs
      obtain ⟨_, _, hs⟩ := hs
      split at hs
      · simp only [Option.bind_eq_some_iff, Option.map_eq_some_iff] at hs
        obtain ⟨_, _, _, _, rfl⟩ := hs
        exact put_frames hn _
      · cases hs
    · simp only [Option.bind_eq_some_iff, Option.map_eq_some_iff] at hs
      obtain ⟨_, _, _, _, _, _, rfl⟩ := hs
      exact put_frames hn _
  · obtain ⟨_, _, rfl⟩ := hs; exact put_frames hn _
  · obtain ⟨_, _, _, _, _, _, hs⟩ := hs
    split at hs
    · rename_i d hd
      split at hs
      · cases hs; exact ptr_frames hn hd _
      · cases hs
    · cases hs
  · obtain ⟨_, _, _, _, _, _, hs⟩ := hs
    split at hs
    · split at hs
      · rename_i d hd
        split at hs
        · cases hs; exact ptr_frames hn hd _
        · cases hs
      · cases hs
    · cases hs
  · obtain ⟨_, _, _, _, _, _, _, _, hs⟩ := hs; split at hs <;> cases hs; exact put_frames hn _
  · split at hs
    · simp only [Option.map_eq_some_iff] at hs; obtain ⟨_, _, rfl⟩ := hs; exact put_frames hn _
    · cases hs
  · obtain ⟨_, _, _, _, _, _, hs⟩ := hs; split at hs <;> cases hs; exact put_frames hn _
  · split at hs
    · split at hs
      · simp only [Option.bind_eq_some_iff, Option.map_eq_some_iff] at hs; obtain ⟨_, _, _, _, rfl⟩ := hs; exact put_frames hn _
      · cases hs
    · cases hs
  · split at hs
    · simp only [Option.bind_eq_some_iff] at hs
      obtain ⟨_, _, _, _, _, _, hs⟩ := hs; split at hs <;> cases hs; exact put_frames hn _
    · cases hs
  · split at hs
    · simp only [Option.bind_eq_some_iff, Option.map_eq_some_iff] at hs; obtain ⟨_, _, _, _, rfl⟩ := hs; exact put_frames hn _
    · cases hs
  · obtain ⟨_, _, _, _, rfl⟩ := hs; exact put_frames hn _
  · cases hs
theorem put_plain {x : AV} (hx : isRow x = false) : ∀ d, o.dst = some d → isRow ((s.put o.dst x).get d) = false := by
  intro d hd
  rw [hd, get_put]
  split
  · exact hx
  · rfl
theorem vopP_plain (hs : vopP L call o s = some s') (hst : isStore o = false) (hv : ∀ f args r, call f args = some r → isVal r = true) : ∀ d, o.dst = some d → isRow (s'.get d) = false := by
  have ptr : ∀ d (r : Ptr), o.dst = some d → ∀ d', o.dst = some d' → isRow (VS.get { (s.put (some d) .und) with pe := (d, r) :: (s.put (some d) .und).pe } d') = false := by
    intro d r hd d' hd'
    have := put_plain (s := s) (o := o) (x := .und) rfl d' hd'
    rw [hd] at this
    exact this
  unfold vopP at hs
  split at hs <;> try simp only [Option.bind_eq_some_iff, Option.map_eq_some_iff] at hs
  · obtain ⟨v, hv, rfl⟩ := hs; exact put_plain (mvOf_kind hv).1
  · obtain ⟨v, hv, rfl⟩ := hs; exact put_plain (mvOf_kind hv).1
  · obtain ⟨_, _, v, _, rfl⟩ := hs; exact put_plain rfl
  · obtain ⟨_, _, rfl⟩ := hs; exact put_plain rfl
  · obtain ⟨_, _, _, _, hs⟩ := hs; split at hs <;> cases hs; exact put_plain rfl
  · obtain ⟨_, _, hs⟩ := hs; split at hs
    · simp only [Option.map_eq_some_iff] at hs; obtain ⟨_, _, rfl⟩ := hs; exact put_plain rfl
    · cases hs
  · obtain ⟨_, _, _, _, hs⟩ := hs; split at hs <;> cases hs; exact put_plain rfl
  · obtain ⟨_, _, _, _, hs⟩ := hs
    split at hs
    · split at hs
      · simp only [Option.map_eq_some_iff] at hs; obtain ⟨_, _, rfl⟩ := hs; exact put_plain rfl
      · cases hs
    · split at hs
      · split at hs
        · simp only [Option.map_eq_some_iff] at hs; obtain ⟨_, _, rfl⟩ := hs; exact put_plain rfl
        · cases hs
      · cases hs
    · cases hs
  · rename_i hop; simp [isStore, hop] at hst
  · split at hs
    · simp only [Option.bind_eq_some_iff] at hs
      obtain ⟨_, _, hs⟩ := hs
      split at hs
      · simp only [Option.bind_eq_some_iff, Option.map_eq_some_iff] at hs
        obtain ⟨_, _, _, _, rfl⟩ := hs
        exact put_plain rfl
      · cases hs
    · simp only [Option.bind_eq_some_iff, Option.map_eq_some_iff] at hs
      obtain ⟨_, _, _, _, _, _, rfl⟩ := hs
      exact put_plain rfl
  · obtain ⟨_, _, rfl⟩ := hs; exact put_plain rfl
  · obtain ⟨_, _, _, _, _, _, hs⟩ := hs
    split at hs
    · rename_i d hd
      split at hs
      · cases hs; exact ptr d _ hd
      · cases hs
    · cases hs
  · obtain ⟨_, _, _, _, _, _, hs⟩ := hs
    split at hs
    · split at hs
      · rename_i d hd
        split at hs
        · cases hs; exact ptr d _ hd
        · cases hs
      · cases hs
    · cases hs
  · obtain ⟨_, _, _, _, _, _, _, _, hs⟩ := hs; split at hs <;> cases hs; exact put_plain rfl
  · split at hs
    · simp only [Option.map_eq_some_iff] at hs; obtain ⟨_, _, rfl⟩ := hs; exact put_plain rfl
    · cases hs
  · obtain ⟨_, _, _, _, _, _, hs⟩ := hs; split at hs <;> cases hs; exact put_plain rfl
  · split at hs
    · split at hs
      · simp only [Option.bind_eq_some_iff, Option.map_eq_some_iff] at hs; obtain ⟨_, _, _, _, rfl⟩ := hs; exact put_plain rfl
      · cases hs
    · cases hs
  · split at hs
    · simp only [Option.bind_eq_some_iff] at hs
      obtain ⟨_, _, _, _, _, _, hs⟩ := hs; split at hs <;> cases hs; exact put_plain rfl
    · cases hs
  · split at hs
    · simp only [Option.bind_eq_some_iff, Option.map_eq_some_iff] at hs; obtain ⟨_, _, _, _, rfl⟩ := hs; exact put_plain rfl
    · cases hs
  · obtain ⟨_, _, r, hr, rfl⟩ := hs
    have := hv _ _ _ hr
    exact put_plain (by cases r <;> first | rfl | cases this)
  · cases hs
theorem svOf_plain {t x : Nat} {v : SV} (h : svOf L s t (.tmp x) = some v) : isRow (s.get x) = false := by
  simp only [svOf] at h
  split at h
  · rename_i hx; rw [hx]; rfl
  · cases h
theorem buildV_plain {i : TI} : ∀ {ps : List (Nat × Operand)} {cs cs' : List AC}, buildV L s i ps cs = some cs' → ∀ x ∈ ps, ∀ t, x.2 = .tmp t → isRow (s.get t) = false
  | [], _, _, _, x, hx, _, _ => by cases hx
  | (f, y) :: rest, cs, cs', h, x, hx, t, ht => by
    unfold buildV at h
    split at h
    · rename_i hv
      split at h
      · rcases List.mem_cons.1 hx with rfl | hx
        · simp only at ht
          rw [ht] at hv
          exact svOf_plain hv
        · exact buildV_plain h x hx t ht
      · cases h
    · cases h
theorem builtFrom_mem {i : TI} {n t j : Nat} : ∀ {ps : List (Nat × Operand)}, builtFrom i n ps = some (some (t, j)) → ∃ x ∈ ps, x.2 = .tmp t
  | [], h => by simp [builtFrom] at h
  | (f, y) :: rest, h => by
    unfold builtFrom at h
    split at h
    · rename_i r hr
      cases h
      obtain ⟨x, hx, h2⟩ := builtFrom_mem hr
      exact ⟨x, List.mem_cons_of_mem _ hx, h2⟩
    · split at h
      · split at h
        · cases y with
          | tmp z =>
            simp only [Option.some.injEq, Prod.mk.injEq] at h
            exact ⟨_, List.mem_cons_self, by rw [h.1]⟩
          | const c => simp at h
          | global g => simp at h
          | func g => simp at h
        · cases h
      · cases h
theorem mvOf_plain {t x : Nat} {v : AV} (h : mvOf L s t (.tmp x) = some v) : isRow (s.get x) = false := by
  simp only [mvOf] at h
  split at h
  · rename_i hx; rw [hx]; rfl
  · rename_i hx; rw [hx]; rfl
  · cases h
theorem moved_plain (hs : vopP L call o s = some s') (hq : SPeOk q s) : ∀ e ∈ moved L q o, isRow (s.get e.2.1) = false := by
  intro e he
  unfold moved at he
  split at he
  · rename_i x hop
    split at he
    · simp only [vopP, hop, Option.map_eq_some_iff] at hs
      obtain ⟨v, hv, _⟩ := hs
      simp only [List.mem_map] at he
      obtain ⟨n, _, rfl⟩ := he
      exact mvOf_plain hv
    · cases he
  · rename_i x hop
    split at he
    · simp only [vopP, hop, Option.map_eq_some_iff] at hs
      obtain ⟨v, hv, _⟩ := hs
      simp only [List.mem_map] at he
      obtain ⟨n, _, rfl⟩ := he
      exact mvOf_plain hv
    · cases he
  · rename_i t x hop
    split at he
    · simp only [vopP, hop, Option.bind_eq_some_iff] at hs
      obtain ⟨_, _, v, hv, _⟩ := hs
      simp only [List.mem_map] at he
      obtain ⟨n, _, rfl⟩ := he
      exact svOf_plain hv
    · cases he
  · rename_i t x hop
    split at he
    · rename_i i d off hi hps
      simp only [vopP, hop, Option.bind_eq_some_iff] at hs
      obtain ⟨i', hi', r, hr, hs⟩ := hs
      simp only [List.mem_map] at he
      obtain ⟨n, _, rfl⟩ := he
      have hrb : r = .box d off := by
        unfold ptrS at hps
        unfold ptrO at hr
        split at hps
        · rename_i y
          simp only at hr
          cases hqi : q.lookup y with
          | none =>
            rw [hqi] at hps
            cases hps
            rw [hq.1 _ hqi] at hr
            simp only at hr
            split at hr <;> cases hr
            rfl
          | some z =>
            rw [hqi] at hps
            simp only at hps
            subst hps
            rw [hq.2 _ _ _ hqi] at hr
            cases hr
            rfl
        · cases hps
      subst hrb
      simp only at hs
      split at hs
      · rename_i hb; simp only [hb]; rfl
      · cases hs
    · cases he
  · rename_i t ps hop
    split at he
    · simp only [vopP, hop, Option.bind_eq_some_iff] at hs
      obtain ⟨i', hi', hs⟩ := hs
      split at hs
      · simp only [Option.map_eq_some_iff] at hs
        obtain ⟨cs, hb, _⟩ := hs
        simp only [List.mem_filterMap, List.mem_range] at he
        obtain ⟨n, _, he⟩ := he
        split at he
        · rename_i r hr
          cases he
          obtain ⟨x, hx, hx2⟩ := builtFrom_mem (t := r.1) (j := r.2) hr
          exact buildV_plain hb x hx _ hx2
        · cases he
      · cases hs
    · cases he
  · rename_i x j hop
    split at he
    · split at he
      · simp only [List.mem_map] at he
        obtain ⟨n, _, rfl⟩ := he
        simp only [vopP, hop] at hs
        split at hs
        · rename_i hx; simp only [hx]; rfl
        · cases hs
      · cases he
    · cases he
  · cases he
theorem eats_plain (hs : vopP L call o s = some s') : ∀ x ∈ eats L S o, ∀ t, x.1 = .tmp t → isRow (s.get t) = false := by
  intro x hx t ht
  unfold eats at hx
  split at hx
  · rename_i args ats hop
    split at hx
    · rename_i y z e hy he
      simp only [List.mem_singleton] at hx
      subst hx
      simp only at ht
      subst ht
      simp only [vopP, hop, hy, he, Option.bind_eq_some_iff] at hs
      obtain ⟨_, _, ⟨k, r⟩, hr, _⟩ := hs
      unfold rowsO at hr
      split at hr
      · rename_i hv; exact svOf_plain hv
      · cases hr
    · cases hx
  · rename_i f args ats hop
    simp only [List.mem_filterMap, Option.map_eq_some_iff] at hx
    obtain ⟨⟨y, ko⟩, hm, k, hk, rfl⟩ := hx
    simp only at ht
    subst ht
    obtain ⟨i, hi, _⟩ := mem_zip_get hm
    simp only [vopP, hop, Option.bind_eq_some_iff] at hs
    obtain ⟨vs, hvs, _⟩ := hs
    have key : ∀ (xs : List Operand) (ts : List Nat) (vs : List SV) (i : Nat), argsV L s xs ts = some vs → xs[i]? = some (.tmp t) → isRow (s.get t) = false := by
      intro xs
      induction xs with
      | nil => intro ts vs i _ hi; simp at hi
      | cons z xs ih =>
        intro ts vs i h hi
        cases ts with
        | nil => simp [argsV] at h
        | cons u ts =>
          simp only [argsV, Option.bind_eq_some_iff] at h
          obtain ⟨v, hv, h⟩ := h
          split at h
          case isFalse => cases h
          simp only [Option.map_eq_some_iff] at h
          obtain ⟨vs', h, _⟩ := h
          match i with
          | 0 => simp at hi; subst hi; exact svOf_plain hv
          | i + 1 => exact ih _ _ i h (by simpa using hi)
    exact key _ _ _ i hvs hi
  · cases hx
end
end Go.Proofs.Ytbodfaghedolbaa
namespace Go.Proofs.Ytbodfaghedolbaa
open Go Go.RowKit
structure Stt where
  pid : List ((Nat × Nat) × Nat)
  alive : List (Nat × Nat)
  spe : SPe
  len : Nat
  nb : List Nat := []
  made : List Nat := []
def eatIds (st : Stt) : List (Operand × Nat) → Option (List Nat)
  | [] => some []
  | (.tmp t, k) :: r => match st.pid.lookup (t, 0) with
    | some id => if st.alive.lookup id = some k then (eatIds st r).bind fun l => if l.contains id then none else some (id :: l) else none
    | none => none
  | (.const (.slice none 0 0), _) :: r => eatIds st r
  | _ => none
def cutS (d : Nat) (q : SPe) : SPe := q.filter fun e => !(e.1 == d) && !(match e.2 with | some r => r.1 == d | none => false)
def speNext (L : Lay) (o : Oper) (q : SPe) : SPe :=
  match o.dst with
  | none => q
  | some d => match o.op with
    | .fieldAddr t x f => (d, if o.guard.isSome then none else match ptrS q x, (L.ti t).bind (·.fields[f]?) with
      | some r, some e => some (r.1, r.2 + e.1)
      | _, _ => none) :: cutS d q
    | .indexAddr _ _ _ => (d, none) :: cutS d q
    | _ => cutS d q
def newPid (L : Lay) (S : Sig) (base : Nat) (o : Oper) (st : Stt) : List ((Nat × Nat) × Nat) :=
  match o.dst with
  | some d => if o.guard.isSome then [] else (fresh L S o).map (fun e => ((d, e.1), base + e.1)) ++ (moved L st.spe o).filterMap (fun e => (st.pid.lookup e.2).map fun id => ((d, e.1), id))
  | none => []
def newAlive (L : Lay) (S : Sig) (base : Nat) (o : Oper) : List (Nat × Nat) :=
  match o.dst with
  | some _ => if o.guard.isSome then [] else (fresh L S o).map fun e => (base + e.1, e.2)
  | none => []
def dstOk (n : Nat) (o : Oper) : Bool := match o.dst with | some d => decide (d < n) | none => true
def isMake (L : Lay) (o : Oper) : Bool := match o.op with
  | .makeSlice _ _ _ => L.home 0 o.dst
  | .call { callee := .value (.func f), .. } => L.home (f + 1) o.dst
  | _ => false
def makeOk (L : Lay) (o : Oper) (made : List Nat) : Bool := !isMake L o || (match o.dst with
  | some d => !(made.any fun e => Nat.beq e d) && Nat.blt d noHome
  | none => true)
def madeNext (L : Lay) (o : Oper) (made : List Nat) : List Nat := if isMake L o then (match o.dst with
  | some d => d :: made
  | none => made) else made
def stepV (L : Lay) (S : Sig) (base : Nat) (o : Oper) (st : Stt) : Option Stt :=
  if takesOk L S o && dstOk st.len o then (eatIds st (eats L S o)).bind fun E =>
    if o.guard.isSome && !E.isEmpty || !makeOk L o st.made then none else
      some { made := madeNext L o st.made, pid := newPid L S base o st ++ st.pid.filter (fun e => !(o.dst == some e.1.1)), alive := newAlive L S base o ++ st.alive.filter (fun e => !E.contains e.1), spe := speNext L o st.spe, len := st.len }
  else none
theorem mem_of_lookup' {α β : Type} [BEq α] [LawfulBEq α] {t : α} {i : β} : ∀ {l : List (α × β)}, l.lookup t = some i → (t, i) ∈ l
  | [], h => by cases h
  | (u, j) :: l, h => by
    simp only [List.lookup] at h
    split at h
    · rename_i he
      cases h
      rw [show t = u by simpa using he]
      exact List.mem_cons_self
    · exact List.mem_cons_of_mem _ (mem_of_lookup' h)
structure RInv (st : Stt) (p : Stb) (w : World) (m : Array Value) (s : VS) (Own : Nat → Prop) (val : Nat → Value) : Prop where
  place : ∀ q id, (q, id) ∈ st.pid → cellOf w (m.getD q.1 undef) q.2 = some (val id) ∧ s.get q.1 ≠ .und
  alive : ∀ id k, (id, k) ∈ st.alive → Rt p w (val id) k
  own : ∀ id k b, (id, k) ∈ st.alive → blkOf (val id) = some b → Own b ∧ ∀ d cs, s.get d = .box cs → m.getD d undef ≠ .pointer (some ⟨b, 0, none⟩)
  apart : ∀ id k id' k' b, (id, k) ∈ st.alive → (id', k') ∈ st.alive → id ≠ id' → blkOf (val id) = some b → blkOf (val id') ≠ some b
  row : ∀ q id k d k' rows b, (q, id) ∈ st.pid → (id, k) ∈ st.alive → s.get d = .arr k' rows → blkOf (m.getD d undef) = some b → blkOf (val id) = some b → q.2 = 0 ∧ (q.1 = d ∨ s.get q.1 = .al d) ∧ k = k'
structure Inv (st : Stt) (p : Stb) (w : World) (m : Array Value) (s : VS) (Own : Nat → Prop) : Prop where
  size : m.size = s.σ.length
  len : st.len = s.σ.length
  nbk : ∀ t ∈ st.nb, (∀ d off, s.pe.lookup t ≠ some (.box d off)) ∧ ∀ cs, s.get t ≠ .box cs
  sonce : NoTwice st.spe
  slots : ∀ t, SlotOk p w m s t
  zp : Zp p w
  once : NoTwice s.pe
  spe : SPeOk st.spe s
  own : ∀ b, w.heap.size ≤ b → Own b
  box : ∀ d cs, s.get d = .box cs → ∃ b, m.getD d undef = .pointer (some ⟨b, 0, none⟩) ∧ p b = 0 ∧ Own b ∧ b < w.heap.size
  boxd : ∀ d d' cs cs' b, d ≠ d' → s.get d = .box cs → s.get d' = .box cs' → m.getD d undef = .pointer (some ⟨b, 0, none⟩) → m.getD d' undef ≠ .pointer (some ⟨b, 0, none⟩)
  arr : ∀ d k rows b, s.get d = .arr k rows → blkOf (m.getD d undef) = some b → p b = 0 ∧ Own b ∧ b < w.heap.size ∧ (∀ d' cs, s.get d' = .box cs → m.getD d' undef ≠ .pointer (some ⟨b, 0, none⟩)) ∧ (∀ d' k' rows', s.get d' = .arr k' rows' → blkOf (m.getD d' undef) = some b → d' = d)
  al : ∀ t d k rows, s.get t = .al d → s.get d = .arr k rows → m.getD t undef = m.getD d undef
  mks : (∀ t d, s.get t = .al d → d ∈ st.made ∨ d = noHome) ∧ ∀ d k rows, s.get d = .arr k rows → d ∈ st.made
  rooms : ∃ val, RInv st p w m s Own val
section
variable {P : Program} {L : Lay} {S : Sig} {call : Orc} {p p' : Stb} {w w' : World} {a : Act} {s s' : VS} {q : SPe} {o : Oper} {st st' : Stt} {Own : Nat → Prop}
theorem eatIds_ok {val : Nat → Value} (hR : RInv st p w a.tmps s Own val) : ∀ {l : List (Operand × Nat)} {E : List Nat}, eatIds st l = some E → (∀ x ∈ l, ∃ c, Rep p w (a.eval x.1) c) →
    (∀ x ∈ l, Rt p w (a.eval x.1) x.2 ∧ ∀ b, blkOf (a.eval x.1) = some b → ∃ id ∈ E, ∃ k, (id, k) ∈ st.alive ∧ blkOf (val id) = some b) ∧
    (∀ (i j : Nat) (x y : Operand × Nat) (b : Nat), i ≠ j → l[i]? = some x → l[j]? = some y → blkOf (a.eval x.1) = some b → blkOf (a.eval y.1) ≠ some b)
  | [], E, _, _ => ⟨fun x hx => (by cases hx), fun i j x y b _ hx => (by simp at hx)⟩
  | (.tmp t, k) :: r, E, h, hrep => by
    unfold eatIds at h
    split at h
    · rename_i id hid
      split at h
      · rename_i hk
        simp only [Option.bind_eq_some_iff] at h
        obtain ⟨l, hl, h⟩ := h
        split at h
        · cases h
        · rename_i hnot
          cases h
          obtain ⟨ih1, ih2⟩ := eatIds_ok hR hl (fun x hx => hrep x (List.mem_cons_of_mem _ hx))
          have hm := mem_of_lookup hk
          have hp := (hR.place _ _ (mem_of_lookup' hid)).1
          have hrt := hR.alive _ _ hm
          have hval : a.eval (.tmp t) = val id := by
            obtain ⟨c, hc⟩ := hrep (.tmp t, k) List.mem_cons_self
            have hc' : RepS p w (a.eval (.tmp t)) (.cell c) := hc
            have h2 : cellOf w (a.eval (.tmp t)) 0 = some (val id) := hp
            rw [cellOf_SV hc', hc.cells] at h2
            simpa using h2
          have hcross : ∀ (j : Nat) (y : Operand × Nat) (b : Nat), r[j]? = some y → blkOf (val id) = some b → blkOf (a.eval y.1) ≠ some b := by
            intro j y b hy hb hb'
            obtain ⟨id', hid', k', hm', hb2⟩ := (ih1 y (List.mem_of_getElem? hy)).2 b hb'
            have hne : id ≠ id' := fun e => hnot (by rw [e]; simpa using hid')
            exact hR.apart id k id' k' b hm hm' hne hb hb2
          refine ⟨fun x hx => ?_, fun i j x y b hij hx hy hb => ?_⟩
          · rcases List.mem_cons.1 hx with rfl | hx
            · refine ⟨by rw [hval]; exact hrt, fun b hb => ⟨id, List.mem_cons_self, k, hm, by rw [← hval]; exact hb⟩⟩
            · obtain ⟨h1, h2⟩ := ih1 x hx
              exact ⟨h1, fun b hb => by obtain ⟨id', hi, rest⟩ := h2 b hb; exact ⟨id', List.mem_cons_of_mem _ hi, rest⟩⟩
          · match i, j with
            | 0, 0 => exact absurd rfl hij
            | 0, j + 1 =>
              simp at hx
              subst hx
              exact hcross j y b (by simpa using hy) (by rw [← hval]; exact hb)
            | i + 1, 0 =>
              simp at hy
              subst hy
              intro hb'
              rw [hval] at hb'
              exact hcross i x b (by simpa using hx) hb' hb
            | i + 1, j + 1 => exact ih2 i j x y b (by omega) (by simpa using hx) (by simpa using hy) hb
      · cases h
    · cases h
  | (.const c, k) :: r, E, h, hrep => by
    unfold eatIds at h
    split at h
    · rename_i heq; cases heq
    · rename_i heq; cases heq
    · rename_i heq
      cases heq
      obtain ⟨ih1, ih2⟩ := eatIds_ok hR h (fun x hx => hrep x (List.mem_cons_of_mem _ hx))
      refine ⟨fun x hx => ?_, fun i j x y b hij hx hy hb => ?_⟩
      · rcases List.mem_cons.1 hx with rfl | hx
        · exact ⟨.inl rfl, fun b hb => by cases hb⟩
        · exact ih1 x hx
      · match i, j with
        | 0, 0 => exact absurd rfl hij
        | 0, j + 1 =>
          simp at hx
          subst hx
          cases hb
        | i + 1, 0 =>
          simp at hy
          subst hy
          intro hb'
          cases hb'
        | i + 1, j + 1 => exact ih2 i j x y b (by omega) (by simpa using hx) (by simpa using hy) hb
    · cases h
  | (.global g, k) :: r, E, h, _ => by simp [eatIds] at h
  | (.func g, k) :: r, E, h, _ => by simp [eatIds] at h
theorem eatIds_pid : ∀ {l : List (Operand × Nat)} {E : List Nat}, eatIds st l = some E → ∀ x ∈ l, (∃ t id, x.1 = .tmp t ∧ ((t, 0), id) ∈ st.pid ∧ (id, x.2) ∈ st.alive) ∨ x.1 = .const (.slice none 0 0)
  | [], _, _, x, hx => by cases hx
  | (.tmp t, k) :: r, E, h, x, hx => by
    unfold eatIds at h
    split at h
    · rename_i id hid
      split at h
      · rename_i hk
        simp only [Option.bind_eq_some_iff] at h
        obtain ⟨l, hl, _⟩ := h
        rcases List.mem_cons.1 hx with rfl | hx
        · exact .inl ⟨t, id, rfl, mem_of_lookup' hid, mem_of_lookup hk⟩
        · exact eatIds_pid hl x hx
      · cases h
    · cases h
  | (.const c, k) :: r, E, h, x, hx => by
    unfold eatIds at h
    split at h
    · rename_i heq; cases heq
    · rename_i heq; cases heq
    · rename_i heq
      cases heq
      rcases List.mem_cons.1 hx with rfl | hx
      · exact .inr rfl
      · exact eatIds_pid h x hx
    · cases h
  | (.global g, k) :: r, E, h, _, _ => by simp [eatIds] at h
  | (.func g, k) :: r, E, h, _, _ => by simp [eatIds] at h
end
end Go.Proofs.Ytbodfaghedolbaa
