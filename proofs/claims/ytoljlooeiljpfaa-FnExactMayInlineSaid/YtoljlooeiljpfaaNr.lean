/- What is known of rooms along a function's code. -/
import Derived.Test.YtoljlooeiljpfaaNq
namespace Go.Proofs.Ytoljlooeiljpfaa
open Go Go.RowKit

def ren (st st' : Stt) (i : Nat) : Option Nat := (st'.pid.find? fun e => e.2 == i).bind fun e => st.pid.lookup e.1
/-- st' says no more than st. -/
def wk (st st' : Stt) : Bool :=
  st'.pid.all (fun e => match ren st st' e.2 with | some j => st.pid.lookup e.1 == some j | none => false) &&
  st'.alive.all (fun e => match ren st st' e.1 with | some j => st.alive.lookup j == some e.2 | none => false) &&
  st'.alive.all (fun e => st'.alive.all fun e' => e.1 == e'.1 || !(ren st st' e.1 == ren st st' e'.1)) &&
  st'.len == st.len && st'.spe.isEmpty && st'.nb.isEmpty && st.made.all fun d => st'.made.any fun e => Nat.beq e d
def Le (st st' : Stt) : Prop := ∀ p w m s Own, Inv st p w m s Own → s.pe = [] → Inv st' p w m s Own
theorem wk_le {st st' : Stt} (h : wk st st' = true) : Le st st' := by
  unfold wk at h
  simp only [Bool.and_eq_true, List.all_eq_true, beq_iff_eq, Bool.or_eq_true, Bool.not_eq_true', beq_eq_false_iff_ne] at h
  obtain ⟨⟨⟨⟨⟨⟨h1, h2⟩, h3⟩, h4⟩, h5⟩, h6⟩, h7⟩ := h
  have hmade : ∀ d, d ∈ st.made → d ∈ st'.made := fun d hd => by
    have := h7 d hd
    rw [List.any_eq_true] at this
    obtain ⟨e, he, hb⟩ := this
    rw [← Nat.eq_of_beq_eq_true hb]
    exact he
  intro p w m s Own hI hpe
  obtain ⟨val, hR⟩ := hI.rooms
  have hspe : st'.spe = [] := by simpa using h5
  have hnb : st'.nb = [] := by simpa using h6
  refine ⟨hI.size, by rw [h4]; exact hI.len, fun t ht => (by rw [hnb] at ht; cases ht), by rw [hspe]; trivial, hI.slots, hI.zp, hI.once, ⟨fun t _ => by rw [hpe]; rfl, fun t d off ht => by rw [hspe] at ht; cases ht⟩, hI.own, hI.box, hI.boxd, hI.arr, hI.al, ⟨fun t d ht => (hI.mks.1 t d ht).imp (hmade d) fun h => h, fun d k r hd => hmade d (hI.mks.2 d k r hd)⟩, fun i => val ((ren st st' i).getD 0), ?_⟩
  have halive : ∀ i k, (i, k) ∈ st'.alive → ∃ j, ren st st' i = some j ∧ (j, k) ∈ st.alive := by
    intro i k hm
    have := h2 _ hm
    split at this
    · rename_i j hj
      exact ⟨j, hj, mem_of_lookup (by simpa using this)⟩
    · cases this
  refine ⟨fun q i hm => ?_, fun i k hm => ?_, fun i k b hm hb => ?_, fun i k i' k' b hm hm' hne hb => ?_, fun q i k d k' rows b hm hal hd hbd hb => ?_⟩
  · have := h1 _ hm
    split at this
    · rename_i j hj
      simp only at hj
      rw [hj]
      exact hR.place _ _ (mem_of_lookup' (by simpa using this))
    · cases this
  · obtain ⟨j, hj, hm'⟩ := halive i k hm
    rw [hj]
    exact hR.alive _ _ hm'
  · obtain ⟨j, hj, hm'⟩ := halive i k hm
    rw [hj] at hb
    exact hR.own _ _ b hm' hb
  · obtain ⟨j, hj, hmj⟩ := halive i k hm
    obtain ⟨j', hj', hmj'⟩ := halive i' k' hm'
    rw [hj] at hb
    rw [hj']
    refine hR.apart j k j' k' b hmj hmj' (fun e => ?_) hb
    rcases h3 _ hm _ hm' with h | h
    · exact hne h
    · exact h (by rw [hj, hj', e])
  · obtain ⟨j, hj, hmj⟩ := halive i k hal
    have h1' := h1 _ hm
    simp only at h1'
    rw [hj] at h1' hb
    exact hR.row q j k d k' rows b (mem_of_lookup' (by simpa using h1')) hmj hd hbd hb
theorem Le.trans {a b c : Stt} (h : Le a b) (k : Le b c) : Le a c := fun p w m s Own hI hp => k p w m s Own (h p w m s Own hI hp) hp

/-- What both know. -/
def pairUp (a b : Stt) : List (Nat × Nat) → List Nat → List (Nat × Nat × Nat)
  | [], _ => []
  | (i, k) :: r, used =>
    match a.pid.filterMap (fun e => if e.2 == i then (b.pid.lookup e.1).bind fun j => if b.alive.lookup j == some k && !used.contains j then some j else none else none) with
    | j :: _ => (i, j, k) :: pairUp a b r (j :: used)
    | [] => pairUp a b r used
def meet (a b : Stt) : Stt :=
  let ps := pairUp a b a.alive []
  { pid := a.pid.filter fun e => match ps.lookup e.2 with | some x => b.pid.lookup e.1 == some x.1 | none => false,
    alive := ps.map fun x => (x.1, x.2.2), spe := [], len := a.len, made := a.made ++ b.made }

structure Out where
  norm : Option Stt
  exits : List (Nat × Stt)
  ret : Option Stt
def Out.at (O : Out) : Xt → Option Stt
  | .norm => O.norm
  | .exit i => O.exits.lookup i
  | .ret => O.ret
def joinO : Option Stt → Option Stt → Option (Option Stt)
  | none, b => some b
  | a, none => some a
  | some a, some b => let c := meet a b; if wk a c && wk b c then some (some c) else none
def joinX : List (Nat × Stt) → List (Nat × Stt) → Option (List (Nat × Stt))
  | [], b => some b
  | (i, a) :: r, b => (joinX r (b.filter fun e => !(e.1 == i))).bind fun r' => (joinO (some a) (b.lookup i)).bind fun c => match c with | some c => some ((i, c) :: r') | none => none
def joinOut (A B : Out) : Option Out := (joinO A.norm B.norm).bind fun n => (joinX A.exits B.exits).bind fun x => (joinO A.ret B.ret).map fun r => { norm := n, exits := x, ret := r }

theorem joinO_ok {a b : Option Stt} {c : Option Stt} (h : joinO a b = some c) : (∀ st, a = some st → ∃ st', c = some st' ∧ (st = st' ∨ Le st st')) ∧ (∀ st, b = some st → ∃ st', c = some st' ∧ (st = st' ∨ Le st st')) := by
  cases a with
  | none => cases h; exact ⟨fun st h => (by cases h), fun st h => ⟨st, h, .inl rfl⟩⟩
  | some x =>
    cases b with
    | none => cases h; exact ⟨fun st h => ⟨st, h, .inl rfl⟩, fun st h => (by cases h)⟩
    | some y =>
      simp only [joinO] at h
      split at h
      · rename_i hw
        simp only [Bool.and_eq_true] at hw
        cases h
        exact ⟨fun st h => by cases h; exact ⟨_, rfl, .inr (wk_le hw.1)⟩, fun st h => by cases h; exact ⟨_, rfl, .inr (wk_le hw.2)⟩⟩
      · cases h

def maxId (st : Stt) : Nat := st.alive.foldl (fun m e => max m (e.1 + 1)) (st.pid.foldl (fun m e => max m (e.2 + 1)) 0)

def tloop (f : Stt → Option Out) : Nat → Stt → Option (Stt × Out)
  | 0, _ => none
  | n + 1, J => (f J).bind fun O => match O.norm with
    | none => some (J, O)
    | some s1 => if wk s1 J then some (J, { norm := none, exits := O.exits, ret := O.ret }) else tloop f n (meet J s1)

/-- A region that draws its order (asked of its own check). -/
abbrev DrawFn := Lay → Sig → Array Oper → Stt → Option Stt

def tcode (D : DrawFn) (L : Lay) (S : Sig) : Code → Stt → Option Out
  | .skip, st => some { norm := some st, exits := [], ret := none }
  | .region _ ops d, st =>
    if d then (D L S ops st).map fun st' => { norm := some st', exits := [], ret := none }
    else (stepsS L S (maxId st) ops.toList st).map fun r => { norm := some { pid := r.2.pid, alive := r.2.alive, spe := [], len := r.2.len, made := r.2.made }, exits := [], ret := none }
  | .seq a b, st => (tcode D L S a st).bind fun A => match A.norm with
    | none => some A
    | some s1 => (tcode D L S b s1).bind fun B => joinOut { norm := none, exits := A.exits, ret := A.ret } B
  | .cond _ a b, st => (tcode D L S a st).bind fun A => (tcode D L S b st).bind fun B => joinOut A B
  | .block id b, st => (tcode D L S b st).bind fun B => (joinO B.norm (B.exits.lookup id)).map fun n => { norm := n, exits := B.exits.filter fun e => !(e.1 == id), ret := B.ret }
  | .loop b, st => (tloop (tcode D L S b) 6 { pid := st.pid, alive := st.alive, spe := [], len := st.len, made := st.made }).bind fun r => if wk st r.1 then some r.2 else none
  | .exit id, st => some { norm := none, exits := [(id, st)], ret := none }
  | .ret, st => some { norm := none, exits := [], ret := some st }
  | _, _ => none

def exitOf : Xt → Exit
  | .norm => .normal
  | .exit i => .exit i
  | .ret => .ret

theorem joinX_ok : ∀ {a b c : List (Nat × Stt)}, joinX a b = some c → ∀ i, (∀ st, a.lookup i = some st → ∃ st', c.lookup i = some st' ∧ (st = st' ∨ Le st st')) ∧ (∀ st, b.lookup i = some st → ∃ st', c.lookup i = some st' ∧ (st = st' ∨ Le st st'))
  | [], b, c, h, i => by cases h; exact ⟨fun st h => (by cases h), fun st h => ⟨st, h, .inl rfl⟩⟩
  | (j, x) :: r, b, c, h, i => by
    simp only [joinX, Option.bind_eq_some_iff] at h
    obtain ⟨r', hr, c', hc, h⟩ := h
    obtain ⟨k1, k2⟩ := joinO_ok hc
    cases c' with
    | none => cases h
    | some c'' =>
      cases h
      have ih := joinX_ok hr i
      by_cases hij : i = j
      · subst hij
        simp only [List.lookup, beq_self_eq_true]
        exact ⟨fun st h => by cases h; exact k1 _ rfl, fun st h => k2 st h⟩
      · have hb : (i == j) = false := by simpa using hij
        simp only [List.lookup, hb]
        refine ⟨ih.1, fun st h => ih.2 st ?_⟩
        rw [← h]
        clear h ih hr hc k1 k2 hb
        induction b with
        | nil => rfl
        | cons y b ihb =>
          obtain ⟨k, v⟩ := y
          by_cases hkj : k = j
          · subst hkj
            rw [List.filter_cons_of_neg (by simp)]
            rw [ihb]
            simp [List.lookup, show (i == k) = false by simpa using hij]
          · rw [List.filter_cons_of_pos (by simpa using hkj)]
            simp only [List.lookup]
            rw [ihb]

theorem joinOut_ok {A B C : Out} (h : joinOut A B = some C) (e : Xt) : (∀ st, A.at e = some st → ∃ st', C.at e = some st' ∧ (st = st' ∨ Le st st')) ∧ (∀ st, B.at e = some st → ∃ st', C.at e = some st' ∧ (st = st' ∨ Le st st')) := by
  simp only [joinOut, Option.bind_eq_some_iff, Option.map_eq_some_iff] at h
  obtain ⟨n, hn, x, hx, r, hr, rfl⟩ := h
  cases e with
  | norm => exact joinO_ok hn
  | exit i => exact joinX_ok hx i
  | ret => exact joinO_ok hr
end Go.Proofs.Ytoljlooeiljpfaa
