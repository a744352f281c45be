/- Operations on memory, by what they read and leave: loads, stores, boxes, rows. -/
import Derived.Test.YtoljlooeiljpfaaNd
namespace Go.Proofs.Ytoljlooeiljpfaa
open Go Go.RowKit
section
variable {P : Program} {p : Nat → Nat} {w : World}

theorem run_loadVar_cells {t : Nat} {i : TI} (hT : TOk P t i) {b o : Nat} {us : List Value} (hl : us.length = i.size)
    (hc : ∀ (j : Nat) (u : Value), us[j]? = some u → w.cell? ⟨b, o + j, none⟩ = some u) :
    (loadVar t ⟨b, o, none⟩).run P w = .ok (if i.kind = 3 then .agg us.toArray else us.getD 0 undef) w := by
  obtain ⟨inf, z, h1, h2, _, _, _, _⟩ := hT.info
  have hk := hT.kinds
  by_cases h3 : i.kind = 3
  · obtain ⟨fs, hu, _⟩ := hT.struct h3
    have hcs := run_loadCells_list (P := P) w ⟨b, o, none⟩ us (fun j v hj => by rw [Addr.add_lit]; exact hc j v hj)
    simp [loadVar, isAgg, run_underlying hu, sizeOf, typeInfo, h1, h2, ← hl, hcs, h3]
  · have h1' := hT.one h3
    obtain ⟨u, rfl⟩ : ∃ u, us = [u] := by
      match us, hl with
      | [u], _ => exact ⟨u, rfl⟩
      | [], h => simp at h; omega
      | _ :: _ :: _, h => simp at h; omega
    have hu := hc 0 u rfl
    simp only [Nat.add_zero] at hu
    have : (isAgg t).run P w = .ok false w := by
      rcases (by omega : i.kind = 0 ∨ i.kind = 1 ∨ i.kind = 2) with h | h | h
      · simp [isAgg, run_underlying (hT.int h)]
      · simp [isAgg, run_underlying (hT.bool h)]
      · simp [isAgg, run_underlying (hT.slice h)]
    simp [loadVar, this, run_load, hu, h3]

theorem mkV_rep {i : TI} {us : List Value} {cs : List AC} {x : SV} (h : RepL p w us cs) (hx : mkV i cs = some x) : RepS p w (if i.kind = 3 then .agg us.toArray else us.getD 0 undef) x := by
  unfold mkV at hx
  split at hx
  · rename_i h3
    cases hx
    rw [if_pos h3]
    exact ⟨_, rfl, by simpa using h⟩
  · rename_i h3
    rw [if_neg h3]
    split at hx
    · cases hx
      match us, h with
      | [u], h => exact h.1
    · cases hx

theorem PRef.cells {v : Value} {cs : List AC} (h : PRef p w v cs) : ∃ b o us, v = .pointer (some ⟨b, o, none⟩) ∧ RepL p w us cs ∧ (∀ (j : Nat) (u : Value), us[j]? = some u → w.cell? ⟨b, o + j, none⟩ = some u) := by
  obtain ⟨b, o, e, _, _, hc⟩ := h
  have key : ∀ (n : Nat) (o : Nat) (cs : List AC), cs.length = n → (∀ (j : Nat) (c : AC), cs[j]? = some c → ∃ u, w.cell? ⟨b, o + j, none⟩ = some u ∧ Rep p w u c) →
      ∃ us, RepL p w us cs ∧ (∀ (j : Nat) (u : Value), us[j]? = some u → w.cell? ⟨b, o + j, none⟩ = some u) := by
    intro n
    induction n with
    | zero => intro o cs hl _; exact ⟨[], by rw [List.eq_nil_of_length_eq_zero hl]; trivial, fun j u h => by simp at h⟩
    | succ n ih =>
      intro o cs hl hc
      match cs, hl with
      | c :: cs, hl =>
        obtain ⟨u, hu, hr⟩ := hc 0 c rfl
        obtain ⟨us, h1, h2⟩ := ih (o + 1) cs (by simpa using hl) (fun j d hj => by
          obtain ⟨u, hu, hr⟩ := hc (j + 1) d (by simpa using hj)
          exact ⟨u, by rw [← hu]; congr 2; omega, hr⟩)
        refine ⟨u :: us, ⟨hr, h1⟩, fun j x hj => ?_⟩
        match j with
        | 0 => simp at hj; subst hj; simpa using hu
        | j + 1 => rw [← h2 j x (by simpa using hj)]; congr 2; omega
  obtain ⟨us, h1, h2⟩ := key cs.length o cs rfl hc
  exact ⟨b, o, us, e, h1, h2⟩

theorem getElem?_take_some {α : Type} {l : List α} {n j : Nat} {x : α} (h : (l.take n)[j]? = some x) : l[j]? = some x := by
  rw [List.getElem?_take] at h
  split at h
  · exact h
  · cases h

/-- A load out of the stable part. -/
theorem run_load_ref {t : Nat} {i : TI} (hT : TOk P t i) {v : Value} {cs : List AC} {x : SV} (h : PRef p w v cs) (hl : i.size ≤ cs.length) (hx : mkV i (cs.take i.size) = some x) :
    ∃ u, (Instr.loadAt t v).run P w = .ok u w ∧ RepS p w u x := by
  obtain ⟨b, o, us, rfl, hr, hc⟩ := h.cells
  have hlen := hr.length
  have := run_loadVar_cells (w := w) hT (b := b) (o := o) (us := us.take i.size) (by rw [List.length_take]; omega) (fun j u hj => hc j u (getElem?_take_some hj))
  exact ⟨_, by simp [Instr.loadAt, Instr.sureAddr, this], mkV_rep (hr.take _) hx⟩

theorem cell_of_block {b : Nat} {a : Array Value} {T : Nat} {fz : Nat × Nat} (h : w.heap[b]? = some (.cells a T fz)) (o : Nat) : w.cell? ⟨b, o, none⟩ = a[o]? := by
  simp [World.cell?, h]

/-- A load out of a box: what is loaded are the box's own cells. -/
theorem run_load_box {t : Nat} {i : TI} (hT : TOk P t i) {b off : Nat} {a : Array Value} {T : Nat} {cs : List AC} {x : SV} (hb : w.heap[b]? = some (.cells a T (0, 0))) (hr : RepL p w a.toList cs)
    (hl : off + i.size ≤ cs.length) (hx : mkV i ((cs.drop off).take i.size) = some x) :
    ∃ u, (Instr.loadAt t (.pointer (some ⟨b, off, none⟩))).run P w = .ok u w ∧ RepS p w u x ∧ u.cells.toList = (a.toList.drop off).take i.size := by
  have hlen := hr.length
  have hr' := (hr.drop off).take i.size
  have := run_loadVar_cells (w := w) hT (b := b) (o := off) (us := (a.toList.drop off).take i.size) (by rw [List.length_take, List.length_drop]; omega) (fun j u hj => by
    have hj := getElem?_take_some hj
    rw [List.getElem?_drop] at hj
    rw [cell_of_block hb]
    simpa using hj)
  have hs := mkV_rep hr' hx
  refine ⟨_, by simp [Instr.loadAt, Instr.sureAddr, this], hs, ?_⟩
  have hk := hT.kinds
  split
  · simp [Value.cells]
  · rename_i h3
    have h1' := hT.one h3
    have hle : ((a.toList.drop off).take i.size).length = 1 := by rw [List.length_take, List.length_drop]; omega
    match hm : (a.toList.drop off).take i.size, hle with
    | [u], _ =>
      rw [hm] at hr'
      match hcs : (cs.drop off).take i.size, hr' with
      | [c], hr' => simp [Rep.cells hr'.1]

/-! Blocks that are new. -/
def Zp (p : Nat → Nat) (w : World) : Prop := ∀ b, w.heap.size ≤ b → p b = 0
/-- The stable part with n cells of block b. -/
def upP (p : Nat → Nat) (b n : Nat) : Nat → Nat := fun x => if x = b then n else p x

theorem evo_alloc (o : Obj) (n : Nat) (B : Nat → Prop) : Evo B p w (upP p w.heap.size n) (w.alloc o) :=
  ⟨rfl, rfl, rfl, by simp, fun b hb _ => Below.heap_alloc _ _ _ hb, fun b hb => by unfold upP; rw [if_neg (by omega)]; exact Nat.le_refl _,
    fun b hb _ => by unfold upP; rw [if_neg (by omega)],
    fun b o' hb _ => World.cell?_of_block (w := w) (Below.heap_alloc w o b hb)⟩
theorem zp_alloc (hz : Zp p w) (o : Obj) (n : Nat) : Zp (upP p w.heap.size n) (w.alloc o) := fun b hb => by
  simp at hb
  unfold upP
  rw [if_neg (by omega)]
  exact hz b (by omega)
theorem zp_drew (hz : Zp p w) : Zp p w.drew := hz
theorem evo_drew (B : Nat → Prop) : Evo B p w p w.drew := (Evo.refl B p w).drew

/-- A row: a slice's block. -/
theorem rep_row {b o cap k : Nat} {rows : List (List AC)} {us : List Value} (hk : 0 < k) (hrows : ∀ r ∈ rows, r.length = k) (hb : b < w.heap.size) (hp : o + rows.length * k ≤ p b) (hcap : rows.length ≤ cap)
    (hr : RepL p w us rows.flatten) (hc : ∀ (j : Nat) (u : Value), us[j]? = some u → w.cell? ⟨b, o + j, none⟩ = some u) : Rep p w (.slice (some ⟨b, o, none⟩) rows.length cap) (.sl k rows) := by
  have hget : ∀ (rows : List (List AC)), (∀ r ∈ rows, r.length = k) → ∀ (i j : Nat) (c : AC), (rows.getD i [])[j]? = some c → rows.flatten[i * k + j]? = some c := by
    intro rows
    induction rows with
    | nil => intro _ i j c h; simp at h
    | cons r rows ih =>
      intro hrows i j c h
      have hrk := hrows r List.mem_cons_self
      match i with
      | 0 =>
        simp at h
        have := (List.getElem?_eq_some_iff.1 h).1
        simp only [List.flatten_cons, Nat.zero_mul, Nat.zero_add]
        rw [List.getElem?_append_left this]; exact h
      | i + 1 =>
        simp only [List.flatten_cons]
        rw [List.getElem?_append_right (by rw [hrk, Nat.succ_mul]; omega), hrk]
        have := ih (fun r hr => hrows r (List.mem_cons_of_mem _ hr)) i j c (by simpa using h)
        rw [← this]
        congr 1
        rw [Nat.succ_mul]
        omega
  refine .sl b o cap k rows (fun i j => us.getD (i * k + j) undef) hk hrows hb hp hcap (fun i j c h => ?_) (fun i j c h => ?_)
  · obtain ⟨u, hu, _⟩ := hr.get (hget rows hrows i j c h)
    have := hc _ u hu
    rw [← Nat.add_assoc] at this
    simp only [List.getD, hu, Option.getD_some]
    exact this
  · obtain ⟨u, hu, hr'⟩ := hr.get (hget rows hrows i j c h)
    simp only [List.getD, hu, Option.getD_some]
    exact hr'

/-- What a slice reads as, as one list of cells. -/
theorem Rep.row {v : Value} {k : Nat} {rows : List (List AC)} (h : Rep p w v (.sl k rows)) :
    ((∃ a, v = .slice a 0 0) ∧ rows = []) ∨ ∃ b o cap us, v = .slice (some ⟨b, o, none⟩) rows.length cap ∧ 0 < k ∧ (∀ r ∈ rows, r.length = k) ∧ b < w.heap.size ∧ o + rows.length * k ≤ p b ∧ rows.length ≤ cap ∧
      us.length = rows.length * k ∧ RepL p w us rows.flatten ∧ (∀ (j : Nat) (u : Value), us[j]? = some u → w.cell? ⟨b, o + j, none⟩ = some u) := by
  cases h with
  | nil a => exact .inl ⟨⟨a, rfl⟩, rfl⟩
  | sl b o cap k rows f hk hrows hb hp hcap hc hr =>
    refine .inr ⟨b, o, cap, ?_⟩
    have key : ∀ (rows : List (List AC)) (o : Nat) (f : Nat → Nat → Value), (∀ r ∈ rows, r.length = k) → (∀ (i j : Nat) (c : AC), (rows.getD i [])[j]? = some c → w.cell? ⟨b, o + i * k + j, none⟩ = some (f i j)) →
        (∀ (i j : Nat) (c : AC), (rows.getD i [])[j]? = some c → Rep p w (f i j) c) → ∃ us, us.length = rows.length * k ∧ RepL p w us rows.flatten ∧ (∀ (j : Nat) (u : Value), us[j]? = some u → w.cell? ⟨b, o + j, none⟩ = some u) := by
      intro rows
      induction rows with
      | nil => intro o f _ _ _; exact ⟨[], by simp, trivial, fun j u h => by simp at h⟩
      | cons r rows ih =>
        intro o f hrows hc hr
        have hrk := hrows r List.mem_cons_self
        obtain ⟨us, h0, h1, h2⟩ := ih (o + k) (fun i j => f (i + 1) j) (fun r hr => hrows r (List.mem_cons_of_mem _ hr)) (fun i j c h => by
          have := hc (i + 1) j c (by simpa using h)
          rw [← this]; congr 2; rw [Nat.succ_mul]; omega) (fun i j c h => hr (i + 1) j c (by simpa using h))
        refine ⟨(List.range k).map (f 0) ++ us, by simp [h0, Nat.succ_mul]; omega, ?_, ?_⟩
        · simp only [List.flatten_cons]
          refine RepL.append (RepL.of (by simp [hrk]) fun j v c hv hcj => ?_) h1
          have := hr 0 j c (by simpa using hcj)
          have hj := (List.getElem?_eq_some_iff.1 hcj).1
          rw [List.getElem?_map, List.getElem?_range (by omega)] at hv
          simp at hv
          subst hv
          exact this
        · intro j u hj
          rcases Nat.lt_or_ge j k with hlt | hge
          · rw [List.getElem?_append_left (by simpa using hlt), List.getElem?_map, List.getElem?_range hlt] at hj
            simp at hj
            subst hj
            obtain ⟨c, hcj⟩ : ∃ c, r[j]? = some c := ⟨r[j]'(by omega), List.getElem?_eq_getElem _⟩
            simpa using hc 0 j c (by simpa using hcj)
          · rw [List.getElem?_append_right (by simpa using hge)] at hj
            simp only [List.length_map, List.length_range] at hj
            rw [← h2 _ u hj]; congr 2; omega
    obtain ⟨us, h0, h1, h2⟩ := key rows o f hrows hc hr
    exact ⟨us, rfl, hk, hrows, hb, hp, hcap, h0, h1, h2⟩
end
end Go.Proofs.Ytoljlooeiljpfaa
