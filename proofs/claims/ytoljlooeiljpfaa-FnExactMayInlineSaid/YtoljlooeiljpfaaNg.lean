/- Operations that put values together or take them apart. -/
import Derived.Test.YtoljlooeiljpfaaNf
namespace Go.Proofs.Ytoljlooeiljpfaa
open Go Go.RowKit
section
variable {P : Program} {p : Nat → Nat} {w : World}

theorem run_mapM_list {α β : Type} (g : α → Sem β) (h : α → β) : ∀ (l : List α), (∀ f ∈ l, (g f).run P w = .ok (h f) w) → (l.mapM g).run P w = .ok (l.map h) w
  | [], _ => by simp
  | x :: xs, hh => by
    simp only [List.mapM_cons, Sem.run_bind, hh x List.mem_cons_self, Result.andThen, run_mapM_list g h xs (fun f hf => hh f (List.mem_cons_of_mem _ hf)), Sem.run_pure, List.map_cons]
theorem run_mapM {α β : Type} (g : α → Sem β) (h : α → β) (arr : Array α) (hh : ∀ f ∈ arr, (g f).run P w = .ok (h f) w) : (arr.mapM g).run P w = .ok (arr.toList.map h).toArray w := by
  rw [Array.mapM_eq_mapM_toList]
  have := run_mapM_list (P := P) (w := w) g h arr.toList (fun f hf => hh f (by simpa using hf))
  rw [map_eq_pure_bind]
  simp only [Sem.run_bind, this, Result.andThen, Sem.run_pure]

def fillG (us : List Value) (off : Nat) : List Value → List Value
  | [] => us
  | x :: xs => fillG (us.set off x) (off + 1) xs
theorem fillG_length : ∀ (xs us : List Value) (off : Nat), (fillG us off xs).length = us.length
  | [], _, _ => rfl
  | x :: xs, us, off => by rw [fillG, fillG_length xs]; simp
theorem fill_foldl (off : Nat) : ∀ (xs : List Value) (j : Nat) (arr : Array Value), ((xs.zipIdx j).foldl (fun cs (c, j) => cs.setIfInBounds (off + j) c) arr).toList = fillG arr.toList (off + j) xs
  | [], _, _ => rfl
  | x :: xs, j, arr => by
    simp only [List.zipIdx_cons, List.foldl_cons]
    rw [fill_foldl off xs (j + 1), fillG]
    simp [Nat.add_assoc]
theorem RepL.fill : ∀ {vs : List Value} {xs : List AC} {us : List Value} {cs : List AC} (off : Nat), RepL p w us cs → RepL p w vs xs → RepL p w (fillG us off vs) (fillL cs off xs)
  | [], [], _, _, _, h, _ => h
  | _ :: _, _ :: _, _, _, off, h, ⟨a, b⟩ => RepL.fill (off + 1) (h.set a off) b
theorem fillG_get : ∀ (xs us : List Value) (off j : Nat), off + xs.length ≤ us.length → (fillG us off xs)[j]? = if off ≤ j ∧ j < off + xs.length then xs[j - off]? else us[j]?
  | [], us, off, j, _ => by simp only [fillG, List.length_nil]; rw [if_neg (by omega)]
  | x :: xs, us, off, j, h => by
    simp only [List.length_cons] at h ⊢
    rw [fillG, fillG_get xs _ _ j (by rw [List.length_set]; omega)]
    by_cases h1 : off + 1 ≤ j ∧ j < off + 1 + xs.length
    · rw [if_pos h1, if_pos (by omega), show j - off = (j - (off + 1)) + 1 by omega]; simp
    · rw [if_neg h1]
      by_cases h2 : j = off
      · rw [h2, if_pos ⟨Nat.le_refl _, by omega⟩, Nat.sub_self, List.getElem?_set_self (by omega)]
        rfl
      · have hn : ¬ (off ≤ j ∧ j < off + (xs.length + 1)) := by omega
        rw [if_neg hn, List.getElem?_set_ne (by omega)]

/-- A part is put in. -/
theorem fill_step (place : Nat → Option (Nat × Nat)) (cells : Array Value) (i : Nat) (v : Value) (rest : List (Nat × Value)) (off n : Nat) (h : place i = some (off, n)) (hv : v.cells.size = n) (hf : off + n ≤ cells.size) :
    Instr.fill place cells ((i, v) :: rest) = Instr.fill place (fillG cells.toList off v.cells.toList).toArray rest := by
  have e : v.cells.zipIdx.foldl (fun cs (c, j) => cs.setIfInBounds (off + j) c) cells = (fillG cells.toList off v.cells.toList).toArray := by
    rw [← Array.foldl_toList, Array.toList_zipIdx]
    apply Array.ext'
    rw [fill_foldl]
    simp
  rw [Instr.fill, h]
  simp only [hv]
  rw [if_neg (by simp; omega), e]

/-- A struct is built: parts that are seen, each at its field. -/
inductive Built (p : Nat → Nat) (w : World) (i : TI) : List (Nat × Value) → List Value → List AC → List AC → List Value → Prop
  | nil (us cs) : Built p w i [] us cs cs us
  | cons {f v rest us cs cs' us' off n x} (hf : i.fields[f]? = some (off, n)) (hv : RepS p w v x) (hx : x.cells.length = n) (hl : off + n ≤ cs.length)
      (h : Built p w i rest (fillG us off v.cells.toList) (fillL cs off x.cells) cs' us') : Built p w i ((f, v) :: rest) us cs cs' us'
theorem Built.rep {i : TI} {parts : List (Nat × Value)} {us us' : List Value} {cs cs' : List AC} (h : Built p w i parts us cs cs' us') (hr : RepL p w us cs) : RepL p w us' cs' := by
  induction h with
  | nil => exact hr
  | cons hf hv hx hl h ih => exact ih (hr.fill _ hv.cells)
theorem Built.fill {i : TI} {parts : List (Nat × Value)} {us us' : List Value} {cs cs' : List AC} (h : Built p w i parts us cs cs' us') (hr : RepL p w us cs) (place : Nat → Option (Nat × Nat))
    (hp : ∀ f o n, i.fields[f]? = some (o, n) → place f = some (o, n)) : Instr.fill place us.toArray parts = some us'.toArray := by
  induction h with
  | nil => rfl
  | cons hf hv hx hl h ih =>
    have h1 := hv.cells.length
    have h2 := hr.length
    rw [fill_step place _ _ _ _ _ _ (hp _ _ _ hf) (by simp at h1; omega) (by simp; omega)]
    exact ih (hr.fill _ hv.cells)

theorem run_build {t : Nat} {i : TI} (hT : TOk P t i) (h3 : i.kind = 3) {parts : List (Nat × Value)} {cs' : List AC} {us' : List Value} {z : Value} (hz : ∃ inf, P.info? t = some inf ∧ inf.zero = some z)
    (hb : Built p w i parts z.cells.toList i.zero cs' us') (hr : RepL p w z.cells.toList i.zero) : (Instr.build t parts.toArray).run P w = .ok (.agg us'.toArray) w := by
  obtain ⟨inf, h1, h4⟩ := hz
  obtain ⟨fs, hu, hsz, hf⟩ := hT.struct h3
  have hfs : ∀ f ∈ fs, (do pure (f.offset, ← sizeOf f.type) : Sem (Nat × Nat)).run P w = .ok (f.offset, ((P.info? f.type).map (·.size)).getD 0) w := by
    intro f hm
    obtain ⟨j, hj, he⟩ := Array.mem_iff_getElem.1 hm
    obtain ⟨⟨o, n⟩, hon⟩ : ∃ on, i.fields[j]? = some on := ⟨i.fields[j]'(by omega), List.getElem?_eq_getElem _⟩
    obtain ⟨fd, fi, e1, _, e3, e4, _⟩ := hf j o n hon
    rw [Array.getElem?_eq_getElem hj, he] at e1
    cases e1
    simp [sizeOf, typeInfo, e3]
  have hfill := hb.fill hr (fun x => (fs.toList.map fun f => (f.offset, ((P.info? f.type).map (·.size)).getD 0)).toArray[x]?) (fun f o n hon => by
    obtain ⟨fd, fi, e1, e2, e3, e4, _⟩ := hf f o n hon
    simp [e1, e2, e3, e4])
  simp only [Array.toArray_toList] at hfill
  have hm := run_mapM (P := P) (w := w) _ _ fs hfs
  simp only [bind_pure_comp] at hm
  simp [Instr.build, zeroValue, typeInfo, h1, h4, run_underlying hu, hm]
  simp at hfill
  rw [hfill]
  simp

/-- A slice of parts. -/
theorem fill_rows {k : Nat} (hk : 0 < k) : ∀ (parts : List (Nat × Value)) (rows : List (List AC)) (j : Nat) (cells : List Value), parts.map (·.1) = (List.range parts.length).map (j + ·) → parts.length = rows.length →
    (∀ (i : Nat) (e : Nat × Value) (r : List AC), parts[i]? = some e → rows[i]? = some r → RepL p w e.2.cells.toList r ∧ r.length = k) → cells.length = (j + rows.length) * k →
    ∃ us, Instr.fill (fun i => some (i * k, k)) cells.toArray parts = some (cells.take (j * k) ++ us).toArray ∧ RepL p w us rows.flatten ∧ us.length = rows.length * k
  | [], [], j, cells, _, _, _, hc => ⟨[], by rw [Instr.fill, List.append_nil, List.take_of_length_le (by rw [hc]; simp)], trivial, by simp⟩
  | (i, v) :: parts, r :: rows, j, cells, hi, hl, h, hc => by
    obtain ⟨hv, hrk⟩ := h 0 (i, v) r rfl rfl
    have hij : i = j := by
      have := congrArg (·[0]?) hi
      simpa [List.range_succ_eq_map] using this
    subst hij
    have hvl : v.cells.toList.length = k := by rw [← hrk]; exact hv.length
    have hge : (i + 1) * k ≤ cells.length := by rw [hc]; exact Nat.mul_le_mul_right _ (by simp)
    rw [Nat.succ_mul] at hge
    rw [fill_step _ _ _ _ _ (i * k) k rfl (by simp at hvl; omega) (by simp; omega)]
    obtain ⟨us, h1, h2, h3⟩ := fill_rows hk parts rows (i + 1) (fillG cells (i * k) v.cells.toList) (by
      have := congrArg List.tail hi
      simp only [List.map_cons, List.tail_cons, List.length_cons, List.range_succ_eq_map] at this
      rw [this]
      simp [Function.comp_def, Nat.add_assoc, Nat.add_comm 1]) (by simpa using hl) (fun i' e r' he hr' => h (i' + 1) e r' (by simpa using he) (by simpa using hr')) (by rw [fillG_length, hc]; simp [Nat.add_assoc, Nat.add_comm 1])
    have htake : (fillG cells (i * k) v.cells.toList).take ((i + 1) * k) = cells.take (i * k) ++ v.cells.toList := by
      apply List.ext_getElem?
      intro x
      rw [List.getElem?_take]
      by_cases hx : x < (i + 1) * k
      · rw [if_pos hx, fillG_get _ _ _ _ (by omega)]
        rw [Nat.succ_mul] at hx
        by_cases hx2 : i * k ≤ x
        · rw [if_pos ⟨hx2, by omega⟩, List.getElem?_append_right (by rw [List.length_take]; omega), List.length_take, Nat.min_eq_left (by omega)]
        · rw [if_neg (by omega), List.getElem?_append_left (by rw [List.length_take]; omega), List.getElem?_take, if_pos (by omega)]
      · rw [if_neg hx]
        rw [Nat.succ_mul] at hx
        rw [List.getElem?_eq_none]
        rw [List.length_append, List.length_take]
        omega
    refine ⟨v.cells.toList ++ us, ?_, ?_, ?_⟩
    · simp only [] at h1 ⊢
      rw [h1, htake, List.append_assoc]
    · simp only [List.flatten_cons]
      exact hv.append h2
    · simp only [List.length_append, List.length_cons, Nat.succ_mul]
      omega

theorem run_buildSlice {t u : Nat} {e : TI} (hu : P.underlying t = some (.slice u)) (hT : TOk P u e) (hk : 0 < e.size) {parts : List (Nat × Value)} {rows : List (List AC)} (hi : parts.map (·.1) = List.range parts.length) (hl : parts.length = rows.length)
    (h : ∀ (i : Nat) (x : Nat × Value) (r : List AC), parts[i]? = some x → rows[i]? = some r → RepL p w x.2.cells.toList r ∧ r.length = e.size) (hz : Zp p w) (hn : rows.length ≤ 65536) (he : e.size ≤ 256) :
    ∃ v w' p', (Instr.buildSlice t rows.length parts.toArray).run P w = .ok v w' ∧ Rep p' w' v (.sl e.size rows) ∧ Rt p' w' v e.size ∧ Evo (fun _ => False) p w p' w' ∧ Zp p' w' ∧ (∀ b, blkOf v = some b → b = w.heap.size) := by
  obtain ⟨inf, z, h1, h2, _, h4, _, h6⟩ := hT.info
  have hcell : ∀ r ∈ rows, r.length = e.size := fun r hr => by
    obtain ⟨j, hj, hjr⟩ := List.mem_iff_getElem.1 hr
    exact (h j (parts[j]'(by omega)) r (List.getElem?_eq_getElem _) (by rw [List.getElem?_eq_getElem hj, hjr])).2
  have hsm : rows.length * e.size ≤ 16777216 := Nat.le_trans (Nat.mul_le_mul hn he) (by decide)
  obtain ⟨us, f1, f2, f3⟩ := fill_rows (p := p) (w := w) hk parts rows 0 (if rows.length * e.size = 0 then [] else ((List.range (rows.length * e.size)).map (fun x => z.cells[x % z.cells.size]!))) (by simp [hi]) hl h (by
    split
    · simp; omega
    · simp)
  obtain ⟨a1, a2, a3, a4⟩ := row_new (p := p) (w := w) (k := e.size) (cap := rows.length) (T := u) (rows := rows) (us := us) (rest := []) hk hcell (Nat.le_refl _) f2 f3 hz (by simp [f3])
  simp only [Nat.zero_mul, List.take_zero, List.nil_append, List.append_nil] at f1 a1 a2 a3 a4
  refine ⟨_, _, _, ?_, a1, a2, a3, a4, fun b hb => by cases hb; rfl⟩
  by_cases h0 : rows.length * e.size = 0
  · have hr0 : rows = [] := by
      rcases Nat.eq_zero_or_pos rows.length with hr | hr
      · exact List.eq_nil_of_length_eq_zero hr
      · have := Nat.mul_pos hr hk; omega
    subst hr0
    have hp0 : parts = [] := List.eq_nil_of_length_eq_zero (by simpa using hl)
    subst hp0
    have hus : us = [] := List.eq_nil_of_length_eq_zero (by simpa using f3)
    subst hus
    simp [Instr.buildSlice, run_underlying hu, sizeOf, typeInfo, h1, Array.range_zero', Instr.fill, newRow]
  · rw [if_neg h0] at f1
    have : ¬ 16777216 < rows.length * e.size := by omega
    have harr : (Array.range (rows.length * e.size)).map (fun x => z.cells[x % z.cells.size]!) = ((List.range (rows.length * e.size)).map (fun x => z.cells[x % z.cells.size]!)).toArray := by
      apply Array.ext'
      simp
    rw [← harr] at f1
    simp [Instr.buildSlice, run_underlying hu, sizeOf, typeInfo, zeroValue, h1, h2, h4, h0, this, f1, newRow]

theorem run_indexAt {t u : Nat} {e : TI} (hu : P.underlying t = some (.slice u)) (hT : TOk P u e) {x : Value} {r : List (List AC)} (hx : Rep p w x (.sl e.size r)) {n : Int} (h0 : 0 ≤ n) (hn : n < r.length) :
    ∃ v, (Instr.indexAt t x (.int .i64 n)).run P w = .ok v w ∧ PRef p w v (r.getD n.toNat []) := by
  obtain ⟨inf, z, h1, h2, _, _, _, _⟩ := hT.info
  rcases hx with _ | _ | _ | ⟨b, o, cap, k, rows, f, hk, hrows, hb, hp, hcap, hc, hr⟩
  · simp at hn; omega
  · have hlt : n.toNat < r.length := by omega
    have hm : r.getD n.toNat [] ∈ r := by simp [List.getD, List.getElem?_eq_getElem hlt]
    refine ⟨.pointer (some ⟨b, o + n.toNat * e.size, none⟩), ?_, ⟨b, _, rfl, hb, ?_, fun j c hj => ⟨f n.toNat j, ?_, hr _ _ _ hj⟩⟩⟩
    · simp [Instr.indexAt, run_underlying hu, asIntOf, h0, hn, sizeOf, typeInfo, h1, h2, Addr.add_lit]
    · rw [hrows _ hm]
      have : n.toNat * e.size + e.size ≤ r.length * e.size := by rw [← Nat.succ_mul]; exact Nat.mul_le_mul_right _ hlt
      omega
    · exact hc _ _ _ hj

theorem run_fieldAt {t : Nat} {i : TI} (hT : TOk P t i) {b o f off n : Nat} (hf : i.fields[f]? = some (off, n)) (h3 : i.kind = 3) :
    (Instr.fieldAt t (.pointer (some ⟨b, o, none⟩)) f).run P w = .ok (.pointer (some ⟨b, o + off, none⟩)) w := by
  obtain ⟨fs, hu, hsz, hfs⟩ := hT.struct h3
  obtain ⟨fd, fi, e1, e2, e3, e4, e5⟩ := hfs f off n hf
  have : ¬ fi.size = 0 := by omega
  simp [Instr.fieldAt, run_underlying hu, e1, Instr.sureAddr, fieldPlace, sizeOf, typeInfo, e3, this, e2, Addr.add_lit]

theorem PRef.drop {cs : List AC} {b o : Nat} (h : PRef p w (.pointer (some ⟨b, o, none⟩)) cs) (n : Nat) (hn : n ≤ cs.length) : PRef p w (.pointer (some ⟨b, o + n, none⟩)) (cs.drop n) := by
  obtain ⟨b', o', e, hb, hp, hc⟩ := h
  cases e
  refine ⟨b, o + n, rfl, hb, by rw [List.length_drop]; omega, fun j c hj => ?_⟩
  rw [List.getElem?_drop] at hj
  obtain ⟨u, hu, hr⟩ := hc _ _ hj
  exact ⟨u, by rw [Nat.add_assoc]; exact hu, hr⟩
end
end Go.Proofs.Ytoljlooeiljpfaa
