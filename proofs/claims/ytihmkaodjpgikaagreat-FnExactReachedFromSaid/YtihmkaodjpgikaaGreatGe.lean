/- Pr0 Pt0 Pg3 Pg1 Pg2: merged texts. -/
import Derived.Test.YtihmkaodjpgikaaGreatGb
import Derived.Test.YtihmkaodjpgikaaGreatGc
import Derived.Test.YtihmkaodjpgikaaGreatGd
/- Programs as data: functions, what a slice of them reads as. Nothing here speaks of a program's code. -/
namespace Go.Proofs.YtihmkaodjpgikaaGreat
open Go.RowKit
structure Fn where
  params : List Int
  result : Int
  body : Ex
def noFn : Fn := ⟨[], 0, noEx⟩
def nthF (fs : List Fn) (i : Nat) : Fn := fs.getD i noFn
theorem nthF_of {fs : List Fn} {i : Nat} (h : i < fs.length) : nthF fs i = fs[i] := by simp [nthF, h]
def fnCell (f : Fn) (p k : Value) (j : Nat) : Value :=
  if j = 0 then p else if j = 1 then .int .i64 f.result else if j = 2 then .int .i64 f.body.op else if j = 3 then .int .i64 f.body.num else k
/-- A slice of functions, read to every depth. -/
def Fns (w : World) (L U : Nat) (v : Value) (fs : List Fn) : Prop :=
  ∃ (A : Option Addr) (c : Nat) (P K : Nat → Value), v = .slice A fs.length c ∧ Row w L U 5 A fs.length c (fun i j => fnCell (nthF fs i) (P i) (K i) j) ∧
    (∀ i, i < fs.length → Ints w L U (P i) (nthF fs i).params) ∧ ∀ i, i < fs.length → Exs w L U (K i) (nthF fs i).body.kids
theorem Fns.keep {w w' : World} {L U : Nat} {v : Value} {fs : List Fn} (h : Fns w L U v fs) (s : Same L U w w') : Fns w' L U v fs := by
  obtain ⟨A, c, P, K, e, r, hp, hk⟩ := h
  exact ⟨A, c, P, K, e, r.keep s, fun i hl => (hp i hl).keep s, fun i hl => (hk i hl).keep s⟩
theorem Fns.wide {w : World} {L U L' U' : Nat} {v : Value} {fs : List Fn} (h : Fns w L U v fs) (hL : L' ≤ L) (hU : U ≤ U') : Fns w L' U' v fs := by
  obtain ⟨A, c, P, K, e, r, hp, hk⟩ := h
  exact ⟨A, c, P, K, e, r.wide hL hU, fun i hl => (hp i hl).wide hL hU, fun i hl => (hk i hl).wide hL hU⟩
theorem Fns.open_ {w : World} {L U : Nat} {v : Value} {fs : List Fn} (h : Fns w L U v fs) : ∃ A c, v = .slice A fs.length c ∧ fs.length ≤ c ∧ c ≤ 9223372036854775807 := by
  obtain ⟨A, c, P, K, e, r, _, _⟩ := h
  exact ⟨A, c, e, r.le, r.cap⟩
/-- The cells of one function, and what its two slices read as. -/
theorem Fns.at_ {w : World} {L U : Nat} {A : Option Addr} {n c k : Nat} {fs : List Fn} (h : Fns w L U (.slice A n c) fs) (hk : k < fs.length) :
    ∃ b o A1 c1 A2 c2, A = some ⟨b, o, none⟩ ∧ L ≤ b ∧ b < U ∧ w.cell? ⟨b, o + k * 5, none⟩ = some (.slice A1 (nthF fs k).params.length c1) ∧ w.cell? ⟨b, o + k * 5 + 1, none⟩ = some (.int .i64 (nthF fs k).result) ∧
      w.cell? ⟨b, o + k * 5 + 2, none⟩ = some (.int .i64 (nthF fs k).body.op) ∧ w.cell? ⟨b, o + k * 5 + 3, none⟩ = some (.int .i64 (nthF fs k).body.num) ∧ w.cell? ⟨b, o + k * 5 + 4, none⟩ = some (.slice A2 (nthF fs k).body.kids.length c2) ∧
      Ints w L U (.slice A1 (nthF fs k).params.length c1) (nthF fs k).params ∧ Exs w L U (.slice A2 (nthF fs k).body.kids.length c2) (nthF fs k).body.kids := by
  obtain ⟨A', c', P, K, e, r, hp, hks⟩ := h
  injection e with e1 e2 e3
  subst e1
  obtain ⟨b, o, e, h1, h2, hc⟩ := r.place (by omega)
  have hp1 := hp k hk
  have hk1 := hks k hk
  obtain ⟨A1, c1, e4, _, _⟩ := hp1.open_
  obtain ⟨A2, c2, e5, _, _⟩ := hk1.open_
  have d0 := hc k 0 hk (by omega)
  have d4 := hc k 4 hk (by omega)
  rw [e4] at hp1
  rw [e5] at hk1
  refine ⟨b, o, A1, c1, A2, c2, e, h1, h2, ?_, hc k 1 hk (by omega), hc k 2 hk (by omega), hc k 3 hk (by omega), ?_, hp1, hk1⟩
  · rw [← e4]; exact d0
  · rw [← e5]; exact d4
structure Pg where
  decls : List Dec
  funcs : List Fn
/-- A program's value: its two slices. -/
def Pgm (w : World) (L U : Nat) (v : Value) (p : Pg) : Prop := ∃ d f, v = .agg #[d, f] ∧ Decs w L U d p.decls ∧ Fns w L U f p.funcs
theorem Pgm.keep {w w' : World} {L U : Nat} {v : Value} {p : Pg} (h : Pgm w L U v p) (s : Same L U w w') : Pgm w' L U v p := by
  obtain ⟨d, f, e, hd, hf⟩ := h
  exact ⟨d, f, e, hd.keep s, hf.keep s⟩
theorem Pgm.wide {w : World} {L U L' U' : Nat} {v : Value} {p : Pg} (h : Pgm w L U v p) (hL : L' ≤ L) (hU : U ≤ U') : Pgm w L' U' v p := by
  obtain ⟨d, f, e, hd, hf⟩ := h
  exact ⟨d, f, e, hd.wide hL hU, hf.wide hL hU⟩
end Go.Proofs.YtihmkaodjpgikaaGreat

/- Types of expressions as data: what a node makes of the types of its kids. Nothing here speaks of a program's code. -/
namespace Go.Proofs.YtihmkaodjpgikaaGreat
open Go.RowKit
def hasF (p : Pg) (f : Int) : Bool := decide (0 ≤ f) && decide (f < p.funcs.length)
def fnAt (p : Pg) (f : Int) : Fn := nthF p.funcs f.toNat
/-- Is a type an arrow type? -/
def isAr (ds : List Dec) (t : Int) : Bool := decide (1 ≤ t) && (decide (t ≤ ds.length) && decide ((nthD ds (t - 1).toNat).cons.length = 0))
def arrT (ds : List Dec) (f t : Int) : Int := seek ds.length fun k => isArr f t (nthD ds k)
def conRes (ds : List Dec) (c : Int) (ts : List Int) : Int := if 0 ≤ conTy ds c ∧ ts = flds ds c then conTy ds c else -1
def callRes (p : Pg) (f : Int) (ts : List Int) : Int := if hasF p f = true ∧ ts = (fnAt p f).params then (fnAt p f).result else -1
def closeRes (p : Pg) (f : Int) (ts : List Int) : Int :=
  if hasF p f = true ∧ 0 < (fnAt p f).params.length ∧ ts = (fnAt p f).params.take ((fnAt p f).params.length - 1) then arrT p.decls (nth (fnAt p f).params ((fnAt p f).params.length - 1)) (fnAt p f).result else -1
def applyRes (ds : List Dec) (ts : List Int) : Int :=
  if ts.length = 2 ∧ isAr ds (nth ts 0) = true ∧ nth ts 1 = (nthD ds (nth ts 0 - 1).toNat).frm then (nthD ds (nth ts 0 - 1).toNat).to else -1
/-- The type of what an operation gives for values of some types. -/
def resV (p : Pg) (o n : Int) (ts : List Int) : Int :=
  if o = 0 then (if -999 ≤ n ∧ n ≤ 999 ∧ ts = [] then 0 else -1)
  else if o = 1 ∨ o = 2 ∨ o = 3 ∨ o = 4 then (if n = 0 ∧ ts = [0, 0] then 0 else -1)
  else if o = 5 then (if n = 0 ∧ ts = [0] then 0 else -1)
  else if o = 6 then conRes p.decls n ts
  else if o = 9 then callRes p n ts
  else if o = 10 then closeRes p n ts
  else if o = 11 then (if n = 0 then applyRes p.decls ts else -1)
  else -1
def varTy (vars : List Int) (v : Int) : Int := if 0 ≤ v ∧ v < vars.length then nth vars v.toNat else -1
/-- The type of a kid, where the kids are given by what they make of the types of variables. -/
def at_ (fs : List (List Int → Int)) (k : Nat) : List Int → Int := fs.getD k fun _ => -1
def letV (n : Int) (fs : List (List Int → Int)) (vars : List Int) : Int :=
  if n = 0 ∧ fs.length = 2 ∧ 0 ≤ at_ fs 0 vars then at_ fs 1 (vars ++ [at_ fs 0 vars]) else -1
def ifV (n : Int) (fs : List (List Int → Int)) (vars : List Int) : Int :=
  if n = 0 ∧ fs.length = 3 ∧ at_ fs 0 vars = 0 ∧ at_ fs 2 vars = at_ fs 1 vars then at_ fs 1 vars else -1
/-- The type of one arm. -/
def armV (cs : List (List Int)) (fs : List (List Int → Int)) (vars : List Int) (k : Nat) : Int := at_ fs (1 + k) (vars ++ nthL cs k)
def matchV (ds : List Dec) (n : Int) (fs : List (List Int → Int)) (vars : List Int) : Int :=
  if isDat ds n = true ∧ fs.length = 1 + (nthD ds (n - 1).toNat).cons.length ∧ at_ fs 0 vars = n ∧
    upTo (nthD ds (n - 1).toNat).cons.length (fun k => decide (armV (nthD ds (n - 1).toNat).cons fs vars k = armV (nthD ds (n - 1).toNat).cons fs vars 0)) = true then armV (nthD ds (n - 1).toNat).cons fs vars 0 else -1
def tyN (p : Pg) (o n : Int) (fs : List (List Int → Int)) (vars : List Int) : Int :=
  if o = 12 then (if fs.length = 0 then varTy vars n else -1)
  else if o = 13 then letV n fs vars
  else if o = 7 then ifV n fs vars
  else if o = 8 then matchV p.decls n fs vars
  else resV p o n (fs.map fun f => f vars)
mutual
def Ex.ty (p : Pg) : Ex → List Int → Int
  | .node o n ks => tyN p o n (tyL p ks)
def tyL (p : Pg) : List Ex → List (List Int → Int)
  | [] => []
  | e :: es => e.ty p :: tyL p es
end
theorem ty_eq (p : Pg) (e : Ex) : e.ty p = tyN p e.op e.num (tyL p e.kids) := by cases e; simp [Ex.ty, Ex.op, Ex.num, Ex.kids]
theorem tyL_map (p : Pg) (es : List Ex) : tyL p es = es.map (Ex.ty p) := by
  induction es with
  | nil => simp [tyL]
  | cons e es ih => simp only [tyL, ih, List.map_cons]
theorem length_tyL (p : Pg) (es : List Ex) : (tyL p es).length = es.length := by rw [tyL_map, List.length_map]
theorem at_tyL (p : Pg) {es : List Ex} {k : Nat} (h : k < es.length) : at_ (tyL p es) k = (nthX es k).ty p := by
  rw [tyL_map, nthX_of h]; simp [at_, h]
/-- The types of the first kids, all in one scope. -/
def tysL (p : Pg) (vars : List Int) (es : List Ex) : List Int := es.map fun e => e.ty p vars
theorem tysL_eq (p : Pg) (vars : List Int) (es : List Ex) : (tyL p es).map (fun f => f vars) = tysL p vars es := by rw [tyL_map, List.map_map]; rfl
theorem tysL_step (p : Pg) (vars : List Int) {es : List Ex} {k : Nat} (h : k < es.length) : tysL p vars (es.take (k + 1)) = tysL p vars (es.take k) ++ [(nthX es k).ty p vars] := by
  unfold tysL; rw [List.take_succ_eq_append_getElem h, List.map_append, nthX_of h]; rfl
theorem tysL_all (p : Pg) (vars : List Int) {es : List Ex} {k : Nat} (h : ¬ k < es.length) : tysL p vars (es.take k) = tysL p vars es := by rw [List.take_of_length_le (by omega)]
theorem length_tysL (p : Pg) (vars : List Int) (es : List Ex) : (tysL p vars es).length = es.length := by simp [tysL]
theorem nth_tysL (p : Pg) (vars : List Int) {es : List Ex} {k : Nat} (h : k < es.length) : nth (tysL p vars es) k = (nthX es k).ty p vars := by rw [nth_of (by rw [length_tysL]; exact h), nthX_of h]; simp [tysL]
/-- The signature of a function is valid. -/
def sigOk (n : Nat) (f : Fn) : Bool := decide (f.params.length ≤ 3) && (f.params.all (isTy n) && isTy n f.result)
/-- Signatures are valid. -/
def sigsOk (p : Pg) : Bool := typesOk p.decls && (decide (1 ≤ p.funcs.length) && (decide (p.funcs.length ≤ 4) && (upTo p.funcs.length (fun k => sigOk p.decls.length (nthF p.funcs k)) && (decide ((nthF p.funcs 0).params.length = 0) && decide ((nthF p.funcs 0).result = 0)))))
def typeV (p : Pg) (vars : List Int) (e : Ex) : Int := if sigsOk p = true ∧ vars.all (isTy p.decls.length) = true ∧ 1 + sumL one_ e.kids ≤ 30 then e.ty p vars else -1
def progOk (p : Pg) : Bool := sigsOk p && upTo p.funcs.length fun k => decide (typeV p (nthF p.funcs k).params (nthF p.funcs k).body = (nthF p.funcs k).result)
theorem sigs_types {p : Pg} (h : sigsOk p = true) : typesOk p.decls = true := by unfold sigsOk at h; simp only [Bool.and_eq_true] at h; exact h.1
theorem sigs_len {p : Pg} (h : sigsOk p = true) : 1 ≤ p.funcs.length ∧ p.funcs.length ≤ 4 := by unfold sigsOk at h; simp only [Bool.and_eq_true, decide_eq_true_eq] at h; exact ⟨h.2.1, h.2.2.1⟩
theorem sigs_at {p : Pg} (h : sigsOk p = true) {k : Nat} (hk : k < p.funcs.length) : sigOk p.decls.length (nthF p.funcs k) = true := by unfold sigsOk at h; simp only [Bool.and_eq_true] at h; exact upTo_at h.2.2.2.1 hk
theorem sig_three {n : Nat} {f : Fn} (h : sigOk n f = true) : f.params.length ≤ 3 := by unfold sigOk at h; simp only [Bool.and_eq_true, decide_eq_true_eq] at h; exact h.1
theorem prog_sigs {p : Pg} (h : progOk p = true) : sigsOk p = true := by unfold progOk at h; simp only [Bool.and_eq_true] at h; exact h.1
theorem prog_at {p : Pg} (h : progOk p = true) {k : Nat} (hk : k < p.funcs.length) : typeV p (nthF p.funcs k).params (nthF p.funcs k).body = (nthF p.funcs k).result := by
  unfold progOk at h; simp only [Bool.and_eq_true] at h; exact of_decide_eq_true (upTo_at h.2 hk)
end Go.Proofs.YtihmkaodjpgikaaGreat

/- Programs as they come in: functions, and the pair of slices. Nothing here speaks of a program's code. -/
namespace Go.Proofs.YtihmkaodjpgikaaGreat
open Go.RowKit Go.BigFrame Go.Deep Go.ChangeShapes
section
variable {H : Type} {enc : TypeId × Value → H} {P : Program} {w : World} {held : Bool}
theorem ints_open' {t e : TypeId} {fuel : Nat} {v : Value} {x : DataW H × List MemPlace} (ht : P.underlying t = some (.slice e)) (he : P.underlying e = some (.int .i64)) (hc : P.cellsOf e = 1)
    (h : DataW.trod enc P w 0 (fun _ => true) held fuel t [v] = some x) : ∃ xs, Ints w 0 w.heap.size v xs := ints_open ht he hc h
/-- A slice of functions comes in. -/
theorem funcs_open {t e tl te tk ti : TypeId} {g0 g1 g2 x0 x1 x2 : Field} {fuel : Nat} {v : Value} {x : DataW H × List MemPlace} (ht : P.underlying t = some (.slice e)) (he : P.underlying e = some (.struct #[g0, g1, g2])) (hce : P.cellsOf e = 5)
    (o0 : g0.offset = 0) (t0 : g0.type = tl) (o1 : g1.offset = 1) (t1 : g1.type = ti) (o2 : g2.offset = 2) (t2 : g2.type = te)
    (htl : P.underlying tl = some (.slice ti)) (hcl : P.cellsOf tl = 1) (hti : P.underlying ti = some (.int .i64)) (hci : P.cellsOf ti = 1)
    (hte : P.underlying te = some (.struct #[x0, x1, x2])) (hcte : P.cellsOf te = 3) (p0 : x0.offset = 0) (s0 : x0.type = ti) (p1 : x1.offset = 1) (s1 : x1.type = ti) (p2 : x2.offset = 2) (s2 : x2.type = tk)
    (htk : P.underlying tk = some (.slice te)) (hck : P.cellsOf tk = 1)
    (h : DataW.trod enc P w 0 (fun _ => true) held fuel t [v] = some x) : ∃ fs, Fns w 0 w.heap.size v fs := by
  rcases open_slice ht h with ⟨e, _⟩ | ⟨a, l, c, m, n, D, Pl, e, _, hl, hm, hmm, _, hx⟩
  · injection e with e _
    exact ⟨[], none, 0, fun _ => undef, fun _ => undef, e, ⟨Nat.le_refl _, by simp [maxLen], fun _ => ⟨rfl, rfl⟩, fun h => absurd h (by simp)⟩, fun i h => absurd h (by simp), fun i h => absurd h (by simp)⟩
  · injection e with e _
    simp only [if_true] at hmm
    subst hmm
    haveI : Inhabited Fn := ⟨noFn⟩
    have each : ∀ i, i < m → ∃ y : List Value × Fn, w.cells? 0 (a.add (i * 5)) 5 = some y.1 ∧ y.1.getD 1 undef = .int .i64 y.2.result ∧ y.1.getD 2 undef = .int .i64 y.2.body.op ∧ y.1.getD 3 undef = .int .i64 y.2.body.num ∧
        Ints w 0 w.heap.size (y.1.getD 0 undef) y.2.params ∧ Exs w 0 w.heap.size (y.1.getD 4 undef) y.2.body.kids := by
      intro i hi
      obtain ⟨cs, h1, h2⟩ := hx i hi
      rw [hce] at h1
      have hlen := (World.cells?_some h1).2.1
      obtain ⟨u0, u1, u2, u3, u4, rfl⟩ : ∃ u0 u1 u2 u3 u4, cs = [u0, u1, u2, u3, u4] := by
        match cs, hlen with
        | [u0, u1, u2, u3, u4], _ => exact ⟨u0, u1, u2, u3, u4, rfl⟩
      obtain ⟨xs, n', _, _, _, hxl, hf⟩ := DataW.trod_struct he h2
      match xs, hxl with
      | [y0, y1, y2], _ =>
        have h3 := hf 0 g0 rfl
        have h4 := hf 1 g1 rfl
        have h5 := hf 2 g2 rfl
        rw [o0, t0, hcl] at h3
        rw [o1, t1, hci] at h4
        rw [o2, t2, hcte] at h5
        simp only [List.drop_zero, List.drop_succ_cons, List.take_succ_cons, List.take_zero, List.getElem?_cons_zero, List.getElem?_cons_succ] at h3 h4 h5
        obtain ⟨ps, hps⟩ := ints_open htl hti hci h3
        obtain ⟨k1, e1, _⟩ := DataW.trod_int hti h4
        obtain ⟨p, q, u, ks, ee, hks⟩ := expr_open hte hcte p0 s0 p1 s1 p2 s2 hti hci hck htk h5
        injection e1 with e1 _
        injection ee with ee1 ee
        injection ee with ee2 ee
        injection ee with ee3 _
        subst ee3
        exact ⟨([u0, u1, u2, u3, u4], ⟨ps, k1, .node p q ks⟩), h1, e1, ee1, ee2, hps, hks⟩
    obtain ⟨Y, hY⟩ := choose_lt each
    refine ⟨(List.range l).map fun i => (Y i).2, some a, m, fun i => (Y i).1.getD 0 undef, fun i => (Y i).1.getD 4 undef, by simpa using e, ?_, fun i hi => ?_, fun i hi => ?_⟩
    · have r := row_open (w := w) (a := a) (n := l) (c := m) (k := 5) (by omega) hl hm (CS := fun i => (Y i).1) (fun i hi => (hY i (by omega)).1)
      rw [List.length_map, List.length_range]
      refine ⟨r.le, r.cap, r.nil, fun hn => ?_⟩
      obtain ⟨b, o, e, h1, h2, h3⟩ := r.place hn
      refine ⟨b, o, e, h1, h2, fun i j hi hj => ?_⟩
      rw [h3 i j hi hj, nthF_of (by simpa using hi), List.getElem_map, List.getElem_range]
      obtain ⟨_, c1, c2, c3, _⟩ := hY i (by omega)
      rcases (by omega : j = 0 ∨ j = 1 ∨ j = 2 ∨ j = 3 ∨ j = 4) with rfl | rfl | rfl | rfl | rfl
      · rfl
      · exact congrArg some c1
      · exact congrArg some c2
      · exact congrArg some c3
      · rfl
    · rw [List.length_map, List.length_range] at hi
      have := (hY i (by omega)).2.2.2.2.1
      rwa [nthF_of (by simpa using hi), List.getElem_map, List.getElem_range]
    · rw [List.length_map, List.length_range] at hi
      have := (hY i (by omega)).2.2.2.2.2
      rwa [nthF_of (by simpa using hi), List.getElem_map, List.getElem_range]
/-- One program comes in. -/
theorem prog_open {tp td ed tc ec q t e tl te tk ti : TypeId} {r0 r1 d0 d1 d2 f0 g0 g1 g2 x0 x1 x2 : Field} {fuel : Nat} {vs : List Value} {x : DataW H × List MemPlace} (htp : P.underlying tp = some (.struct #[r0, r1])) (hcp : P.cellsOf tp = 2)
    (a0 : r0.offset = 0) (b0 : r0.type = td) (a1 : r1.offset = 1) (b1 : r1.type = t) (hctd : P.cellsOf td = 1) (hct : P.cellsOf t = 1)
    (htd : P.underlying td = some (.slice ed)) (hed : P.underlying ed = some (.struct #[d0, d1, d2])) (hced : P.cellsOf ed = 3)
    (hg0 : d0.offset = 0) (ht0 : d0.type = ti) (hg1 : d1.offset = 1) (ht1 : d1.type = ti) (hg2 : d2.offset = 2) (ht2 : d2.type = tc) (hctc : P.cellsOf tc = 1)
    (htc : P.underlying tc = some (.slice ec)) (hec : P.underlying ec = some (.struct #[f0])) (hcec : P.cellsOf ec = 1) (hf0 : f0.offset = 0) (hf1 : f0.type = q) (hq : P.underlying q = some (.slice ti)) (hcq : P.cellsOf q = 1)
    (ht : P.underlying t = some (.slice e)) (he : P.underlying e = some (.struct #[g0, g1, g2])) (hce : P.cellsOf e = 5)
    (o0 : g0.offset = 0) (t0 : g0.type = tl) (o1 : g1.offset = 1) (t1 : g1.type = ti) (o2 : g2.offset = 2) (t2 : g2.type = te)
    (htl : P.underlying tl = some (.slice ti)) (hcl : P.cellsOf tl = 1) (hti : P.underlying ti = some (.int .i64)) (hci : P.cellsOf ti = 1)
    (hte : P.underlying te = some (.struct #[x0, x1, x2])) (hcte : P.cellsOf te = 3) (p0 : x0.offset = 0) (s0 : x0.type = ti) (p1 : x1.offset = 1) (s1 : x1.type = ti) (p2 : x2.offset = 2) (s2 : x2.type = tk)
    (htk : P.underlying tk = some (.slice te)) (hck : P.cellsOf tk = 1)
    (h : DataW.trod enc P w 0 (fun _ => true) held fuel tp vs = some x) : ∃ u v p, vs = [u, v] ∧ Pgm w 0 w.heap.size (.agg #[u, v]) p := by
  obtain ⟨xs, n', hn', _, hlen, hxl, hf⟩ := DataW.trod_struct htp h
  rw [hcp] at hlen
  obtain ⟨u0, u1, rfl⟩ : ∃ u0 u1, vs = [u0, u1] := by
    match vs, hlen with
    | [u0, u1], _ => exact ⟨u0, u1, rfl⟩
  match xs, hxl with
  | [y0, y1], _ =>
    have h3 := hf 0 r0 rfl
    have h4 := hf 1 r1 rfl
    rw [a0, b0, hctd] at h3
    rw [a1, b1, hct] at h4
    simp only [List.drop_zero, List.drop_succ_cons, List.take_succ_cons, List.take_zero, List.getElem?_cons_zero, List.getElem?_cons_succ] at h3 h4
    obtain ⟨ds, hds⟩ := decs_open htd hed hced hg0 ht0 hg1 ht1 hg2 ht2 hti hci hctc htc hec hcec hf0 hf1 hq hcq hti hci h3
    obtain ⟨fs, hfs⟩ := funcs_open ht he hce o0 t0 o1 t1 o2 t2 htl hcl hti hci hte hcte p0 s0 p1 s1 p2 s2 htk hck h4
    exact ⟨u0, u1, ⟨ds, fs⟩, rfl, u0, u1, rfl, hds, hfs⟩
end
end Go.Proofs.YtihmkaodjpgikaaGreat

/- What the exact laws ask of programs: contracts of the sizes and of the equality of functions and programs. -/
namespace Go.Proofs.YtihmkaodjpgikaaGreat
open Go.RowKit Go.BigFrame
def SmallF (f : Fn) : Prop := f.params.length ≤ 1048576 ∧ sumL one_ f.body.kids ≤ 1048576
def SmallFs (fs : List Fn) : Prop := fs.length ≤ 1048576 ∧ ∀ i, i < fs.length → SmallF (nthF fs i)
def SmallP (p : Pg) : Prop := SmallD p.decls ∧ SmallFs p.funcs
theorem cells5 {W : World} {g : Nat} {T : TypeId} {a b c d e : Value} (h : W.heap[g]? = some (.cells #[a, b, c, d, e] T (0, 0))) : W.cell? ⟨g, 0, none⟩ = some a ∧ W.cell? ⟨g, 1, none⟩ = some b ∧ W.cell? ⟨g, 2, none⟩ = some c ∧ W.cell? ⟨g, 3, none⟩ = some d ∧ W.cell? ⟨g, 4, none⟩ = some e := by
  refine ⟨?_, ?_, ?_, ?_, ?_⟩ <;> rw [cell_of_row W g _ _ _ (0, 0) h] <;> rfl
theorem cells2 {W : World} {g : Nat} {T : TypeId} {a b : Value} (h : W.heap[g]? = some (.cells #[a, b] T (0, 0))) : W.cell? ⟨g, 0, none⟩ = some a ∧ W.cell? ⟨g, 1, none⟩ = some b := by
  refine ⟨?_, ?_⟩ <;> rw [cell_of_row W g _ _ _ (0, 0) h] <;> rfl
theorem leftV_cases (m n : Nat) : leftV m n = -1 ∨ ∃ x : Nat, leftV m n = (x : Int) ∧ x ≤ m ∧ n ≤ m := by
  unfold leftV
  split
  · rename_i h
    exact .inr ⟨m - n, by omega, by omega, h⟩
  · exact .inl rfl
set_option maxHeartbeats 400000 in
theorem szFunc_any (L U : Nat) (f : Fn) (A1 A2 : Option Addr) (c1 c2 : Nat) (left : Int) (w : World) (hI : Ints w L U (.slice A1 f.params.length c1) f.params) (hX : Exs w L U (.slice A2 f.body.kids.length c2) f.body.kids) (hU : U ≤ w.heap.size) (h0 : 0 ≤ left) (h1 : left ≤ 1048576) :
    Calls Tryz.prog 28 #[.agg #[.slice A1 f.params.length c1, .int .i64 f.result, .int .i64 f.body.op, .int .i64 f.body.num, .slice A2 f.body.kids.length c2], .int .i64 left] w fun e w' => ∃ r : Int, e = .returned (.int .i64 r) ∧ Below w.heap.size w w' ∧ (r = -1 ∨ (0 ≤ r ∧ r ≤ left ∧ SmallF f)) := by
  obtain ⟨W0, hW0⟩ : ∃ W0, W0 = w.alloc (.cells #[.slice A1 f.params.length c1, .int .i64 f.result, .int .i64 f.body.op, .int .i64 f.body.num, .slice A2 f.body.kids.length c2] 60) := ⟨_, rfl⟩
  have hB0 : Below w.heap.size w W0 := by rw [hW0]; exact (Below.refl _ w).alloc (Nat.le_refl _) _
  have hbox : W0.heap[w.heap.size]? = some (.cells #[.slice A1 f.params.length c1, .int .i64 f.result, .int .i64 f.body.op, .int .i64 f.body.num, .slice A2 f.body.kids.length c2] 60 (0, 0)) := by rw [hW0]; exact alloc_last _ _ _ rfl
  have HI := Lib.hid (hI.keep (Same.of_below hB0 hU))
  have HX := Lib.hid (hX.keep (Same.of_below hB0 hU))
  obtain ⟨q0, q1, q2, q3, q4⟩ := cells5 hbox
  clear hI hX hbox
  go_enter Tryz.func28, Tryz.ntmps28
  go_wp2_with fail
  rw [← hW0]
  clear hW0
  refine (szIntS_any _ _ _ _ _ W0 HI.out h0 h1).mono ?_
  rintro e w1 ⟨r, rfl, rfl, hr⟩
  rcases hr with rfl | ⟨r0, r1, r2⟩
  · go_wp2_with fail
    go_ret
    exact ⟨_, rfl, hB0, .inl rfl⟩
  · obtain ⟨m, rfl⟩ : ∃ m : Nat, r = (m : Int) := ⟨r.toNat, by omega⟩
    have CK := szExpr_any HX.out f.body.op f.body.num m (Nat.le_trans hU hB0.size) (by omega)
    rcases leftV_cases m (sumL one_ f.body.kids) with hx | ⟨x, hx, x0, x1⟩
    · rw [hx] at CK
      have CK := Lib.hid CK
      clear hx
      go_wp2_with fail
      refine CK.out.mono ?_
      rintro e w2 ⟨rfl, hB2⟩
      have HB := Lib.hid (hB0.trans (hB2.mono hB0.size))
      clear hB2
      go_wp2_with fail
      go_ret
      exact ⟨_, rfl, HB.out, .inl rfl⟩
    · rw [hx] at CK
      have CK := Lib.hid CK
      have HS := Lib.hid (show SmallF f from ⟨r2, by omega⟩)
      clear hx
      go_wp2_with fail
      refine CK.out.mono ?_
      rintro e w2 ⟨rfl, hB2⟩
      have HB := Lib.hid (hB0.trans (hB2.mono hB0.size))
      clear hB2
      go_wp2_with fail
      go_ret
      exact ⟨_, rfl, HB.out, .inr ⟨by omega, by omega, HS.out⟩⟩
set_option maxHeartbeats 400000 in
theorem szFuncS_any (L U : Nat) (fs : List Fn) (v : Value) (left : Int) (w : World) (hv : Fns w L U v fs) (hU : U ≤ w.heap.size) (h0 : 0 ≤ left) (h1 : left ≤ 1048576) :
    Calls Tryz.prog 14 #[v, .int .i64 left] w fun e w' => ∃ r : Int, e = .returned (.int .i64 r) ∧ Below w.heap.size w w' ∧ (r = -1 ∨ (0 ≤ r ∧ r ≤ left ∧ SmallFs fs)) := by
  obtain ⟨B, d, rfl, hl, hd⟩ := hv.open_
  by_cases hs : (fs.length : Int) ≤ left
  · go_enter Tryz.func14, Tryz.ntmps14
    go_wp2_with fail
    go_loopw [1, 5] (fun l i wr => ∃ (k : Nat) (x : Int), k ≤ fs.length ∧ i = .int .i64 k ∧ l = .int .i64 x ∧ 0 ≤ x ∧ x ≤ left ∧ Hid (∀ j, j < k → SmallF (nthF fs j)) ∧ Below w.heap.size w wr) (fun _ i _ => fs.length - (intOf i).toNat)
    case atStart => exact ⟨0, left - fs.length, by omega, rfl, rfl, by omega, by omega, fun j hj => absurd hj (by omega), Below.refl _ _⟩
    case round =>
      obtain ⟨k, x, hk, rfl, rfl, x0, x1, H, hB⟩ := hrel
      have hz := hB.size
      by_cases hlt : k < fs.length
      · obtain ⟨b, o, A1, c1, A2, c2, rfl, _, _, e0, e1, e2, e3, e4, hI, hX⟩ := (hv.keep (Same.of_below hB hU)).at_ hlt
        have x2 : x ≤ 1048576 := by omega
        clear hv
        go_wp2_with fail
        refine (szFunc_any _ _ _ _ _ _ _ _ _ hI hX (by omega) x0 x2).mono ?_
        rintro e w1 ⟨r, rfl, hB1, hr⟩
        have hB2 := hB.trans (hB1.mono hz)
        clear hI hX hB1
        rcases hr with rfl | ⟨r0, r1, r2⟩
        · go_wp2_with fail
          go_ret
          exact ⟨_, rfl, hB2, .inl rfl⟩
        · have r3 : r ≤ left := by omega
          have R2 := Lib.hid r2
          clear r2
          go_wp2_with fail
          go_roundw
          case rel => exact ⟨k + 1, r, by omega, by go_num, rfl, r0, r3, fun j hj => (Nat.lt_succ_iff_lt_or_eq.1 hj).elim (H.out j) (fun e => by rw [e]; exact R2.out), hB2⟩
          case measure => simp [intOf]; omega
      · go_wp2_with fail
        go_ret
        exact ⟨_, rfl, hB, .inr ⟨x0, x1, by omega, fun i hi => H.out i (by omega)⟩⟩
  · go_enter Tryz.func14, Tryz.ntmps14
    go_wp2_with fail
    go_ret
    exact ⟨_, rfl, Below.refl _ _, .inl rfl⟩
theorem szProgram_any (L U : Nat) (p : Pg) (v : Value) (left : Int) (w : World) (hv : Pgm w L U v p) (hU : U ≤ w.heap.size) (h0 : 0 ≤ left) (h1 : left ≤ 1048576) :
    Calls Tryz.prog 4 #[v, .int .i64 left] w fun e w' => ∃ r : Int, e = .returned (.int .i64 r) ∧ Below w.heap.size w w' ∧ (r = -1 ∨ (0 ≤ r ∧ r ≤ left ∧ SmallP p)) := by
  obtain ⟨d, f, rfl, hd, hf⟩ := hv
  obtain ⟨B1, b1, rfl, _, _⟩ := hd.open_
  obtain ⟨B2, b2, rfl, _, _⟩ := hf.open_
  obtain ⟨W0, hW0⟩ : ∃ W0, W0 = w.alloc (.cells #[.slice B1 p.decls.length b1, .slice B2 p.funcs.length b2] 25) := ⟨_, rfl⟩
  have hB0 : Below w.heap.size w W0 := by rw [hW0]; exact (Below.refl _ w).alloc (Nat.le_refl _) _
  have hz0 : W0.heap.size = w.heap.size + 1 := by rw [hW0]; simp
  have hbox : W0.heap[w.heap.size]? = some (.cells #[.slice B1 p.decls.length b1, .slice B2 p.funcs.length b2] 25 (0, 0)) := by rw [hW0]; exact alloc_last _ _ _ rfl
  have HD := Lib.hid (hd.keep (Same.of_below hB0 hU))
  have HF := Lib.hid (hf.keep (Same.of_below hB0 hU))
  have HX := Lib.hid hbox
  clear hd hf hbox
  go_enter Tryz.func4, Tryz.ntmps4
  go_wp2_with fail
  rw [← hW0]
  clear hW0
  refine (szDeclS_any _ _ _ _ _ W0 HD.out (by omega) h0 h1).mono ?_
  rintro e w1 ⟨r, rfl, hB1, hr⟩
  have B1' := Lib.hid (hB0.trans (hB1.mono (by omega)))
  rcases hr with rfl | ⟨r0, r1, r2⟩
  · go_wp2_with fail
    go_ret
    exact ⟨_, rfl, B1'.out, .inl rfl⟩
  · obtain ⟨q0, q1⟩ := cells2 ((hB1.block _ (by omega)).trans HX.out)
    have HF1 := Lib.hid (HF.out.keep (Same.of_below hB1 (by omega)))
    have R2 := Lib.hid r2
    have z1 := hB1.size
    have r3 : r ≤ 1048576 := by omega
    clear r2 hB1
    go_wp2_with fail
    refine (szFuncS_any _ _ _ _ _ w1 HF1.out (by omega) r0 r3).mono ?_
    rintro e w2 ⟨r', rfl, hB2, hr'⟩
    have B2' := Lib.hid (B1'.out.trans (hB2.mono B1'.out.size))
    clear hB2
    rcases hr' with rfl | ⟨s0, s1, s2⟩
    · go_wp2_with fail
      go_ret
      exact ⟨_, rfl, B2'.out, .inl rfl⟩
    · have S2 := Lib.hid s2
      clear s2
      go_wp2_with fail
      go_ret
      exact ⟨_, rfl, B2'.out, .inr ⟨s0, by omega, R2.out, S2.out⟩⟩
set_option maxHeartbeats 400000 in
theorem eqFunc_same (L U L' U' : Nat) (f : Fn) (A1 A2 A3 A4 : Option Addr) (c1 c2 c3 c4 : Nat) (w : World) (hI : Ints w L U (.slice A1 f.params.length c1) f.params) (hX : Exs w L U (.slice A2 f.body.kids.length c2) f.body.kids)
    (hI' : Ints w L' U' (.slice A3 f.params.length c3) f.params) (hX' : Exs w L' U' (.slice A4 f.body.kids.length c4) f.body.kids) (hU : U ≤ w.heap.size) (hU' : U' ≤ w.heap.size) :
    Calls Tryz.prog 41 #[.agg #[.slice A1 f.params.length c1, .int .i64 f.result, .int .i64 f.body.op, .int .i64 f.body.num, .slice A2 f.body.kids.length c2], .agg #[.slice A3 f.params.length c3, .int .i64 f.result, .int .i64 f.body.op, .int .i64 f.body.num, .slice A4 f.body.kids.length c4]] w fun e w' => e = .returned (.bool true) ∧ Below w.heap.size w w' := by
  obtain ⟨W0, hW0⟩ : ∃ W0, W0 = (w.alloc (.cells #[.slice A1 f.params.length c1, .int .i64 f.result, .int .i64 f.body.op, .int .i64 f.body.num, .slice A2 f.body.kids.length c2] 66)).alloc (.cells #[.slice A3 f.params.length c3, .int .i64 f.result, .int .i64 f.body.op, .int .i64 f.body.num, .slice A4 f.body.kids.length c4] 66) := ⟨_, rfl⟩
  have hB0 : Below w.heap.size w W0 := by rw [hW0]; exact ((Below.refl _ w).alloc (Nat.le_refl _) _).alloc (by simp) _
  have hz0 : W0.heap.size = w.heap.size + 2 := by rw [hW0]; simp
  have b0 : W0.heap[w.heap.size]? = some (.cells #[.slice A1 f.params.length c1, .int .i64 f.result, .int .i64 f.body.op, .int .i64 f.body.num, .slice A2 f.body.kids.length c2] 66 (0, 0)) := by rw [hW0]; exact (Below.heap_alloc _ _ _ (by simp)).trans (alloc_last _ _ _ rfl)
  have b1 : W0.heap[w.heap.size + 1]? = some (.cells #[.slice A3 f.params.length c3, .int .i64 f.result, .int .i64 f.body.op, .int .i64 f.body.num, .slice A4 f.body.kids.length c4] 66 (0, 0)) := by rw [hW0]; exact alloc_last _ _ _ (by simp)
  have S0 := Same.of_below hB0 hU (L := L)
  have S0' := Same.of_below hB0 hU' (L := L')
  have HI := Lib.hid (And.intro (hI.keep S0) (hI'.keep S0'))
  have HX := Lib.hid (And.intro (hX.keep S0) (hX'.keep S0'))
  have H0 := Lib.hid (And.intro b0 b1)
  clear hI hI' hX hX' b0 b1 S0 S0'
  go_enter Tryz.func41, Tryz.ntmps41
  go_wp2_with fail
  rw [← hW0]
  clear hW0
  refine (eqIntS_same _ _ _ _ _ _ _ W0 HI.out.1 HI.out.2).mono ?_
  rintro e w1 ⟨rfl, hB1⟩
  obtain ⟨q0, q1, q2, q3, q4⟩ := cells5 ((hB1.block _ (by omega)).trans H0.out.1)
  obtain ⟨p0, p1, p2, p3, p4⟩ := cells5 ((hB1.block _ (by omega)).trans H0.out.2)
  have z1 := hB1.size
  have CK := Lib.hid (eqExpr_same (HX.out.1.keep (Same.of_below hB1 (by omega))) (HX.out.2.keep (Same.of_below hB1 (by omega))) f.body.op f.body.num (show U ≤ w1.heap.size by omega) (show U' ≤ w1.heap.size by omega))
  have B1 := Lib.hid (hB0.trans (hB1.mono (by omega)))
  clear hB1
  go_wp2_with fail
  refine CK.out.mono ?_
  rintro e w2 ⟨rfl, hB2⟩
  have B2 := Lib.hid (B1.out.trans (hB2.mono B1.out.size))
  clear hB2
  go_wp2_with fail
  go_ret
  exact ⟨rfl, B2.out⟩
set_option maxHeartbeats 1600000 in
theorem eqFuncS_same (L U L' U' : Nat) (fs : List Fn) (v v' : Value) (w : World) (hv : Fns w L U v fs) (hv' : Fns w L' U' v' fs) (hU : U ≤ w.heap.size) (hU' : U' ≤ w.heap.size) :
    Calls Tryz.prog 24 #[v, v'] w fun e w' => e = .returned (.bool true) ∧ Below w.heap.size w w' := by
  obtain ⟨B, d, rfl, hl, hd⟩ := hv.open_
  obtain ⟨B', d', rfl, hl', hd'⟩ := hv'.open_
  go_enter Tryz.func24, Tryz.ntmps24
  go_wp2_with fail
  go_loopw [5] (fun i wr => ∃ k : Nat, k ≤ fs.length ∧ i = .int .i64 k ∧ Below w.heap.size w wr) (fun i _ => fs.length - (intOf i).toNat)
  case atStart => exact ⟨0, by omega, rfl, Below.refl _ _⟩
  case round =>
    obtain ⟨k, hk, rfl, hB⟩ := hrel
    have hz := hB.size
    by_cases hlt : k < fs.length
    · obtain ⟨b, o, A1, c1, A2, c2, rfl, _, _, e0, e1, e2, e3, e4, hI, hX⟩ := (hv.keep (Same.of_below hB hU)).at_ hlt
      obtain ⟨b', o', A3, c3, A4, c4, rfl, _, _, d0, d1, d2, d3, d4, hI', hX'⟩ := (hv'.keep (Same.of_below hB hU')).at_ hlt
      have k0 : (0 : Int) ≤ (k : Int) := by omega
      have k1 : (k : Int) < (fs.length : Int) := by omega
      have g1 : b < wr.heap.size := by omega
      have g2 : b' < wr.heap.size := by omega
      have CK := Lib.hid (eqFunc_same L U L' U' (nthF fs k) A1 A2 A3 A4 c1 c2 c3 c4 wr.drew (hI.keep (same_drew _ _ wr)) (hX.keep (same_drew _ _ wr)) (hI'.keep (same_drew _ _ wr)) (hX'.keep (same_drew _ _ wr)) (by simp; omega) (by simp; omega))
      have HB := Lib.hid hB
      clear hv hv' hI hX hI' hX' hB
      go_wp2_with fail
      go_region_held3 (fun w' => w'.cell? ⟨b, o + k * 5, none⟩ = some (.slice A1 (nthF fs k).params.length c1) ∧ w'.cell? ⟨b, o + k * 5 + 1, none⟩ = some (.int .i64 (nthF fs k).result) ∧ w'.cell? ⟨b, o + k * 5 + 2, none⟩ = some (.int .i64 (nthF fs k).body.op) ∧ w'.cell? ⟨b, o + k * 5 + 3, none⟩ = some (.int .i64 (nthF fs k).body.num) ∧ w'.cell? ⟨b, o + k * 5 + 4, none⟩ = some (.slice A2 (nthF fs k).body.kids.length c2) ∧ w'.cell? ⟨b', o' + k * 5, none⟩ = some (.slice A3 (nthF fs k).params.length c3) ∧ w'.cell? ⟨b', o' + k * 5 + 1, none⟩ = some (.int .i64 (nthF fs k).result) ∧ w'.cell? ⟨b', o' + k * 5 + 2, none⟩ = some (.int .i64 (nthF fs k).body.op) ∧ w'.cell? ⟨b', o' + k * 5 + 3, none⟩ = some (.int .i64 (nthF fs k).body.num) ∧ w'.cell? ⟨b', o' + k * 5 + 4, none⟩ = some (.slice A4 (nthF fs k).body.kids.length c4))
        (first | go_keep | (exact ⟨(hB1.cell (by simp; assumption)).trans (by simp; assumption), (hB1.cell (by simp; assumption)).trans (by simp; assumption), (hB1.cell (by simp; assumption)).trans (by simp; assumption), (hB1.cell (by simp; assumption)).trans (by simp; assumption), (hB1.cell (by simp; assumption)).trans (by simp; assumption), (hB1.cell (by simp; assumption)).trans (by simp; assumption), (hB1.cell (by simp; assumption)).trans (by simp; assumption), (hB1.cell (by simp; assumption)).trans (by simp; assumption), (hB1.cell (by simp; assumption)).trans (by simp; assumption), (hB1.cell (by simp; assumption)).trans (by simp; assumption)⟩))
        (first | (go_at_call 41; refine CK.out.mono ?_; rintro e w' ⟨rfl, hB1⟩))
      have hB2 := HB.out.trans (((Below.refl _ wr).drew.trans (hB1.mono (by simp))).mono hz)
      clear hB1
      go_wp2_with fail
      go_roundw
      case rel => exact ⟨k + 1, by omega, by go_num, hB2⟩
      case measure => simp [intOf]; omega
    · go_wp2_with fail
      go_ret
      exact ⟨rfl, hB⟩
set_option maxHeartbeats 400000 in
theorem eqProgram_same {w : World} {L U L' U' : Nat} {v v' : Value} {p : Pg} (h : Pgm w L U v p) (h' : Pgm w L' U' v' p) (hU : U ≤ w.heap.size) (hU' : U' ≤ w.heap.size) :
    Calls Tryz.prog 9 #[v, v'] w fun e w' => e = .returned (.bool true) ∧ Below w.heap.size w w' := by
  obtain ⟨d, f, rfl, hd, hf⟩ := h
  obtain ⟨d', f', rfl, hd', hf'⟩ := h'
  obtain ⟨B1, b1, rfl, _, _⟩ := hd.open_
  obtain ⟨B2, b2, rfl, _, _⟩ := hf.open_
  obtain ⟨B3, b3, rfl, _, _⟩ := hd'.open_
  obtain ⟨B4, b4, rfl, _, _⟩ := hf'.open_
  obtain ⟨W0, hW0⟩ : ∃ W0, W0 = (w.alloc (.cells #[.slice B1 p.decls.length b1, .slice B2 p.funcs.length b2] 32)).alloc (.cells #[.slice B3 p.decls.length b3, .slice B4 p.funcs.length b4] 32) := ⟨_, rfl⟩
  have hB0 : Below w.heap.size w W0 := by rw [hW0]; exact ((Below.refl _ w).alloc (Nat.le_refl _) _).alloc (by simp) _
  have hz0 : W0.heap.size = w.heap.size + 2 := by rw [hW0]; simp
  have c0 : W0.heap[w.heap.size]? = some (.cells #[.slice B1 p.decls.length b1, .slice B2 p.funcs.length b2] 32 (0, 0)) := by rw [hW0]; exact (Below.heap_alloc _ _ _ (by simp)).trans (alloc_last _ _ _ rfl)
  have c1 : W0.heap[w.heap.size + 1]? = some (.cells #[.slice B3 p.decls.length b3, .slice B4 p.funcs.length b4] 32 (0, 0)) := by rw [hW0]; exact alloc_last _ _ _ (by simp)
  have S0 := Same.of_below hB0 hU (L := L)
  have S0' := Same.of_below hB0 hU' (L := L')
  have HD := Lib.hid (And.intro (hd.keep S0) (hd'.keep S0'))
  have HF := Lib.hid (And.intro (hf.keep S0) (hf'.keep S0'))
  have H0 := Lib.hid (And.intro c0 c1)
  clear hd hf hd' hf' c0 c1 S0 S0'
  go_enter Tryz.func9, Tryz.ntmps9
  go_wp2_with fail
  rw [← hW0]
  clear hW0
  refine (eqDeclS_same _ _ _ _ _ _ _ W0 HD.out.1 HD.out.2 (by omega) (by omega)).mono ?_
  rintro e w1 ⟨rfl, hB1⟩
  obtain ⟨q0, q1⟩ := cells2 ((hB1.block _ (by omega)).trans H0.out.1)
  obtain ⟨p0, p1⟩ := cells2 ((hB1.block _ (by omega)).trans H0.out.2)
  have z1 := hB1.size
  have CK := Lib.hid (eqFuncS_same _ _ _ _ _ _ _ w1 (HF.out.1.keep (Same.of_below hB1 (by omega))) (HF.out.2.keep (Same.of_below hB1 (by omega))) (show U ≤ w1.heap.size by omega) (show U' ≤ w1.heap.size by omega))
  have B1' := Lib.hid (hB0.trans (hB1.mono (by omega)))
  clear hB1
  go_wp2_with fail
  refine CK.out.mono ?_
  rintro e w2 ⟨rfl, hB2⟩
  have B2' := Lib.hid (B1'.out.trans (hB2.mono B1'.out.size))
  clear hB2
  go_wp2_with fail
  go_ret
  exact ⟨rfl, B2'.out⟩
end Go.Proofs.YtihmkaodjpgikaaGreat

/- Copies of programs that the exact laws make. -/
namespace Go.Proofs.YtihmkaodjpgikaaGreat
open Go.RowKit Go.BigFrame Go.Deep
theorem infoF : (Tryz.prog.info? 66).map (fun i => (i.zero, i.size, i.bytes)) = some (some (.agg #[.slice none 0 0, .int .i64 0, .int .i64 0, .int .i64 0, .slice none 0 0]), 5, 72) := by kernel_rfl
/-- Functions in blocks of the call's own. -/
def OFns (w : World) (L U : Nat) (v : Value) (fs : List Fn) : Prop := ∃ P K : Nat → Value, Blk w L U 66 v fs.length (cellsOf 5 fs.length fun i j => fnCell (nthF fs i) (P i) (K i) j) ∧
  (∀ i, i < fs.length → OInts w L U (P i) (nthF fs i).params) ∧ ∀ i, i < fs.length → OExs w L U (K i) (nthF fs i).body.kids
theorem OFns.keep {w w' : World} {L U : Nat} {v : Value} {fs : List Fn} (h : OFns w L U v fs) (s : Same L U w w') : OFns w' L U v fs := by
  obtain ⟨P, K, b, hp, hk⟩ := h
  exact ⟨P, K, b.keep s, fun i hi => (hp i hi).keep s, fun i hi => (hk i hi).keep s⟩
theorem OFns.wide {w : World} {L U L' U' : Nat} {v : Value} {fs : List Fn} (h : OFns w L U v fs) (hL : L' ≤ L) (hU : U ≤ U') : OFns w L' U' v fs := by
  obtain ⟨P, K, b, hp, hk⟩ := h
  exact ⟨P, K, b.wide hL hU, fun i hi => (hp i hi).wide hL hU, fun i hi => (hk i hi).wide hL hU⟩
theorem OFns.form {w : World} {L U : Nat} {v : Value} {fs : List Fn} (h : OFns w L U v fs) : ∃ g, v = .slice (some ⟨g, 0, none⟩) fs.length fs.length := by
  obtain ⟨P, K, ⟨g, a, e, _⟩, _⟩ := h
  exact ⟨g, e⟩
theorem OFns.fns {w : World} {L U : Nat} {v : Value} {fs : List Fn} (h : OFns w L U v fs) : Fns w L U v fs := by
  obtain ⟨P, K, b, hp, hk⟩ := h
  obtain ⟨g, e, r⟩ := b.row
  exact ⟨_, _, P, K, e, r, fun i hi => (hp i hi).ints, fun i hi => (hk i hi).exs⟩
/-- A program in blocks of the call's own. -/
def OPg (w : World) (L U : Nat) (v : Value) (p : Pg) : Prop := ∃ d f, v = .agg #[d, f] ∧ ODecs w L U d p.decls ∧ OFns w L U f p.funcs
theorem OPg.keep {w w' : World} {L U : Nat} {v : Value} {p : Pg} (h : OPg w L U v p) (s : Same L U w w') : OPg w' L U v p := by
  obtain ⟨d, f, e, hd, hf⟩ := h
  exact ⟨d, f, e, hd.keep s, hf.keep s⟩
theorem ODecs.wide {w : World} {L U L' U' : Nat} {v : Value} {ds : List Dec} (h : ODecs w L U v ds) (hL : L' ≤ L) (hU : U ≤ U') : ODecs w L' U' v ds := by
  obtain ⟨V, h1, h2⟩ := h
  exact ⟨V, h1.wide hL hU, fun i hi => (h2 i hi).wide hL hU⟩
theorem ODecs.form {w : World} {L U : Nat} {v : Value} {ds : List Dec} (h : ODecs w L U v ds) : ∃ g, v = .slice (some ⟨g, 0, none⟩) ds.length ds.length := by
  obtain ⟨V, ⟨g, a, e, _⟩, _⟩ := h
  exact ⟨g, e⟩
theorem OPg.wide {w : World} {L U L' U' : Nat} {v : Value} {p : Pg} (h : OPg w L U v p) (hL : L' ≤ L) (hU : U ≤ U') : OPg w L' U' v p := by
  obtain ⟨d, f, e, hd, hf⟩ := h
  exact ⟨d, f, e, hd.wide hL hU, hf.wide hL hU⟩
theorem OPg.pgm {w : World} {L U : Nat} {v : Value} {p : Pg} (h : OPg w L U v p) : Pgm w L U v p := by
  obtain ⟨d, f, e, hd, hf⟩ := h
  exact ⟨d, f, e, hd.decs, hf.fns⟩
theorem OPg.form {w : World} {L U : Nat} {v : Value} {p : Pg} (h : OPg w L U v p) : ∃ g g', v = .agg #[.slice (some ⟨g, 0, none⟩) p.decls.length p.decls.length, .slice (some ⟨g', 0, none⟩) p.funcs.length p.funcs.length] := by
  obtain ⟨d, f, rfl, hd, hf⟩ := h
  obtain ⟨g, rfl⟩ := hd.form
  obtain ⟨g', rfl⟩ := hf.form
  exact ⟨g, g', rfl⟩
set_option maxHeartbeats 800000 in
theorem toFunc_any {w0 : World} {L U : Nat} {A1 A2 : Option Addr} {c1 c2 : Nat} (f : Fn) (w : World) (hI : Ints w0 L U (.slice A1 f.params.length c1) f.params) (hX : Exs w0 L U (.slice A2 f.body.kids.length c2) f.body.kids) (hS : Same L U w0 w) (hU : U ≤ w.heap.size) (hs : SmallF f) :
    Calls Tryz.prog 36 #[.agg #[.slice A1 f.params.length c1, .int .i64 f.result, .int .i64 f.body.op, .int .i64 f.body.num, .slice A2 f.body.kids.length c2]] w fun e w' => ∃ up uk, e = .returned (.agg #[up, .int .i64 f.result, .int .i64 f.body.op, .int .i64 f.body.num, uk]) ∧ Below w.heap.size w w' ∧ OInts w' w.heap.size w'.heap.size up f.params ∧ OExs w' w.heap.size w'.heap.size uk f.body.kids := by
  have HC0 := Lib.hid hX
  have HI0 := Lib.hid hI
  have HS := Lib.hid hs
  clear hX hI hs
  go_enter Tryz.func36, Tryz.ntmps36
  go_wp2_with fail
  refine named ?_
  intro W hW
  have hB : Below w.heap.size w W := by
    rw [hW]
    iterate 2 (refine Below.alloc ?_ (by simp only [World.size_alloc]; omega) _)
    exact (Below.refl _ w).alloc (Nat.le_refl _) _
  have hsz : W.heap.size = w.heap.size + 3 := by rw [hW]; simp
  have b0 : W.heap[w.heap.size]? = some (.cells #[.slice A1 f.params.length c1, .int .i64 f.result, .int .i64 f.body.op, .int .i64 f.body.num, .slice A2 f.body.kids.length c2] 60 (0, 0)) := by
    rw [hW]
    iterate 2 (refine Eq.trans (Below.heap_alloc _ _ _ (by simp only [World.size_alloc]; omega)) ?_)
    exact alloc_last _ _ _ rfl
  have b1 : W.heap[w.heap.size + 1]? = some (.cells #[.slice none 0 0, .int .i64 0, .int .i64 0, .int .i64 0, .slice none 0 0] 66 (0, 0)) := by
    rw [hW]
    refine Eq.trans (Below.heap_alloc _ _ _ (by simp only [World.size_alloc]; omega)) ?_
    exact alloc_last _ _ _ (by simp)
  have b2 : W.heap[w.heap.size + 1 + 1]? = some (.cells #[.slice none 0 0, .int .i64 0, .int .i64 0, .int .i64 0, .slice none 0 0] 66 (0, 0)) := by
    rw [hW]
    exact alloc_last _ _ _ (by simp)
  clear hW
  refine (toIntS_any _ _ _ _ W (HI0.out.keep (hS.trans (Same.of_below hB hU))) (by omega) HS.out.1).mono ?_
  rintro e w1 ⟨u, rfl, hB1, ho⟩
  have c0 := (hB1.block _ (by omega)).trans b0
  have c1' := (hB1.block _ (by omega)).trans b1
  have c2' := (hB1.block _ (by omega)).trans b2
  obtain ⟨_, q01, q02, q03, q04⟩ := cells5 c0
  obtain ⟨q20, q21, q22, q23, q24⟩ := cells5 c2'
  have f20 := frozen_of_row w1 _ 0 _ _ c2'
  have f21 := frozen_of_row w1 _ 1 _ _ c2'
  have HO := Lib.hid ho
  obtain ⟨ga, aa, rfl, _, _, _, _, _⟩ := ho
  obtain ⟨W2, hW2⟩ : ∃ W2, W2 = (w1.setCell ⟨w.heap.size + 1 + 1, 0, none⟩ (.slice (some ⟨ga, 0, none⟩) f.params.length f.params.length)).setCell ⟨w.heap.size + 1 + 1, 1, none⟩ (.int .i64 f.result) := ⟨_, rfl⟩
  have hz2 : W2.heap.size = w1.heap.size := by rw [hW2]; simp
  have B2 : Below w.heap.size w W2 := by rw [hW2]; exact ((hB.trans (hB1.mono hB.size)).setCell (by simp; omega) _).setCell (by simp; omega) _
  have d1 : W2.heap[w.heap.size + 1]? = some (.cells #[.slice none 0 0, .int .i64 0, .int .i64 0, .int .i64 0, .slice none 0 0] 66 (0, 0)) := by rw [hW2]; exact (heap_setCell_other _ ⟨w.heap.size + 1 + 1, 1, none⟩ (w.heap.size + 1) _ (by simp)).trans ((heap_setCell_other w1 ⟨w.heap.size + 1 + 1, 0, none⟩ (w.heap.size + 1) _ (by simp)).trans c1')
  have d2 : W2.heap[w.heap.size + 1 + 1]? = some (.cells #[.slice (some ⟨ga, 0, none⟩) f.params.length f.params.length, .int .i64 f.result, .int .i64 0, .int .i64 0, .slice none 0 0] 66 (0, 0)) := by rw [hW2]; exact heap_setCell_same _ _ 1 _ _ _ (heap_setCell_same w1 _ 0 _ _ _ c2')
  have ho2 : OInts W2 W.heap.size W2.heap.size (.slice (some ⟨ga, 0, none⟩) f.params.length f.params.length) f.params := by
    rw [hW2]
    refine (HO.out.keep (fun k h1 h2 => ?_)).wide (Nat.le_refl _) (by simp)
    rw [heap_setCell_other _ _ _ _ (by simp; omega), heap_setCell_other _ _ _ _ (by simp; omega)]
  have hsz1 : W.heap.size ≤ w1.heap.size := hB1.size
  have HC := Lib.hid (And.intro d1 (And.intro d2 ho2))
  clear b0 b1 b2 c0 c1' c2' HO d1 d2 ho2 hB1
  go_wp2_with fail
  rw [← hW2]
  refine (toExpr_any (HC0.out.keep (hS.trans (Same.of_below B2 hU))) f.body.op f.body.num (by have := B2.size; omega) HS.out.2).mono ?_
  rintro e w3 ⟨u2, rfl, hB3, ho3⟩
  have e1 := (hB3.block _ (by omega)).trans HC.out.1
  have e2 := (hB3.block _ (by omega)).trans HC.out.2.1
  obtain ⟨r10, r11, r12, r13, r14⟩ := cells5 e1
  obtain ⟨r20, r21, r22, r23, r24⟩ := cells5 e2
  have f10 := frozen_of_row w3 _ 0 _ _ e1
  have f11 := frozen_of_row w3 _ 1 _ _ e1
  have f12 := frozen_of_row w3 _ 2 _ _ e1
  have f13 := frozen_of_row w3 _ 3 _ _ e1
  have f14 := frozen_of_row w3 _ 4 _ _ e1
  have f22 := frozen_of_row w3 _ 2 _ _ e2
  have f23 := frozen_of_row w3 _ 3 _ _ e2
  have f24 := frozen_of_row w3 _ 4 _ _ e2
  have HO3 := Lib.hid (And.intro (HC.out.2.2.keep (Same.of_below hB3 (Nat.le_refl _))) ho3)
  obtain ⟨gk, rfl⟩ := ho3.form
  have HE := Lib.hid e1
  have B3 := B2.trans (hB3.mono B2.size)
  have hsz3 : W2.heap.size ≤ w3.heap.size := hB3.size
  have HB3 := Lib.hid B3
  clear e1 e2 ho3 hW2 hB3 B3 q01 q02 q03 q04 q20 q21 q22 q23 q24 f20 f21 HC
  go_wp2_with fail
  (try simp only [Exit.inBlock, Exit.then])
  refine ended ?_
  intro W4 hW4
  have e4 : W4.heap[w.heap.size + 1]? = some (.cells #[.slice (some ⟨ga, 0, none⟩) f.params.length f.params.length, .int .i64 f.result, .int .i64 f.body.op, .int .i64 f.body.num, .slice (some ⟨gk, 0, none⟩) f.body.kids.length f.body.kids.length] 66 (0, 0)) := by
    rw [hW4]
    exact heap_setCell_same _ _ 4 _ _ _ (heap_setCell_same _ _ 3 _ _ _ (heap_setCell_same _ _ 2 _ _ _ (heap_setCell_same _ _ 1 _ _ _ (heap_setCell_same _ _ 0 _ _ _ ((heap_setCell_other _ ⟨w.heap.size + 1 + 1, 4, none⟩ (w.heap.size + 1) _ (by simp)).trans ((heap_setCell_other _ ⟨w.heap.size + 1 + 1, 3, none⟩ (w.heap.size + 1) _ (by simp)).trans ((heap_setCell_other w3 ⟨w.heap.size + 1 + 1, 2, none⟩ (w.heap.size + 1) _ (by simp)).trans HE.out)))))))
  obtain ⟨t0, t1, t2, t3, t4⟩ := cells5 e4
  have hz4 : W4.heap.size = w3.heap.size := by rw [hW4]; simp
  have kp : ∀ g, w.heap.size + 3 ≤ g → W4.heap[g]? = w3.heap[g]? := fun g hg => by
    rw [hW4, heap_setCell_other _ _ _ _ (by simp; omega), heap_setCell_other _ _ _ _ (by simp; omega), heap_setCell_other _ _ _ _ (by simp; omega), heap_setCell_other _ _ _ _ (by simp; omega), heap_setCell_other _ _ _ _ (by simp; omega), heap_setCell_other _ _ _ _ (by simp; omega), heap_setCell_other _ _ _ _ (by simp; omega), heap_setCell_other _ _ _ _ (by simp; omega)]
  have hB4 : Below w.heap.size w W4 := by
    rw [hW4]
    exact ((((((((HB3.out.setCell (by simp; omega) _).setCell (by simp; omega) _).setCell (by simp; omega) _).setCell (by simp) _).setCell (by simp) _).setCell (by simp) _).setCell (by simp) _).setCell (by simp) _)
  have ha4 : OInts W4 w.heap.size W4.heap.size (.slice (some ⟨ga, 0, none⟩) f.params.length f.params.length) f.params := (HO3.out.1.keep (fun g h1 _ => kp g (by omega))).wide (by omega) (by omega)
  have hk4 : OExs W4 w.heap.size W4.heap.size (.slice (some ⟨gk, 0, none⟩) f.body.kids.length f.body.kids.length) f.body.kids := (HO3.out.2.keep (fun g h1 _ => kp g (by omega))).wide (by omega) (by omega)
  clear hW4 e4 kp
  refine bodyPost_ret (v := .agg #[.slice (some ⟨ga, 0, none⟩) f.params.length f.params.length, .int .i64 f.result, .int .i64 f.body.op, .int .i64 f.body.num, .slice (some ⟨gk, 0, none⟩) f.body.kids.length f.body.kids.length]) ?_ rfl ⟨_, _, rfl, hB4, ha4, hk4⟩
  rw [results_one rfl]
  go_simp
set_option maxHeartbeats 1600000 in
theorem toFuncS_any (L U : Nat) (fs : List Fn) (v : Value) (w : World) (hv : Fns w L U v fs) (hU : U ≤ w.heap.size) (hs : SmallFs fs) :
    Calls Tryz.prog 19 #[v] w fun e w' => ∃ u, e = .returned u ∧ Below w.heap.size w w' ∧ OFns w' w.heap.size w'.heap.size u fs := by
  obtain ⟨B, d, rfl, hl, hd⟩ := hv.open_
  obtain ⟨i0, hi, hz0, hz1, hz2⟩ := info_parts infoF
  have hs1 := hs.1
  have HS := Lib.hid hs
  have HV0 := Lib.hid hv
  clear hs hv
  go_enter Tryz.func19, Tryz.ntmps19
  go_wp2_with (at_make; refine wpList_make_full _ rfl _ _ 30 rfl w.heap.size 66 i0 (.agg #[.slice none 0 0, .int .i64 0, .int .i64 0, .int .i64 0, .slice none 0 0]) 5 Tryz.underlying30 hi hz0 hz1 .i64 .i64 _ _ fs.length rfl rfl rfl rfl (by rw [hz2]; omega) (by unfold maxLen; omega) (Nat.le_refl _) ?_)
  intro w1 hown hg
  have hB1 : Below w.heap.size w w1 := (Below.refl _ w).grown hg (Nat.le_refl _) (fun k e => by cases e)
  have hF := Fill.made (k := 5) (z := #[.slice none 0 0, .int .i64 0, .int .i64 0, .int .i64 0, .slice none 0 0]) hown rfl (fun _ _ => undef)
  have hsz : w.heap.size < w1.heap.size := (hown.lt _ rfl).2
  clear hown hg
  go_wp2_with fail
  go_loopw [4] (fun i wr => ∃ (k : Nat) (VA VK : Nat → Value), k ≤ fs.length ∧ i = .int .i64 k ∧ Fill wr w.heap.size 5 fs.length k 66 (fun i j => fnCell (nthF fs i) (VA i) (VK i) j) (fun j => #[Value.slice none 0 0, .int .i64 0, .int .i64 0, .int .i64 0, .slice none 0 0][j]!) ∧ Hid (∀ i, i < k → OInts wr (w.heap.size + 1) wr.heap.size (VA i) (nthF fs i).params ∧ OExs wr (w.heap.size + 1) wr.heap.size (VK i) (nthF fs i).body.kids) ∧ Below w.heap.size w wr ∧ w.heap.size < wr.heap.size) (fun i _ => fs.length - (intOf i).toNat)
  case atStart => exact ⟨0, fun _ => undef, fun _ => undef, by omega, rfl, hF, fun i hi => absurd hi (by omega), hB1, hsz⟩
  case round =>
    obtain ⟨k, VA, VK, hk, rfl, hF, HV, hB, hsz⟩ := hrel
    by_cases hlt : k < fs.length
    · have hv1 := HV0.out.keep (Same.of_below hB hU)
      obtain ⟨b, o, A1, c1, A2, c2, rfl, _, hb, e0, e1, e2, e3, e4, hI, hX⟩ := hv1.at_ hlt
      have hz := hB.size
      have CK := Lib.hid (toFunc_any (nthF fs k) wr hI hX (Same.refl _ _ _) (by omega) (HS.out.2 k hlt))
      clear hI hX hv1
      go_wp2_with fail
      refine CK.out.mono ?_
      rintro e w2 ⟨ua, uk, rfl, hB2, hoa, hok⟩
      have hF2 := hF.keep (hB2.block _ hsz)
      have hq0 := hF2.cell hlt (j := 0) (by omega)
      have hq1 := hF2.cell hlt (j := 1) (by omega)
      have hq2 := hF2.cell hlt (j := 2) (by omega)
      have hq3 := hF2.cell hlt (j := 3) (by omega)
      have hq4 := hF2.cell hlt (j := 4) (by omega)
      have hf0 := hF2.free (k * 5)
      have hf1 := hF2.free (k * 5 + 1)
      have hf2 := hF2.free (k * 5 + 2)
      have hf3 := hF2.free (k * 5 + 3)
      have hf4 := hF2.free (k * 5 + 4)
      rw [Nat.add_zero] at hq0
      obtain ⟨W3, hW3⟩ : ∃ W3, W3 = ((((w2.setCell ⟨w.heap.size, k * 5, none⟩ ua).setCell ⟨w.heap.size, k * 5 + 1, none⟩ (.int .i64 (nthF fs k).result)).setCell ⟨w.heap.size, k * 5 + 2, none⟩ (.int .i64 (nthF fs k).body.op)).setCell ⟨w.heap.size, k * 5 + 3, none⟩ (.int .i64 (nthF fs k).body.num)).setCell ⟨w.heap.size, k * 5 + 4, none⟩ uk := ⟨_, rfl⟩
      have hz3 : W3.heap.size = w2.heap.size := by rw [hW3]; simp
      have hF3 : Fill W3 w.heap.size 5 fs.length (k + 1) 66 (fun i j => fnCell (nthF fs i) (if i = k then ua else VA i) (if i = k then uk else VK i) j) (fun j => #[Value.slice none 0 0, .int .i64 0, .int .i64 0, .int .i64 0, .slice none 0 0][j]!) := by
        rw [hW3]
        exact (hF2.congr (V' := fun i j => fnCell (nthF fs i) (if i = k then ua else VA i) (if i = k then uk else VK i) j) (fun i j hi _ => by rw [if_neg (by omega), if_neg (by omega)])).five (by simp [fnCell]) rfl rfl rfl (by simp [fnCell])
      have hB3 : Below w.heap.size w W3 := by
        rw [hW3]
        exact (((((hB.trans (hB2.mono hz)).setCell (Nat.le_refl _) _).setCell (Nat.le_refl _) _).setCell (Nat.le_refl _) _).setCell (Nat.le_refl _) _).setCell (Nat.le_refl _) _
      have kp0 : ∀ g, w.heap.size + 1 ≤ g → W3.heap[g]? = w2.heap[g]? := fun g hg => by
        rw [hW3, heap_setCell_other _ _ _ _ (by simp; omega), heap_setCell_other _ _ _ _ (by simp; omega), heap_setCell_other _ _ _ _ (by simp; omega), heap_setCell_other _ _ _ _ (by simp; omega), heap_setCell_other _ _ _ _ (by simp; omega)]
      have HV3 : Hid (∀ i, i < k + 1 → OInts W3 (w.heap.size + 1) W3.heap.size (if i = k then ua else VA i) (nthF fs i).params ∧ OExs W3 (w.heap.size + 1) W3.heap.size (if i = k then uk else VK i) (nthF fs i).body.kids) := by
        intro i hi
        by_cases e : i = k
        · rw [if_pos e, if_pos e, e]
          exact ⟨((hoa.wide (L' := w.heap.size + 1) (by omega) (Nat.le_refl _)).keep (fun g h1 _ => kp0 g h1)).wide (Nat.le_refl _) (by omega), ((hok.wide (L' := w.heap.size + 1) (by omega) (Nat.le_refl _)).keep (fun g h1 _ => kp0 g h1)).wide (Nat.le_refl _) (by omega)⟩
        · rw [if_neg e, if_neg e]
          obtain ⟨h1, h2⟩ := HV.out i (by omega)
          exact ⟨(((h1.keep (Same.of_below hB2 (Nat.le_refl _))).wide (Nat.le_refl _) hB2.size).keep (fun g h1 _ => kp0 g h1)).wide (Nat.le_refl _) (by omega), (((h2.keep (Same.of_below hB2 (Nat.le_refl _))).wide (Nat.le_refl _) hB2.size).keep (fun g h1 _ => kp0 g h1)).wide (Nat.le_refl _) (by omega)⟩
      have hsz3 : w.heap.size < W3.heap.size := by have := hB2.size; omega
      obtain ⟨ga, aa, rfl, _, _, _, _, _⟩ := hoa
      obtain ⟨gk, rfl⟩ := hok.form
      subst hW3
      have HH := Lib.hid (And.intro hF3 (And.intro hB3 hsz3))
      clear hF hF2 hB HV hB2 hF3 hB3 hsz3 hz3 kp0 hok CK
      go_wp2_with fail
      go_roundw
      case rel => exact ⟨k + 1, _, _, by omega, by go_num, HH.out.1, HV3, HH.out.2.1, HH.out.2.2⟩
      case measure => simp [intOf]; omega
    · go_wp2_with fail
      go_ret
      obtain rfl : k = fs.length := by omega
      exact ⟨_, rfl, hB, VA, VK, hF.blk (Nat.le_refl _) hsz (by unfold maxLen; omega), fun i hi => (HV.out i hi).1.wide (by omega) (Nat.le_refl _), fun i hi => (HV.out i hi).2.wide (by omega) (Nat.le_refl _)⟩
set_option maxHeartbeats 800000 in
theorem toProgram_any {w0 : World} {L U : Nat} {v : Value} {p : Pg} (w : World) (hv : Pgm w0 L U v p) (hS : Same L U w0 w) (hU : U ≤ w.heap.size) (hs : SmallP p) :
    Calls Tryz.prog 6 #[v] w fun e w' => ∃ u, e = .returned u ∧ Below w.heap.size w w' ∧ OPg w' w.heap.size w'.heap.size u p := by
  obtain ⟨dd, ff, rfl, hd, hf⟩ := hv
  obtain ⟨B1, b1, rfl, _, _⟩ := hd.open_
  obtain ⟨B2, b2, rfl, _, _⟩ := hf.open_
  have HD0 := Lib.hid hd
  have HF0 := Lib.hid hf
  have HS := Lib.hid hs
  clear hd hf hs
  go_enter Tryz.func6, Tryz.ntmps6
  go_wp2_with fail
  refine named ?_
  intro W hW
  have hB : Below w.heap.size w W := by
    rw [hW]
    iterate 2 (refine Below.alloc ?_ (by simp only [World.size_alloc]; omega) _)
    exact (Below.refl _ w).alloc (Nat.le_refl _) _
  have hsz : W.heap.size = w.heap.size + 3 := by rw [hW]; simp
  have b0 : W.heap[w.heap.size]? = some (.cells #[.slice B1 p.decls.length b1, .slice B2 p.funcs.length b2] 25 (0, 0)) := by
    rw [hW]
    iterate 2 (refine Eq.trans (Below.heap_alloc _ _ _ (by simp only [World.size_alloc]; omega)) ?_)
    exact alloc_last _ _ _ rfl
  have b1' : W.heap[w.heap.size + 1]? = some (.cells #[.slice none 0 0, .slice none 0 0] 32 (0, 0)) := by
    rw [hW]
    refine Eq.trans (Below.heap_alloc _ _ _ (by simp only [World.size_alloc]; omega)) ?_
    exact alloc_last _ _ _ (by simp)
  have b2' : W.heap[w.heap.size + 1 + 1]? = some (.cells #[.slice none 0 0, .slice none 0 0] 32 (0, 0)) := by
    rw [hW]
    exact alloc_last _ _ _ (by simp)
  clear hW
  refine (toDeclS_any _ _ _ _ W (HD0.out.keep (hS.trans (Same.of_below hB hU))) (by omega) HS.out.1).mono ?_
  rintro e w1 ⟨u, rfl, hB1, ho⟩
  have c0 := (hB1.block _ (by omega)).trans b0
  have c1' := (hB1.block _ (by omega)).trans b1'
  have c2' := (hB1.block _ (by omega)).trans b2'
  obtain ⟨_, q01⟩ := cells2 c0
  obtain ⟨q20, q21⟩ := cells2 c2'
  have f20 := frozen_of_row w1 _ 0 _ _ c2'
  have HO := Lib.hid ho
  obtain ⟨ga, rfl⟩ := ho.form
  obtain ⟨W2, hW2⟩ : ∃ W2, W2 = w1.setCell ⟨w.heap.size + 1 + 1, 0, none⟩ (.slice (some ⟨ga, 0, none⟩) p.decls.length p.decls.length) := ⟨_, rfl⟩
  have hz2 : W2.heap.size = w1.heap.size := by rw [hW2]; simp
  have B2' : Below w.heap.size w W2 := by rw [hW2]; exact (hB.trans (hB1.mono hB.size)).setCell (by simp; omega) _
  have d1 : W2.heap[w.heap.size + 1]? = some (.cells #[.slice none 0 0, .slice none 0 0] 32 (0, 0)) := by rw [hW2]; exact (heap_setCell_other w1 ⟨w.heap.size + 1 + 1, 0, none⟩ (w.heap.size + 1) _ (by simp)).trans c1'
  have d2 : W2.heap[w.heap.size + 1 + 1]? = some (.cells #[.slice (some ⟨ga, 0, none⟩) p.decls.length p.decls.length, .slice none 0 0] 32 (0, 0)) := by rw [hW2]; exact heap_setCell_same w1 _ 0 _ _ _ c2'
  have ho2 : ODecs W2 W.heap.size W2.heap.size (.slice (some ⟨ga, 0, none⟩) p.decls.length p.decls.length) p.decls := by
    rw [hW2]
    refine (HO.out.keep (fun k h1 h2 => ?_)).wide (Nat.le_refl _) (by simp)
    rw [heap_setCell_other _ _ _ _ (by simp; omega)]
  have hsz1 : W.heap.size ≤ w1.heap.size := hB1.size
  have HC := Lib.hid (And.intro d1 (And.intro d2 ho2))
  clear b0 b1' b2' c0 c1' c2' HO d1 d2 ho2 hB1 ho
  go_wp2_with fail
  rw [← hW2]
  refine (toFuncS_any _ _ _ _ W2 (HF0.out.keep (hS.trans (Same.of_below B2' hU))) (by have := B2'.size; omega) HS.out.2).mono ?_
  rintro e w3 ⟨u2, rfl, hB3, ho3⟩
  have e1 := (hB3.block _ (by omega)).trans HC.out.1
  have e2 := (hB3.block _ (by omega)).trans HC.out.2.1
  obtain ⟨r10, r11⟩ := cells2 e1
  obtain ⟨r20, r21⟩ := cells2 e2
  have f10 := frozen_of_row w3 _ 0 _ _ e1
  have f11 := frozen_of_row w3 _ 1 _ _ e1
  have f21 := frozen_of_row w3 _ 1 _ _ e2
  have HO3 := Lib.hid (And.intro (HC.out.2.2.keep (Same.of_below hB3 (Nat.le_refl _))) ho3)
  obtain ⟨gk, rfl⟩ := ho3.form
  have HE := Lib.hid e1
  have hsz3 : W2.heap.size ≤ w3.heap.size := hB3.size
  have HB3 := Lib.hid (B2'.trans (hB3.mono B2'.size))
  clear e1 e2 ho3 hW2 hB3 q01 q20 q21 f20 HC
  go_wp2_with fail
  (try simp only [Exit.inBlock, Exit.then])
  refine ended ?_
  intro W4 hW4
  have e4 : W4.heap[w.heap.size + 1]? = some (.cells #[.slice (some ⟨ga, 0, none⟩) p.decls.length p.decls.length, .slice (some ⟨gk, 0, none⟩) p.funcs.length p.funcs.length] 32 (0, 0)) := by
    rw [hW4]
    exact heap_setCell_same _ _ 1 _ _ _ (heap_setCell_same _ _ 0 _ _ _ ((heap_setCell_other w3 ⟨w.heap.size + 1 + 1, 1, none⟩ (w.heap.size + 1) _ (by simp)).trans HE.out))
  obtain ⟨t0, t1⟩ := cells2 e4
  have hz4 : W4.heap.size = w3.heap.size := by rw [hW4]; simp
  have kp : ∀ g, w.heap.size + 3 ≤ g → W4.heap[g]? = w3.heap[g]? := fun g hg => by
    rw [hW4, heap_setCell_other _ _ _ _ (by simp; omega), heap_setCell_other _ _ _ _ (by simp; omega), heap_setCell_other _ _ _ _ (by simp; omega)]
  have hB4 : Below w.heap.size w W4 := by
    rw [hW4]
    exact (((HB3.out.setCell (by simp; omega) _).setCell (by simp) _).setCell (by simp) _)
  have ha4 : ODecs W4 w.heap.size W4.heap.size (.slice (some ⟨ga, 0, none⟩) p.decls.length p.decls.length) p.decls := (HO3.out.1.keep (fun g h1 _ => kp g (by omega))).wide (by omega) (by omega)
  have hk4 : OFns W4 w.heap.size W4.heap.size (.slice (some ⟨gk, 0, none⟩) p.funcs.length p.funcs.length) p.funcs := (HO3.out.2.keep (fun g h1 _ => kp g (by omega))).wide (by omega) (by omega)
  clear hW4 e4 kp
  refine bodyPost_ret (v := .agg #[.slice (some ⟨ga, 0, none⟩) p.decls.length p.decls.length, .slice (some ⟨gk, 0, none⟩) p.funcs.length p.funcs.length]) ?_ rfl ⟨_, rfl, hB4, _, _, rfl, ha4, hk4⟩
  rw [results_one rfl]
  go_simp
end Go.Proofs.YtihmkaodjpgikaaGreat
