/- Programs as data: functions, what a slice of them reads as. Nothing here speaks of a program's code. -/
import Derived.Test.YtdooageiopnhaabT0
namespace Go.Proofs.Ytdooageiopnhaab
open Go.RowKit
structure Fn where
  params : List Int
  result : Int
  body : Ex
def noFn : Fn := ⟨[], 0, noEx⟩
def nthF (fs : List Fn) (i : Nat) : Fn := fs.getD i noFn
theorem nthF_of {fs : List Fn} {i : Nat} (h : i < fs.length) : nthF fs i = fs[i] := by simp [nthF, h]
def fnCell (f : Fn) (p k : Value) (j : Nat) : Value :=
  if j = 0 then p else if j = 1 then .int .i64 f.result else if j = 2 then .int .i64 f.body.op else if j = 3 then .int .i64 f.body.num else k
/-- A slice of functions, read to every depth. -/
def Fns (w : World) (L U : Nat) (v : Value) (fs : List Fn) : Prop :=
  ∃ (A : Option Addr) (c : Nat) (P K : Nat → Value), v = .slice A fs.length c ∧ Row w L U 5 A fs.length c (fun i j => fnCell (nthF fs i) (P i) (K i) j) ∧
    (∀ i, i < fs.length → Ints w L U (P i) (nthF fs i).params) ∧ ∀ i, i < fs.length → Exs w L U (K i) (nthF fs i).body.kids
theorem Fns.keep {w w' : World} {L U : Nat} {v : Value} {fs : List Fn} (h : Fns w L U v fs) (s : Same L U w w') : Fns w' L U v fs := by
  obtain ⟨A, c, P, K, e, r, hp, hk⟩ := h
  exact ⟨A, c, P, K, e, r.keep s, fun i hl => (hp i hl).keep s, fun i hl => (hk i hl).keep s⟩
theorem Fns.wide {w : World} {L U L' U' : Nat} {v : Value} {fs : List Fn} (h : Fns w L U v fs) (hL : L' ≤ L) (hU : U ≤ U') : Fns w L' U' v fs := by
  obtain ⟨A, c, P, K, e, r, hp, hk⟩ := h
  exact ⟨A, c, P, K, e, r.wide hL hU, fun i hl => (hp i hl).wide hL hU, fun i hl => (hk i hl).wide hL hU⟩
theorem Fns.open_ {w : World} {L U : Nat} {v : Value} {fs : List Fn} (h : Fns w L U v fs) : ∃ A c, v = .slice A fs.length c ∧ fs.length ≤ c ∧ c ≤ 9223372036854775807 := by
  obtain ⟨A, c, P, K, e, r, _, _⟩ := h
  exact ⟨A, c, e, r.le, r.cap⟩
/-- The cells of one function, and what its two slices read as. -/
theorem Fns.at_ {w : World} {L U : Nat} {A : Option Addr} {n c k : Nat} {fs : List Fn} (h : Fns w L U (.slice A n c) fs) (hk : k < fs.length) :
    ∃ b o A1 c1 A2 c2, A = some ⟨b, o, none⟩ ∧ L ≤ b ∧ b < U ∧ w.cell? ⟨b, o + k * 5, none⟩ = some (.slice A1 (nthF fs k).params.length c1) ∧ w.cell? ⟨b, o + k * 5 + 1, none⟩ = some (.int .i64 (nthF fs k).result) ∧
      w.cell? ⟨b, o + k * 5 + 2, none⟩ = some (.int .i64 (nthF fs k).body.op) ∧ w.cell? ⟨b, o + k * 5 + 3, none⟩ = some (.int .i64 (nthF fs k).body.num) ∧ w.cell? ⟨b, o + k * 5 + 4, none⟩ = some (.slice A2 (nthF fs k).body.kids.length c2) ∧
      Ints w L U (.slice A1 (nthF fs k).params.length c1) (nthF fs k).params ∧ Exs w L U (.slice A2 (nthF fs k).body.kids.length c2) (nthF fs k).body.kids := by
  obtain ⟨A', c', P, K, e, r, hp, hks⟩ := h
  injection e with e1 e2 e3
  subst e1
  obtain ⟨b, o, e, h1, h2, hc⟩ := r.place (by omega)
  have hp1 := hp k hk
  have hk1 := hks k hk
  obtain ⟨A1, c1, e4, _, _⟩ := hp1.open_
  obtain ⟨A2, c2, e5, _, _⟩ := hk1.open_
  have d0 := hc k 0 hk (by omega)
  have d4 := hc k 4 hk (by omega)
  rw [e4] at hp1
  rw [e5] at hk1
  refine ⟨b, o, A1, c1, A2, c2, e, h1, h2, ?_, hc k 1 hk (by omega), hc k 2 hk (by omega), hc k 3 hk (by omega), ?_, hp1, hk1⟩
  · rw [← e4]; exact d0
  · rw [← e5]; exact d4
structure Pg where
  decls : List Dec
  funcs : List Fn
/-- A program's value: its two slices. -/
def Pgm (w : World) (L U : Nat) (v : Value) (p : Pg) : Prop := ∃ d f, v = .agg #[d, f] ∧ Decs w L U d p.decls ∧ Fns w L U f p.funcs
theorem Pgm.keep {w w' : World} {L U : Nat} {v : Value} {p : Pg} (h : Pgm w L U v p) (s : Same L U w w') : Pgm w' L U v p := by
  obtain ⟨d, f, e, hd, hf⟩ := h
  exact ⟨d, f, e, hd.keep s, hf.keep s⟩
theorem Pgm.wide {w : World} {L U L' U' : Nat} {v : Value} {p : Pg} (h : Pgm w L U v p) (hL : L' ≤ L) (hU : U ≤ U') : Pgm w L' U' v p := by
  obtain ⟨d, f, e, hd, hf⟩ := h
  exact ⟨d, f, e, hd.wide hL hU, hf.wide hL hU⟩
end Go.Proofs.Ytdooageiopnhaab
