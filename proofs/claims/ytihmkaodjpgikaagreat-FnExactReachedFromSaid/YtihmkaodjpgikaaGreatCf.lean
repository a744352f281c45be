/- Contracts of chapter 1: the fields of a constructor. -/
import Derived.Test.YtihmkaodjpgikaaGreatK
namespace Go.Proofs.YtihmkaodjpgikaaGreat
open Go.RowKit
theorem flds_three {ds : List Dec} {c : Int} (h : typesOk ds = true) (hc : 0 ≤ conTy ds c) : (flds ds c).length ≤ 3 := by
  rcases conTy_cases ds c with e | ⟨k, hk, e, h1, h2⟩
  · omega
  · rw [flds_at e]
    exact con_three h hk (by omega)
theorem conType_is (x c : Int) (L U : Nat) (ds : List Dec) (v : Value) (w : World) (hv : Decs w L U v ds) (hb : cnt ds ds.length ≤ 4611686018427387904) (h : conTy ds c = x) :
    Calls Tryz.prog 51 #[v, .int .i64 c] w fun e w' => e = .returned (.int .i64 x) ∧ w = w' := by
  subst h; exact conType_any c L U ds v w hv hb
end Go.Proofs.YtihmkaodjpgikaaGreat
