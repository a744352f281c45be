/- What functions compute, place by place. MADE BY lift.py. -/
import Derived.Test.YtnnalagflpmedaaOb
import Derived.Test.YtnnalagflpmedaaXt
set_option maxRecDepth 100000
set_option linter.unusedVariables false
namespace Go.Proofs.Ytnnalagflpmedaa
open Go
noncomputable def laws_FnExactValidHeap (x : List SV) : Option AV := V Try.prog lay sig.has ext 3 x
noncomputable def laws_FnExactLiveCells (x : List SV) : Option AV := V Try.prog lay sig.has ext 4 x
noncomputable def laws_FnExactRefsOf (x : List SV) : Option AV := V Try.prog lay sig.has ext 5 x
noncomputable def laws_szCellS (x : List SV) : Option AV := V Try.prog lay sig.has ext 6 x
noncomputable def spec_ValidHeap (x : List SV) : Option AV := V Try.prog lay sig.has ext 7 x
noncomputable def laws_toCellS (x : List SV) : Option AV := V Try.prog lay sig.has ext 8 x
noncomputable def impl_ValidHeap (x : List SV) : Option AV := V Try.prog lay sig.has ext 9 x
noncomputable def laws_eqCellS (x : List SV) : Option AV := V Try.prog lay sig.has ext 10 x
noncomputable def spec_LiveCells (x : List SV) : Option AV := V Try.prog lay sig.has ext 11 x
noncomputable def impl_LiveCells (x : List SV) : Option AV := V Try.prog lay sig.has ext 12 x
noncomputable def spec_RefsOf (x : List SV) : Option AV := V Try.prog lay sig.has ext 13 x
noncomputable def impl_RefsOf (x : List SV) : Option AV := V Try.prog lay sig.has ext 14 x
noncomputable def laws_szCell (x : List SV) : Option AV := V Try.prog lay sig.has ext 15 x
noncomputable def spec_validHeap (x : List SV) : Option AV := V Try.prog lay sig.has ext 16 x
noncomputable def laws_toCell (x : List SV) : Option AV := V Try.prog lay sig.has ext 17 x
noncomputable def impl_validCell (x : List SV) : Option AV := V Try.prog lay sig.has ext 18 x
noncomputable def impl_allRefs (x : List SV) : Option AV := V Try.prog lay sig.has ext 19 x
noncomputable def impl_hasCircle (x : List SV) : Option AV := V Try.prog lay sig.has ext 20 x
noncomputable def laws_eqCell (x : List SV) : Option AV := V Try.prog lay sig.has ext 21 x
noncomputable def spec_liveCells (x : List SV) : Option AV := V Try.prog lay sig.has ext 22 x
noncomputable def impl_isLive (x : List SV) : Option AV := V Try.prog lay sig.has ext 23 x
noncomputable def spec_inRange (x : List SV) : Option AV := V Try.prog lay sig.has ext 24 x
noncomputable def spec_refsOf (x : List SV) : Option AV := V Try.prog lay sig.has ext 25 x
noncomputable def laws_szIntS (x : List SV) : Option AV := V Try.prog lay sig.has ext 26 x
noncomputable def spec_validCell (x : List SV) : Option AV := V Try.prog lay sig.has ext 27 x
noncomputable def spec_isAcyclic (x : List SV) : Option AV := V Try.prog lay sig.has ext 28 x
noncomputable def laws_toIntS (x : List SV) : Option AV := V Try.prog lay sig.has ext 29 x
noncomputable def impl_allIn (x : List SV) : Option AV := V Try.prog lay sig.has ext 30 x
noncomputable def impl_areWords (x : List SV) : Option AV := V Try.prog lay sig.has ext 31 x
noncomputable def impl_cellOfWord (x : List SV) : Option AV := V Try.prog lay sig.has ext 32 x
noncomputable def impl_copyInts (x : List SV) : Option AV := V Try.prog lay sig.has ext 33 x
noncomputable def laws_eqIntS (x : List SV) : Option AV := V Try.prog lay sig.has ext 34 x
noncomputable def spec_isLive (x : List SV) : Option AV := V Try.prog lay sig.has ext 35 x
noncomputable def spec_allZero (x : List SV) : Option AV := V Try.prog lay sig.has ext 36 x
noncomputable def spec_isWord (x : List SV) : Option AV := V Try.prog lay sig.has ext 37 x
noncomputable def spec_allMarked (x : List SV) : Option AV := V Try.prog lay sig.has ext 38 x
noncomputable def impl_hasInt (x : List SV) : Option AV := V Try.prog lay sig.has ext 39 x
noncomputable def impl_isWord (x : List SV) : Option AV := V Try.prog lay sig.has ext 40 x
noncomputable def spec_isPointer (x : List SV) : Option AV := V Try.prog lay sig.has ext 41 x
noncomputable def impl_inInts (x : List SV) : Option AV := V Try.prog lay sig.has ext 42 x
noncomputable def X_laws_FnExactValidHeap : Ctx := { P := Try.prog, L := lay, F := sig.has, E := ext, fn := Try.f3, lv := [], jv := [], tp := [] }
theorem laws_FnExactValidHeap_le {l1 : List (List AC)} {r : AV} (h : (
    callR (laws_szCellS [.cell (.sl 3 l1), .cell (.int 1048576)]) false [(false, [.int 0])] fun n2 =>
      bif (decide (n2 < 0)) then
        some (.v (.cell (.bool true)))
      else
        callR (laws_toCellS [.cell (.sl 3 l1)]) false [(false, [.sl 3 []])] fun l3 =>
        callR (spec_ValidHeap [.cell (.sl 3 l3)]) false [(false, [.bool false])] fun b4 =>
        callR (laws_toCellS [.cell (.sl 3 l1)]) false [(false, [.sl 3 []])] fun l5 =>
        callR (impl_ValidHeap [.cell (.sl 3 l5)]) false [(false, [.bool false])] fun b6 =>
        bif (b6 != b4) then
          some (.v (.cell (.bool false)))
        else
          callR (laws_toCellS [.cell (.sl 3 l1)]) false [(false, [.sl 3 []])] fun l7 =>
          callR (laws_eqCellS [.cell (.sl 3 l5), .cell (.sl 3 l7)]) false [(false, [.bool false])] fun b8 =>
          bif (!b8) then
            some (.v (.cell (.bool false)))
          else
            some (.v (.cell (.bool true))) : Option AV) = some r) : laws_FnExactValidHeap [.cell (.sl 3 l1)] = some r :=
  V_le (X := X_laws_FnExactValidHeap) (n := 100000) (c := cOf Try.f3) (by kernel_rfl) Try.func3 (by kernel_rfl) (of_decide_eq_true (by kernel_rfl)) (Eq.trans (by kernel_rfl) h)
noncomputable def X_laws_FnExactLiveCells : Ctx := { P := Try.prog, L := lay, F := sig.has, E := ext, fn := Try.f4, lv := [], jv := [], tp := [] }
theorem laws_FnExactLiveCells_le {l1 : List (List AC)} {r : AV} (h : (
    callR (laws_szCellS [.cell (.sl 3 l1), .cell (.int 1048576)]) false [(false, [.int 0])] fun n2 =>
      bif (decide (n2 < 0)) then
        some (.v (.cell (.bool true)))
      else
        callR (laws_toCellS [.cell (.sl 3 l1)]) false [(false, [.sl 3 []])] fun l3 =>
        callR (spec_LiveCells [.cell (.sl 3 l3)]) false [(false, [.int 0])] fun n4 =>
        callR (laws_toCellS [.cell (.sl 3 l1)]) false [(false, [.sl 3 []])] fun l5 =>
        callR (impl_LiveCells [.cell (.sl 3 l5)]) false [(false, [.int 0])] fun n6 =>
        bif (n6 != n4) then
          some (.v (.cell (.bool false)))
        else
          callR (laws_toCellS [.cell (.sl 3 l1)]) false [(false, [.sl 3 []])] fun l7 =>
          callR (laws_eqCellS [.cell (.sl 3 l5), .cell (.sl 3 l7)]) false [(false, [.bool false])] fun b8 =>
          bif (!b8) then
            some (.v (.cell (.bool false)))
          else
            some (.v (.cell (.bool true))) : Option AV) = some r) : laws_FnExactLiveCells [.cell (.sl 3 l1)] = some r :=
  V_le (X := X_laws_FnExactLiveCells) (n := 100000) (c := cOf Try.f4) (by kernel_rfl) Try.func4 (by kernel_rfl) (of_decide_eq_true (by kernel_rfl)) (Eq.trans (by kernel_rfl) h)
noncomputable def X_laws_FnExactRefsOf : Ctx := { P := Try.prog, L := lay, F := sig.has, E := ext, fn := Try.f5, lv := [], jv := [], tp := [] }
theorem laws_FnExactRefsOf_le {l1 : List (List AC)} {n2 : Int} {r : AV} (h : (
    callR (laws_szCellS [.cell (.sl 3 l1), .cell (.int 1048576)]) false [(false, [.int 0])] fun n3 =>
      bif (decide (n3 < 0)) then
        some (.v (.cell (.bool true)))
      else
        callR (laws_toCellS [.cell (.sl 3 l1)]) false [(false, [.sl 3 []])] fun l4 =>
        callR (spec_RefsOf [.cell (.sl 3 l4), .cell (.int n2)]) false [(false, [.int 0])] fun n5 =>
        callR (laws_toCellS [.cell (.sl 3 l1)]) false [(false, [.sl 3 []])] fun l6 =>
        callR (impl_RefsOf [.cell (.sl 3 l6), .cell (.int n2)]) false [(false, [.int 0])] fun n7 =>
        bif (n7 != n5) then
          some (.v (.cell (.bool false)))
        else
          callR (laws_toCellS [.cell (.sl 3 l1)]) false [(false, [.sl 3 []])] fun l8 =>
          callR (laws_eqCellS [.cell (.sl 3 l6), .cell (.sl 3 l8)]) false [(false, [.bool false])] fun b9 =>
          bif (!b9) then
            some (.v (.cell (.bool false)))
          else
            some (.v (.cell (.bool true))) : Option AV) = some r) : laws_FnExactRefsOf [.cell (.sl 3 l1), .cell (.int n2)] = some r :=
  V_le (X := X_laws_FnExactRefsOf) (n := 100000) (c := cOf Try.f5) (by kernel_rfl) Try.func5 (by kernel_rfl) (of_decide_eq_true (by kernel_rfl)) (Eq.trans (by kernel_rfl) h)
noncomputable def X_laws_szCellS : Ctx := { P := Try.prog, L := lay, F := sig.has, E := ext, fn := Try.f6, lv := [(0, [0, 1, 5])], jv := [], tp := [] }
noncomputable def laws_szCellS_L0 (l3 : List (List AC)) (n4 : Int) (n5 : Int) : Option AV := GL X_laws_szCellS 0 [(0, .v (.cell (.sl 3 l3))), (1, .v (.cell (.int n4))), (5, .v (.cell (.int n5)))]
theorem laws_szCellS_L0_le {l3 : List (List AC)} {n4 : Int} {n5 : Int} {r : AV} (h : (
    bif (decide (n5 < ((l3.length : Nat) : Int))) then
        atR_ l3 n5 [.int 0, .int 0, .sl 1 []] fun n6 n7 l8 =>
        callR (laws_szCell [.agg [.int n6, .int n7, .sl 1 l8], .cell (.int n4)]) false [(false, [.int 0])] fun n9 =>
        bif (decide (n9 < 0)) then
          some (.v (.cell (.int (-1))))
        else
          laws_szCellS_L0 l3 n9 (wrapI (n5 + 1))
      else
        some (.v (.cell (.int n4))) : Option AV) = some r) : laws_szCellS_L0 l3 n4 n5 = some r :=
  GL_le (X := X_laws_szCellS) (n := 100000) (by kernel_rfl) (by kernel_rfl : (X_laws_szCellS.fn.body.bind fun c => locL 0 c []) = some (.loop (loopOf (X_laws_szCellS.fn.body.bind fun c => locL 0 c [])), ksOf (X_laws_szCellS.fn.body.bind fun c => locL 0 c []))) (Eq.trans (by kernel_rfl) h)
theorem laws_szCellS_le {l1 : List (List AC)} {n2 : Int} {r : AV} (h : (
    bif (decide ((wrapI (n2 - ((l1.length : Nat) : Int))) < 0)) then
        some (.v (.cell (.int (-1))))
      else
        laws_szCellS_L0 l1 (wrapI (n2 - ((l1.length : Nat) : Int))) 0 : Option AV) = some r) : laws_szCellS [.cell (.sl 3 l1), .cell (.int n2)] = some r :=
  V_le (X := X_laws_szCellS) (n := 100000) (c := cOf Try.f6) (by kernel_rfl) Try.func6 (by kernel_rfl) (of_decide_eq_true (by kernel_rfl)) (Eq.trans (by kernel_rfl) h)
noncomputable def X_spec_ValidHeap : Ctx := { P := Try.prog, L := lay, F := sig.has, E := ext, fn := Try.f7, lv := [], jv := [], tp := [] }
theorem spec_ValidHeap_le {l1 : List (List AC)} {r : AV} (h : (
    callR (spec_validHeap [.cell (.sl 3 l1)]) false [(false, [.bool false])] fun b2 =>
      some (.v (.cell (.bool b2))) : Option AV) = some r) : spec_ValidHeap [.cell (.sl 3 l1)] = some r :=
  V_le (X := X_spec_ValidHeap) (n := 100000) (c := cOf Try.f7) (by kernel_rfl) Try.func7 (by kernel_rfl) (of_decide_eq_true (by kernel_rfl)) (Eq.trans (by kernel_rfl) h)
noncomputable def X_impl_ValidHeap : Ctx := { P := Try.prog, L := lay, F := sig.has, E := ext, fn := Try.f9, lv := [(0, [0, 8, 9, 10]), (2, [0, 5, 34, 35, 36])], jv := [], tp := [] }
noncomputable def impl_ValidHeap_L0 (l2 : List (List AC)) (l3 : List (List AC)) (n4 : Int) (n5 : Int) : Option AV := GL X_impl_ValidHeap 0 [(0, .v (.cell (.sl 3 l2))), (8, .v (.cell (.sl 3 l3))), (9, .v (.cell (.int n4))), (10, .v (.cell (.int n5)))]
noncomputable def impl_ValidHeap_L2 (l14 : List (List AC)) (l15 : List (List AC)) (l16 : List (List AC)) (n17 : Int) (n18 : Int) : Option AV := GL X_impl_ValidHeap 2 [(0, .v (.cell (.sl 3 l14))), (5, .v (.cell (.sl 1 l15))), (34, .v (.cell (.sl 3 l16))), (35, .v (.cell (.int n17))), (36, .v (.cell (.int n18)))]
theorem impl_ValidHeap_L0_le {l2 : List (List AC)} {l3 : List (List AC)} {n4 : Int} {n5 : Int} {r : AV} (h : (
    bif (decide (n5 < n4)) then
        atR_ l3 n5 [.int 0, .int 0, .sl 1 []] fun n6 n7 l8 =>
        callR (impl_validCell [.cell (.sl 3 l2), .agg [.int n6, .int n7, .sl 1 l8]]) false [(false, [.bool false])] fun b9 =>
        bif (!b9) then
          some (.v (.cell (.bool false)))
        else
          impl_ValidHeap_L0 l2 l3 n4 (wrapI (n5 + 1))
      else
        bif (decide (((l2.length : Nat) : Int) > 0)) then
          atR_ l2 (wrapI (((l2.length : Nat) : Int) - 1)) [.int 0, .int 0, .sl 1 []] fun n10 n11 l12 =>
          bif (n10 == 0) then
            some (.v (.cell (.bool false)))
          else
            callR (impl_allRefs [.cell (.sl 3 l2)]) false [(false, [.sl 1 []])] fun l13 =>
            impl_ValidHeap_L2 l2 l13 l2 ((l2.length : Nat) : Int) 0
        else
          callR (impl_allRefs [.cell (.sl 3 l2)]) false [(false, [.sl 1 []])] fun l19 =>
          impl_ValidHeap_L2 l2 l19 l2 ((l2.length : Nat) : Int) 0 : Option AV) = some r) : impl_ValidHeap_L0 l2 l3 n4 n5 = some r :=
  GL_le (X := X_impl_ValidHeap) (n := 100000) (by kernel_rfl) (by kernel_rfl : (X_impl_ValidHeap.fn.body.bind fun c => locL 0 c []) = some (.loop (loopOf (X_impl_ValidHeap.fn.body.bind fun c => locL 0 c [])), ksOf (X_impl_ValidHeap.fn.body.bind fun c => locL 0 c []))) (Eq.trans (by kernel_rfl) h)
theorem impl_ValidHeap_L2_le {l14 : List (List AC)} {l15 : List (List AC)} {l16 : List (List AC)} {n17 : Int} {n18 : Int} {r : AV} (h : (
    bif (decide (n18 < n17)) then
        atR_ l16 n18 [.int 0, .int 0, .sl 1 []] fun n20 n21 l22 =>
        atR_ l15 n18 [.int 0] fun n23 =>
        bif (decide (n23 > n20)) then
          bif (decide (n20 > 0)) then
            some (.v (.cell (.bool false)))
          else
            impl_ValidHeap_L2 l14 l15 l16 n17 (wrapI (n18 + 1))
        else
          impl_ValidHeap_L2 l14 l15 l16 n17 (wrapI (n18 + 1))
      else
        callR (impl_hasCircle [.cell (.sl 3 l14), .cell (.sl 1 l15)]) false [(false, [.bool false])] fun b24 =>
        some (.v (.cell (.bool (!b24)))) : Option AV) = some r) : impl_ValidHeap_L2 l14 l15 l16 n17 n18 = some r :=
  GL_le (X := X_impl_ValidHeap) (n := 100000) (by kernel_rfl) (by kernel_rfl : (X_impl_ValidHeap.fn.body.bind fun c => locL 2 c []) = some (.loop (loopOf (X_impl_ValidHeap.fn.body.bind fun c => locL 2 c [])), ksOf (X_impl_ValidHeap.fn.body.bind fun c => locL 2 c []))) (Eq.trans (by kernel_rfl) h)
theorem impl_ValidHeap_le {l1 : List (List AC)} {r : AV} (h : (
    impl_ValidHeap_L0 l1 l1 ((l1.length : Nat) : Int) 0 : Option AV) = some r) : impl_ValidHeap [.cell (.sl 3 l1)] = some r :=
  V_le (X := X_impl_ValidHeap) (n := 100000) (c := cOf Try.f9) (by kernel_rfl) Try.func9 (by kernel_rfl) (of_decide_eq_true (by kernel_rfl)) (Eq.trans (by kernel_rfl) h)
noncomputable def X_laws_eqCellS : Ctx := { P := Try.prog, L := lay, F := sig.has, E := ext, fn := Try.f10, lv := [(0, [0, 1, 5])], jv := [], tp := [] }
noncomputable def laws_eqCellS_L0 (l3 : List (List AC)) (l4 : List (List AC)) (n5 : Int) : Option AV := GL X_laws_eqCellS 0 [(0, .v (.cell (.sl 3 l3))), (1, .v (.cell (.sl 3 l4))), (5, .v (.cell (.int n5)))]
theorem laws_eqCellS_L0_le {l3 : List (List AC)} {l4 : List (List AC)} {n5 : Int} {r : AV} (h : (
    bif (decide (n5 < ((l3.length : Nat) : Int))) then
        atR_ l3 n5 [.int 0, .int 0, .sl 1 []] fun n6 n7 l8 =>
        atR_ l4 n5 [.int 0, .int 0, .sl 1 []] fun n9 n10 l11 =>
        callR (laws_eqCell [.agg [.int n6, .int n7, .sl 1 l8], .agg [.int n9, .int n10, .sl 1 l11]]) false [(false, [.bool false])] fun b12 =>
        bif (!b12) then
          some (.v (.cell (.bool false)))
        else
          laws_eqCellS_L0 l3 l4 (wrapI (n5 + 1))
      else
        some (.v (.cell (.bool true))) : Option AV) = some r) : laws_eqCellS_L0 l3 l4 n5 = some r :=
  GL_le (X := X_laws_eqCellS) (n := 100000) (by kernel_rfl) (by kernel_rfl : (X_laws_eqCellS.fn.body.bind fun c => locL 0 c []) = some (.loop (loopOf (X_laws_eqCellS.fn.body.bind fun c => locL 0 c [])), ksOf (X_laws_eqCellS.fn.body.bind fun c => locL 0 c []))) (Eq.trans (by kernel_rfl) h)
theorem laws_eqCellS_le {l1 : List (List AC)} {l2 : List (List AC)} {r : AV} (h : (
    bif (((l1.length : Nat) : Int) != ((l2.length : Nat) : Int)) then
        some (.v (.cell (.bool false)))
      else
        laws_eqCellS_L0 l1 l2 0 : Option AV) = some r) : laws_eqCellS [.cell (.sl 3 l1), .cell (.sl 3 l2)] = some r :=
  V_le (X := X_laws_eqCellS) (n := 100000) (c := cOf Try.f10) (by kernel_rfl) Try.func10 (by kernel_rfl) (of_decide_eq_true (by kernel_rfl)) (Eq.trans (by kernel_rfl) h)
noncomputable def X_spec_LiveCells : Ctx := { P := Try.prog, L := lay, F := sig.has, E := ext, fn := Try.f11, lv := [], jv := [], tp := [] }
theorem spec_LiveCells_le {l1 : List (List AC)} {r : AV} (h : (
    callR (spec_validHeap [.cell (.sl 3 l1)]) false [(false, [.bool false])] fun b2 =>
      bif (!b2) then
        some (.v (.cell (.int (-1))))
      else
        callR (spec_liveCells [.cell (.sl 3 l1)]) false [(false, [.int 0])] fun n3 =>
        some (.v (.cell (.int n3))) : Option AV) = some r) : spec_LiveCells [.cell (.sl 3 l1)] = some r :=
  V_le (X := X_spec_LiveCells) (n := 100000) (c := cOf Try.f11) (by kernel_rfl) Try.func11 (by kernel_rfl) (of_decide_eq_true (by kernel_rfl)) (Eq.trans (by kernel_rfl) h)
noncomputable def X_impl_LiveCells : Ctx := { P := Try.prog, L := lay, F := sig.has, E := ext, fn := Try.f12, lv := [(0, [0, 3, 9, 10])], jv := [], tp := [] }
noncomputable def impl_LiveCells_L0 (l3 : List (List AC)) (n4 : Int) (n5 : Int) (n6 : Int) : Option AV := GL X_impl_LiveCells 0 [(0, .v (.cell (.sl 3 l3))), (3, .v (.cell (.int n4))), (9, .v (.cell (.int n5))), (10, .v (.cell (.int n6)))]
theorem impl_LiveCells_L0_le {l3 : List (List AC)} {n4 : Int} {n5 : Int} {n6 : Int} {r : AV} (h : (
    bif (decide (n6 < n5)) then
        callR (impl_isLive [.cell (.sl 3 l3), .cell (.int n6)]) false [(false, [.bool false])] fun b7 =>
        bif b7 then
          impl_LiveCells_L0 l3 (wrapI (n4 + 1)) n5 (wrapI (n6 + 1))
        else
          impl_LiveCells_L0 l3 n4 n5 (wrapI (n6 + 1))
      else
        some (.v (.cell (.int n4))) : Option AV) = some r) : impl_LiveCells_L0 l3 n4 n5 n6 = some r :=
  GL_le (X := X_impl_LiveCells) (n := 100000) (by kernel_rfl) (by kernel_rfl : (X_impl_LiveCells.fn.body.bind fun c => locL 0 c []) = some (.loop (loopOf (X_impl_LiveCells.fn.body.bind fun c => locL 0 c [])), ksOf (X_impl_LiveCells.fn.body.bind fun c => locL 0 c []))) (Eq.trans (by kernel_rfl) h)
theorem impl_LiveCells_le {l1 : List (List AC)} {r : AV} (h : (
    callR (impl_ValidHeap [.cell (.sl 3 l1)]) false [(false, [.bool false])] fun b2 =>
      bif (!b2) then
        some (.v (.cell (.int (-1))))
      else
        impl_LiveCells_L0 l1 0 ((l1.length : Nat) : Int) 0 : Option AV) = some r) : impl_LiveCells [.cell (.sl 3 l1)] = some r :=
  V_le (X := X_impl_LiveCells) (n := 100000) (c := cOf Try.f12) (by kernel_rfl) Try.func12 (by kernel_rfl) (of_decide_eq_true (by kernel_rfl)) (Eq.trans (by kernel_rfl) h)
noncomputable def X_spec_RefsOf : Ctx := { P := Try.prog, L := lay, F := sig.has, E := ext, fn := Try.f13, lv := [], jv := [], tp := [] }
theorem spec_RefsOf_le {l1 : List (List AC)} {n2 : Int} {r : AV} (h : (
    callR (spec_validHeap [.cell (.sl 3 l1)]) false [(false, [.bool false])] fun b3 =>
      bif (!b3) then
        some (.v (.cell (.int (-1))))
      else
        callR (spec_inRange [.cell (.int n2), .cell (.int 0), .cell (.int (wrapI (((l1.length : Nat) : Int) - 1)))]) false [(false, [.bool false])] fun b4 =>
        bif (!b4) then
          some (.v (.cell (.int (-1))))
        else
          atR_ l1 n2 [.int 0, .int 0, .sl 1 []] fun n5 n6 l7 =>
          bif (decide (n5 < 1)) then
            some (.v (.cell (.int (-1))))
          else
            callR (spec_refsOf [.cell (.sl 3 l1)]) false [(false, [.sl 1 []])] fun l8 =>
            atR_ l8 n2 [.int 0] fun n9 =>
            some (.v (.cell (.int n9))) : Option AV) = some r) : spec_RefsOf [.cell (.sl 3 l1), .cell (.int n2)] = some r :=
  V_le (X := X_spec_RefsOf) (n := 100000) (c := cOf Try.f13) (by kernel_rfl) Try.func13 (by kernel_rfl) (of_decide_eq_true (by kernel_rfl)) (Eq.trans (by kernel_rfl) h)
noncomputable def X_impl_RefsOf : Ctx := { P := Try.prog, L := lay, F := sig.has, E := ext, fn := Try.f14, lv := [], jv := [], tp := [] }
theorem impl_RefsOf_le {l1 : List (List AC)} {n2 : Int} {r : AV} (h : (
    callR (impl_ValidHeap [.cell (.sl 3 l1)]) false [(false, [.bool false])] fun b3 =>
      bif (!b3) then
        some (.v (.cell (.int (-1))))
      else
        callR (impl_isLive [.cell (.sl 3 l1), .cell (.int n2)]) false [(false, [.bool false])] fun b4 =>
        bif (!b4) then
          some (.v (.cell (.int (-1))))
        else
          callR (impl_allRefs [.cell (.sl 3 l1)]) false [(false, [.sl 1 []])] fun l5 =>
          atR_ l5 n2 [.int 0] fun n6 =>
          some (.v (.cell (.int n6))) : Option AV) = some r) : impl_RefsOf [.cell (.sl 3 l1), .cell (.int n2)] = some r :=
  V_le (X := X_impl_RefsOf) (n := 100000) (c := cOf Try.f14) (by kernel_rfl) Try.func14 (by kernel_rfl) (of_decide_eq_true (by kernel_rfl)) (Eq.trans (by kernel_rfl) h)
noncomputable def X_laws_szCell : Ctx := { P := Try.prog, L := lay, F := sig.has, E := ext, fn := Try.f15, lv := [], jv := [], tp := [] }
theorem laws_szCell_le {n1 : Int} {n2 : Int} {l3 : List (List AC)} {n4 : Int} {r : AV} (h : (
    callR (laws_szIntS [.cell (.sl 1 l3), .cell (.int n4)]) false [(false, [.int 0])] fun n5 =>
      bif (decide (n5 < 0)) then
        some (.v (.cell (.int (-1))))
      else
        some (.v (.cell (.int n5))) : Option AV) = some r) : laws_szCell [.agg [.int n1, .int n2, .sl 1 l3], .cell (.int n4)] = some r :=
  V_le (X := X_laws_szCell) (n := 100000) (c := cOf Try.f15) (by kernel_rfl) Try.func15 (by kernel_rfl) (of_decide_eq_true (by kernel_rfl)) (Eq.trans (by kernel_rfl) h)
noncomputable def X_spec_validHeap : Ctx := { P := Try.prog, L := lay, F := sig.has, E := ext, fn := Try.f16, lv := [(0, [0, 3]), (2, [0, 4, 5])], jv := [], tp := [] }
noncomputable def spec_validHeap_L0 (l5 : List (List AC)) (n6 : Int) : Option AV := GL X_spec_validHeap 0 [(0, .v (.cell (.sl 3 l5))), (3, .v (.cell (.int n6)))]
noncomputable def spec_validHeap_L2 (l12 : List (List AC)) (l13 : List (List AC)) (n14 : Int) : Option AV := GL X_spec_validHeap 2 [(0, .v (.cell (.sl 3 l12))), (4, .v (.cell (.sl 1 l13))), (5, .v (.cell (.int n14)))]
theorem spec_validHeap_L0_le {l5 : List (List AC)} {n6 : Int} {r : AV} (h : (
    bif (decide (n6 < ((l5.length : Nat) : Int))) then
        atR_ l5 n6 [.int 0, .int 0, .sl 1 []] fun n7 n8 l9 =>
        callR (spec_validCell [.cell (.sl 3 l5), .agg [.int n7, .int n8, .sl 1 l9]]) false [(false, [.bool false])] fun b10 =>
        bif (!b10) then
          some (.v (.cell (.bool false)))
        else
          spec_validHeap_L0 l5 (wrapI (n6 + 1))
      else
        callR (spec_refsOf [.cell (.sl 3 l5)]) false [(false, [.sl 1 []])] fun l11 =>
        spec_validHeap_L2 l5 l11 0 : Option AV) = some r) : spec_validHeap_L0 l5 n6 = some r :=
  GL_le (X := X_spec_validHeap) (n := 100000) (by kernel_rfl) (by kernel_rfl : (X_spec_validHeap.fn.body.bind fun c => locL 0 c []) = some (.loop (loopOf (X_spec_validHeap.fn.body.bind fun c => locL 0 c [])), ksOf (X_spec_validHeap.fn.body.bind fun c => locL 0 c []))) (Eq.trans (by kernel_rfl) h)
theorem spec_validHeap_L2_le {l12 : List (List AC)} {l13 : List (List AC)} {n14 : Int} {r : AV} (h : (
    bif (decide (n14 < ((l12.length : Nat) : Int))) then
        atR_ l12 n14 [.int 0, .int 0, .sl 1 []] fun n15 n16 l17 =>
        bif (decide (n15 > 0)) then
          atR_ l12 n14 [.int 0, .int 0, .sl 1 []] fun n18 n19 l20 =>
          atR_ l13 n14 [.int 0] fun n21 =>
          bif (decide (n18 < n21)) then
            some (.v (.cell (.bool false)))
          else
            spec_validHeap_L2 l12 l13 (wrapI (n14 + 1))
        else
          spec_validHeap_L2 l12 l13 (wrapI (n14 + 1))
      else
        callR (spec_isAcyclic [.cell (.sl 3 l12)]) false [(false, [.bool false])] fun b22 =>
        some (.v (.cell (.bool b22))) : Option AV) = some r) : spec_validHeap_L2 l12 l13 n14 = some r :=
  GL_le (X := X_spec_validHeap) (n := 100000) (by kernel_rfl) (by kernel_rfl : (X_spec_validHeap.fn.body.bind fun c => locL 2 c []) = some (.loop (loopOf (X_spec_validHeap.fn.body.bind fun c => locL 2 c [])), ksOf (X_spec_validHeap.fn.body.bind fun c => locL 2 c []))) (Eq.trans (by kernel_rfl) h)
theorem spec_validHeap_le {l1 : List (List AC)} {r : AV} (h : (
    bif (decide (((l1.length : Nat) : Int) > 0)) then
        atR_ l1 (wrapI (((l1.length : Nat) : Int) - 1)) [.int 0, .int 0, .sl 1 []] fun n2 n3 l4 =>
        bif (n2 == 0) then
          some (.v (.cell (.bool false)))
        else
          spec_validHeap_L0 l1 0
      else
        spec_validHeap_L0 l1 0 : Option AV) = some r) : spec_validHeap [.cell (.sl 3 l1)] = some r :=
  V_le (X := X_spec_validHeap) (n := 100000) (c := cOf Try.f16) (by kernel_rfl) Try.func16 (by kernel_rfl) (of_decide_eq_true (by kernel_rfl)) (Eq.trans (by kernel_rfl) h)
noncomputable def X_impl_validCell : Ctx := { P := Try.prog, L := lay, F := sig.has, E := ext, fn := Try.f18, lv := [], jv := [], tp := [] }
theorem impl_validCell_le {l1 : List (List AC)} {n2 : Int} {n3 : Int} {l4 : List (List AC)} {r : AV} (h : (
    bif (decide (((l4.length : Nat) : Int) > 3)) then
        some (.v (.cell (.bool false)))
      else
        bif (n2 == 0) then
          bif (n3 == 0) then
            some (.v (.cell (.bool (((l4.length : Nat) : Int) == 0))))
          else
            some (.v (.cell (.bool false)))
        else
          bif (n2 == (-1)) then
            bif (n3 == 0) then
              callR (impl_allIn [.cell (.sl 1 l4), .cell (.sl 1 [[.int 0]])]) false [(false, [.bool false])] fun b5 =>
              some (.v (.cell (.bool b5)))
            else
              some (.v (.cell (.bool false)))
          else
            bif (decide (n2 > 0)) then
              bif (decide (n2 ≤ 999999)) then
                bif (decide (n3 ≥ 0)) then
                  bif (decide (n3 ≤ 99)) then
                    callR (impl_areWords [.cell (.sl 3 l1), .cell (.sl 1 l4)]) false [(false, [.bool false])] fun b6 =>
                    some (.v (.cell (.bool b6)))
                  else
                    some (.v (.cell (.bool false)))
                else
                  some (.v (.cell (.bool false)))
              else
                some (.v (.cell (.bool false)))
            else
              some (.v (.cell (.bool false))) : Option AV) = some r) : impl_validCell [.cell (.sl 3 l1), .agg [.int n2, .int n3, .sl 1 l4]] = some r :=
  V_le (X := X_impl_validCell) (n := 100000) (c := cOf Try.f18) (by kernel_rfl) Try.func18 (by kernel_rfl) (of_decide_eq_true (by kernel_rfl)) (Eq.trans (by kernel_rfl) h)
noncomputable def X_impl_allRefs : Ctx := { P := Try.prog, L := lay, F := sig.has, E := ext, fn := Try.f19, lv := [(0, [3, 11, 12, 13, 14]), (2, [3, 11, 12, 13, 14, 19, 20, 21])], jv := [], tp := [] }
noncomputable def impl_allRefs_L0 (l3 : List (List AC)) (l4 : List (List AC)) (n5 : Int) (n6 : Int) : Option AV := GL X_impl_allRefs 0 [(3, .al 11), (11, .arr 1 l3), (12, .v (.cell (.sl 3 l4))), (13, .v (.cell (.int n5))), (14, .v (.cell (.int n6)))]
noncomputable def impl_allRefs_L2 (l10 : List (List AC)) (l11 : List (List AC)) (n12 : Int) (n13 : Int) (l14 : List (List AC)) (n15 : Int) (n16 : Int) : Option AV := GL X_impl_allRefs 2 [(3, .al 11), (11, .arr 1 l10), (12, .v (.cell (.sl 3 l11))), (13, .v (.cell (.int n12))), (14, .v (.cell (.int n13))), (19, .v (.cell (.sl 1 l14))), (20, .v (.cell (.int n15))), (21, .v (.cell (.int n16)))]
theorem impl_allRefs_L0_le {l3 : List (List AC)} {l4 : List (List AC)} {n5 : Int} {n6 : Int} {r : AV} (h : (
    bif (decide (n6 < n5)) then
        atR_ l4 n6 [.int 0, .int 0, .sl 1 []] fun n7 n8 l9 =>
        impl_allRefs_L2 l3 l4 n5 n6 l9 ((l9.length : Nat) : Int) 0
      else
        some (.v (.cell (.sl 1 l3))) : Option AV) = some r) : impl_allRefs_L0 l3 l4 n5 n6 = some r :=
  GL_le (X := X_impl_allRefs) (n := 100000) (by kernel_rfl) (by kernel_rfl : (X_impl_allRefs.fn.body.bind fun c => locL 0 c []) = some (.loop (loopOf (X_impl_allRefs.fn.body.bind fun c => locL 0 c [])), ksOf (X_impl_allRefs.fn.body.bind fun c => locL 0 c []))) (Eq.trans (by kernel_rfl) h)
theorem impl_allRefs_L2_le {l10 : List (List AC)} {l11 : List (List AC)} {n12 : Int} {n13 : Int} {l14 : List (List AC)} {n15 : Int} {n16 : Int} {r : AV} (h : (
    bif (decide (n16 < n15)) then
        atR_ l14 n16 [.int 0] fun n17 =>
        callR (impl_cellOfWord [.cell (.int n17)]) false [(false, [.int 0])] fun n18 =>
        bif (decide (n18 ≥ 0)) then
          idxR l10 n18 fun m19 =>
          elR l10 m19 0 1 [.int 0] fun n20 =>
          idxR l10 n18 fun m21 =>
          setR l10 m21 0 [.int (wrapI (n20 + 1))] fun l22 =>
          impl_allRefs_L2 l22 l11 n12 n13 l14 n15 (wrapI (n16 + 1))
        else
          impl_allRefs_L2 l10 l11 n12 n13 l14 n15 (wrapI (n16 + 1))
      else
        impl_allRefs_L0 l10 l11 n12 (wrapI (n13 + 1)) : Option AV) = some r) : impl_allRefs_L2 l10 l11 n12 n13 l14 n15 n16 = some r :=
  GL_le (X := X_impl_allRefs) (n := 100000) (by kernel_rfl) (by kernel_rfl : (X_impl_allRefs.fn.body.bind fun c => locL 2 c []) = some (.loop (loopOf (X_impl_allRefs.fn.body.bind fun c => locL 2 c [])), ksOf (X_impl_allRefs.fn.body.bind fun c => locL 2 c []))) (Eq.trans (by kernel_rfl) h)
theorem impl_allRefs_le {l1 : List (List AC)} {r : AV} (h : (
    repR ((l1.length : Nat) : Int) ((l1.length : Nat) : Int) [.int 0] fun l2 =>
      impl_allRefs_L0 l2 l1 ((l1.length : Nat) : Int) 0 : Option AV) = some r) : impl_allRefs [.cell (.sl 3 l1)] = some r :=
  V_le (X := X_impl_allRefs) (n := 100000) (c := cOf Try.f19) (by kernel_rfl) Try.func19 (by kernel_rfl) (of_decide_eq_true (by kernel_rfl)) (Eq.trans (by kernel_rfl) h)
noncomputable def X_impl_hasCircle : Ctx := { P := Try.prog, L := lay, F := sig.has, E := ext, fn := Try.f20, lv := [(0, [0, 5, 6, 14, 15, 16, 17]), (2, [0, 5, 6, 9, 14]), (4, [0, 5, 6, 9, 14, 42, 43, 44])], jv := [], tp := [] }
noncomputable def impl_hasCircle_L0 (l4 : List (List AC)) (l5 : List (List AC)) (l6 : List (List AC)) (n7 : Int) (n8 : Int) : Option AV := GL X_impl_hasCircle 0 [(0, .v (.cell (.sl 3 l4))), (5, .al 14), (6, .v (.cell (.sl 1 l5))), (14, .arr 1 l6), (15, .al 14), (16, .v (.cell (.int n7))), (17, .v (.cell (.int n8)))]
noncomputable def impl_hasCircle_L2 (l12 : List (List AC)) (l13 : List (List AC)) (n14 : Int) (l15 : List (List AC)) : Option AV := GL X_impl_hasCircle 2 [(0, .v (.cell (.sl 3 l12))), (5, .al 14), (6, .v (.cell (.sl 1 l13))), (9, .v (.cell (.int n14))), (14, .arr 1 l15)]
noncomputable def impl_hasCircle_L4 (l20 : List (List AC)) (l21 : List (List AC)) (n22 : Int) (l23 : List (List AC)) (l24 : List (List AC)) (n25 : Int) (n26 : Int) : Option AV := GL X_impl_hasCircle 4 [(0, .v (.cell (.sl 3 l20))), (5, .al 14), (6, .v (.cell (.sl 1 l21))), (9, .v (.cell (.int n22))), (14, .arr 1 l23), (42, .v (.cell (.sl 1 l24))), (43, .v (.cell (.int n25))), (44, .v (.cell (.int n26)))]
theorem impl_hasCircle_L0_le {l4 : List (List AC)} {l5 : List (List AC)} {l6 : List (List AC)} {n7 : Int} {n8 : Int} {r : AV} (h : (
    bif (decide (n8 < n7)) then
        idxR l6 n8 fun m9 =>
        elR l6 m9 0 1 [.int 0] fun n10 =>
        bif (n10 == 0) then
          appR l5 [[.int n8]] fun l11 =>
          impl_hasCircle_L0 l4 l11 l6 n7 (wrapI (n8 + 1))
        else
          impl_hasCircle_L0 l4 l5 l6 n7 (wrapI (n8 + 1))
      else
        impl_hasCircle_L2 l4 l5 0 l6 : Option AV) = some r) : impl_hasCircle_L0 l4 l5 l6 n7 n8 = some r :=
  GL_le (X := X_impl_hasCircle) (n := 100000) (by kernel_rfl) (by kernel_rfl : (X_impl_hasCircle.fn.body.bind fun c => locL 0 c []) = some (.loop (loopOf (X_impl_hasCircle.fn.body.bind fun c => locL 0 c [])), ksOf (X_impl_hasCircle.fn.body.bind fun c => locL 0 c []))) (Eq.trans (by kernel_rfl) h)
theorem impl_hasCircle_L2_le {l12 : List (List AC)} {l13 : List (List AC)} {n14 : Int} {l15 : List (List AC)} {r : AV} (h : (
    bif (decide (n14 < ((l13.length : Nat) : Int))) then
        atR_ l13 n14 [.int 0] fun n16 =>
        atR_ l12 n16 [.int 0, .int 0, .sl 1 []] fun n17 n18 l19 =>
        impl_hasCircle_L4 l12 l13 n14 l15 l19 ((l19.length : Nat) : Int) 0
      else
        some (.v (.cell (.bool (decide (((l13.length : Nat) : Int) < ((l12.length : Nat) : Int)))))) : Option AV) = some r) : impl_hasCircle_L2 l12 l13 n14 l15 = some r :=
  GL_le (X := X_impl_hasCircle) (n := 100000) (by kernel_rfl) (by kernel_rfl : (X_impl_hasCircle.fn.body.bind fun c => locL 2 c []) = some (.loop (loopOf (X_impl_hasCircle.fn.body.bind fun c => locL 2 c [])), ksOf (X_impl_hasCircle.fn.body.bind fun c => locL 2 c []))) (Eq.trans (by kernel_rfl) h)
theorem impl_hasCircle_L4_le {l20 : List (List AC)} {l21 : List (List AC)} {n22 : Int} {l23 : List (List AC)} {l24 : List (List AC)} {n25 : Int} {n26 : Int} {r : AV} (h : (
    bif (decide (n26 < n25)) then
        atR_ l24 n26 [.int 0] fun n27 =>
        callR (impl_cellOfWord [.cell (.int n27)]) false [(false, [.int 0])] fun n28 =>
        bif (decide (n28 < 0)) then
          impl_hasCircle_L4 l20 l21 n22 l23 l24 n25 (wrapI (n26 + 1))
        else
          idxR l23 n28 fun m29 =>
          elR l23 m29 0 1 [.int 0] fun n30 =>
          idxR l23 n28 fun m31 =>
          setR l23 m31 0 [.int (wrapI (n30 - 1))] fun l32 =>
          idxR l32 n28 fun m33 =>
          elR l32 m33 0 1 [.int 0] fun n34 =>
          bif (n34 == 0) then
            appR l21 [[.int n28]] fun l35 =>
            impl_hasCircle_L4 l20 l35 n22 l32 l24 n25 (wrapI (n26 + 1))
          else
            impl_hasCircle_L4 l20 l21 n22 l32 l24 n25 (wrapI (n26 + 1))
      else
        impl_hasCircle_L2 l20 l21 (wrapI (n22 + 1)) l23 : Option AV) = some r) : impl_hasCircle_L4 l20 l21 n22 l23 l24 n25 n26 = some r :=
  GL_le (X := X_impl_hasCircle) (n := 100000) (by kernel_rfl) (by kernel_rfl : (X_impl_hasCircle.fn.body.bind fun c => locL 4 c []) = some (.loop (loopOf (X_impl_hasCircle.fn.body.bind fun c => locL 4 c [])), ksOf (X_impl_hasCircle.fn.body.bind fun c => locL 4 c []))) (Eq.trans (by kernel_rfl) h)
theorem impl_hasCircle_le {l1 : List (List AC)} {l2 : List (List AC)} {r : AV} (h : (
    thawR (impl_copyInts [.cell (.sl 1 l2)]) 1 fun l3 =>
      impl_hasCircle_L0 l1 [] l3 ((l3.length : Nat) : Int) 0 : Option AV) = some r) : impl_hasCircle [.cell (.sl 3 l1), .cell (.sl 1 l2)] = some r :=
  V_le (X := X_impl_hasCircle) (n := 100000) (c := cOf Try.f20) (by kernel_rfl) Try.func20 (by kernel_rfl) (of_decide_eq_true (by kernel_rfl)) (Eq.trans (by kernel_rfl) h)
noncomputable def X_laws_eqCell : Ctx := { P := Try.prog, L := lay, F := sig.has, E := ext, fn := Try.f21, lv := [], jv := [], tp := [] }
theorem laws_eqCell_le {n1 : Int} {n2 : Int} {l3 : List (List AC)} {n4 : Int} {n5 : Int} {l6 : List (List AC)} {r : AV} (h : (
    bif (n1 != n4) then
        some (.v (.cell (.bool false)))
      else
        bif (n2 != n5) then
          some (.v (.cell (.bool false)))
        else
          callR (laws_eqIntS [.cell (.sl 1 l3), .cell (.sl 1 l6)]) false [(false, [.bool false])] fun b7 =>
          bif (!b7) then
            some (.v (.cell (.bool false)))
          else
            some (.v (.cell (.bool true))) : Option AV) = some r) : laws_eqCell [.agg [.int n1, .int n2, .sl 1 l3], .agg [.int n4, .int n5, .sl 1 l6]] = some r :=
  V_le (X := X_laws_eqCell) (n := 100000) (c := cOf Try.f21) (by kernel_rfl) Try.func21 (by kernel_rfl) (of_decide_eq_true (by kernel_rfl)) (Eq.trans (by kernel_rfl) h)
noncomputable def X_spec_liveCells : Ctx := { P := Try.prog, L := lay, F := sig.has, E := ext, fn := Try.f22, lv := [(0, [0, 3, 4])], jv := [], tp := [] }
noncomputable def spec_liveCells_L0 (l2 : List (List AC)) (n3 : Int) (n4 : Int) : Option AV := GL X_spec_liveCells 0 [(0, .v (.cell (.sl 3 l2))), (3, .v (.cell (.int n3))), (4, .v (.cell (.int n4)))]
theorem spec_liveCells_L0_le {l2 : List (List AC)} {n3 : Int} {n4 : Int} {r : AV} (h : (
    bif (decide (n4 < ((l2.length : Nat) : Int))) then
        atR_ l2 n4 [.int 0, .int 0, .sl 1 []] fun n5 n6 l7 =>
        bif (decide (n5 > 0)) then
          spec_liveCells_L0 l2 (wrapI (n3 + 1)) (wrapI (n4 + 1))
        else
          spec_liveCells_L0 l2 n3 (wrapI (n4 + 1))
      else
        some (.v (.cell (.int n3))) : Option AV) = some r) : spec_liveCells_L0 l2 n3 n4 = some r :=
  GL_le (X := X_spec_liveCells) (n := 100000) (by kernel_rfl) (by kernel_rfl : (X_spec_liveCells.fn.body.bind fun c => locL 0 c []) = some (.loop (loopOf (X_spec_liveCells.fn.body.bind fun c => locL 0 c [])), ksOf (X_spec_liveCells.fn.body.bind fun c => locL 0 c []))) (Eq.trans (by kernel_rfl) h)
theorem spec_liveCells_le {l1 : List (List AC)} {r : AV} (h : (
    spec_liveCells_L0 l1 0 0 : Option AV) = some r) : spec_liveCells [.cell (.sl 3 l1)] = some r :=
  V_le (X := X_spec_liveCells) (n := 100000) (c := cOf Try.f22) (by kernel_rfl) Try.func22 (by kernel_rfl) (of_decide_eq_true (by kernel_rfl)) (Eq.trans (by kernel_rfl) h)
noncomputable def X_impl_isLive : Ctx := { P := Try.prog, L := lay, F := sig.has, E := ext, fn := Try.f23, lv := [], jv := [], tp := [] }
theorem impl_isLive_le {l1 : List (List AC)} {n2 : Int} {r : AV} (h : (
    bif (decide (n2 ≥ 0)) then
        bif (decide (n2 < ((l1.length : Nat) : Int))) then
          atR_ l1 n2 [.int 0, .int 0, .sl 1 []] fun n3 n4 l5 =>
          some (.v (.cell (.bool (decide (n3 > 0)))))
        else
          some (.v (.cell (.bool false)))
      else
        some (.v (.cell (.bool false))) : Option AV) = some r) : impl_isLive [.cell (.sl 3 l1), .cell (.int n2)] = some r :=
  V_le (X := X_impl_isLive) (n := 100000) (c := cOf Try.f23) (by kernel_rfl) Try.func23 (by kernel_rfl) (of_decide_eq_true (by kernel_rfl)) (Eq.trans (by kernel_rfl) h)
noncomputable def X_spec_inRange : Ctx := { P := Try.prog, L := lay, F := sig.has, E := ext, fn := Try.f24, lv := [], jv := [], tp := [] }
theorem spec_inRange_le {n1 : Int} {n2 : Int} {n3 : Int} {r : AV} (h : (
    bif (decide (n2 ≤ n1)) then
        some (.v (.cell (.bool (decide (n1 ≤ n3)))))
      else
        some (.v (.cell (.bool false))) : Option AV) = some r) : spec_inRange [.cell (.int n1), .cell (.int n2), .cell (.int n3)] = some r :=
  V_le (X := X_spec_inRange) (n := 100000) (c := cOf Try.f24) (by kernel_rfl) Try.func24 (by kernel_rfl) (of_decide_eq_true (by kernel_rfl)) (Eq.trans (by kernel_rfl) h)
noncomputable def X_spec_refsOf : Ctx := { P := Try.prog, L := lay, F := sig.has, E := ext, fn := Try.f25, lv := [(0, [0, 3, 4, 9]), (2, [0, 3, 4, 5, 9])], jv := [], tp := [] }
noncomputable def spec_refsOf_L0 (l3 : List (List AC)) (n4 : Int) (l5 : List (List AC)) : Option AV := GL X_spec_refsOf 0 [(0, .v (.cell (.sl 3 l3))), (3, .al 9), (4, .v (.cell (.int n4))), (9, .arr 1 l5)]
noncomputable def spec_refsOf_L2 (l6 : List (List AC)) (n7 : Int) (n8 : Int) (l9 : List (List AC)) : Option AV := GL X_spec_refsOf 2 [(0, .v (.cell (.sl 3 l6))), (3, .al 9), (4, .v (.cell (.int n7))), (5, .v (.cell (.int n8))), (9, .arr 1 l9)]
theorem spec_refsOf_L0_le {l3 : List (List AC)} {n4 : Int} {l5 : List (List AC)} {r : AV} (h : (
    bif (decide (n4 < ((l3.length : Nat) : Int))) then
        spec_refsOf_L2 l3 n4 0 l5
      else
        some (.v (.cell (.sl 1 l5))) : Option AV) = some r) : spec_refsOf_L0 l3 n4 l5 = some r :=
  GL_le (X := X_spec_refsOf) (n := 100000) (by kernel_rfl) (by kernel_rfl : (X_spec_refsOf.fn.body.bind fun c => locL 0 c []) = some (.loop (loopOf (X_spec_refsOf.fn.body.bind fun c => locL 0 c [])), ksOf (X_spec_refsOf.fn.body.bind fun c => locL 0 c []))) (Eq.trans (by kernel_rfl) h)
theorem spec_refsOf_L2_le {l6 : List (List AC)} {n7 : Int} {n8 : Int} {l9 : List (List AC)} {r : AV} (h : (
    atR_ l6 n7 [.int 0, .int 0, .sl 1 []] fun n10 n11 l12 =>
      bif (decide (n8 < ((l12.length : Nat) : Int))) then
        atR_ l6 n7 [.int 0, .int 0, .sl 1 []] fun n13 n14 l15 =>
        atR_ l15 n8 [.int 0] fun n16 =>
        callR (spec_isLive [.cell (.sl 3 l6), .cell (.int n16)]) false [(false, [.bool false])] fun b17 =>
        bif b17 then
          atR_ l6 n7 [.int 0, .int 0, .sl 1 []] fun n18 n19 l20 =>
          atR_ l20 n8 [.int 0] fun n21 =>
          idxR l9 (wrapI (n21 - 1000)) fun m22 =>
          elR l9 m22 0 1 [.int 0] fun n23 =>
          idxR l9 (wrapI (n21 - 1000)) fun m24 =>
          setR l9 m24 0 [.int (wrapI (n23 + 1))] fun l25 =>
          spec_refsOf_L2 l6 n7 (wrapI (n8 + 1)) l25
        else
          spec_refsOf_L2 l6 n7 (wrapI (n8 + 1)) l9
      else
        spec_refsOf_L0 l6 (wrapI (n7 + 1)) l9 : Option AV) = some r) : spec_refsOf_L2 l6 n7 n8 l9 = some r :=
  GL_le (X := X_spec_refsOf) (n := 100000) (by kernel_rfl) (by kernel_rfl : (X_spec_refsOf.fn.body.bind fun c => locL 2 c []) = some (.loop (loopOf (X_spec_refsOf.fn.body.bind fun c => locL 2 c [])), ksOf (X_spec_refsOf.fn.body.bind fun c => locL 2 c []))) (Eq.trans (by kernel_rfl) h)
theorem spec_refsOf_le {l1 : List (List AC)} {r : AV} (h : (
    repR ((l1.length : Nat) : Int) ((l1.length : Nat) : Int) [.int 0] fun l2 =>
      spec_refsOf_L0 l1 0 l2 : Option AV) = some r) : spec_refsOf [.cell (.sl 3 l1)] = some r :=
  V_le (X := X_spec_refsOf) (n := 100000) (c := cOf Try.f25) (by kernel_rfl) Try.func25 (by kernel_rfl) (of_decide_eq_true (by kernel_rfl)) (Eq.trans (by kernel_rfl) h)
noncomputable def X_laws_szIntS : Ctx := { P := Try.prog, L := lay, F := sig.has, E := ext, fn := Try.f26, lv := [], jv := [], tp := [] }
theorem laws_szIntS_le {l1 : List (List AC)} {n2 : Int} {r : AV} (h : (
    bif (decide ((wrapI (n2 - ((l1.length : Nat) : Int))) < 0)) then
        some (.v (.cell (.int (-1))))
      else
        some (.v (.cell (.int (wrapI (n2 - ((l1.length : Nat) : Int)))))) : Option AV) = some r) : laws_szIntS [.cell (.sl 1 l1), .cell (.int n2)] = some r :=
  V_le (X := X_laws_szIntS) (n := 100000) (c := cOf Try.f26) (by kernel_rfl) Try.func26 (by kernel_rfl) (of_decide_eq_true (by kernel_rfl)) (Eq.trans (by kernel_rfl) h)
noncomputable def X_spec_validCell : Ctx := { P := Try.prog, L := lay, F := sig.has, E := ext, fn := Try.f27, lv := [(0, [0, 3, 5])], jv := [], tp := [] }
noncomputable def spec_validCell_L0 (l7 : List (List AC)) (n8 : Int) (n9 : Int) (l10 : List (List AC)) (n11 : Int) : Option AV := GL X_spec_validCell 0 [(0, .v (.cell (.sl 3 l7))), (3, .box [.int n8, .int n9, .sl 1 l10]), (5, .v (.cell (.int n11)))]
theorem spec_validCell_L0_le {l7 : List (List AC)} {n8 : Int} {n9 : Int} {l10 : List (List AC)} {n11 : Int} {r : AV} (h : (
    bif (decide (n11 < ((l10.length : Nat) : Int))) then
        atR_ l10 n11 [.int 0] fun n12 =>
        callR (spec_isWord [.cell (.sl 3 l7), .cell (.int n12)]) false [(false, [.bool false])] fun b13 =>
        bif (!b13) then
          some (.v (.cell (.bool false)))
        else
          spec_validCell_L0 l7 n8 n9 l10 (wrapI (n11 + 1))
      else
        callR (spec_inRange [.cell (.int n9), .cell (.int 0), .cell (.int 99)]) false [(false, [.bool false])] fun b14 =>
        some (.v (.cell (.bool b14))) : Option AV) = some r) : spec_validCell_L0 l7 n8 n9 l10 n11 = some r :=
  GL_le (X := X_spec_validCell) (n := 100000) (by kernel_rfl) (by kernel_rfl : (X_spec_validCell.fn.body.bind fun c => locL 0 c []) = some (.loop (loopOf (X_spec_validCell.fn.body.bind fun c => locL 0 c [])), ksOf (X_spec_validCell.fn.body.bind fun c => locL 0 c []))) (Eq.trans (by kernel_rfl) h)
theorem spec_validCell_le {l1 : List (List AC)} {n2 : Int} {n3 : Int} {l4 : List (List AC)} {r : AV} (h : (
    bif (decide (((l4.length : Nat) : Int) > 3)) then
        some (.v (.cell (.bool false)))
      else
        callR (spec_inRange [.cell (.int n2), .cell (.int (-1)), .cell (.int 999999)]) false [(false, [.bool false])] fun b5 =>
        bif (!b5) then
          some (.v (.cell (.bool false)))
        else
          bif (decide (n2 < 1)) then
            bif (n3 == 0) then
              callR (spec_allZero [.cell (.sl 1 l4)]) false [(false, [.bool false])] fun b6 =>
              bif b6 then
                bif (decide (n2 < 0)) then
                  some (.v (.cell (.bool true)))
                else
                  some (.v (.cell (.bool (((l4.length : Nat) : Int) == 0))))
              else
                some (.v (.cell (.bool false)))
            else
              some (.v (.cell (.bool false)))
          else
            spec_validCell_L0 l1 n2 n3 l4 0 : Option AV) = some r) : spec_validCell [.cell (.sl 3 l1), .agg [.int n2, .int n3, .sl 1 l4]] = some r :=
  V_le (X := X_spec_validCell) (n := 100000) (c := cOf Try.f27) (by kernel_rfl) Try.func27 (by kernel_rfl) (of_decide_eq_true (by kernel_rfl)) (Eq.trans (by kernel_rfl) h)
noncomputable def X_spec_isAcyclic : Ctx := { P := Try.prog, L := lay, F := sig.has, E := ext, fn := Try.f28, lv := [(0, [0, 3, 4, 5, 9]), (2, [0, 3, 4, 5, 6, 9])], jv := [], tp := [] }
noncomputable def spec_isAcyclic_L0 (l3 : List (List AC)) (n4 : Int) (b5 : Bool) (l6 : List (List AC)) : Option AV := GL X_spec_isAcyclic 0 [(0, .v (.cell (.sl 3 l3))), (3, .al 9), (4, .v (.cell (.int n4))), (5, .v (.cell (.bool b5))), (9, .arr 1 l6)]
noncomputable def spec_isAcyclic_L2 (l7 : List (List AC)) (n8 : Int) (b9 : Bool) (n10 : Int) (l11 : List (List AC)) : Option AV := GL X_spec_isAcyclic 2 [(0, .v (.cell (.sl 3 l7))), (3, .al 9), (4, .v (.cell (.int n8))), (5, .v (.cell (.bool b9))), (6, .v (.cell (.int n10))), (9, .arr 1 l11)]
theorem spec_isAcyclic_L0_le {l3 : List (List AC)} {n4 : Int} {b5 : Bool} {l6 : List (List AC)} {r : AV} (h : (
    bif b5 then
        spec_isAcyclic_L2 l3 n4 false 0 l6
      else
        some (.v (.cell (.bool (n4 == ((l3.length : Nat) : Int))))) : Option AV) = some r) : spec_isAcyclic_L0 l3 n4 b5 l6 = some r :=
  GL_le (X := X_spec_isAcyclic) (n := 100000) (by kernel_rfl) (by kernel_rfl : (X_spec_isAcyclic.fn.body.bind fun c => locL 0 c []) = some (.loop (loopOf (X_spec_isAcyclic.fn.body.bind fun c => locL 0 c [])), ksOf (X_spec_isAcyclic.fn.body.bind fun c => locL 0 c []))) (Eq.trans (by kernel_rfl) h)
theorem spec_isAcyclic_L2_le {l7 : List (List AC)} {n8 : Int} {b9 : Bool} {n10 : Int} {l11 : List (List AC)} {r : AV} (h : (
    bif (decide (n10 < ((l7.length : Nat) : Int))) then
        idxR l11 n10 fun m12 =>
        elR l11 m12 0 1 [.bool false] fun b13 =>
        bif (!b13) then
          atR_ l7 n10 [.int 0, .int 0, .sl 1 []] fun n14 n15 l16 =>
          callF (spec_allMarked [.cell (.sl 1 l11), .cell (.sl 1 l16)]) false [(false, [.bool false])] fun b17 =>
          bif b17 then
            idxR l11 n10 fun m18 =>
            setR l11 m18 0 [.bool true] fun l19 =>
            spec_isAcyclic_L2 l7 (wrapI (n8 + 1)) true (wrapI (n10 + 1)) l19
          else
            spec_isAcyclic_L2 l7 n8 b9 (wrapI (n10 + 1)) l11
        else
          spec_isAcyclic_L2 l7 n8 b9 (wrapI (n10 + 1)) l11
      else
        spec_isAcyclic_L0 l7 n8 b9 l11 : Option AV) = some r) : spec_isAcyclic_L2 l7 n8 b9 n10 l11 = some r :=
  GL_le (X := X_spec_isAcyclic) (n := 100000) (by kernel_rfl) (by kernel_rfl : (X_spec_isAcyclic.fn.body.bind fun c => locL 2 c []) = some (.loop (loopOf (X_spec_isAcyclic.fn.body.bind fun c => locL 2 c [])), ksOf (X_spec_isAcyclic.fn.body.bind fun c => locL 2 c []))) (Eq.trans (by kernel_rfl) h)
theorem spec_isAcyclic_le {l1 : List (List AC)} {r : AV} (h : (
    repR ((l1.length : Nat) : Int) ((l1.length : Nat) : Int) [.bool false] fun l2 =>
      spec_isAcyclic_L0 l1 0 true l2 : Option AV) = some r) : spec_isAcyclic [.cell (.sl 3 l1)] = some r :=
  V_le (X := X_spec_isAcyclic) (n := 100000) (c := cOf Try.f28) (by kernel_rfl) Try.func28 (by kernel_rfl) (of_decide_eq_true (by kernel_rfl)) (Eq.trans (by kernel_rfl) h)
noncomputable def X_impl_allIn : Ctx := { P := Try.prog, L := lay, F := sig.has, E := ext, fn := Try.f30, lv := [(0, [1, 7, 8, 9])], jv := [], tp := [] }
noncomputable def impl_allIn_L0 (l3 : List (List AC)) (l4 : List (List AC)) (n5 : Int) (n6 : Int) : Option AV := GL X_impl_allIn 0 [(1, .v (.cell (.sl 1 l3))), (7, .v (.cell (.sl 1 l4))), (8, .v (.cell (.int n5))), (9, .v (.cell (.int n6)))]
theorem impl_allIn_L0_le {l3 : List (List AC)} {l4 : List (List AC)} {n5 : Int} {n6 : Int} {r : AV} (h : (
    bif (decide (n6 < n5)) then
        atR_ l4 n6 [.int 0] fun n7 =>
        callR (impl_hasInt [.cell (.sl 1 l3), .cell (.int n7)]) false [(false, [.bool false])] fun b8 =>
        bif (!b8) then
          some (.v (.cell (.bool false)))
        else
          impl_allIn_L0 l3 l4 n5 (wrapI (n6 + 1))
      else
        some (.v (.cell (.bool true))) : Option AV) = some r) : impl_allIn_L0 l3 l4 n5 n6 = some r :=
  GL_le (X := X_impl_allIn) (n := 100000) (by kernel_rfl) (by kernel_rfl : (X_impl_allIn.fn.body.bind fun c => locL 0 c []) = some (.loop (loopOf (X_impl_allIn.fn.body.bind fun c => locL 0 c [])), ksOf (X_impl_allIn.fn.body.bind fun c => locL 0 c []))) (Eq.trans (by kernel_rfl) h)
theorem impl_allIn_le {l1 : List (List AC)} {l2 : List (List AC)} {r : AV} (h : (
    impl_allIn_L0 l2 l1 ((l1.length : Nat) : Int) 0 : Option AV) = some r) : impl_allIn [.cell (.sl 1 l1), .cell (.sl 1 l2)] = some r :=
  V_le (X := X_impl_allIn) (n := 100000) (c := cOf Try.f30) (by kernel_rfl) Try.func30 (by kernel_rfl) (of_decide_eq_true (by kernel_rfl)) (Eq.trans (by kernel_rfl) h)
noncomputable def X_impl_areWords : Ctx := { P := Try.prog, L := lay, F := sig.has, E := ext, fn := Try.f31, lv := [(0, [0, 7, 8, 9])], jv := [], tp := [] }
noncomputable def impl_areWords_L0 (l3 : List (List AC)) (l4 : List (List AC)) (n5 : Int) (n6 : Int) : Option AV := GL X_impl_areWords 0 [(0, .v (.cell (.sl 3 l3))), (7, .v (.cell (.sl 1 l4))), (8, .v (.cell (.int n5))), (9, .v (.cell (.int n6)))]
theorem impl_areWords_L0_le {l3 : List (List AC)} {l4 : List (List AC)} {n5 : Int} {n6 : Int} {r : AV} (h : (
    bif (decide (n6 < n5)) then
        atR_ l4 n6 [.int 0] fun n7 =>
        callR (impl_isWord [.cell (.sl 3 l3), .cell (.int n7)]) false [(false, [.bool false])] fun b8 =>
        bif (!b8) then
          some (.v (.cell (.bool false)))
        else
          impl_areWords_L0 l3 l4 n5 (wrapI (n6 + 1))
      else
        some (.v (.cell (.bool true))) : Option AV) = some r) : impl_areWords_L0 l3 l4 n5 n6 = some r :=
  GL_le (X := X_impl_areWords) (n := 100000) (by kernel_rfl) (by kernel_rfl : (X_impl_areWords.fn.body.bind fun c => locL 0 c []) = some (.loop (loopOf (X_impl_areWords.fn.body.bind fun c => locL 0 c [])), ksOf (X_impl_areWords.fn.body.bind fun c => locL 0 c []))) (Eq.trans (by kernel_rfl) h)
theorem impl_areWords_le {l1 : List (List AC)} {l2 : List (List AC)} {r : AV} (h : (
    impl_areWords_L0 l1 l2 ((l2.length : Nat) : Int) 0 : Option AV) = some r) : impl_areWords [.cell (.sl 3 l1), .cell (.sl 1 l2)] = some r :=
  V_le (X := X_impl_areWords) (n := 100000) (c := cOf Try.f31) (by kernel_rfl) Try.func31 (by kernel_rfl) (of_decide_eq_true (by kernel_rfl)) (Eq.trans (by kernel_rfl) h)
noncomputable def X_impl_cellOfWord : Ctx := { P := Try.prog, L := lay, F := sig.has, E := ext, fn := Try.f32, lv := [], jv := [], tp := [] }
theorem impl_cellOfWord_le {n1 : Int} {r : AV} (h : (
    bif (decide (n1 < 1000)) then
        some (.v (.cell (.int (-1))))
      else
        some (.v (.cell (.int (wrapI (n1 - 1000))))) : Option AV) = some r) : impl_cellOfWord [.cell (.int n1)] = some r :=
  V_le (X := X_impl_cellOfWord) (n := 100000) (c := cOf Try.f32) (by kernel_rfl) Try.func32 (by kernel_rfl) (of_decide_eq_true (by kernel_rfl)) (Eq.trans (by kernel_rfl) h)
noncomputable def X_impl_copyInts : Ctx := { P := Try.prog, L := lay, F := sig.has, E := ext, fn := Try.f33, lv := [(0, [3, 6, 7, 8])], jv := [], tp := [] }
noncomputable def impl_copyInts_L0 (l2 : List (List AC)) (l3 : List (List AC)) (n4 : Int) (n5 : Int) : Option AV := GL X_impl_copyInts 0 [(3, .v (.cell (.sl 1 l2))), (6, .v (.cell (.sl 1 l3))), (7, .v (.cell (.int n4))), (8, .v (.cell (.int n5)))]
theorem impl_copyInts_L0_le {l2 : List (List AC)} {l3 : List (List AC)} {n4 : Int} {n5 : Int} {r : AV} (h : (
    bif (decide (n5 < n4)) then
        atR_ l3 n5 [.int 0] fun n6 =>
        appR l2 [[.int n6]] fun l7 =>
        impl_copyInts_L0 l7 l3 n4 (wrapI (n5 + 1))
      else
        some (.v (.cell (.sl 1 l2))) : Option AV) = some r) : impl_copyInts_L0 l2 l3 n4 n5 = some r :=
  GL_le (X := X_impl_copyInts) (n := 100000) (by kernel_rfl) (by kernel_rfl : (X_impl_copyInts.fn.body.bind fun c => locL 0 c []) = some (.loop (loopOf (X_impl_copyInts.fn.body.bind fun c => locL 0 c [])), ksOf (X_impl_copyInts.fn.body.bind fun c => locL 0 c []))) (Eq.trans (by kernel_rfl) h)
theorem impl_copyInts_le {l1 : List (List AC)} {r : AV} (h : (
    impl_copyInts_L0 [] l1 ((l1.length : Nat) : Int) 0 : Option AV) = some r) : impl_copyInts [.cell (.sl 1 l1)] = some r :=
  V_le (X := X_impl_copyInts) (n := 100000) (c := cOf Try.f33) (by kernel_rfl) Try.func33 (by kernel_rfl) (of_decide_eq_true (by kernel_rfl)) (Eq.trans (by kernel_rfl) h)
noncomputable def X_laws_eqIntS : Ctx := { P := Try.prog, L := lay, F := sig.has, E := ext, fn := Try.f34, lv := [(0, [0, 1, 5])], jv := [], tp := [] }
noncomputable def laws_eqIntS_L0 (l3 : List (List AC)) (l4 : List (List AC)) (n5 : Int) : Option AV := GL X_laws_eqIntS 0 [(0, .v (.cell (.sl 1 l3))), (1, .v (.cell (.sl 1 l4))), (5, .v (.cell (.int n5)))]
theorem laws_eqIntS_L0_le {l3 : List (List AC)} {l4 : List (List AC)} {n5 : Int} {r : AV} (h : (
    bif (decide (n5 < ((l3.length : Nat) : Int))) then
        atR_ l3 n5 [.int 0] fun n6 =>
        atR_ l4 n5 [.int 0] fun n7 =>
        bif (n6 != n7) then
          some (.v (.cell (.bool false)))
        else
          laws_eqIntS_L0 l3 l4 (wrapI (n5 + 1))
      else
        some (.v (.cell (.bool true))) : Option AV) = some r) : laws_eqIntS_L0 l3 l4 n5 = some r :=
  GL_le (X := X_laws_eqIntS) (n := 100000) (by kernel_rfl) (by kernel_rfl : (X_laws_eqIntS.fn.body.bind fun c => locL 0 c []) = some (.loop (loopOf (X_laws_eqIntS.fn.body.bind fun c => locL 0 c [])), ksOf (X_laws_eqIntS.fn.body.bind fun c => locL 0 c []))) (Eq.trans (by kernel_rfl) h)
theorem laws_eqIntS_le {l1 : List (List AC)} {l2 : List (List AC)} {r : AV} (h : (
    bif (((l1.length : Nat) : Int) != ((l2.length : Nat) : Int)) then
        some (.v (.cell (.bool false)))
      else
        laws_eqIntS_L0 l1 l2 0 : Option AV) = some r) : laws_eqIntS [.cell (.sl 1 l1), .cell (.sl 1 l2)] = some r :=
  V_le (X := X_laws_eqIntS) (n := 100000) (c := cOf Try.f34) (by kernel_rfl) Try.func34 (by kernel_rfl) (of_decide_eq_true (by kernel_rfl)) (Eq.trans (by kernel_rfl) h)
noncomputable def X_spec_isLive : Ctx := { P := Try.prog, L := lay, F := sig.has, E := ext, fn := Try.f35, lv := [], jv := [], tp := [] }
theorem spec_isLive_le {l1 : List (List AC)} {n2 : Int} {r : AV} (h : (
    callR (spec_inRange [.cell (.int (wrapI (n2 - 1000))), .cell (.int 0), .cell (.int (wrapI (((l1.length : Nat) : Int) - 1)))]) false [(false, [.bool false])] fun b3 =>
      bif b3 then
        callR (spec_isPointer [.cell (.int n2)]) false [(false, [.bool false])] fun b4 =>
        bif b4 then
          atR_ l1 (wrapI (n2 - 1000)) [.int 0, .int 0, .sl 1 []] fun n5 n6 l7 =>
          some (.v (.cell (.bool (decide (n5 > 0)))))
        else
          some (.v (.cell (.bool false)))
      else
        some (.v (.cell (.bool false))) : Option AV) = some r) : spec_isLive [.cell (.sl 3 l1), .cell (.int n2)] = some r :=
  V_le (X := X_spec_isLive) (n := 100000) (c := cOf Try.f35) (by kernel_rfl) Try.func35 (by kernel_rfl) (of_decide_eq_true (by kernel_rfl)) (Eq.trans (by kernel_rfl) h)
noncomputable def X_spec_allZero : Ctx := { P := Try.prog, L := lay, F := sig.has, E := ext, fn := Try.f36, lv := [(0, [0, 3])], jv := [], tp := [] }
noncomputable def spec_allZero_L0 (l2 : List (List AC)) (n3 : Int) : Option AV := GL X_spec_allZero 0 [(0, .v (.cell (.sl 1 l2))), (3, .v (.cell (.int n3)))]
theorem spec_allZero_L0_le {l2 : List (List AC)} {n3 : Int} {r : AV} (h : (
    bif (decide (n3 < ((l2.length : Nat) : Int))) then
        atR_ l2 n3 [.int 0] fun n4 =>
        bif (n4 != 0) then
          some (.v (.cell (.bool false)))
        else
          spec_allZero_L0 l2 (wrapI (n3 + 1))
      else
        some (.v (.cell (.bool true))) : Option AV) = some r) : spec_allZero_L0 l2 n3 = some r :=
  GL_le (X := X_spec_allZero) (n := 100000) (by kernel_rfl) (by kernel_rfl : (X_spec_allZero.fn.body.bind fun c => locL 0 c []) = some (.loop (loopOf (X_spec_allZero.fn.body.bind fun c => locL 0 c [])), ksOf (X_spec_allZero.fn.body.bind fun c => locL 0 c []))) (Eq.trans (by kernel_rfl) h)
theorem spec_allZero_le {l1 : List (List AC)} {r : AV} (h : (
    spec_allZero_L0 l1 0 : Option AV) = some r) : spec_allZero [.cell (.sl 1 l1)] = some r :=
  V_le (X := X_spec_allZero) (n := 100000) (c := cOf Try.f36) (by kernel_rfl) Try.func36 (by kernel_rfl) (of_decide_eq_true (by kernel_rfl)) (Eq.trans (by kernel_rfl) h)
noncomputable def X_spec_isWord : Ctx := { P := Try.prog, L := lay, F := sig.has, E := ext, fn := Try.f37, lv := [], jv := [], tp := [] }
theorem spec_isWord_le {l1 : List (List AC)} {n2 : Int} {r : AV} (h : (
    callR (spec_inRange [.cell (.int n2), .cell (.int (-999)), .cell (.int 999)]) false [(false, [.bool false])] fun b3 =>
      bif b3 then
        some (.v (.cell (.bool true)))
      else
        callR (spec_isLive [.cell (.sl 3 l1), .cell (.int n2)]) false [(false, [.bool false])] fun b4 =>
        some (.v (.cell (.bool b4))) : Option AV) = some r) : spec_isWord [.cell (.sl 3 l1), .cell (.int n2)] = some r :=
  V_le (X := X_spec_isWord) (n := 100000) (c := cOf Try.f37) (by kernel_rfl) Try.func37 (by kernel_rfl) (of_decide_eq_true (by kernel_rfl)) (Eq.trans (by kernel_rfl) h)
noncomputable def X_spec_allMarked : Ctx := { P := Try.prog, L := lay, F := sig.has, E := ext, fn := Try.f38, lv := [(0, [0, 1, 5])], jv := [], tp := [] }
noncomputable def spec_allMarked_L0 (l3 : List (List AC)) (l4 : List (List AC)) (n5 : Int) : Option AV := GL X_spec_allMarked 0 [(0, .v (.cell (.sl 1 l3))), (1, .v (.cell (.sl 1 l4))), (5, .v (.cell (.int n5)))]
theorem spec_allMarked_L0_le {l3 : List (List AC)} {l4 : List (List AC)} {n5 : Int} {r : AV} (h : (
    bif (decide (n5 < ((l4.length : Nat) : Int))) then
        atR_ l4 n5 [.int 0] fun n6 =>
        callR (spec_isPointer [.cell (.int n6)]) false [(false, [.bool false])] fun b7 =>
        bif b7 then
          atR_ l4 n5 [.int 0] fun n8 =>
          atR_ l3 (wrapI (n8 - 1000)) [.bool false] fun b9 =>
          bif (!b9) then
            some (.v (.cell (.bool false)))
          else
            spec_allMarked_L0 l3 l4 (wrapI (n5 + 1))
        else
          spec_allMarked_L0 l3 l4 (wrapI (n5 + 1))
      else
        some (.v (.cell (.bool true))) : Option AV) = some r) : spec_allMarked_L0 l3 l4 n5 = some r :=
  GL_le (X := X_spec_allMarked) (n := 100000) (by kernel_rfl) (by kernel_rfl : (X_spec_allMarked.fn.body.bind fun c => locL 0 c []) = some (.loop (loopOf (X_spec_allMarked.fn.body.bind fun c => locL 0 c [])), ksOf (X_spec_allMarked.fn.body.bind fun c => locL 0 c []))) (Eq.trans (by kernel_rfl) h)
theorem spec_allMarked_le {l1 : List (List AC)} {l2 : List (List AC)} {r : AV} (h : (
    spec_allMarked_L0 l1 l2 0 : Option AV) = some r) : spec_allMarked [.cell (.sl 1 l1), .cell (.sl 1 l2)] = some r :=
  V_le (X := X_spec_allMarked) (n := 100000) (c := cOf Try.f38) (by kernel_rfl) Try.func38 (by kernel_rfl) (of_decide_eq_true (by kernel_rfl)) (Eq.trans (by kernel_rfl) h)
noncomputable def X_impl_hasInt : Ctx := { P := Try.prog, L := lay, F := sig.has, E := ext, fn := Try.f39, lv := [(0, [1, 7, 8, 9])], jv := [], tp := [] }
noncomputable def impl_hasInt_L0 (n3 : Int) (l4 : List (List AC)) (n5 : Int) (n6 : Int) : Option AV := GL X_impl_hasInt 0 [(1, .v (.cell (.int n3))), (7, .v (.cell (.sl 1 l4))), (8, .v (.cell (.int n5))), (9, .v (.cell (.int n6)))]
theorem impl_hasInt_L0_le {n3 : Int} {l4 : List (List AC)} {n5 : Int} {n6 : Int} {r : AV} (h : (
    bif (decide (n6 < n5)) then
        atR_ l4 n6 [.int 0] fun n7 =>
        bif (n7 == n3) then
          some (.v (.cell (.bool true)))
        else
          impl_hasInt_L0 n3 l4 n5 (wrapI (n6 + 1))
      else
        some (.v (.cell (.bool false))) : Option AV) = some r) : impl_hasInt_L0 n3 l4 n5 n6 = some r :=
  GL_le (X := X_impl_hasInt) (n := 100000) (by kernel_rfl) (by kernel_rfl : (X_impl_hasInt.fn.body.bind fun c => locL 0 c []) = some (.loop (loopOf (X_impl_hasInt.fn.body.bind fun c => locL 0 c [])), ksOf (X_impl_hasInt.fn.body.bind fun c => locL 0 c []))) (Eq.trans (by kernel_rfl) h)
theorem impl_hasInt_le {l1 : List (List AC)} {n2 : Int} {r : AV} (h : (
    impl_hasInt_L0 n2 l1 ((l1.length : Nat) : Int) 0 : Option AV) = some r) : impl_hasInt [.cell (.sl 1 l1), .cell (.int n2)] = some r :=
  V_le (X := X_impl_hasInt) (n := 100000) (c := cOf Try.f39) (by kernel_rfl) Try.func39 (by kernel_rfl) (of_decide_eq_true (by kernel_rfl)) (Eq.trans (by kernel_rfl) h)
noncomputable def X_impl_isWord : Ctx := { P := Try.prog, L := lay, F := sig.has, E := ext, fn := Try.f40, lv := [], jv := [], tp := [] }
theorem impl_isWord_le {l1 : List (List AC)} {n2 : Int} {r : AV} (h : (
    callR (impl_inInts [.cell (.int n2)]) false [(false, [.bool false])] fun b3 =>
      bif b3 then
        some (.v (.cell (.bool true)))
      else
        callR (impl_cellOfWord [.cell (.int n2)]) false [(false, [.int 0])] fun n4 =>
        callR (impl_isLive [.cell (.sl 3 l1), .cell (.int n4)]) false [(false, [.bool false])] fun b5 =>
        some (.v (.cell (.bool b5))) : Option AV) = some r) : impl_isWord [.cell (.sl 3 l1), .cell (.int n2)] = some r :=
  V_le (X := X_impl_isWord) (n := 100000) (c := cOf Try.f40) (by kernel_rfl) Try.func40 (by kernel_rfl) (of_decide_eq_true (by kernel_rfl)) (Eq.trans (by kernel_rfl) h)
noncomputable def X_spec_isPointer : Ctx := { P := Try.prog, L := lay, F := sig.has, E := ext, fn := Try.f41, lv := [], jv := [], tp := [] }
theorem spec_isPointer_le {n1 : Int} {r : AV} (h : (
    some (.v (.cell (.bool (decide (n1 ≥ 1000))))) : Option AV) = some r) : spec_isPointer [.cell (.int n1)] = some r :=
  V_le (X := X_spec_isPointer) (n := 100000) (c := cOf Try.f41) (by kernel_rfl) Try.func41 (by kernel_rfl) (of_decide_eq_true (by kernel_rfl)) (Eq.trans (by kernel_rfl) h)
noncomputable def X_impl_inInts : Ctx := { P := Try.prog, L := lay, F := sig.has, E := ext, fn := Try.f42, lv := [], jv := [], tp := [] }
theorem impl_inInts_le {n1 : Int} {r : AV} (h : (
    bif (decide (n1 ≥ (-999))) then
        some (.v (.cell (.bool (decide (n1 ≤ 999)))))
      else
        some (.v (.cell (.bool false))) : Option AV) = some r) : impl_inInts [.cell (.int n1)] = some r :=
  V_le (X := X_impl_inInts) (n := 100000) (c := cOf Try.f42) (by kernel_rfl) Try.func42 (by kernel_rfl) (of_decide_eq_true (by kernel_rfl)) (Eq.trans (by kernel_rfl) h)
noncomputable def X_laws_toCell : Ctx := { P := Try.prog, L := lay, F := sig.has, E := ext, fn := Try.f17, lv := [], jv := [], tp := [] }
theorem laws_toCell_le {n1 : Int} {n2 : Int} {l3 : List (List AC)} {r : AV} (h : (
    callR (laws_toIntS [.cell (.sl 1 l3)]) false [(false, [.sl 1 []])] fun l4 =>
      some (.v (.agg [.int n1, .int n2, .sl 1 l4])) : Option AV) = some r) : laws_toCell [.agg [.int n1, .int n2, .sl 1 l3]] = some r :=
  V_le (X := X_laws_toCell) (n := 100000) (c := cOf Try.f17) (by kernel_rfl) Try.func17 (by kernel_rfl) (of_decide_eq_true (by kernel_rfl)) (Eq.trans (by kernel_rfl) h)
end Go.Proofs.Ytnnalagflpmedaa
