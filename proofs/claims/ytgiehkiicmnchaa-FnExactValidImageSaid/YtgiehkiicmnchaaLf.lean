/- What functions compute, place by place. MADE BY lift.py. -/
import Derived.Test.YtgiehkiicmnchaaOb
import Derived.Test.YtgiehkiicmnchaaXt
set_option maxRecDepth 100000
set_option linter.unusedVariables false
namespace Go.Proofs.Ytgiehkiicmnchaa
open Go
noncomputable def laws_FnExactValidImage (x : List SV) : Option AV := V Try.prog lay sig.has ext 3 x
noncomputable def laws_szImage (x : List SV) : Option AV := V Try.prog lay sig.has ext 4 x
noncomputable def spec_ValidImage (x : List SV) : Option AV := V Try.prog lay sig.has ext 5 x
noncomputable def laws_toImage (x : List SV) : Option AV := V Try.prog lay sig.has ext 6 x
noncomputable def impl_ValidImage (x : List SV) : Option AV := V Try.prog lay sig.has ext 7 x
noncomputable def laws_eqImage (x : List SV) : Option AV := V Try.prog lay sig.has ext 8 x
noncomputable def laws_szDeclS (x : List SV) : Option AV := V Try.prog lay sig.has ext 9 x
noncomputable def laws_szProcS (x : List SV) : Option AV := V Try.prog lay sig.has ext 10 x
noncomputable def spec_validImage (x : List SV) : Option AV := V Try.prog lay sig.has ext 11 x
noncomputable def laws_toDeclS (x : List SV) : Option AV := V Try.prog lay sig.has ext 12 x
noncomputable def laws_toProcS (x : List SV) : Option AV := V Try.prog lay sig.has ext 13 x
noncomputable def impl_headsOf (x : List SV) : Option AV := V Try.prog lay sig.has ext 14 x
noncomputable def impl_validRoutineSigs (x : List SV) : Option AV := V Try.prog lay sig.has ext 15 x
noncomputable def impl_validProc (x : List SV) : Option AV := V Try.prog lay sig.has ext 16 x
noncomputable def laws_eqDeclS (x : List SV) : Option AV := V Try.prog lay sig.has ext 17 x
noncomputable def laws_eqProcS (x : List SV) : Option AV := V Try.prog lay sig.has ext 18 x
noncomputable def laws_szDecl (x : List SV) : Option AV := V Try.prog lay sig.has ext 19 x
noncomputable def laws_szProc (x : List SV) : Option AV := V Try.prog lay sig.has ext 20 x
noncomputable def spec_validSigs (x : List SV) : Option AV := V Try.prog lay sig.has ext 21 x
noncomputable def spec_sigsOfImage (x : List SV) : Option AV := V Try.prog lay sig.has ext 22 x
noncomputable def spec_validProc (x : List SV) : Option AV := V Try.prog lay sig.has ext 23 x
noncomputable def laws_toDecl (x : List SV) : Option AV := V Try.prog lay sig.has ext 24 x
noncomputable def laws_toProc (x : List SV) : Option AV := V Try.prog lay sig.has ext 25 x
noncomputable def impl_ValidSigs (x : List SV) : Option AV := V Try.prog lay sig.has ext 26 x
noncomputable def impl_sigsOf (x : List SV) : Option AV := V Try.prog lay sig.has ext 27 x
noncomputable def impl_validLent (x : List SV) : Option AV := V Try.prog lay sig.has ext 28 x
noncomputable def impl_validInstr (x : List SV) : Option AV := V Try.prog lay sig.has ext 29 x
noncomputable def impl_leavesFrame (x : List SV) : Option AV := V Try.prog lay sig.has ext 30 x
noncomputable def laws_eqDecl (x : List SV) : Option AV := V Try.prog lay sig.has ext 31 x
noncomputable def laws_eqProc (x : List SV) : Option AV := V Try.prog lay sig.has ext 32 x
noncomputable def laws_szConS (x : List SV) : Option AV := V Try.prog lay sig.has ext 33 x
noncomputable def laws_szIntS (x : List SV) : Option AV := V Try.prog lay sig.has ext 34 x
noncomputable def laws_szInstrS (x : List SV) : Option AV := V Try.prog lay sig.has ext 35 x
noncomputable def spec_validTypes (x : List SV) : Option AV := V Try.prog lay sig.has ext 36 x
noncomputable def spec_inRange (x : List SV) : Option AV := V Try.prog lay sig.has ext 37 x
noncomputable def spec_allTypes (x : List SV) : Option AV := V Try.prog lay sig.has ext 38 x
noncomputable def spec_validLent (x : List SV) : Option AV := V Try.prog lay sig.has ext 39 x
noncomputable def spec_validInstr (x : List SV) : Option AV := V Try.prog lay sig.has ext 40 x
noncomputable def laws_toConS (x : List SV) : Option AV := V Try.prog lay sig.has ext 41 x
noncomputable def laws_toIntS (x : List SV) : Option AV := V Try.prog lay sig.has ext 42 x
noncomputable def laws_toInstrS (x : List SV) : Option AV := V Try.prog lay sig.has ext 43 x
noncomputable def impl_ValidTypes (x : List SV) : Option AV := V Try.prog lay sig.has ext 44 x
noncomputable def impl_validSig (x : List SV) : Option AV := V Try.prog lay sig.has ext 45 x
noncomputable def impl_isInstr (x : List SV) : Option AV := V Try.prog lay sig.has ext 46 x
noncomputable def impl_validNum (x : List SV) : Option AV := V Try.prog lay sig.has ext 47 x
noncomputable def impl_validArgs (x : List SV) : Option AV := V Try.prog lay sig.has ext 48 x
noncomputable def impl_validJumps (x : List SV) : Option AV := V Try.prog lay sig.has ext 49 x
noncomputable def impl_validRegs (x : List SV) : Option AV := V Try.prog lay sig.has ext 50 x
noncomputable def laws_eqConS (x : List SV) : Option AV := V Try.prog lay sig.has ext 51 x
noncomputable def laws_eqIntS (x : List SV) : Option AV := V Try.prog lay sig.has ext 52 x
noncomputable def laws_eqInstrS (x : List SV) : Option AV := V Try.prog lay sig.has ext 53 x
noncomputable def laws_szCon (x : List SV) : Option AV := V Try.prog lay sig.has ext 54 x
noncomputable def laws_szInstr (x : List SV) : Option AV := V Try.prog lay sig.has ext 55 x
noncomputable def spec_validDecl (x : List SV) : Option AV := V Try.prog lay sig.has ext 56 x
noncomputable def spec_sets (x : List SV) : Option AV := V Try.prog lay sig.has ext 57 x
noncomputable def spec_conType (x : List SV) : Option AV := V Try.prog lay sig.has ext 58 x
noncomputable def spec_conFields (x : List SV) : Option AV := V Try.prog lay sig.has ext 59 x
noncomputable def spec_procWith (x : List SV) : Option AV := V Try.prog lay sig.has ext 60 x
noncomputable def spec_consOf (x : List SV) : Option AV := V Try.prog lay sig.has ext 61 x
noncomputable def spec_validJumps (x : List SV) : Option AV := V Try.prog lay sig.has ext 62 x
noncomputable def laws_toCon (x : List SV) : Option AV := V Try.prog lay sig.has ext 63 x
noncomputable def laws_toInstr (x : List SV) : Option AV := V Try.prog lay sig.has ext 64 x
noncomputable def impl_validDecl (x : List SV) : Option AV := V Try.prog lay sig.has ext 65 x
noncomputable def impl_areTypes (x : List SV) : Option AV := V Try.prog lay sig.has ext 66 x
noncomputable def impl_isType (x : List SV) : Option AV := V Try.prog lay sig.has ext 67 x
noncomputable def impl_inInts (x : List SV) : Option AV := V Try.prog lay sig.has ext 68 x
noncomputable def impl_typeOfCon (x : List SV) : Option AV := V Try.prog lay sig.has ext 69 x
noncomputable def impl_hasRoutine (x : List SV) : Option AV := V Try.prog lay sig.has ext 70 x
noncomputable def impl_lends (x : List SV) : Option AV := V Try.prog lay sig.has ext 71 x
noncomputable def impl_isLater (x : List SV) : Option AV := V Try.prog lay sig.has ext 72 x
noncomputable def impl_isData (x : List SV) : Option AV := V Try.prog lay sig.has ext 73 x
noncomputable def impl_fieldsOfCon (x : List SV) : Option AV := V Try.prog lay sig.has ext 74 x
noncomputable def impl_setsDst (x : List SV) : Option AV := V Try.prog lay sig.has ext 75 x
noncomputable def laws_eqCon (x : List SV) : Option AV := V Try.prog lay sig.has ext 76 x
noncomputable def laws_eqInstr (x : List SV) : Option AV := V Try.prog lay sig.has ext 77 x
noncomputable def spec_defines (x : List SV) : Option AV := V Try.prog lay sig.has ext 78 x
noncomputable def spec_firstCon (x : List SV) : Option AV := V Try.prog lay sig.has ext 79 x
noncomputable def impl_validCons (x : List SV) : Option AV := V Try.prog lay sig.has ext 80 x
noncomputable def impl_arrowBetween (x : List SV) : Option AV := V Try.prog lay sig.has ext 81 x
noncomputable def impl_firstCon (x : List SV) : Option AV := V Try.prog lay sig.has ext 82 x
noncomputable def impl_countCons (x : List SV) : Option AV := V Try.prog lay sig.has ext 83 x
noncomputable def X_laws_FnExactValidImage : Ctx := { P := Try.prog, L := lay, F := sig.has, E := ext, fn := Try.f3, lv := [], jv := [], tp := [] }
theorem laws_FnExactValidImage_le {l1 : List (List AC)} {l2 : List (List AC)} {r : AV} (h : (
    callR (laws_szImage [.agg [.sl 3 l1, .sl 5 l2], .cell (.int 1048576)]) false [(false, [.int 0])] fun n3 =>
      bif (decide (n3 < 0)) then
        some (.v (.cell (.bool true)))
      else
        callR (laws_toImage [.agg [.sl 3 l1, .sl 5 l2]]) false [(true, [.sl 3 [], .sl 5 []])] fun l4 l5 =>
        callR (spec_ValidImage [.agg [.sl 3 l4, .sl 5 l5]]) false [(false, [.bool false])] fun b6 =>
        callR (laws_toImage [.agg [.sl 3 l1, .sl 5 l2]]) false [(true, [.sl 3 [], .sl 5 []])] fun l7 l8 =>
        callR (impl_ValidImage [.agg [.sl 3 l7, .sl 5 l8]]) false [(false, [.bool false])] fun b9 =>
        bif (b9 != b6) then
          some (.v (.cell (.bool false)))
        else
          callR (laws_toImage [.agg [.sl 3 l1, .sl 5 l2]]) false [(true, [.sl 3 [], .sl 5 []])] fun l10 l11 =>
          callR (laws_eqImage [.agg [.sl 3 l7, .sl 5 l8], .agg [.sl 3 l10, .sl 5 l11]]) false [(false, [.bool false])] fun b12 =>
          bif (!b12) then
            some (.v (.cell (.bool false)))
          else
            some (.v (.cell (.bool true))) : Option AV) = some r) : laws_FnExactValidImage [.agg [.sl 3 l1, .sl 5 l2]] = some r :=
  V_le (X := X_laws_FnExactValidImage) (n := 100000) (c := cOf Try.f3) (by kernel_rfl) Try.func3 (by kernel_rfl) (of_decide_eq_true (by kernel_rfl)) (Eq.trans (by kernel_rfl) h)
noncomputable def X_laws_szImage : Ctx := { P := Try.prog, L := lay, F := sig.has, E := ext, fn := Try.f4, lv := [], jv := [], tp := [] }
theorem laws_szImage_le {l1 : List (List AC)} {l2 : List (List AC)} {n3 : Int} {r : AV} (h : (
    callR (laws_szDeclS [.cell (.sl 3 l1), .cell (.int n3)]) false [(false, [.int 0])] fun n4 =>
      bif (decide (n4 < 0)) then
        some (.v (.cell (.int (-1))))
      else
        callR (laws_szProcS [.cell (.sl 5 l2), .cell (.int n4)]) false [(false, [.int 0])] fun n5 =>
        bif (decide (n5 < 0)) then
          some (.v (.cell (.int (-1))))
        else
          some (.v (.cell (.int n5))) : Option AV) = some r) : laws_szImage [.agg [.sl 3 l1, .sl 5 l2], .cell (.int n3)] = some r :=
  V_le (X := X_laws_szImage) (n := 100000) (c := cOf Try.f4) (by kernel_rfl) Try.func4 (by kernel_rfl) (of_decide_eq_true (by kernel_rfl)) (Eq.trans (by kernel_rfl) h)
noncomputable def X_spec_ValidImage : Ctx := { P := Try.prog, L := lay, F := sig.has, E := ext, fn := Try.f5, lv := [], jv := [], tp := [] }
theorem spec_ValidImage_le {l1 : List (List AC)} {l2 : List (List AC)} {r : AV} (h : (
    callR (spec_validImage [.agg [.sl 3 l1, .sl 5 l2]]) false [(false, [.bool false])] fun b3 =>
      some (.v (.cell (.bool b3))) : Option AV) = some r) : spec_ValidImage [.agg [.sl 3 l1, .sl 5 l2]] = some r :=
  V_le (X := X_spec_ValidImage) (n := 100000) (c := cOf Try.f5) (by kernel_rfl) Try.func5 (by kernel_rfl) (of_decide_eq_true (by kernel_rfl)) (Eq.trans (by kernel_rfl) h)
noncomputable def X_laws_toImage : Ctx := { P := Try.prog, L := lay, F := sig.has, E := ext, fn := Try.f6, lv := [], jv := [], tp := [] }
theorem laws_toImage_le {l1 : List (List AC)} {l2 : List (List AC)} {r : AV} (h : (
    callR (laws_toDeclS [.cell (.sl 3 l1)]) false [(false, [.sl 3 []])] fun l3 =>
      callR (laws_toProcS [.cell (.sl 5 l2)]) false [(false, [.sl 5 []])] fun l4 =>
      some (.v (.agg [.sl 3 l3, .sl 5 l4])) : Option AV) = some r) : laws_toImage [.agg [.sl 3 l1, .sl 5 l2]] = some r :=
  V_le (X := X_laws_toImage) (n := 100000) (c := cOf Try.f6) (by kernel_rfl) Try.func6 (by kernel_rfl) (of_decide_eq_true (by kernel_rfl)) (Eq.trans (by kernel_rfl) h)
noncomputable def X_impl_ValidImage : Ctx := { P := Try.prog, L := lay, F := sig.has, E := ext, fn := Try.f7, lv := [(0, [3, 16, 17, 18])], jv := [], tp := [] }
noncomputable def impl_ValidImage_L0 (l6 : List (List AC)) (l7 : List (List AC)) (l8 : List (List AC)) (n9 : Int) (n10 : Int) : Option AV := GL X_impl_ValidImage 0 [(3, .box [.sl 3 l6, .sl 5 l7]), (16, .v (.cell (.sl 5 l8))), (17, .v (.cell (.int n9))), (18, .v (.cell (.int n10)))]
theorem impl_ValidImage_L0_le {l6 : List (List AC)} {l7 : List (List AC)} {l8 : List (List AC)} {n9 : Int} {n10 : Int} {r : AV} (h : (
    bif (decide (n10 < n9)) then
        atR_ l8 n10 [.sl 1 [], .sl 1 [], .int 0, .int 0, .sl 6 []] fun l11 l12 n13 n14 l15 =>
        callR (impl_validProc [.agg [.sl 3 l6, .sl 5 l7], .agg [.sl 1 l11, .sl 1 l12, .int n13, .int n14, .sl 6 l15]]) false [(false, [.bool false])] fun b16 =>
        bif (!b16) then
          some (.v (.cell (.bool false)))
        else
          impl_ValidImage_L0 l6 l7 l8 n9 (wrapI (n10 + 1))
      else
        some (.v (.cell (.bool true))) : Option AV) = some r) : impl_ValidImage_L0 l6 l7 l8 n9 n10 = some r :=
  GL_le (X := X_impl_ValidImage) (n := 100000) (by kernel_rfl) (by kernel_rfl : (X_impl_ValidImage.fn.body.bind fun c => locL 0 c []) = some (.loop (loopOf (X_impl_ValidImage.fn.body.bind fun c => locL 0 c [])), ksOf (X_impl_ValidImage.fn.body.bind fun c => locL 0 c []))) (Eq.trans (by kernel_rfl) h)
theorem impl_ValidImage_le {l1 : List (List AC)} {l2 : List (List AC)} {r : AV} (h : (
    bif (decide (((l2.length : Nat) : Int) > 4)) then
        some (.v (.cell (.bool false)))
      else
        callR (impl_headsOf [.agg [.sl 3 l1, .sl 5 l2]]) false [(true, [.sl 3 [], .sl 5 []])] fun l3 l4 =>
        callR (impl_validRoutineSigs [.agg [.sl 3 l3, .sl 5 l4]]) false [(false, [.bool false])] fun b5 =>
        bif (!b5) then
          some (.v (.cell (.bool false)))
        else
          impl_ValidImage_L0 l3 l4 l2 ((l2.length : Nat) : Int) 0 : Option AV) = some r) : impl_ValidImage [.agg [.sl 3 l1, .sl 5 l2]] = some r :=
  V_le (X := X_impl_ValidImage) (n := 100000) (c := cOf Try.f7) (by kernel_rfl) Try.func7 (by kernel_rfl) (of_decide_eq_true (by kernel_rfl)) (Eq.trans (by kernel_rfl) h)
noncomputable def X_laws_eqImage : Ctx := { P := Try.prog, L := lay, F := sig.has, E := ext, fn := Try.f8, lv := [], jv := [], tp := [] }
theorem laws_eqImage_le {l1 : List (List AC)} {l2 : List (List AC)} {l3 : List (List AC)} {l4 : List (List AC)} {r : AV} (h : (
    callR (laws_eqDeclS [.cell (.sl 3 l1), .cell (.sl 3 l3)]) false [(false, [.bool false])] fun b5 =>
      bif (!b5) then
        some (.v (.cell (.bool false)))
      else
        callR (laws_eqProcS [.cell (.sl 5 l2), .cell (.sl 5 l4)]) false [(false, [.bool false])] fun b6 =>
        bif (!b6) then
          some (.v (.cell (.bool false)))
        else
          some (.v (.cell (.bool true))) : Option AV) = some r) : laws_eqImage [.agg [.sl 3 l1, .sl 5 l2], .agg [.sl 3 l3, .sl 5 l4]] = some r :=
  V_le (X := X_laws_eqImage) (n := 100000) (c := cOf Try.f8) (by kernel_rfl) Try.func8 (by kernel_rfl) (of_decide_eq_true (by kernel_rfl)) (Eq.trans (by kernel_rfl) h)
noncomputable def X_laws_szDeclS : Ctx := { P := Try.prog, L := lay, F := sig.has, E := ext, fn := Try.f9, lv := [(0, [0, 1, 5])], jv := [], tp := [] }
noncomputable def laws_szDeclS_L0 (l3 : List (List AC)) (n4 : Int) (n5 : Int) : Option AV := GL X_laws_szDeclS 0 [(0, .v (.cell (.sl 3 l3))), (1, .v (.cell (.int n4))), (5, .v (.cell (.int n5)))]
theorem laws_szDeclS_L0_le {l3 : List (List AC)} {n4 : Int} {n5 : Int} {r : AV} (h : (
    bif (decide (n5 < ((l3.length : Nat) : Int))) then
        atR_ l3 n5 [.int 0, .int 0, .sl 1 []] fun n6 n7 l8 =>
        callR (laws_szDecl [.agg [.int n6, .int n7, .sl 1 l8], .cell (.int n4)]) false [(false, [.int 0])] fun n9 =>
        bif (decide (n9 < 0)) then
          some (.v (.cell (.int (-1))))
        else
          laws_szDeclS_L0 l3 n9 (wrapI (n5 + 1))
      else
        some (.v (.cell (.int n4))) : Option AV) = some r) : laws_szDeclS_L0 l3 n4 n5 = some r :=
  GL_le (X := X_laws_szDeclS) (n := 100000) (by kernel_rfl) (by kernel_rfl : (X_laws_szDeclS.fn.body.bind fun c => locL 0 c []) = some (.loop (loopOf (X_laws_szDeclS.fn.body.bind fun c => locL 0 c [])), ksOf (X_laws_szDeclS.fn.body.bind fun c => locL 0 c []))) (Eq.trans (by kernel_rfl) h)
theorem laws_szDeclS_le {l1 : List (List AC)} {n2 : Int} {r : AV} (h : (
    bif (decide ((wrapI (n2 - ((l1.length : Nat) : Int))) < 0)) then
        some (.v (.cell (.int (-1))))
      else
        laws_szDeclS_L0 l1 (wrapI (n2 - ((l1.length : Nat) : Int))) 0 : Option AV) = some r) : laws_szDeclS [.cell (.sl 3 l1), .cell (.int n2)] = some r :=
  V_le (X := X_laws_szDeclS) (n := 100000) (c := cOf Try.f9) (by kernel_rfl) Try.func9 (by kernel_rfl) (of_decide_eq_true (by kernel_rfl)) (Eq.trans (by kernel_rfl) h)
noncomputable def X_laws_szProcS : Ctx := { P := Try.prog, L := lay, F := sig.has, E := ext, fn := Try.f10, lv := [(0, [0, 1, 5])], jv := [], tp := [] }
noncomputable def laws_szProcS_L0 (l3 : List (List AC)) (n4 : Int) (n5 : Int) : Option AV := GL X_laws_szProcS 0 [(0, .v (.cell (.sl 5 l3))), (1, .v (.cell (.int n4))), (5, .v (.cell (.int n5)))]
theorem laws_szProcS_L0_le {l3 : List (List AC)} {n4 : Int} {n5 : Int} {r : AV} (h : (
    bif (decide (n5 < ((l3.length : Nat) : Int))) then
        atR_ l3 n5 [.sl 1 [], .sl 1 [], .int 0, .int 0, .sl 6 []] fun l6 l7 n8 n9 l10 =>
        callR (laws_szProc [.agg [.sl 1 l6, .sl 1 l7, .int n8, .int n9, .sl 6 l10], .cell (.int n4)]) false [(false, [.int 0])] fun n11 =>
        bif (decide (n11 < 0)) then
          some (.v (.cell (.int (-1))))
        else
          laws_szProcS_L0 l3 n11 (wrapI (n5 + 1))
      else
        some (.v (.cell (.int n4))) : Option AV) = some r) : laws_szProcS_L0 l3 n4 n5 = some r :=
  GL_le (X := X_laws_szProcS) (n := 100000) (by kernel_rfl) (by kernel_rfl : (X_laws_szProcS.fn.body.bind fun c => locL 0 c []) = some (.loop (loopOf (X_laws_szProcS.fn.body.bind fun c => locL 0 c [])), ksOf (X_laws_szProcS.fn.body.bind fun c => locL 0 c []))) (Eq.trans (by kernel_rfl) h)
theorem laws_szProcS_le {l1 : List (List AC)} {n2 : Int} {r : AV} (h : (
    bif (decide ((wrapI (n2 - ((l1.length : Nat) : Int))) < 0)) then
        some (.v (.cell (.int (-1))))
      else
        laws_szProcS_L0 l1 (wrapI (n2 - ((l1.length : Nat) : Int))) 0 : Option AV) = some r) : laws_szProcS [.cell (.sl 5 l1), .cell (.int n2)] = some r :=
  V_le (X := X_laws_szProcS) (n := 100000) (c := cOf Try.f10) (by kernel_rfl) Try.func10 (by kernel_rfl) (of_decide_eq_true (by kernel_rfl)) (Eq.trans (by kernel_rfl) h)
noncomputable def X_spec_validImage : Ctx := { P := Try.prog, L := lay, F := sig.has, E := ext, fn := Try.f11, lv := [(0, [1, 3])], jv := [], tp := [] }
noncomputable def spec_validImage_L0 (l6 : List (List AC)) (l7 : List (List AC)) (n8 : Int) : Option AV := GL X_spec_validImage 0 [(1, .box [.sl 3 l6, .sl 5 l7]), (3, .v (.cell (.int n8)))]
theorem spec_validImage_L0_le {l6 : List (List AC)} {l7 : List (List AC)} {n8 : Int} {r : AV} (h : (
    bif (decide (n8 < ((l7.length : Nat) : Int))) then
        atR_ l7 n8 [.sl 1 [], .sl 1 [], .int 0, .int 0, .sl 6 []] fun l9 l10 n11 n12 l13 =>
        callR (spec_validProc [.agg [.sl 3 l6, .sl 5 l7], .agg [.sl 1 l9, .sl 1 l10, .int n11, .int n12, .sl 6 l13]]) false [(false, [.bool false])] fun b14 =>
        bif (!b14) then
          some (.v (.cell (.bool false)))
        else
          spec_validImage_L0 l6 l7 (wrapI (n8 + 1))
      else
        some (.v (.cell (.bool true))) : Option AV) = some r) : spec_validImage_L0 l6 l7 n8 = some r :=
  GL_le (X := X_spec_validImage) (n := 100000) (by kernel_rfl) (by kernel_rfl : (X_spec_validImage.fn.body.bind fun c => locL 0 c []) = some (.loop (loopOf (X_spec_validImage.fn.body.bind fun c => locL 0 c [])), ksOf (X_spec_validImage.fn.body.bind fun c => locL 0 c []))) (Eq.trans (by kernel_rfl) h)
theorem spec_validImage_le {l1 : List (List AC)} {l2 : List (List AC)} {r : AV} (h : (
    bif (decide (((l2.length : Nat) : Int) > 4)) then
        some (.v (.cell (.bool false)))
      else
        callR (spec_sigsOfImage [.agg [.sl 3 l1, .sl 5 l2]]) false [(true, [.sl 3 [], .sl 5 []])] fun l3 l4 =>
        callR (spec_validSigs [.agg [.sl 3 l3, .sl 5 l4]]) false [(false, [.bool false])] fun b5 =>
        bif (!b5) then
          some (.v (.cell (.bool false)))
        else
          spec_validImage_L0 l1 l2 0 : Option AV) = some r) : spec_validImage [.agg [.sl 3 l1, .sl 5 l2]] = some r :=
  V_le (X := X_spec_validImage) (n := 100000) (c := cOf Try.f11) (by kernel_rfl) Try.func11 (by kernel_rfl) (of_decide_eq_true (by kernel_rfl)) (Eq.trans (by kernel_rfl) h)
noncomputable def X_impl_headsOf : Ctx := { P := Try.prog, L := lay, F := sig.has, E := ext, fn := Try.f14, lv := [(0, [2, 3, 10, 11, 12])], jv := [], tp := [] }
noncomputable def impl_headsOf_L0 (l3 : List (List AC)) (l4 : List (List AC)) (l5 : List (List AC)) (l6 : List (List AC)) (l7 : List (List AC)) (n8 : Int) (n9 : Int) : Option AV := GL X_impl_headsOf 0 [(2, .box [.sl 3 l3, .sl 5 l4]), (3, .box [.sl 3 l5, .sl 5 l6]), (10, .v (.cell (.sl 5 l7))), (11, .v (.cell (.int n8))), (12, .v (.cell (.int n9)))]
theorem impl_headsOf_L0_le {l3 : List (List AC)} {l4 : List (List AC)} {l5 : List (List AC)} {l6 : List (List AC)} {l7 : List (List AC)} {n8 : Int} {n9 : Int} {r : AV} (h : (
    bif (decide (n9 < n8)) then
        atR_ l7 n9 [.sl 1 [], .sl 1 [], .int 0, .int 0, .sl 6 []] fun l10 l11 n12 n13 l14 =>
        appR l6 [[.sl 1 l10, .sl 1 l11, .int n12, .sl 5 [], .int 0]] fun l15 =>
        impl_headsOf_L0 l3 l4 l5 l15 l7 n8 (wrapI (n9 + 1))
      else
        some (.v (.agg [.sl 3 l5, .sl 5 l6])) : Option AV) = some r) : impl_headsOf_L0 l3 l4 l5 l6 l7 n8 n9 = some r :=
  GL_le (X := X_impl_headsOf) (n := 100000) (by kernel_rfl) (by kernel_rfl : (X_impl_headsOf.fn.body.bind fun c => locL 0 c []) = some (.loop (loopOf (X_impl_headsOf.fn.body.bind fun c => locL 0 c [])), ksOf (X_impl_headsOf.fn.body.bind fun c => locL 0 c []))) (Eq.trans (by kernel_rfl) h)
theorem impl_headsOf_le {l1 : List (List AC)} {l2 : List (List AC)} {r : AV} (h : (
    impl_headsOf_L0 [] [] l1 [] l2 ((l2.length : Nat) : Int) 0 : Option AV) = some r) : impl_headsOf [.agg [.sl 3 l1, .sl 5 l2]] = some r :=
  V_le (X := X_impl_headsOf) (n := 100000) (c := cOf Try.f14) (by kernel_rfl) Try.func14 (by kernel_rfl) (of_decide_eq_true (by kernel_rfl)) (Eq.trans (by kernel_rfl) h)
noncomputable def X_impl_validRoutineSigs : Ctx := { P := Try.prog, L := lay, F := sig.has, E := ext, fn := Try.f15, lv := [(0, [16, 17, 18])], jv := [], tp := [] }
noncomputable def impl_validRoutineSigs_L0 (l6 : List (List AC)) (n7 : Int) (n8 : Int) : Option AV := GL X_impl_validRoutineSigs 0 [(16, .v (.cell (.sl 5 l6))), (17, .v (.cell (.int n7))), (18, .v (.cell (.int n8)))]
theorem impl_validRoutineSigs_L0_le {l6 : List (List AC)} {n7 : Int} {n8 : Int} {r : AV} (h : (
    bif (decide (n8 < n7)) then
        atR_ l6 n8 [.sl 1 [], .sl 1 [], .int 0, .sl 5 [], .int 0] fun l9 l10 n11 l12 n13 =>
        callR (impl_validLent [.agg [.sl 1 l9, .sl 1 l10, .int n11, .sl 5 l12, .int n13]]) false [(false, [.bool false])] fun b14 =>
        bif (!b14) then
          some (.v (.cell (.bool false)))
        else
          impl_validRoutineSigs_L0 l6 n7 (wrapI (n8 + 1))
      else
        some (.v (.cell (.bool true))) : Option AV) = some r) : impl_validRoutineSigs_L0 l6 n7 n8 = some r :=
  GL_le (X := X_impl_validRoutineSigs) (n := 100000) (by kernel_rfl) (by kernel_rfl : (X_impl_validRoutineSigs.fn.body.bind fun c => locL 0 c []) = some (.loop (loopOf (X_impl_validRoutineSigs.fn.body.bind fun c => locL 0 c [])), ksOf (X_impl_validRoutineSigs.fn.body.bind fun c => locL 0 c []))) (Eq.trans (by kernel_rfl) h)
theorem impl_validRoutineSigs_le {l1 : List (List AC)} {l2 : List (List AC)} {r : AV} (h : (
    bif (decide (((l2.length : Nat) : Int) > 4)) then
        some (.v (.cell (.bool false)))
      else
        callR (impl_sigsOf [.agg [.sl 3 l1, .sl 5 l2]]) false [(true, [.sl 3 [], .sl 5 []])] fun l3 l4 =>
        callR (impl_ValidSigs [.agg [.sl 3 l3, .sl 5 l4]]) false [(false, [.bool false])] fun b5 =>
        bif (!b5) then
          some (.v (.cell (.bool false)))
        else
          impl_validRoutineSigs_L0 l2 ((l2.length : Nat) : Int) 0 : Option AV) = some r) : impl_validRoutineSigs [.agg [.sl 3 l1, .sl 5 l2]] = some r :=
  V_le (X := X_impl_validRoutineSigs) (n := 100000) (c := cOf Try.f15) (by kernel_rfl) Try.func15 (by kernel_rfl) (of_decide_eq_true (by kernel_rfl)) (Eq.trans (by kernel_rfl) h)
noncomputable def X_impl_validProc : Ctx := { P := Try.prog, L := lay, F := sig.has, E := ext, fn := Try.f16, lv := [(0, [2, 3, 36, 37])], jv := [], tp := [] }
noncomputable def impl_validProc_L0 (l8 : List (List AC)) (l9 : List (List AC)) (l10 : List (List AC)) (l11 : List (List AC)) (n12 : Int) (n13 : Int) (l14 : List (List AC)) (n15 : Int) (n16 : Int) : Option AV := GL X_impl_validProc 0 [(2, .box [.sl 3 l8, .sl 5 l9]), (3, .box [.sl 1 l10, .sl 1 l11, .int n12, .int n13, .sl 6 l14]), (36, .v (.cell (.int n15))), (37, .v (.cell (.int n16)))]
theorem impl_validProc_L0_le {l8 : List (List AC)} {l9 : List (List AC)} {l10 : List (List AC)} {l11 : List (List AC)} {n12 : Int} {n13 : Int} {l14 : List (List AC)} {n15 : Int} {n16 : Int} {r : AV} (h : (
    bif (decide (n16 < n15)) then
        callR (impl_validInstr [.agg [.sl 3 l8, .sl 5 l9], .agg [.sl 1 l10, .sl 1 l11, .int n12, .int n13, .sl 6 l14], .cell (.int n16)]) false [(false, [.bool false])] fun b17 =>
        bif (!b17) then
          some (.v (.cell (.bool false)))
        else
          impl_validProc_L0 l8 l9 l10 l11 n12 n13 l14 n15 (wrapI (n16 + 1))
      else
        atR_ l14 (wrapI (((l14.length : Nat) : Int) - 1)) [.int 0, .int 0, .int 0, .int 0, .sl 1 [], .sl 1 []] fun n18 n19 n20 n21 l22 l23 =>
        callR (impl_leavesFrame [.cell (.int n18)]) false [(false, [.bool false])] fun b24 =>
        some (.v (.cell (.bool b24))) : Option AV) = some r) : impl_validProc_L0 l8 l9 l10 l11 n12 n13 l14 n15 n16 = some r :=
  GL_le (X := X_impl_validProc) (n := 100000) (by kernel_rfl) (by kernel_rfl : (X_impl_validProc.fn.body.bind fun c => locL 0 c []) = some (.loop (loopOf (X_impl_validProc.fn.body.bind fun c => locL 0 c [])), ksOf (X_impl_validProc.fn.body.bind fun c => locL 0 c []))) (Eq.trans (by kernel_rfl) h)
theorem impl_validProc_le {l1 : List (List AC)} {l2 : List (List AC)} {l3 : List (List AC)} {l4 : List (List AC)} {n5 : Int} {n6 : Int} {l7 : List (List AC)} {r : AV} (h : (
    bif (decide (n6 < 1)) then
        some (.v (.cell (.bool false)))
      else
        bif (decide (n6 > 2000)) then
          some (.v (.cell (.bool false)))
        else
          bif (decide (n6 < ((l3.length : Nat) : Int))) then
            some (.v (.cell (.bool false)))
          else
            bif (decide (((l7.length : Nat) : Int) < 1)) then
              some (.v (.cell (.bool false)))
            else
              bif (decide (((l7.length : Nat) : Int) > 2000)) then
                some (.v (.cell (.bool false)))
              else
                impl_validProc_L0 l1 l2 l3 l4 n5 n6 l7 ((l7.length : Nat) : Int) 0 : Option AV) = some r) : impl_validProc [.agg [.sl 3 l1, .sl 5 l2], .agg [.sl 1 l3, .sl 1 l4, .int n5, .int n6, .sl 6 l7]] = some r :=
  V_le (X := X_impl_validProc) (n := 100000) (c := cOf Try.f16) (by kernel_rfl) Try.func16 (by kernel_rfl) (of_decide_eq_true (by kernel_rfl)) (Eq.trans (by kernel_rfl) h)
noncomputable def X_laws_eqDeclS : Ctx := { P := Try.prog, L := lay, F := sig.has, E := ext, fn := Try.f17, lv := [(0, [0, 1, 5])], jv := [], tp := [] }
noncomputable def laws_eqDeclS_L0 (l3 : List (List AC)) (l4 : List (List AC)) (n5 : Int) : Option AV := GL X_laws_eqDeclS 0 [(0, .v (.cell (.sl 3 l3))), (1, .v (.cell (.sl 3 l4))), (5, .v (.cell (.int n5)))]
theorem laws_eqDeclS_L0_le {l3 : List (List AC)} {l4 : List (List AC)} {n5 : Int} {r : AV} (h : (
    bif (decide (n5 < ((l3.length : Nat) : Int))) then
        atR_ l3 n5 [.int 0, .int 0, .sl 1 []] fun n6 n7 l8 =>
        atR_ l4 n5 [.int 0, .int 0, .sl 1 []] fun n9 n10 l11 =>
        callR (laws_eqDecl [.agg [.int n6, .int n7, .sl 1 l8], .agg [.int n9, .int n10, .sl 1 l11]]) false [(false, [.bool false])] fun b12 =>
        bif (!b12) then
          some (.v (.cell (.bool false)))
        else
          laws_eqDeclS_L0 l3 l4 (wrapI (n5 + 1))
      else
        some (.v (.cell (.bool true))) : Option AV) = some r) : laws_eqDeclS_L0 l3 l4 n5 = some r :=
  GL_le (X := X_laws_eqDeclS) (n := 100000) (by kernel_rfl) (by kernel_rfl : (X_laws_eqDeclS.fn.body.bind fun c => locL 0 c []) = some (.loop (loopOf (X_laws_eqDeclS.fn.body.bind fun c => locL 0 c [])), ksOf (X_laws_eqDeclS.fn.body.bind fun c => locL 0 c []))) (Eq.trans (by kernel_rfl) h)
theorem laws_eqDeclS_le {l1 : List (List AC)} {l2 : List (List AC)} {r : AV} (h : (
    bif (((l1.length : Nat) : Int) != ((l2.length : Nat) : Int)) then
        some (.v (.cell (.bool false)))
      else
        laws_eqDeclS_L0 l1 l2 0 : Option AV) = some r) : laws_eqDeclS [.cell (.sl 3 l1), .cell (.sl 3 l2)] = some r :=
  V_le (X := X_laws_eqDeclS) (n := 100000) (c := cOf Try.f17) (by kernel_rfl) Try.func17 (by kernel_rfl) (of_decide_eq_true (by kernel_rfl)) (Eq.trans (by kernel_rfl) h)
noncomputable def X_laws_eqProcS : Ctx := { P := Try.prog, L := lay, F := sig.has, E := ext, fn := Try.f18, lv := [(0, [0, 1, 5])], jv := [], tp := [] }
noncomputable def laws_eqProcS_L0 (l3 : List (List AC)) (l4 : List (List AC)) (n5 : Int) : Option AV := GL X_laws_eqProcS 0 [(0, .v (.cell (.sl 5 l3))), (1, .v (.cell (.sl 5 l4))), (5, .v (.cell (.int n5)))]
theorem laws_eqProcS_L0_le {l3 : List (List AC)} {l4 : List (List AC)} {n5 : Int} {r : AV} (h : (
    bif (decide (n5 < ((l3.length : Nat) : Int))) then
        atR_ l3 n5 [.sl 1 [], .sl 1 [], .int 0, .int 0, .sl 6 []] fun l6 l7 n8 n9 l10 =>
        atR_ l4 n5 [.sl 1 [], .sl 1 [], .int 0, .int 0, .sl 6 []] fun l11 l12 n13 n14 l15 =>
        callR (laws_eqProc [.agg [.sl 1 l6, .sl 1 l7, .int n8, .int n9, .sl 6 l10], .agg [.sl 1 l11, .sl 1 l12, .int n13, .int n14, .sl 6 l15]]) false [(false, [.bool false])] fun b16 =>
        bif (!b16) then
          some (.v (.cell (.bool false)))
        else
          laws_eqProcS_L0 l3 l4 (wrapI (n5 + 1))
      else
        some (.v (.cell (.bool true))) : Option AV) = some r) : laws_eqProcS_L0 l3 l4 n5 = some r :=
  GL_le (X := X_laws_eqProcS) (n := 100000) (by kernel_rfl) (by kernel_rfl : (X_laws_eqProcS.fn.body.bind fun c => locL 0 c []) = some (.loop (loopOf (X_laws_eqProcS.fn.body.bind fun c => locL 0 c [])), ksOf (X_laws_eqProcS.fn.body.bind fun c => locL 0 c []))) (Eq.trans (by kernel_rfl) h)
theorem laws_eqProcS_le {l1 : List (List AC)} {l2 : List (List AC)} {r : AV} (h : (
    bif (((l1.length : Nat) : Int) != ((l2.length : Nat) : Int)) then
        some (.v (.cell (.bool false)))
      else
        laws_eqProcS_L0 l1 l2 0 : Option AV) = some r) : laws_eqProcS [.cell (.sl 5 l1), .cell (.sl 5 l2)] = some r :=
  V_le (X := X_laws_eqProcS) (n := 100000) (c := cOf Try.f18) (by kernel_rfl) Try.func18 (by kernel_rfl) (of_decide_eq_true (by kernel_rfl)) (Eq.trans (by kernel_rfl) h)
noncomputable def X_laws_szDecl : Ctx := { P := Try.prog, L := lay, F := sig.has, E := ext, fn := Try.f19, lv := [], jv := [], tp := [] }
theorem laws_szDecl_le {n1 : Int} {n2 : Int} {l3 : List (List AC)} {n4 : Int} {r : AV} (h : (
    callR (laws_szConS [.cell (.sl 1 l3), .cell (.int n4)]) false [(false, [.int 0])] fun n5 =>
      bif (decide (n5 < 0)) then
        some (.v (.cell (.int (-1))))
      else
        some (.v (.cell (.int n5))) : Option AV) = some r) : laws_szDecl [.agg [.int n1, .int n2, .sl 1 l3], .cell (.int n4)] = some r :=
  V_le (X := X_laws_szDecl) (n := 100000) (c := cOf Try.f19) (by kernel_rfl) Try.func19 (by kernel_rfl) (of_decide_eq_true (by kernel_rfl)) (Eq.trans (by kernel_rfl) h)
noncomputable def X_laws_szProc : Ctx := { P := Try.prog, L := lay, F := sig.has, E := ext, fn := Try.f20, lv := [], jv := [], tp := [] }
theorem laws_szProc_le {l1 : List (List AC)} {l2 : List (List AC)} {n3 : Int} {n4 : Int} {l5 : List (List AC)} {n6 : Int} {r : AV} (h : (
    callR (laws_szIntS [.cell (.sl 1 l1), .cell (.int n6)]) false [(false, [.int 0])] fun n7 =>
      bif (decide (n7 < 0)) then
        some (.v (.cell (.int (-1))))
      else
        callR (laws_szIntS [.cell (.sl 1 l2), .cell (.int n7)]) false [(false, [.int 0])] fun n8 =>
        bif (decide (n8 < 0)) then
          some (.v (.cell (.int (-1))))
        else
          callR (laws_szInstrS [.cell (.sl 6 l5), .cell (.int n8)]) false [(false, [.int 0])] fun n9 =>
          bif (decide (n9 < 0)) then
            some (.v (.cell (.int (-1))))
          else
            some (.v (.cell (.int n9))) : Option AV) = some r) : laws_szProc [.agg [.sl 1 l1, .sl 1 l2, .int n3, .int n4, .sl 6 l5], .cell (.int n6)] = some r :=
  V_le (X := X_laws_szProc) (n := 100000) (c := cOf Try.f20) (by kernel_rfl) Try.func20 (by kernel_rfl) (of_decide_eq_true (by kernel_rfl)) (Eq.trans (by kernel_rfl) h)
noncomputable def X_spec_validSigs : Ctx := { P := Try.prog, L := lay, F := sig.has, E := ext, fn := Try.f21, lv := [(0, [1, 3])], jv := [], tp := [] }
noncomputable def spec_validSigs_L0 (l5 : List (List AC)) (l6 : List (List AC)) (n7 : Int) : Option AV := GL X_spec_validSigs 0 [(1, .box [.sl 3 l5, .sl 5 l6]), (3, .v (.cell (.int n7)))]
theorem spec_validSigs_L0_le {l5 : List (List AC)} {l6 : List (List AC)} {n7 : Int} {r : AV} (h : (
    bif (decide (n7 < ((l6.length : Nat) : Int))) then
        atR_ l6 n7 [.sl 1 [], .int 0, .int 0, .int 0, .sl 3 []] fun l8 n9 n10 n11 l12 =>
        bif (decide (((l8.length : Nat) : Int) > 3)) then
          some (.v (.cell (.bool false)))
        else
          callR (spec_allTypes [.cell (.sl 3 l5), .cell (.sl 1 l8)]) false [(false, [.bool false])] fun b13 =>
          bif (!b13) then
            some (.v (.cell (.bool false)))
          else
            callR (spec_inRange [.cell (.int n9), .cell (.int 0), .cell (.int ((l5.length : Nat) : Int))]) false [(false, [.bool false])] fun b14 =>
            bif (!b14) then
              some (.v (.cell (.bool false)))
            else
              spec_validSigs_L0 l5 l6 (wrapI (n7 + 1))
      else
        atR_ l6 0 [.sl 1 [], .int 0, .int 0, .int 0, .sl 3 []] fun l15 n16 n17 n18 l19 =>
        bif (((l15.length : Nat) : Int) == 0) then
          atR_ l6 0 [.sl 1 [], .int 0, .int 0, .int 0, .sl 3 []] fun l20 n21 n22 n23 l24 =>
          some (.v (.cell (.bool (n21 == 0))))
        else
          some (.v (.cell (.bool false))) : Option AV) = some r) : spec_validSigs_L0 l5 l6 n7 = some r :=
  GL_le (X := X_spec_validSigs) (n := 100000) (by kernel_rfl) (by kernel_rfl : (X_spec_validSigs.fn.body.bind fun c => locL 0 c []) = some (.loop (loopOf (X_spec_validSigs.fn.body.bind fun c => locL 0 c [])), ksOf (X_spec_validSigs.fn.body.bind fun c => locL 0 c []))) (Eq.trans (by kernel_rfl) h)
theorem spec_validSigs_le {l1 : List (List AC)} {l2 : List (List AC)} {r : AV} (h : (
    callR (spec_validTypes [.cell (.sl 3 l1)]) false [(false, [.bool false])] fun b3 =>
      bif (!b3) then
        some (.v (.cell (.bool false)))
      else
        callR (spec_inRange [.cell (.int ((l2.length : Nat) : Int)), .cell (.int 1), .cell (.int 4)]) false [(false, [.bool false])] fun b4 =>
        bif (!b4) then
          some (.v (.cell (.bool false)))
        else
          spec_validSigs_L0 l1 l2 0 : Option AV) = some r) : spec_validSigs [.agg [.sl 3 l1, .sl 5 l2]] = some r :=
  V_le (X := X_spec_validSigs) (n := 100000) (c := cOf Try.f21) (by kernel_rfl) Try.func21 (by kernel_rfl) (of_decide_eq_true (by kernel_rfl)) (Eq.trans (by kernel_rfl) h)
noncomputable def X_spec_sigsOfImage : Ctx := { P := Try.prog, L := lay, F := sig.has, E := ext, fn := Try.f22, lv := [(0, [1, 2, 3, 4])], jv := [], tp := [] }
noncomputable def spec_sigsOfImage_L0 (l3 : List (List AC)) (l4 : List (List AC)) (l5 : List (List AC)) (l6 : List (List AC)) (l7 : List (List AC)) (l8 : List (List AC)) (n9 : Int) : Option AV := GL X_spec_sigsOfImage 0 [(1, .box [.sl 3 l3, .sl 5 l4]), (2, .box [.sl 3 l5, .sl 5 l6]), (3, .box [.sl 3 l7, .sl 5 l8]), (4, .v (.cell (.int n9)))]
theorem spec_sigsOfImage_L0_le {l3 : List (List AC)} {l4 : List (List AC)} {l5 : List (List AC)} {l6 : List (List AC)} {l7 : List (List AC)} {l8 : List (List AC)} {n9 : Int} {r : AV} (h : (
    bif (decide (n9 < ((l4.length : Nat) : Int))) then
        atR_ l4 n9 [.sl 1 [], .sl 1 [], .int 0, .int 0, .sl 6 []] fun l10 l11 n12 n13 l14 =>
        atR_ l4 n9 [.sl 1 [], .sl 1 [], .int 0, .int 0, .sl 6 []] fun l15 l16 n17 n18 l19 =>
        appR l8 [[.sl 1 l10, .int n17, .int 0, .int 0, .sl 3 []]] fun l20 =>
        spec_sigsOfImage_L0 l3 l4 l5 l6 l7 l20 (wrapI (n9 + 1))
      else
        some (.v (.agg [.sl 3 l7, .sl 5 l8])) : Option AV) = some r) : spec_sigsOfImage_L0 l3 l4 l5 l6 l7 l8 n9 = some r :=
  GL_le (X := X_spec_sigsOfImage) (n := 100000) (by kernel_rfl) (by kernel_rfl : (X_spec_sigsOfImage.fn.body.bind fun c => locL 0 c []) = some (.loop (loopOf (X_spec_sigsOfImage.fn.body.bind fun c => locL 0 c [])), ksOf (X_spec_sigsOfImage.fn.body.bind fun c => locL 0 c []))) (Eq.trans (by kernel_rfl) h)
theorem spec_sigsOfImage_le {l1 : List (List AC)} {l2 : List (List AC)} {r : AV} (h : (
    spec_sigsOfImage_L0 l1 l2 [] [] l1 [] 0 : Option AV) = some r) : spec_sigsOfImage [.agg [.sl 3 l1, .sl 5 l2]] = some r :=
  V_le (X := X_spec_sigsOfImage) (n := 100000) (c := cOf Try.f22) (by kernel_rfl) Try.func22 (by kernel_rfl) (of_decide_eq_true (by kernel_rfl)) (Eq.trans (by kernel_rfl) h)
noncomputable def X_spec_validProc : Ctx := { P := Try.prog, L := lay, F := sig.has, E := ext, fn := Try.f23, lv := [(0, [2, 3, 5, 6])], jv := [], tp := [] }
noncomputable def spec_validProc_L0 (l11 : List (List AC)) (l12 : List (List AC)) (l13 : List (List AC)) (l14 : List (List AC)) (n15 : Int) (n16 : Int) (l17 : List (List AC)) (n18 : Int) (n19 : Int) : Option AV := GL X_spec_validProc 0 [(2, .box [.sl 3 l11, .sl 5 l12]), (3, .box [.sl 1 l13, .sl 1 l14, .int n15, .int n16, .sl 6 l17]), (5, .v (.cell (.int n18))), (6, .v (.cell (.int n19)))]
theorem spec_validProc_L0_le {l11 : List (List AC)} {l12 : List (List AC)} {l13 : List (List AC)} {l14 : List (List AC)} {n15 : Int} {n16 : Int} {l17 : List (List AC)} {n18 : Int} {n19 : Int} {r : AV} (h : (
    bif (decide (n19 < n18)) then
        callR (spec_validInstr [.agg [.sl 3 l11, .sl 5 l12], .agg [.sl 1 l13, .sl 1 l14, .int n15, .int n16, .sl 6 l17], .cell (.int n19)]) false [(false, [.bool false])] fun b20 =>
        bif (!b20) then
          some (.v (.cell (.bool false)))
        else
          spec_validProc_L0 l11 l12 l13 l14 n15 n16 l17 n18 (wrapI (n19 + 1))
      else
        atR_ l17 (wrapI (n18 - 1)) [.int 0, .int 0, .int 0, .int 0, .sl 1 [], .sl 1 []] fun n21 n22 n23 n24 l25 l26 =>
        bif (n21 == 23) then
          some (.v (.cell (.bool true)))
        else
          atR_ l17 (wrapI (n18 - 1)) [.int 0, .int 0, .int 0, .int 0, .sl 1 [], .sl 1 []] fun n27 n28 n29 n30 l31 l32 =>
          some (.v (.cell (.bool (n27 == 24)))) : Option AV) = some r) : spec_validProc_L0 l11 l12 l13 l14 n15 n16 l17 n18 n19 = some r :=
  GL_le (X := X_spec_validProc) (n := 100000) (by kernel_rfl) (by kernel_rfl : (X_spec_validProc.fn.body.bind fun c => locL 0 c []) = some (.loop (loopOf (X_spec_validProc.fn.body.bind fun c => locL 0 c [])), ksOf (X_spec_validProc.fn.body.bind fun c => locL 0 c []))) (Eq.trans (by kernel_rfl) h)
theorem spec_validProc_le {l1 : List (List AC)} {l2 : List (List AC)} {l3 : List (List AC)} {l4 : List (List AC)} {n5 : Int} {n6 : Int} {l7 : List (List AC)} {r : AV} (h : (
    callR (spec_validLent [.cell (.sl 1 l3), .cell (.sl 1 l4)]) false [(false, [.bool false])] fun b8 =>
      bif (!b8) then
        some (.v (.cell (.bool false)))
      else
        callR (spec_inRange [.cell (.int n6), .cell (.int (max2I 1 ((l3.length : Nat) : Int))), .cell (.int 2000)]) false [(false, [.bool false])] fun b9 =>
        bif (!b9) then
          some (.v (.cell (.bool false)))
        else
          callR (spec_inRange [.cell (.int ((l7.length : Nat) : Int)), .cell (.int 1), .cell (.int 2000)]) false [(false, [.bool false])] fun b10 =>
          bif (!b10) then
            some (.v (.cell (.bool false)))
          else
            spec_validProc_L0 l1 l2 l3 l4 n5 n6 l7 ((l7.length : Nat) : Int) 0 : Option AV) = some r) : spec_validProc [.agg [.sl 3 l1, .sl 5 l2], .agg [.sl 1 l3, .sl 1 l4, .int n5, .int n6, .sl 6 l7]] = some r :=
  V_le (X := X_spec_validProc) (n := 100000) (c := cOf Try.f23) (by kernel_rfl) Try.func23 (by kernel_rfl) (of_decide_eq_true (by kernel_rfl)) (Eq.trans (by kernel_rfl) h)
noncomputable def X_laws_toDecl : Ctx := { P := Try.prog, L := lay, F := sig.has, E := ext, fn := Try.f24, lv := [], jv := [], tp := [] }
theorem laws_toDecl_le {n1 : Int} {n2 : Int} {l3 : List (List AC)} {r : AV} (h : (
    callR (laws_toConS [.cell (.sl 1 l3)]) false [(false, [.sl 1 []])] fun l4 =>
      some (.v (.agg [.int n1, .int n2, .sl 1 l4])) : Option AV) = some r) : laws_toDecl [.agg [.int n1, .int n2, .sl 1 l3]] = some r :=
  V_le (X := X_laws_toDecl) (n := 100000) (c := cOf Try.f24) (by kernel_rfl) Try.func24 (by kernel_rfl) (of_decide_eq_true (by kernel_rfl)) (Eq.trans (by kernel_rfl) h)
noncomputable def X_laws_toProc : Ctx := { P := Try.prog, L := lay, F := sig.has, E := ext, fn := Try.f25, lv := [], jv := [], tp := [] }
theorem laws_toProc_le {l1 : List (List AC)} {l2 : List (List AC)} {n3 : Int} {n4 : Int} {l5 : List (List AC)} {r : AV} (h : (
    callR (laws_toIntS [.cell (.sl 1 l1)]) false [(false, [.sl 1 []])] fun l6 =>
      callR (laws_toIntS [.cell (.sl 1 l2)]) false [(false, [.sl 1 []])] fun l7 =>
      callR (laws_toInstrS [.cell (.sl 6 l5)]) false [(false, [.sl 6 []])] fun l8 =>
      some (.v (.agg [.sl 1 l6, .sl 1 l7, .int n3, .int n4, .sl 6 l8])) : Option AV) = some r) : laws_toProc [.agg [.sl 1 l1, .sl 1 l2, .int n3, .int n4, .sl 6 l5]] = some r :=
  V_le (X := X_laws_toProc) (n := 100000) (c := cOf Try.f25) (by kernel_rfl) Try.func25 (by kernel_rfl) (of_decide_eq_true (by kernel_rfl)) (Eq.trans (by kernel_rfl) h)
noncomputable def X_impl_ValidSigs : Ctx := { P := Try.prog, L := lay, F := sig.has, E := ext, fn := Try.f26, lv := [(0, [1, 22, 23, 24])], jv := [], tp := [] }
noncomputable def impl_ValidSigs_L0 (l4 : List (List AC)) (l5 : List (List AC)) (l6 : List (List AC)) (n7 : Int) (n8 : Int) : Option AV := GL X_impl_ValidSigs 0 [(1, .box [.sl 3 l4, .sl 5 l5]), (22, .v (.cell (.sl 5 l6))), (23, .v (.cell (.int n7))), (24, .v (.cell (.int n8)))]
theorem impl_ValidSigs_L0_le {l4 : List (List AC)} {l5 : List (List AC)} {l6 : List (List AC)} {n7 : Int} {n8 : Int} {r : AV} (h : (
    bif (decide (n8 < n7)) then
        atR_ l6 n8 [.sl 1 [], .int 0, .int 0, .int 0, .sl 3 []] fun l9 n10 n11 n12 l13 =>
        callR (impl_validSig [.cell (.sl 3 l4), .cell (.sl 1 l9), .cell (.int n10)]) false [(false, [.bool false])] fun b14 =>
        bif (!b14) then
          some (.v (.cell (.bool false)))
        else
          impl_ValidSigs_L0 l4 l5 l6 n7 (wrapI (n8 + 1))
      else
        atR_ l5 0 [.sl 1 [], .int 0, .int 0, .int 0, .sl 3 []] fun l15 n16 n17 n18 l19 =>
        bif (((l15.length : Nat) : Int) == 0) then
          atR_ l5 0 [.sl 1 [], .int 0, .int 0, .int 0, .sl 3 []] fun l20 n21 n22 n23 l24 =>
          some (.v (.cell (.bool (n21 == 0))))
        else
          some (.v (.cell (.bool false))) : Option AV) = some r) : impl_ValidSigs_L0 l4 l5 l6 n7 n8 = some r :=
  GL_le (X := X_impl_ValidSigs) (n := 100000) (by kernel_rfl) (by kernel_rfl : (X_impl_ValidSigs.fn.body.bind fun c => locL 0 c []) = some (.loop (loopOf (X_impl_ValidSigs.fn.body.bind fun c => locL 0 c [])), ksOf (X_impl_ValidSigs.fn.body.bind fun c => locL 0 c []))) (Eq.trans (by kernel_rfl) h)
theorem impl_ValidSigs_le {l1 : List (List AC)} {l2 : List (List AC)} {r : AV} (h : (
    callR (impl_ValidTypes [.cell (.sl 3 l1)]) false [(false, [.bool false])] fun b3 =>
      bif (!b3) then
        some (.v (.cell (.bool false)))
      else
        bif (decide (((l2.length : Nat) : Int) < 1)) then
          some (.v (.cell (.bool false)))
        else
          bif (decide (((l2.length : Nat) : Int) > 4)) then
            some (.v (.cell (.bool false)))
          else
            impl_ValidSigs_L0 l1 l2 l2 ((l2.length : Nat) : Int) 0 : Option AV) = some r) : impl_ValidSigs [.agg [.sl 3 l1, .sl 5 l2]] = some r :=
  V_le (X := X_impl_ValidSigs) (n := 100000) (c := cOf Try.f26) (by kernel_rfl) Try.func26 (by kernel_rfl) (of_decide_eq_true (by kernel_rfl)) (Eq.trans (by kernel_rfl) h)
noncomputable def X_impl_sigsOf : Ctx := { P := Try.prog, L := lay, F := sig.has, E := ext, fn := Try.f27, lv := [(0, [2, 3, 10, 11, 12])], jv := [], tp := [] }
noncomputable def impl_sigsOf_L0 (l3 : List (List AC)) (l4 : List (List AC)) (l5 : List (List AC)) (l6 : List (List AC)) (l7 : List (List AC)) (n8 : Int) (n9 : Int) : Option AV := GL X_impl_sigsOf 0 [(2, .box [.sl 3 l3, .sl 5 l4]), (3, .box [.sl 3 l5, .sl 5 l6]), (10, .v (.cell (.sl 5 l7))), (11, .v (.cell (.int n8))), (12, .v (.cell (.int n9)))]
theorem impl_sigsOf_L0_le {l3 : List (List AC)} {l4 : List (List AC)} {l5 : List (List AC)} {l6 : List (List AC)} {l7 : List (List AC)} {n8 : Int} {n9 : Int} {r : AV} (h : (
    bif (decide (n9 < n8)) then
        atR_ l7 n9 [.sl 1 [], .sl 1 [], .int 0, .sl 5 [], .int 0] fun l10 l11 n12 l13 n14 =>
        appR l6 [[.sl 1 l10, .int n12, .int 0, .int 0, .sl 3 []]] fun l15 =>
        impl_sigsOf_L0 l3 l4 l5 l15 l7 n8 (wrapI (n9 + 1))
      else
        some (.v (.agg [.sl 3 l5, .sl 5 l6])) : Option AV) = some r) : impl_sigsOf_L0 l3 l4 l5 l6 l7 n8 n9 = some r :=
  GL_le (X := X_impl_sigsOf) (n := 100000) (by kernel_rfl) (by kernel_rfl : (X_impl_sigsOf.fn.body.bind fun c => locL 0 c []) = some (.loop (loopOf (X_impl_sigsOf.fn.body.bind fun c => locL 0 c [])), ksOf (X_impl_sigsOf.fn.body.bind fun c => locL 0 c []))) (Eq.trans (by kernel_rfl) h)
theorem impl_sigsOf_le {l1 : List (List AC)} {l2 : List (List AC)} {r : AV} (h : (
    impl_sigsOf_L0 [] [] l1 [] l2 ((l2.length : Nat) : Int) 0 : Option AV) = some r) : impl_sigsOf [.agg [.sl 3 l1, .sl 5 l2]] = some r :=
  V_le (X := X_impl_sigsOf) (n := 100000) (c := cOf Try.f27) (by kernel_rfl) Try.func27 (by kernel_rfl) (of_decide_eq_true (by kernel_rfl)) (Eq.trans (by kernel_rfl) h)
noncomputable def X_impl_validLent : Ctx := { P := Try.prog, L := lay, F := sig.has, E := ext, fn := Try.f28, lv := [(0, [1, 3, 7, 8, 9])], jv := [], tp := [] }
noncomputable def impl_validLent_L0 (l6 : List (List AC)) (l7 : List (List AC)) (n8 : Int) (l9 : List (List AC)) (n10 : Int) (n11 : Int) (l12 : List (List AC)) (n13 : Int) (n14 : Int) : Option AV := GL X_impl_validLent 0 [(1, .box [.sl 1 l6, .sl 1 l7, .int n8, .sl 5 l9, .int n10]), (3, .v (.cell (.int n11))), (7, .v (.cell (.sl 1 l12))), (8, .v (.cell (.int n13))), (9, .v (.cell (.int n14)))]
theorem impl_validLent_L0_le {l6 : List (List AC)} {l7 : List (List AC)} {n8 : Int} {l9 : List (List AC)} {n10 : Int} {n11 : Int} {l12 : List (List AC)} {n13 : Int} {n14 : Int} {r : AV} (h : (
    bif (decide (n14 < n13)) then
        atR_ l12 n14 [.int 0] fun n15 =>
        bif (decide (n15 ≤ n11)) then
          some (.v (.cell (.bool false)))
        else
          bif (decide (n15 ≥ ((l6.length : Nat) : Int))) then
            some (.v (.cell (.bool false)))
          else
            atR_ l6 n15 [.int 0] fun n16 =>
            bif (n16 == 0) then
              some (.v (.cell (.bool false)))
            else
              impl_validLent_L0 l6 l7 n8 l9 n10 n15 l12 n13 (wrapI (n14 + 1))
      else
        some (.v (.cell (.bool true))) : Option AV) = some r) : impl_validLent_L0 l6 l7 n8 l9 n10 n11 l12 n13 n14 = some r :=
  GL_le (X := X_impl_validLent) (n := 100000) (by kernel_rfl) (by kernel_rfl : (X_impl_validLent.fn.body.bind fun c => locL 0 c []) = some (.loop (loopOf (X_impl_validLent.fn.body.bind fun c => locL 0 c [])), ksOf (X_impl_validLent.fn.body.bind fun c => locL 0 c []))) (Eq.trans (by kernel_rfl) h)
theorem impl_validLent_le {l1 : List (List AC)} {l2 : List (List AC)} {n3 : Int} {l4 : List (List AC)} {n5 : Int} {r : AV} (h : (
    impl_validLent_L0 l1 l2 n3 l4 n5 (-1) l2 ((l2.length : Nat) : Int) 0 : Option AV) = some r) : impl_validLent [.agg [.sl 1 l1, .sl 1 l2, .int n3, .sl 5 l4, .int n5]] = some r :=
  V_le (X := X_impl_validLent) (n := 100000) (c := cOf Try.f28) (by kernel_rfl) Try.func28 (by kernel_rfl) (of_decide_eq_true (by kernel_rfl)) (Eq.trans (by kernel_rfl) h)
noncomputable def X_impl_validInstr : Ctx := { P := Try.prog, L := lay, F := sig.has, E := ext, fn := Try.f29, lv := [], jv := [], tp := [] }
theorem impl_validInstr_le {l1 : List (List AC)} {l2 : List (List AC)} {l3 : List (List AC)} {l4 : List (List AC)} {n5 : Int} {n6 : Int} {l7 : List (List AC)} {n8 : Int} {r : AV} (h : (
    atR_ l7 n8 [.int 0, .int 0, .int 0, .int 0, .sl 1 [], .sl 1 []] fun n9 n10 n11 n12 l13 l14 =>
      callR (impl_isInstr [.cell (.int n9)]) false [(false, [.bool false])] fun b15 =>
      bif b15 then
        callR (impl_validNum [.agg [.sl 3 l1, .sl 5 l2], .agg [.sl 1 l3, .sl 1 l4, .int n5, .int n6, .sl 6 l7], .cell (.int n8)]) false [(false, [.bool false])] fun b16 =>
        bif b16 then
          callR (impl_validArgs [.agg [.sl 3 l1, .sl 5 l2], .agg [.int n9, .int n10, .int n11, .int n12, .sl 1 l13, .sl 1 l14]]) false [(false, [.bool false])] fun b17 =>
          bif b17 then
            callR (impl_validJumps [.agg [.sl 3 l1, .sl 5 l2], .agg [.sl 1 l3, .sl 1 l4, .int n5, .int n6, .sl 6 l7], .cell (.int n8)]) false [(false, [.bool false])] fun b18 =>
            bif b18 then
              callR (impl_validRegs [.cell (.int n6), .agg [.int n9, .int n10, .int n11, .int n12, .sl 1 l13, .sl 1 l14]]) false [(false, [.bool false])] fun b19 =>
              some (.v (.cell (.bool b19)))
            else
              some (.v (.cell (.bool false)))
          else
            some (.v (.cell (.bool false)))
        else
          some (.v (.cell (.bool false)))
      else
        some (.v (.cell (.bool false))) : Option AV) = some r) : impl_validInstr [.agg [.sl 3 l1, .sl 5 l2], .agg [.sl 1 l3, .sl 1 l4, .int n5, .int n6, .sl 6 l7], .cell (.int n8)] = some r :=
  V_le (X := X_impl_validInstr) (n := 100000) (c := cOf Try.f29) (by kernel_rfl) Try.func29 (by kernel_rfl) (of_decide_eq_true (by kernel_rfl)) (Eq.trans (by kernel_rfl) h)
noncomputable def X_impl_leavesFrame : Ctx := { P := Try.prog, L := lay, F := sig.has, E := ext, fn := Try.f30, lv := [], jv := [], tp := [] }
theorem impl_leavesFrame_le {n1 : Int} {r : AV} (h : (
    bif (n1 == 23) then
        some (.v (.cell (.bool true)))
      else
        some (.v (.cell (.bool (n1 == 24)))) : Option AV) = some r) : impl_leavesFrame [.cell (.int n1)] = some r :=
  V_le (X := X_impl_leavesFrame) (n := 100000) (c := cOf Try.f30) (by kernel_rfl) Try.func30 (by kernel_rfl) (of_decide_eq_true (by kernel_rfl)) (Eq.trans (by kernel_rfl) h)
noncomputable def X_laws_eqDecl : Ctx := { P := Try.prog, L := lay, F := sig.has, E := ext, fn := Try.f31, lv := [], jv := [], tp := [] }
theorem laws_eqDecl_le {n1 : Int} {n2 : Int} {l3 : List (List AC)} {n4 : Int} {n5 : Int} {l6 : List (List AC)} {r : AV} (h : (
    bif (n1 != n4) then
        some (.v (.cell (.bool false)))
      else
        bif (n2 != n5) then
          some (.v (.cell (.bool false)))
        else
          callR (laws_eqConS [.cell (.sl 1 l3), .cell (.sl 1 l6)]) false [(false, [.bool false])] fun b7 =>
          bif (!b7) then
            some (.v (.cell (.bool false)))
          else
            some (.v (.cell (.bool true))) : Option AV) = some r) : laws_eqDecl [.agg [.int n1, .int n2, .sl 1 l3], .agg [.int n4, .int n5, .sl 1 l6]] = some r :=
  V_le (X := X_laws_eqDecl) (n := 100000) (c := cOf Try.f31) (by kernel_rfl) Try.func31 (by kernel_rfl) (of_decide_eq_true (by kernel_rfl)) (Eq.trans (by kernel_rfl) h)
noncomputable def X_laws_eqProc : Ctx := { P := Try.prog, L := lay, F := sig.has, E := ext, fn := Try.f32, lv := [], jv := [], tp := [] }
theorem laws_eqProc_le {l1 : List (List AC)} {l2 : List (List AC)} {n3 : Int} {n4 : Int} {l5 : List (List AC)} {l6 : List (List AC)} {l7 : List (List AC)} {n8 : Int} {n9 : Int} {l10 : List (List AC)} {r : AV} (h : (
    callR (laws_eqIntS [.cell (.sl 1 l1), .cell (.sl 1 l6)]) false [(false, [.bool false])] fun b11 =>
      bif (!b11) then
        some (.v (.cell (.bool false)))
      else
        callR (laws_eqIntS [.cell (.sl 1 l2), .cell (.sl 1 l7)]) false [(false, [.bool false])] fun b12 =>
        bif (!b12) then
          some (.v (.cell (.bool false)))
        else
          bif (n3 != n8) then
            some (.v (.cell (.bool false)))
          else
            bif (n4 != n9) then
              some (.v (.cell (.bool false)))
            else
              callR (laws_eqInstrS [.cell (.sl 6 l5), .cell (.sl 6 l10)]) false [(false, [.bool false])] fun b13 =>
              bif (!b13) then
                some (.v (.cell (.bool false)))
              else
                some (.v (.cell (.bool true))) : Option AV) = some r) : laws_eqProc [.agg [.sl 1 l1, .sl 1 l2, .int n3, .int n4, .sl 6 l5], .agg [.sl 1 l6, .sl 1 l7, .int n8, .int n9, .sl 6 l10]] = some r :=
  V_le (X := X_laws_eqProc) (n := 100000) (c := cOf Try.f32) (by kernel_rfl) Try.func32 (by kernel_rfl) (of_decide_eq_true (by kernel_rfl)) (Eq.trans (by kernel_rfl) h)
noncomputable def X_laws_szConS : Ctx := { P := Try.prog, L := lay, F := sig.has, E := ext, fn := Try.f33, lv := [(0, [0, 1, 5])], jv := [], tp := [] }
noncomputable def laws_szConS_L0 (l3 : List (List AC)) (n4 : Int) (n5 : Int) : Option AV := GL X_laws_szConS 0 [(0, .v (.cell (.sl 1 l3))), (1, .v (.cell (.int n4))), (5, .v (.cell (.int n5)))]
theorem laws_szConS_L0_le {l3 : List (List AC)} {n4 : Int} {n5 : Int} {r : AV} (h : (
    bif (decide (n5 < ((l3.length : Nat) : Int))) then
        atR_ l3 n5 [.sl 1 []] fun l6 =>
        callR (laws_szCon [.agg [.sl 1 l6], .cell (.int n4)]) false [(false, [.int 0])] fun n7 =>
        bif (decide (n7 < 0)) then
          some (.v (.cell (.int (-1))))
        else
          laws_szConS_L0 l3 n7 (wrapI (n5 + 1))
      else
        some (.v (.cell (.int n4))) : Option AV) = some r) : laws_szConS_L0 l3 n4 n5 = some r :=
  GL_le (X := X_laws_szConS) (n := 100000) (by kernel_rfl) (by kernel_rfl : (X_laws_szConS.fn.body.bind fun c => locL 0 c []) = some (.loop (loopOf (X_laws_szConS.fn.body.bind fun c => locL 0 c [])), ksOf (X_laws_szConS.fn.body.bind fun c => locL 0 c []))) (Eq.trans (by kernel_rfl) h)
theorem laws_szConS_le {l1 : List (List AC)} {n2 : Int} {r : AV} (h : (
    bif (decide ((wrapI (n2 - ((l1.length : Nat) : Int))) < 0)) then
        some (.v (.cell (.int (-1))))
      else
        laws_szConS_L0 l1 (wrapI (n2 - ((l1.length : Nat) : Int))) 0 : Option AV) = some r) : laws_szConS [.cell (.sl 1 l1), .cell (.int n2)] = some r :=
  V_le (X := X_laws_szConS) (n := 100000) (c := cOf Try.f33) (by kernel_rfl) Try.func33 (by kernel_rfl) (of_decide_eq_true (by kernel_rfl)) (Eq.trans (by kernel_rfl) h)
noncomputable def X_laws_szIntS : Ctx := { P := Try.prog, L := lay, F := sig.has, E := ext, fn := Try.f34, lv := [], jv := [], tp := [] }
theorem laws_szIntS_le {l1 : List (List AC)} {n2 : Int} {r : AV} (h : (
    bif (decide ((wrapI (n2 - ((l1.length : Nat) : Int))) < 0)) then
        some (.v (.cell (.int (-1))))
      else
        some (.v (.cell (.int (wrapI (n2 - ((l1.length : Nat) : Int)))))) : Option AV) = some r) : laws_szIntS [.cell (.sl 1 l1), .cell (.int n2)] = some r :=
  V_le (X := X_laws_szIntS) (n := 100000) (c := cOf Try.f34) (by kernel_rfl) Try.func34 (by kernel_rfl) (of_decide_eq_true (by kernel_rfl)) (Eq.trans (by kernel_rfl) h)
noncomputable def X_laws_szInstrS : Ctx := { P := Try.prog, L := lay, F := sig.has, E := ext, fn := Try.f35, lv := [(0, [0, 1, 5])], jv := [], tp := [] }
noncomputable def laws_szInstrS_L0 (l3 : List (List AC)) (n4 : Int) (n5 : Int) : Option AV := GL X_laws_szInstrS 0 [(0, .v (.cell (.sl 6 l3))), (1, .v (.cell (.int n4))), (5, .v (.cell (.int n5)))]
theorem laws_szInstrS_L0_le {l3 : List (List AC)} {n4 : Int} {n5 : Int} {r : AV} (h : (
    bif (decide (n5 < ((l3.length : Nat) : Int))) then
        atR_ l3 n5 [.int 0, .int 0, .int 0, .int 0, .sl 1 [], .sl 1 []] fun n6 n7 n8 n9 l10 l11 =>
        callR (laws_szInstr [.agg [.int n6, .int n7, .int n8, .int n9, .sl 1 l10, .sl 1 l11], .cell (.int n4)]) false [(false, [.int 0])] fun n12 =>
        bif (decide (n12 < 0)) then
          some (.v (.cell (.int (-1))))
        else
          laws_szInstrS_L0 l3 n12 (wrapI (n5 + 1))
      else
        some (.v (.cell (.int n4))) : Option AV) = some r) : laws_szInstrS_L0 l3 n4 n5 = some r :=
  GL_le (X := X_laws_szInstrS) (n := 100000) (by kernel_rfl) (by kernel_rfl : (X_laws_szInstrS.fn.body.bind fun c => locL 0 c []) = some (.loop (loopOf (X_laws_szInstrS.fn.body.bind fun c => locL 0 c [])), ksOf (X_laws_szInstrS.fn.body.bind fun c => locL 0 c []))) (Eq.trans (by kernel_rfl) h)
theorem laws_szInstrS_le {l1 : List (List AC)} {n2 : Int} {r : AV} (h : (
    bif (decide ((wrapI (n2 - ((l1.length : Nat) : Int))) < 0)) then
        some (.v (.cell (.int (-1))))
      else
        laws_szInstrS_L0 l1 (wrapI (n2 - ((l1.length : Nat) : Int))) 0 : Option AV) = some r) : laws_szInstrS [.cell (.sl 6 l1), .cell (.int n2)] = some r :=
  V_le (X := X_laws_szInstrS) (n := 100000) (c := cOf Try.f35) (by kernel_rfl) Try.func35 (by kernel_rfl) (of_decide_eq_true (by kernel_rfl)) (Eq.trans (by kernel_rfl) h)
noncomputable def X_spec_validTypes : Ctx := { P := Try.prog, L := lay, F := sig.has, E := ext, fn := Try.f36, lv := [(0, [0, 3])], jv := [], tp := [] }
noncomputable def spec_validTypes_L0 (l2 : List (List AC)) (n3 : Int) : Option AV := GL X_spec_validTypes 0 [(0, .v (.cell (.sl 3 l2))), (3, .v (.cell (.int n3)))]
theorem spec_validTypes_L0_le {l2 : List (List AC)} {n3 : Int} {r : AV} (h : (
    bif (decide (n3 < ((l2.length : Nat) : Int))) then
        callR (spec_validDecl [.cell (.sl 3 l2), .cell (.int n3)]) false [(false, [.bool false])] fun b4 =>
        bif (!b4) then
          some (.v (.cell (.bool false)))
        else
          spec_validTypes_L0 l2 (wrapI (n3 + 1))
      else
        some (.v (.cell (.bool true))) : Option AV) = some r) : spec_validTypes_L0 l2 n3 = some r :=
  GL_le (X := X_spec_validTypes) (n := 100000) (by kernel_rfl) (by kernel_rfl : (X_spec_validTypes.fn.body.bind fun c => locL 0 c []) = some (.loop (loopOf (X_spec_validTypes.fn.body.bind fun c => locL 0 c [])), ksOf (X_spec_validTypes.fn.body.bind fun c => locL 0 c []))) (Eq.trans (by kernel_rfl) h)
theorem spec_validTypes_le {l1 : List (List AC)} {r : AV} (h : (
    bif (decide (((l1.length : Nat) : Int) > 4)) then
        some (.v (.cell (.bool false)))
      else
        spec_validTypes_L0 l1 0 : Option AV) = some r) : spec_validTypes [.cell (.sl 3 l1)] = some r :=
  V_le (X := X_spec_validTypes) (n := 100000) (c := cOf Try.f36) (by kernel_rfl) Try.func36 (by kernel_rfl) (of_decide_eq_true (by kernel_rfl)) (Eq.trans (by kernel_rfl) h)
noncomputable def X_spec_inRange : Ctx := { P := Try.prog, L := lay, F := sig.has, E := ext, fn := Try.f37, lv := [], jv := [], tp := [] }
theorem spec_inRange_le {n1 : Int} {n2 : Int} {n3 : Int} {r : AV} (h : (
    bif (decide (n2 ≤ n1)) then
        some (.v (.cell (.bool (decide (n1 ≤ n3)))))
      else
        some (.v (.cell (.bool false))) : Option AV) = some r) : spec_inRange [.cell (.int n1), .cell (.int n2), .cell (.int n3)] = some r :=
  V_le (X := X_spec_inRange) (n := 100000) (c := cOf Try.f37) (by kernel_rfl) Try.func37 (by kernel_rfl) (of_decide_eq_true (by kernel_rfl)) (Eq.trans (by kernel_rfl) h)
noncomputable def X_spec_allTypes : Ctx := { P := Try.prog, L := lay, F := sig.has, E := ext, fn := Try.f38, lv := [(0, [0, 1, 5])], jv := [], tp := [] }
noncomputable def spec_allTypes_L0 (l3 : List (List AC)) (l4 : List (List AC)) (n5 : Int) : Option AV := GL X_spec_allTypes 0 [(0, .v (.cell (.sl 3 l3))), (1, .v (.cell (.sl 1 l4))), (5, .v (.cell (.int n5)))]
theorem spec_allTypes_L0_le {l3 : List (List AC)} {l4 : List (List AC)} {n5 : Int} {r : AV} (h : (
    bif (decide (n5 < ((l4.length : Nat) : Int))) then
        atR_ l4 n5 [.int 0] fun n6 =>
        callR (spec_inRange [.cell (.int n6), .cell (.int 0), .cell (.int ((l3.length : Nat) : Int))]) false [(false, [.bool false])] fun b7 =>
        bif (!b7) then
          some (.v (.cell (.bool false)))
        else
          spec_allTypes_L0 l3 l4 (wrapI (n5 + 1))
      else
        some (.v (.cell (.bool true))) : Option AV) = some r) : spec_allTypes_L0 l3 l4 n5 = some r :=
  GL_le (X := X_spec_allTypes) (n := 100000) (by kernel_rfl) (by kernel_rfl : (X_spec_allTypes.fn.body.bind fun c => locL 0 c []) = some (.loop (loopOf (X_spec_allTypes.fn.body.bind fun c => locL 0 c [])), ksOf (X_spec_allTypes.fn.body.bind fun c => locL 0 c []))) (Eq.trans (by kernel_rfl) h)
theorem spec_allTypes_le {l1 : List (List AC)} {l2 : List (List AC)} {r : AV} (h : (
    spec_allTypes_L0 l1 l2 0 : Option AV) = some r) : spec_allTypes [.cell (.sl 3 l1), .cell (.sl 1 l2)] = some r :=
  V_le (X := X_spec_allTypes) (n := 100000) (c := cOf Try.f38) (by kernel_rfl) Try.func38 (by kernel_rfl) (of_decide_eq_true (by kernel_rfl)) (Eq.trans (by kernel_rfl) h)
noncomputable def X_spec_validLent : Ctx := { P := Try.prog, L := lay, F := sig.has, E := ext, fn := Try.f39, lv := [(0, [0, 1, 5])], jv := [], tp := [] }
noncomputable def spec_validLent_L0 (l3 : List (List AC)) (l4 : List (List AC)) (n5 : Int) : Option AV := GL X_spec_validLent 0 [(0, .v (.cell (.sl 1 l3))), (1, .v (.cell (.sl 1 l4))), (5, .v (.cell (.int n5)))]
theorem spec_validLent_L0_le {l3 : List (List AC)} {l4 : List (List AC)} {n5 : Int} {r : AV} (h : (
    bif (decide (n5 < ((l4.length : Nat) : Int))) then
        atR_ l4 n5 [.int 0] fun n6 =>
        callR (spec_inRange [.cell (.int n6), .cell (.int 0), .cell (.int (wrapI (((l3.length : Nat) : Int) - 1)))]) false [(false, [.bool false])] fun b7 =>
        bif (!b7) then
          some (.v (.cell (.bool false)))
        else
          atR_ l4 n5 [.int 0] fun n8 =>
          atR_ l3 n8 [.int 0] fun n9 =>
          bif (n9 == 0) then
            some (.v (.cell (.bool false)))
          else
            bif (decide (n5 > 0)) then
              atR_ l4 n5 [.int 0] fun n10 =>
              atR_ l4 (wrapI (n5 - 1)) [.int 0] fun n11 =>
              bif (decide (n10 ≤ n11)) then
                some (.v (.cell (.bool false)))
              else
                spec_validLent_L0 l3 l4 (wrapI (n5 + 1))
            else
              spec_validLent_L0 l3 l4 (wrapI (n5 + 1))
      else
        some (.v (.cell (.bool true))) : Option AV) = some r) : spec_validLent_L0 l3 l4 n5 = some r :=
  GL_le (X := X_spec_validLent) (n := 100000) (by kernel_rfl) (by kernel_rfl : (X_spec_validLent.fn.body.bind fun c => locL 0 c []) = some (.loop (loopOf (X_spec_validLent.fn.body.bind fun c => locL 0 c [])), ksOf (X_spec_validLent.fn.body.bind fun c => locL 0 c []))) (Eq.trans (by kernel_rfl) h)
theorem spec_validLent_le {l1 : List (List AC)} {l2 : List (List AC)} {r : AV} (h : (
    spec_validLent_L0 l1 l2 0 : Option AV) = some r) : spec_validLent [.cell (.sl 1 l1), .cell (.sl 1 l2)] = some r :=
  V_le (X := X_spec_validLent) (n := 100000) (c := cOf Try.f39) (by kernel_rfl) Try.func39 (by kernel_rfl) (of_decide_eq_true (by kernel_rfl)) (Eq.trans (by kernel_rfl) h)
noncomputable def X_spec_validInstr : Ctx := { P := Try.prog, L := lay, F := sig.has, E := ext, fn := Try.f40, lv := [(0, [2, 3, 4, 7, 8, 9])], jv := [(10, [2, 3, 4, 7, 8]), (18, [2, 3, 4, 7, 8, 74, 84]), (24, [2, 3, 4, 7, 8, 74, 97]), (29, [2, 3, 4, 7, 8, 74, 135]), (34, [2, 3, 4, 7, 8, 74, 161])], tp := [] }
noncomputable def spec_validInstr_L0 (n15 : Int) (l16 : List (List AC)) (l17 : List (List AC)) (l18 : List (List AC)) (l19 : List (List AC)) (n20 : Int) (n21 : Int) (l22 : List (List AC)) (n23 : Int) (n24 : Int) (n25 : Int) (n26 : Int) (l27 : List (List AC)) (l28 : List (List AC)) (n29 : Int) (n30 : Int) : Option AV := GL X_spec_validInstr 0 [(2, .v (.cell (.int n15))), (3, .box [.sl 3 l16, .sl 5 l17]), (4, .box [.sl 1 l18, .sl 1 l19, .int n20, .int n21, .sl 6 l22]), (7, .box [.int n23, .int n24, .int n25, .int n26, .sl 1 l27, .sl 1 l28]), (8, .v (.cell (.int n29))), (9, .v (.cell (.int n30)))]
noncomputable def spec_validInstr_J10 (n35 : Int) (l36 : List (List AC)) (l37 : List (List AC)) (l38 : List (List AC)) (l39 : List (List AC)) (n40 : Int) (n41 : Int) (l42 : List (List AC)) (n43 : Int) (n44 : Int) (n45 : Int) (n46 : Int) (l47 : List (List AC)) (l48 : List (List AC)) (n49 : Int) : Option AV := GJ X_spec_validInstr 10 [(2, .v (.cell (.int n35))), (3, .box [.sl 3 l36, .sl 5 l37]), (4, .box [.sl 1 l38, .sl 1 l39, .int n40, .int n41, .sl 6 l42]), (7, .box [.int n43, .int n44, .int n45, .int n46, .sl 1 l47, .sl 1 l48]), (8, .v (.cell (.int n49)))]
noncomputable def spec_validInstr_J18 (n51 : Int) (l52 : List (List AC)) (l53 : List (List AC)) (l54 : List (List AC)) (l55 : List (List AC)) (n56 : Int) (n57 : Int) (l58 : List (List AC)) (n59 : Int) (n60 : Int) (n61 : Int) (n62 : Int) (l63 : List (List AC)) (l64 : List (List AC)) (n65 : Int) (n66 : Int) (b67 : Bool) : Option AV := GJ X_spec_validInstr 18 [(2, .v (.cell (.int n51))), (3, .box [.sl 3 l52, .sl 5 l53]), (4, .box [.sl 1 l54, .sl 1 l55, .int n56, .int n57, .sl 6 l58]), (7, .box [.int n59, .int n60, .int n61, .int n62, .sl 1 l63, .sl 1 l64]), (8, .v (.cell (.int n65))), (74, .v (.cell (.int n66))), (84, .v (.cell (.bool b67)))]
noncomputable def spec_validInstr_J24 (n68 : Int) (l69 : List (List AC)) (l70 : List (List AC)) (l71 : List (List AC)) (l72 : List (List AC)) (n73 : Int) (n74 : Int) (l75 : List (List AC)) (n76 : Int) (n77 : Int) (n78 : Int) (n79 : Int) (l80 : List (List AC)) (l81 : List (List AC)) (n82 : Int) (n83 : Int) (b84 : Bool) : Option AV := GJ X_spec_validInstr 24 [(2, .v (.cell (.int n68))), (3, .box [.sl 3 l69, .sl 5 l70]), (4, .box [.sl 1 l71, .sl 1 l72, .int n73, .int n74, .sl 6 l75]), (7, .box [.int n76, .int n77, .int n78, .int n79, .sl 1 l80, .sl 1 l81]), (8, .v (.cell (.int n82))), (74, .v (.cell (.int n83))), (97, .v (.cell (.bool b84)))]
noncomputable def spec_validInstr_J29 (n88 : Int) (l89 : List (List AC)) (l90 : List (List AC)) (l91 : List (List AC)) (l92 : List (List AC)) (n93 : Int) (n94 : Int) (l95 : List (List AC)) (n96 : Int) (n97 : Int) (n98 : Int) (n99 : Int) (l100 : List (List AC)) (l101 : List (List AC)) (n102 : Int) (n103 : Int) (b104 : Bool) : Option AV := GJ X_spec_validInstr 29 [(2, .v (.cell (.int n88))), (3, .box [.sl 3 l89, .sl 5 l90]), (4, .box [.sl 1 l91, .sl 1 l92, .int n93, .int n94, .sl 6 l95]), (7, .box [.int n96, .int n97, .int n98, .int n99, .sl 1 l100, .sl 1 l101]), (8, .v (.cell (.int n102))), (74, .v (.cell (.int n103))), (135, .v (.cell (.bool b104)))]
noncomputable def spec_validInstr_J34 (n112 : Int) (l113 : List (List AC)) (l114 : List (List AC)) (l115 : List (List AC)) (l116 : List (List AC)) (n117 : Int) (n118 : Int) (l119 : List (List AC)) (n120 : Int) (n121 : Int) (n122 : Int) (n123 : Int) (l124 : List (List AC)) (l125 : List (List AC)) (n126 : Int) (n127 : Int) (b128 : Bool) : Option AV := GJ X_spec_validInstr 34 [(2, .v (.cell (.int n112))), (3, .box [.sl 3 l113, .sl 5 l114]), (4, .box [.sl 1 l115, .sl 1 l116, .int n117, .int n118, .sl 6 l119]), (7, .box [.int n120, .int n121, .int n122, .int n123, .sl 1 l124, .sl 1 l125]), (8, .v (.cell (.int n126))), (74, .v (.cell (.int n127))), (161, .v (.cell (.bool b128)))]
theorem spec_validInstr_L0_le {n15 : Int} {l16 : List (List AC)} {l17 : List (List AC)} {l18 : List (List AC)} {l19 : List (List AC)} {n20 : Int} {n21 : Int} {l22 : List (List AC)} {n23 : Int} {n24 : Int} {n25 : Int} {n26 : Int} {l27 : List (List AC)} {l28 : List (List AC)} {n29 : Int} {n30 : Int} {r : AV} (h : (
    bif (decide (n30 < n29)) then
        atR_ l27 n30 [.int 0] fun n31 =>
        callR (spec_inRange [.cell (.int n31), .cell (.int 0), .cell (.int (wrapI (n21 - 1)))]) false [(false, [.bool false])] fun b32 =>
        bif (!b32) then
          some (.v (.cell (.bool false)))
        else
          spec_validInstr_L0 n15 l16 l17 l18 l19 n20 n21 l22 n23 n24 n25 n26 l27 l28 n29 (wrapI (n30 + 1))
      else
        callR (spec_inRange [.cell (.int n24), .cell (.int 0), .cell (.int (wrapI (n21 - 1)))]) false [(false, [.bool false])] fun b33 =>
        bif (!b33) then
          some (.v (.cell (.bool false)))
        else
          bif (n24 != 0) then
            callR (spec_sets [.cell (.int n23)]) false [(false, [.bool false])] fun b34 =>
            bif (!b34) then
              some (.v (.cell (.bool false)))
            else
              bif (n26 != 0) then
                bif (n23 != 6) then
                  some (.v (.cell (.bool false)))
                else
                  bif (n23 != 21) then
                    bif (decide (((l28.length : Nat) : Int) > 0)) then
                      some (.v (.cell (.bool false)))
                    else
                      spec_validInstr_J10 n15 l16 l17 l18 l19 n20 n21 l22 n23 n24 n25 n26 l27 l28 n29
                  else
                    spec_validInstr_J10 n15 l16 l17 l18 l19 n20 n21 l22 n23 n24 n25 n26 l27 l28 n29
              else
                bif (n23 != 21) then
                  bif (decide (((l28.length : Nat) : Int) > 0)) then
                    some (.v (.cell (.bool false)))
                  else
                    spec_validInstr_J10 n15 l16 l17 l18 l19 n20 n21 l22 n23 n24 n25 n26 l27 l28 n29
                else
                  spec_validInstr_J10 n15 l16 l17 l18 l19 n20 n21 l22 n23 n24 n25 n26 l27 l28 n29
          else
            bif (n26 != 0) then
              bif (n23 != 6) then
                some (.v (.cell (.bool false)))
              else
                bif (n23 != 21) then
                  bif (decide (((l28.length : Nat) : Int) > 0)) then
                    some (.v (.cell (.bool false)))
                  else
                    spec_validInstr_J10 n15 l16 l17 l18 l19 n20 n21 l22 n23 n24 n25 n26 l27 l28 n29
                else
                  spec_validInstr_J10 n15 l16 l17 l18 l19 n20 n21 l22 n23 n24 n25 n26 l27 l28 n29
            else
              bif (n23 != 21) then
                bif (decide (((l28.length : Nat) : Int) > 0)) then
                  some (.v (.cell (.bool false)))
                else
                  spec_validInstr_J10 n15 l16 l17 l18 l19 n20 n21 l22 n23 n24 n25 n26 l27 l28 n29
              else
                spec_validInstr_J10 n15 l16 l17 l18 l19 n20 n21 l22 n23 n24 n25 n26 l27 l28 n29 : Option AV) = some r) : spec_validInstr_L0 n15 l16 l17 l18 l19 n20 n21 l22 n23 n24 n25 n26 l27 l28 n29 n30 = some r :=
  GL_le (X := X_spec_validInstr) (n := 100000) (by kernel_rfl) (by kernel_rfl : (X_spec_validInstr.fn.body.bind fun c => locL 0 c []) = some (.loop (loopOf (X_spec_validInstr.fn.body.bind fun c => locL 0 c [])), ksOf (X_spec_validInstr.fn.body.bind fun c => locL 0 c []))) (Eq.trans (by kernel_rfl) h)
theorem spec_validInstr_J10_le {n35 : Int} {l36 : List (List AC)} {l37 : List (List AC)} {l38 : List (List AC)} {l39 : List (List AC)} {n40 : Int} {n41 : Int} {l42 : List (List AC)} {n43 : Int} {n44 : Int} {n45 : Int} {n46 : Int} {l47 : List (List AC)} {l48 : List (List AC)} {n49 : Int} {r : AV} (h : (
    bif (n43 == 0) then
        bif (n49 == 0) then
          callR (spec_inRange [.cell (.int n45), .cell (.int (-999)), .cell (.int 999)]) false [(false, [.bool false])] fun b50 =>
          some (.v (.cell (.bool b50)))
        else
          some (.v (.cell (.bool false)))
      else
        bif (n43 == 1) then
          spec_validInstr_J18 n35 l36 l37 l38 l39 n40 n41 l42 n43 n44 n45 n46 l47 l48 n49 n43 (n43 == 1)
        else
          bif (n43 == 2) then
            spec_validInstr_J18 n35 l36 l37 l38 l39 n40 n41 l42 n43 n44 n45 n46 l47 l48 n49 n43 (n43 == 2)
          else
            bif (n43 == 3) then
              spec_validInstr_J18 n35 l36 l37 l38 l39 n40 n41 l42 n43 n44 n45 n46 l47 l48 n49 n43 (n43 == 3)
            else
              bif (n43 == 4) then
                spec_validInstr_J18 n35 l36 l37 l38 l39 n40 n41 l42 n43 n44 n45 n46 l47 l48 n49 n43 (n43 == 4)
              else
                spec_validInstr_J18 n35 l36 l37 l38 l39 n40 n41 l42 n43 n44 n45 n46 l47 l48 n49 n43 (n43 == 11) : Option AV) = some r) : spec_validInstr_J10 n35 l36 l37 l38 l39 n40 n41 l42 n43 n44 n45 n46 l47 l48 n49 = some r :=
  GJ_le (X := X_spec_validInstr) (n := 100000) (by kernel_rfl) (by kernel_rfl : (X_spec_validInstr.fn.body.bind fun c => locJ 10 c []) = some (cdOf (X_spec_validInstr.fn.body.bind fun c => locJ 10 c []), ksOf (X_spec_validInstr.fn.body.bind fun c => locJ 10 c []))) (Eq.trans (by kernel_rfl) h)
theorem spec_validInstr_J18_le {n51 : Int} {l52 : List (List AC)} {l53 : List (List AC)} {l54 : List (List AC)} {l55 : List (List AC)} {n56 : Int} {n57 : Int} {l58 : List (List AC)} {n59 : Int} {n60 : Int} {n61 : Int} {n62 : Int} {l63 : List (List AC)} {l64 : List (List AC)} {n65 : Int} {n66 : Int} {b67 : Bool} {r : AV} (h : (
    bif b67 then
        bif (n65 == 2) then
          some (.v (.cell (.bool (n61 == 0))))
        else
          some (.v (.cell (.bool false)))
      else
        bif (n66 == 5) then
          spec_validInstr_J24 n51 l52 l53 l54 l55 n56 n57 l58 n59 n60 n61 n62 l63 l64 n65 n66 (n66 == 5)
        else
          bif (n66 == 14) then
            spec_validInstr_J24 n51 l52 l53 l54 l55 n56 n57 l58 n59 n60 n61 n62 l63 l64 n65 n66 (n66 == 14)
          else
            bif (n66 == 15) then
              spec_validInstr_J24 n51 l52 l53 l54 l55 n56 n57 l58 n59 n60 n61 n62 l63 l64 n65 n66 (n66 == 15)
            else
              bif (n66 == 18) then
                spec_validInstr_J24 n51 l52 l53 l54 l55 n56 n57 l58 n59 n60 n61 n62 l63 l64 n65 n66 (n66 == 18)
              else
                spec_validInstr_J24 n51 l52 l53 l54 l55 n56 n57 l58 n59 n60 n61 n62 l63 l64 n65 n66 (n66 == 23) : Option AV) = some r) : spec_validInstr_J18 n51 l52 l53 l54 l55 n56 n57 l58 n59 n60 n61 n62 l63 l64 n65 n66 b67 = some r :=
  GJ_le (X := X_spec_validInstr) (n := 100000) (by kernel_rfl) (by kernel_rfl : (X_spec_validInstr.fn.body.bind fun c => locJ 18 c []) = some (cdOf (X_spec_validInstr.fn.body.bind fun c => locJ 18 c []), ksOf (X_spec_validInstr.fn.body.bind fun c => locJ 18 c []))) (Eq.trans (by kernel_rfl) h)
theorem spec_validInstr_J24_le {n68 : Int} {l69 : List (List AC)} {l70 : List (List AC)} {l71 : List (List AC)} {l72 : List (List AC)} {n73 : Int} {n74 : Int} {l75 : List (List AC)} {n76 : Int} {n77 : Int} {n78 : Int} {n79 : Int} {l80 : List (List AC)} {l81 : List (List AC)} {n82 : Int} {n83 : Int} {b84 : Bool} {r : AV} (h : (
    bif b84 then
        bif (n82 == 1) then
          some (.v (.cell (.bool (n78 == 0))))
        else
          some (.v (.cell (.bool false)))
      else
        bif (n83 == 6) then
          callR (spec_conType [.cell (.sl 3 l69), .cell (.int n78)]) false [(false, [.int 0])] fun n85 =>
          bif (decide (n85 > 0)) then
            callR (spec_conFields [.cell (.sl 3 l69), .cell (.int n78)]) false [(false, [.sl 1 []])] fun l86 =>
            bif (n82 == ((l86.length : Nat) : Int)) then
              callR (spec_inRange [.cell (.int n79), .cell (.int 0), .cell (.int n74)]) false [(false, [.bool false])] fun b87 =>
              some (.v (.cell (.bool b87)))
            else
              some (.v (.cell (.bool false)))
          else
            some (.v (.cell (.bool false)))
        else
          bif (n83 == 9) then
            spec_validInstr_J29 n68 l69 l70 l71 l72 n73 n74 l75 n76 n77 n78 n79 l80 l81 n82 n83 (n83 == 9)
          else
            spec_validInstr_J29 n68 l69 l70 l71 l72 n73 n74 l75 n76 n77 n78 n79 l80 l81 n82 n83 (n83 == 24) : Option AV) = some r) : spec_validInstr_J24 n68 l69 l70 l71 l72 n73 n74 l75 n76 n77 n78 n79 l80 l81 n82 n83 b84 = some r :=
  GJ_le (X := X_spec_validInstr) (n := 100000) (by kernel_rfl) (by kernel_rfl : (X_spec_validInstr.fn.body.bind fun c => locJ 24 c []) = some (cdOf (X_spec_validInstr.fn.body.bind fun c => locJ 24 c []), ksOf (X_spec_validInstr.fn.body.bind fun c => locJ 24 c []))) (Eq.trans (by kernel_rfl) h)
theorem spec_validInstr_J29_le {n88 : Int} {l89 : List (List AC)} {l90 : List (List AC)} {l91 : List (List AC)} {l92 : List (List AC)} {n93 : Int} {n94 : Int} {l95 : List (List AC)} {n96 : Int} {n97 : Int} {n98 : Int} {n99 : Int} {l100 : List (List AC)} {l101 : List (List AC)} {n102 : Int} {n103 : Int} {b104 : Bool} {r : AV} (h : (
    bif b104 then
        callR (spec_procWith [.agg [.sl 3 l89, .sl 5 l90], .cell (.int n98), .cell (.int n102), .cell (.int 0)]) false [(false, [.bool false])] fun b105 =>
        some (.v (.cell (.bool b105)))
      else
        bif (n103 == 10) then
          callR (spec_procWith [.agg [.sl 3 l89, .sl 5 l90], .cell (.int n98), .cell (.int n102), .cell (.int 1)]) false [(false, [.bool false])] fun b106 =>
          bif b106 then
            atR_ l90 n98 [.sl 1 [], .sl 1 [], .int 0, .int 0, .sl 6 []] fun l107 l108 n109 n110 l111 =>
            some (.v (.cell (.bool (((l108.length : Nat) : Int) == 0))))
          else
            some (.v (.cell (.bool false)))
        else
          bif (n103 == 16) then
            spec_validInstr_J34 n88 l89 l90 l91 l92 n93 n94 l95 n96 n97 n98 n99 l100 l101 n102 n103 (n103 == 16)
          else
            spec_validInstr_J34 n88 l89 l90 l91 l92 n93 n94 l95 n96 n97 n98 n99 l100 l101 n102 n103 (n103 == 17) : Option AV) = some r) : spec_validInstr_J29 n88 l89 l90 l91 l92 n93 n94 l95 n96 n97 n98 n99 l100 l101 n102 n103 b104 = some r :=
  GJ_le (X := X_spec_validInstr) (n := 100000) (by kernel_rfl) (by kernel_rfl : (X_spec_validInstr.fn.body.bind fun c => locJ 29 c []) = some (cdOf (X_spec_validInstr.fn.body.bind fun c => locJ 29 c []), ksOf (X_spec_validInstr.fn.body.bind fun c => locJ 29 c []))) (Eq.trans (by kernel_rfl) h)
theorem spec_validInstr_J34_le {n112 : Int} {l113 : List (List AC)} {l114 : List (List AC)} {l115 : List (List AC)} {l116 : List (List AC)} {n117 : Int} {n118 : Int} {l119 : List (List AC)} {n120 : Int} {n121 : Int} {n122 : Int} {n123 : Int} {l124 : List (List AC)} {l125 : List (List AC)} {n126 : Int} {n127 : Int} {b128 : Bool} {r : AV} (h : (
    bif b128 then
        callR (spec_inRange [.cell (.int n126), .cell (.int 1), .cell (.int 4)]) false [(false, [.bool false])] fun b129 =>
        bif b129 then
          some (.v (.cell (.bool (n122 == 0))))
        else
          some (.v (.cell (.bool false)))
      else
        bif (n127 == 19) then
          bif (n126 == 1) then
            callR (spec_inRange [.cell (.int n122), .cell (.int 0), .cell (.int 2)]) false [(false, [.bool false])] fun b130 =>
            some (.v (.cell (.bool b130)))
          else
            some (.v (.cell (.bool false)))
        else
          bif (n127 == 20) then
            bif (n126 == 1) then
              callR (spec_inRange [.cell (.int n122), .cell (.int (wrapI (n112 + 1))), .cell (.int (wrapI (((l119.length : Nat) : Int) - 1)))]) false [(false, [.bool false])] fun b131 =>
              some (.v (.cell (.bool b131)))
            else
              some (.v (.cell (.bool false)))
          else
            bif (n127 == 22) then
              bif (n126 == 0) then
                callR (spec_inRange [.cell (.int n122), .cell (.int (wrapI (n112 + 1))), .cell (.int (wrapI (((l119.length : Nat) : Int) - 1)))]) false [(false, [.bool false])] fun b132 =>
                some (.v (.cell (.bool b132)))
              else
                some (.v (.cell (.bool false)))
            else
              bif (n127 == 21) then
                callR (spec_consOf [.cell (.sl 3 l113), .cell (.int n122)]) false [(false, [.sl 1 []])] fun l133 =>
                bif (n126 == 1) then
                  bif (decide (((l133.length : Nat) : Int) > 0)) then
                    callR (spec_validJumps [.cell (.sl 1 l125), .cell (.int ((l133.length : Nat) : Int)), .cell (.int n112), .cell (.int ((l119.length : Nat) : Int))]) false [(false, [.bool false])] fun b134 =>
                    some (.v (.cell (.bool b134)))
                  else
                    some (.v (.cell (.bool false)))
                else
                  some (.v (.cell (.bool false)))
              else
                some (.v (.cell (.bool false))) : Option AV) = some r) : spec_validInstr_J34 n112 l113 l114 l115 l116 n117 n118 l119 n120 n121 n122 n123 l124 l125 n126 n127 b128 = some r :=
  GJ_le (X := X_spec_validInstr) (n := 100000) (by kernel_rfl) (by kernel_rfl : (X_spec_validInstr.fn.body.bind fun c => locJ 34 c []) = some (cdOf (X_spec_validInstr.fn.body.bind fun c => locJ 34 c []), ksOf (X_spec_validInstr.fn.body.bind fun c => locJ 34 c []))) (Eq.trans (by kernel_rfl) h)
theorem spec_validInstr_le {l1 : List (List AC)} {l2 : List (List AC)} {l3 : List (List AC)} {l4 : List (List AC)} {n5 : Int} {n6 : Int} {l7 : List (List AC)} {n8 : Int} {r : AV} (h : (
    atR_ l7 n8 [.int 0, .int 0, .int 0, .int 0, .sl 1 [], .sl 1 []] fun n9 n10 n11 n12 l13 l14 =>
      spec_validInstr_L0 n8 l1 l2 l3 l4 n5 n6 l7 n9 n10 n11 n12 l13 l14 ((l13.length : Nat) : Int) 0 : Option AV) = some r) : spec_validInstr [.agg [.sl 3 l1, .sl 5 l2], .agg [.sl 1 l3, .sl 1 l4, .int n5, .int n6, .sl 6 l7], .cell (.int n8)] = some r :=
  V_le (X := X_spec_validInstr) (n := 100000) (c := cOf Try.f40) (by kernel_rfl) Try.func40 (by kernel_rfl) (of_decide_eq_true (by kernel_rfl)) (Eq.trans (by kernel_rfl) h)
noncomputable def X_impl_ValidTypes : Ctx := { P := Try.prog, L := lay, F := sig.has, E := ext, fn := Try.f44, lv := [(0, [0, 8, 9])], jv := [], tp := [] }
noncomputable def impl_ValidTypes_L0 (l2 : List (List AC)) (n3 : Int) (n4 : Int) : Option AV := GL X_impl_ValidTypes 0 [(0, .v (.cell (.sl 3 l2))), (8, .v (.cell (.int n3))), (9, .v (.cell (.int n4)))]
theorem impl_ValidTypes_L0_le {l2 : List (List AC)} {n3 : Int} {n4 : Int} {r : AV} (h : (
    bif (decide (n4 < n3)) then
        callR (impl_validDecl [.cell (.sl 3 l2), .cell (.int n4)]) false [(false, [.bool false])] fun b5 =>
        bif (!b5) then
          some (.v (.cell (.bool false)))
        else
          impl_ValidTypes_L0 l2 n3 (wrapI (n4 + 1))
      else
        some (.v (.cell (.bool true))) : Option AV) = some r) : impl_ValidTypes_L0 l2 n3 n4 = some r :=
  GL_le (X := X_impl_ValidTypes) (n := 100000) (by kernel_rfl) (by kernel_rfl : (X_impl_ValidTypes.fn.body.bind fun c => locL 0 c []) = some (.loop (loopOf (X_impl_ValidTypes.fn.body.bind fun c => locL 0 c [])), ksOf (X_impl_ValidTypes.fn.body.bind fun c => locL 0 c []))) (Eq.trans (by kernel_rfl) h)
theorem impl_ValidTypes_le {l1 : List (List AC)} {r : AV} (h : (
    bif (decide (((l1.length : Nat) : Int) > 4)) then
        some (.v (.cell (.bool false)))
      else
        impl_ValidTypes_L0 l1 ((l1.length : Nat) : Int) 0 : Option AV) = some r) : impl_ValidTypes [.cell (.sl 3 l1)] = some r :=
  V_le (X := X_impl_ValidTypes) (n := 100000) (c := cOf Try.f44) (by kernel_rfl) Try.func44 (by kernel_rfl) (of_decide_eq_true (by kernel_rfl)) (Eq.trans (by kernel_rfl) h)
noncomputable def X_impl_validSig : Ctx := { P := Try.prog, L := lay, F := sig.has, E := ext, fn := Try.f45, lv := [], jv := [], tp := [] }
theorem impl_validSig_le {l1 : List (List AC)} {l2 : List (List AC)} {n3 : Int} {r : AV} (h : (
    bif (decide (((l2.length : Nat) : Int) ≤ 3)) then
        callR (impl_areTypes [.cell (.sl 3 l1), .cell (.sl 1 l2)]) false [(false, [.bool false])] fun b4 =>
        bif b4 then
          callR (impl_isType [.cell (.sl 3 l1), .cell (.int n3)]) false [(false, [.bool false])] fun b5 =>
          some (.v (.cell (.bool b5)))
        else
          some (.v (.cell (.bool false)))
      else
        some (.v (.cell (.bool false))) : Option AV) = some r) : impl_validSig [.cell (.sl 3 l1), .cell (.sl 1 l2), .cell (.int n3)] = some r :=
  V_le (X := X_impl_validSig) (n := 100000) (c := cOf Try.f45) (by kernel_rfl) Try.func45 (by kernel_rfl) (of_decide_eq_true (by kernel_rfl)) (Eq.trans (by kernel_rfl) h)
noncomputable def X_impl_isInstr : Ctx := { P := Try.prog, L := lay, F := sig.has, E := ext, fn := Try.f46, lv := [], jv := [], tp := [] }
theorem impl_isInstr_le {n1 : Int} {r : AV} (h : (
    bif (decide (n1 ≥ 0)) then
        bif (decide (n1 ≤ 24)) then
          bif (n1 != 7) then
            bif (n1 != 8) then
              bif (n1 != 12) then
                some (.v (.cell (.bool (n1 != 13))))
              else
                some (.v (.cell (.bool false)))
            else
              some (.v (.cell (.bool false)))
          else
            some (.v (.cell (.bool false)))
        else
          some (.v (.cell (.bool false)))
      else
        some (.v (.cell (.bool false))) : Option AV) = some r) : impl_isInstr [.cell (.int n1)] = some r :=
  V_le (X := X_impl_isInstr) (n := 100000) (c := cOf Try.f46) (by kernel_rfl) Try.func46 (by kernel_rfl) (of_decide_eq_true (by kernel_rfl)) (Eq.trans (by kernel_rfl) h)
noncomputable def X_impl_validNum : Ctx := { P := Try.prog, L := lay, F := sig.has, E := ext, fn := Try.f47, lv := [], jv := [], tp := [] }
theorem impl_validNum_le {l1 : List (List AC)} {l2 : List (List AC)} {l3 : List (List AC)} {l4 : List (List AC)} {n5 : Int} {n6 : Int} {l7 : List (List AC)} {n8 : Int} {r : AV} (h : (
    atR_ l7 n8 [.int 0, .int 0, .int 0, .int 0, .sl 1 [], .sl 1 []] fun n9 n10 n11 n12 l13 l14 =>
      atR_ l7 n8 [.int 0, .int 0, .int 0, .int 0, .sl 1 [], .sl 1 []] fun n15 n16 n17 n18 l19 l20 =>
      bif (n15 == 0) then
        callR (impl_inInts [.cell (.int n11)]) false [(false, [.bool false])] fun b21 =>
        some (.v (.cell (.bool b21)))
      else
        bif (n15 == 6) then
          callR (impl_typeOfCon [.cell (.sl 3 l1), .cell (.int n11)]) false [(false, [.int 0])] fun n22 =>
          some (.v (.cell (.bool (decide (n22 ≥ 0)))))
        else
          bif (n15 == 9) then
            bif (n15 == 9) then
              callR (impl_hasRoutine [.agg [.sl 3 l1, .sl 5 l2], .cell (.int n11)]) false [(false, [.bool false])] fun b23 =>
              some (.v (.cell (.bool b23)))
            else
              bif (n15 == 10) then
                callR (impl_hasRoutine [.agg [.sl 3 l1, .sl 5 l2], .cell (.int n11)]) false [(false, [.bool false])] fun b24 =>
                bif b24 then
                  callR (impl_lends [.agg [.sl 3 l1, .sl 5 l2], .cell (.int n11)]) false [(false, [.bool false])] fun b25 =>
                  some (.v (.cell (.bool (!b25))))
                else
                  some (.v (.cell (.bool false)))
              else
                bif (n15 == 19) then
                  bif (decide (n11 ≥ 0)) then
                    some (.v (.cell (.bool (decide (n11 < 3)))))
                  else
                    some (.v (.cell (.bool false)))
                else
                  bif (n15 == 20) then
                    bif (n15 == 20) then
                      callR (impl_isLater [.agg [.sl 1 l3, .sl 1 l4, .int n5, .int n6, .sl 6 l7], .cell (.int n8), .cell (.int n11)]) false [(false, [.bool false])] fun b26 =>
                      some (.v (.cell (.bool b26)))
                    else
                      bif (n15 == 21) then
                        callR (impl_isData [.cell (.sl 3 l1), .cell (.int n11)]) false [(false, [.bool false])] fun b27 =>
                        some (.v (.cell (.bool b27)))
                      else
                        some (.v (.cell (.bool (n11 == 0))))
                  else
                    bif (n15 == 22) then
                      callR (impl_isLater [.agg [.sl 1 l3, .sl 1 l4, .int n5, .int n6, .sl 6 l7], .cell (.int n8), .cell (.int n11)]) false [(false, [.bool false])] fun b28 =>
                      some (.v (.cell (.bool b28)))
                    else
                      bif (n15 == 21) then
                        callR (impl_isData [.cell (.sl 3 l1), .cell (.int n11)]) false [(false, [.bool false])] fun b29 =>
                        some (.v (.cell (.bool b29)))
                      else
                        some (.v (.cell (.bool (n11 == 0))))
          else
            bif (n15 == 24) then
              callR (impl_hasRoutine [.agg [.sl 3 l1, .sl 5 l2], .cell (.int n11)]) false [(false, [.bool false])] fun b30 =>
              some (.v (.cell (.bool b30)))
            else
              bif (n15 == 10) then
                callR (impl_hasRoutine [.agg [.sl 3 l1, .sl 5 l2], .cell (.int n11)]) false [(false, [.bool false])] fun b31 =>
                bif b31 then
                  callR (impl_lends [.agg [.sl 3 l1, .sl 5 l2], .cell (.int n11)]) false [(false, [.bool false])] fun b32 =>
                  some (.v (.cell (.bool (!b32))))
                else
                  some (.v (.cell (.bool false)))
              else
                bif (n15 == 19) then
                  bif (decide (n11 ≥ 0)) then
                    some (.v (.cell (.bool (decide (n11 < 3)))))
                  else
                    some (.v (.cell (.bool false)))
                else
                  bif (n15 == 20) then
                    bif (n15 == 20) then
                      callR (impl_isLater [.agg [.sl 1 l3, .sl 1 l4, .int n5, .int n6, .sl 6 l7], .cell (.int n8), .cell (.int n11)]) false [(false, [.bool false])] fun b33 =>
                      some (.v (.cell (.bool b33)))
                    else
                      bif (n15 == 21) then
                        callR (impl_isData [.cell (.sl 3 l1), .cell (.int n11)]) false [(false, [.bool false])] fun b34 =>
                        some (.v (.cell (.bool b34)))
                      else
                        some (.v (.cell (.bool (n11 == 0))))
                  else
                    bif (n15 == 22) then
                      callR (impl_isLater [.agg [.sl 1 l3, .sl 1 l4, .int n5, .int n6, .sl 6 l7], .cell (.int n8), .cell (.int n11)]) false [(false, [.bool false])] fun b35 =>
                      some (.v (.cell (.bool b35)))
                    else
                      bif (n15 == 21) then
                        callR (impl_isData [.cell (.sl 3 l1), .cell (.int n11)]) false [(false, [.bool false])] fun b36 =>
                        some (.v (.cell (.bool b36)))
                      else
                        some (.v (.cell (.bool (n11 == 0)))) : Option AV) = some r) : impl_validNum [.agg [.sl 3 l1, .sl 5 l2], .agg [.sl 1 l3, .sl 1 l4, .int n5, .int n6, .sl 6 l7], .cell (.int n8)] = some r :=
  V_le (X := X_impl_validNum) (n := 100000) (c := cOf Try.f47) (by kernel_rfl) Try.func47 (by kernel_rfl) (of_decide_eq_true (by kernel_rfl)) (Eq.trans (by kernel_rfl) h)
noncomputable def X_impl_validArgs : Ctx := { P := Try.prog, L := lay, F := sig.has, E := ext, fn := Try.f48, lv := [], jv := [], tp := [] }
theorem impl_validArgs_le {l1 : List (List AC)} {l2 : List (List AC)} {n3 : Int} {n4 : Int} {n5 : Int} {n6 : Int} {l7 : List (List AC)} {l8 : List (List AC)} {r : AV} (h : (
    bif (n3 == 0) then
        bif (n3 == 0) then
          some (.v (.cell (.bool (((l7.length : Nat) : Int) == 0))))
        else
          bif (n3 == 1) then
            bif (n3 == 1) then
              some (.v (.cell (.bool (((l7.length : Nat) : Int) == 2))))
            else
              bif (n3 == 6) then
                callR (impl_fieldsOfCon [.cell (.sl 3 l1), .cell (.int n5)]) false [(false, [.sl 1 []])] fun l9 =>
                some (.v (.cell (.bool (((l7.length : Nat) : Int) == ((l9.length : Nat) : Int)))))
              else
                bif (n3 == 9) then
                  bif (n3 == 9) then
                    atR_ l2 n5 [.sl 1 [], .sl 1 [], .int 0, .sl 5 [], .int 0] fun l10 l11 n12 l13 n14 =>
                    some (.v (.cell (.bool (((l7.length : Nat) : Int) == ((l10.length : Nat) : Int)))))
                  else
                    bif (n3 == 10) then
                      atR_ l2 n5 [.sl 1 [], .sl 1 [], .int 0, .sl 5 [], .int 0] fun l15 l16 n17 l18 n19 =>
                      some (.v (.cell (.bool (((l7.length : Nat) : Int) == (wrapI (((l15.length : Nat) : Int) - 1))))))
                    else
                      bif (n3 == 16) then
                        bif (n3 == 16) then
                          bif (decide (((l7.length : Nat) : Int) ≥ 1)) then
                            some (.v (.cell (.bool (decide (((l7.length : Nat) : Int) ≤ 4)))))
                          else
                            some (.v (.cell (.bool false)))
                        else
                          some (.v (.cell (.bool (((l7.length : Nat) : Int) == 1))))
                      else
                        bif (n3 == 17) then
                          bif (decide (((l7.length : Nat) : Int) ≥ 1)) then
                            some (.v (.cell (.bool (decide (((l7.length : Nat) : Int) ≤ 4)))))
                          else
                            some (.v (.cell (.bool false)))
                        else
                          some (.v (.cell (.bool (((l7.length : Nat) : Int) == 1))))
                else
                  bif (n3 == 24) then
                    atR_ l2 n5 [.sl 1 [], .sl 1 [], .int 0, .sl 5 [], .int 0] fun l20 l21 n22 l23 n24 =>
                    some (.v (.cell (.bool (((l7.length : Nat) : Int) == ((l20.length : Nat) : Int)))))
                  else
                    bif (n3 == 10) then
                      atR_ l2 n5 [.sl 1 [], .sl 1 [], .int 0, .sl 5 [], .int 0] fun l25 l26 n27 l28 n29 =>
                      some (.v (.cell (.bool (((l7.length : Nat) : Int) == (wrapI (((l25.length : Nat) : Int) - 1))))))
                    else
                      bif (n3 == 16) then
                        bif (n3 == 16) then
                          bif (decide (((l7.length : Nat) : Int) ≥ 1)) then
                            some (.v (.cell (.bool (decide (((l7.length : Nat) : Int) ≤ 4)))))
                          else
                            some (.v (.cell (.bool false)))
                        else
                          some (.v (.cell (.bool (((l7.length : Nat) : Int) == 1))))
                      else
                        bif (n3 == 17) then
                          bif (decide (((l7.length : Nat) : Int) ≥ 1)) then
                            some (.v (.cell (.bool (decide (((l7.length : Nat) : Int) ≤ 4)))))
                          else
                            some (.v (.cell (.bool false)))
                        else
                          some (.v (.cell (.bool (((l7.length : Nat) : Int) == 1))))
          else
            bif (n3 == 2) then
              bif (n3 == 2) then
                some (.v (.cell (.bool (((l7.length : Nat) : Int) == 2))))
              else
                bif (n3 == 6) then
                  callR (impl_fieldsOfCon [.cell (.sl 3 l1), .cell (.int n5)]) false [(false, [.sl 1 []])] fun l30 =>
                  some (.v (.cell (.bool (((l7.length : Nat) : Int) == ((l30.length : Nat) : Int)))))
                else
                  bif (n3 == 9) then
                    bif (n3 == 9) then
                      atR_ l2 n5 [.sl 1 [], .sl 1 [], .int 0, .sl 5 [], .int 0] fun l31 l32 n33 l34 n35 =>
                      some (.v (.cell (.bool (((l7.length : Nat) : Int) == ((l31.length : Nat) : Int)))))
                    else
                      bif (n3 == 10) then
                        atR_ l2 n5 [.sl 1 [], .sl 1 [], .int 0, .sl 5 [], .int 0] fun l36 l37 n38 l39 n40 =>
                        some (.v (.cell (.bool (((l7.length : Nat) : Int) == (wrapI (((l36.length : Nat) : Int) - 1))))))
                      else
                        bif (n3 == 16) then
                          bif (n3 == 16) then
                            bif (decide (((l7.length : Nat) : Int) ≥ 1)) then
                              some (.v (.cell (.bool (decide (((l7.length : Nat) : Int) ≤ 4)))))
                            else
                              some (.v (.cell (.bool false)))
                          else
                            some (.v (.cell (.bool (((l7.length : Nat) : Int) == 1))))
                        else
                          bif (n3 == 17) then
                            bif (decide (((l7.length : Nat) : Int) ≥ 1)) then
                              some (.v (.cell (.bool (decide (((l7.length : Nat) : Int) ≤ 4)))))
                            else
                              some (.v (.cell (.bool false)))
                          else
                            some (.v (.cell (.bool (((l7.length : Nat) : Int) == 1))))
                  else
                    bif (n3 == 24) then
                      atR_ l2 n5 [.sl 1 [], .sl 1 [], .int 0, .sl 5 [], .int 0] fun l41 l42 n43 l44 n45 =>
                      some (.v (.cell (.bool (((l7.length : Nat) : Int) == ((l41.length : Nat) : Int)))))
                    else
                      bif (n3 == 10) then
                        atR_ l2 n5 [.sl 1 [], .sl 1 [], .int 0, .sl 5 [], .int 0] fun l46 l47 n48 l49 n50 =>
                        some (.v (.cell (.bool (((l7.length : Nat) : Int) == (wrapI (((l46.length : Nat) : Int) - 1))))))
                      else
                        bif (n3 == 16) then
                          bif (n3 == 16) then
                            bif (decide (((l7.length : Nat) : Int) ≥ 1)) then
                              some (.v (.cell (.bool (decide (((l7.length : Nat) : Int) ≤ 4)))))
                            else
                              some (.v (.cell (.bool false)))
                          else
                            some (.v (.cell (.bool (((l7.length : Nat) : Int) == 1))))
                        else
                          bif (n3 == 17) then
                            bif (decide (((l7.length : Nat) : Int) ≥ 1)) then
                              some (.v (.cell (.bool (decide (((l7.length : Nat) : Int) ≤ 4)))))
                            else
                              some (.v (.cell (.bool false)))
                          else
                            some (.v (.cell (.bool (((l7.length : Nat) : Int) == 1))))
            else
              bif (n3 == 3) then
                bif (n3 == 3) then
                  some (.v (.cell (.bool (((l7.length : Nat) : Int) == 2))))
                else
                  bif (n3 == 6) then
                    callR (impl_fieldsOfCon [.cell (.sl 3 l1), .cell (.int n5)]) false [(false, [.sl 1 []])] fun l51 =>
                    some (.v (.cell (.bool (((l7.length : Nat) : Int) == ((l51.length : Nat) : Int)))))
                  else
                    bif (n3 == 9) then
                      bif (n3 == 9) then
                        atR_ l2 n5 [.sl 1 [], .sl 1 [], .int 0, .sl 5 [], .int 0] fun l52 l53 n54 l55 n56 =>
                        some (.v (.cell (.bool (((l7.length : Nat) : Int) == ((l52.length : Nat) : Int)))))
                      else
                        bif (n3 == 10) then
                          atR_ l2 n5 [.sl 1 [], .sl 1 [], .int 0, .sl 5 [], .int 0] fun l57 l58 n59 l60 n61 =>
                          some (.v (.cell (.bool (((l7.length : Nat) : Int) == (wrapI (((l57.length : Nat) : Int) - 1))))))
                        else
                          bif (n3 == 16) then
                            bif (n3 == 16) then
                              bif (decide (((l7.length : Nat) : Int) ≥ 1)) then
                                some (.v (.cell (.bool (decide (((l7.length : Nat) : Int) ≤ 4)))))
                              else
                                some (.v (.cell (.bool false)))
                            else
                              some (.v (.cell (.bool (((l7.length : Nat) : Int) == 1))))
                          else
                            bif (n3 == 17) then
                              bif (decide (((l7.length : Nat) : Int) ≥ 1)) then
                                some (.v (.cell (.bool (decide (((l7.length : Nat) : Int) ≤ 4)))))
                              else
                                some (.v (.cell (.bool false)))
                            else
                              some (.v (.cell (.bool (((l7.length : Nat) : Int) == 1))))
                    else
                      bif (n3 == 24) then
                        atR_ l2 n5 [.sl 1 [], .sl 1 [], .int 0, .sl 5 [], .int 0] fun l62 l63 n64 l65 n66 =>
                        some (.v (.cell (.bool (((l7.length : Nat) : Int) == ((l62.length : Nat) : Int)))))
                      else
                        bif (n3 == 10) then
                          atR_ l2 n5 [.sl 1 [], .sl 1 [], .int 0, .sl 5 [], .int 0] fun l67 l68 n69 l70 n71 =>
                          some (.v (.cell (.bool (((l7.length : Nat) : Int) == (wrapI (((l67.length : Nat) : Int) - 1))))))
                        else
                          bif (n3 == 16) then
                            bif (n3 == 16) then
                              bif (decide (((l7.length : Nat) : Int) ≥ 1)) then
                                some (.v (.cell (.bool (decide (((l7.length : Nat) : Int) ≤ 4)))))
                              else
                                some (.v (.cell (.bool false)))
                            else
                              some (.v (.cell (.bool (((l7.length : Nat) : Int) == 1))))
                          else
                            bif (n3 == 17) then
                              bif (decide (((l7.length : Nat) : Int) ≥ 1)) then
                                some (.v (.cell (.bool (decide (((l7.length : Nat) : Int) ≤ 4)))))
                              else
                                some (.v (.cell (.bool false)))
                            else
                              some (.v (.cell (.bool (((l7.length : Nat) : Int) == 1))))
              else
                bif (n3 == 4) then
                  bif (n3 == 4) then
                    some (.v (.cell (.bool (((l7.length : Nat) : Int) == 2))))
                  else
                    bif (n3 == 6) then
                      callR (impl_fieldsOfCon [.cell (.sl 3 l1), .cell (.int n5)]) false [(false, [.sl 1 []])] fun l72 =>
                      some (.v (.cell (.bool (((l7.length : Nat) : Int) == ((l72.length : Nat) : Int)))))
                    else
                      bif (n3 == 9) then
                        bif (n3 == 9) then
                          atR_ l2 n5 [.sl 1 [], .sl 1 [], .int 0, .sl 5 [], .int 0] fun l73 l74 n75 l76 n77 =>
                          some (.v (.cell (.bool (((l7.length : Nat) : Int) == ((l73.length : Nat) : Int)))))
                        else
                          bif (n3 == 10) then
                            atR_ l2 n5 [.sl 1 [], .sl 1 [], .int 0, .sl 5 [], .int 0] fun l78 l79 n80 l81 n82 =>
                            some (.v (.cell (.bool (((l7.length : Nat) : Int) == (wrapI (((l78.length : Nat) : Int) - 1))))))
                          else
                            bif (n3 == 16) then
                              bif (n3 == 16) then
                                bif (decide (((l7.length : Nat) : Int) ≥ 1)) then
                                  some (.v (.cell (.bool (decide (((l7.length : Nat) : Int) ≤ 4)))))
                                else
                                  some (.v (.cell (.bool false)))
                              else
                                some (.v (.cell (.bool (((l7.length : Nat) : Int) == 1))))
                            else
                              bif (n3 == 17) then
                                bif (decide (((l7.length : Nat) : Int) ≥ 1)) then
                                  some (.v (.cell (.bool (decide (((l7.length : Nat) : Int) ≤ 4)))))
                                else
                                  some (.v (.cell (.bool false)))
                              else
                                some (.v (.cell (.bool (((l7.length : Nat) : Int) == 1))))
                      else
                        bif (n3 == 24) then
                          atR_ l2 n5 [.sl 1 [], .sl 1 [], .int 0, .sl 5 [], .int 0] fun l83 l84 n85 l86 n87 =>
                          some (.v (.cell (.bool (((l7.length : Nat) : Int) == ((l83.length : Nat) : Int)))))
                        else
                          bif (n3 == 10) then
                            atR_ l2 n5 [.sl 1 [], .sl 1 [], .int 0, .sl 5 [], .int 0] fun l88 l89 n90 l91 n92 =>
                            some (.v (.cell (.bool (((l7.length : Nat) : Int) == (wrapI (((l88.length : Nat) : Int) - 1))))))
                          else
                            bif (n3 == 16) then
                              bif (n3 == 16) then
                                bif (decide (((l7.length : Nat) : Int) ≥ 1)) then
                                  some (.v (.cell (.bool (decide (((l7.length : Nat) : Int) ≤ 4)))))
                                else
                                  some (.v (.cell (.bool false)))
                              else
                                some (.v (.cell (.bool (((l7.length : Nat) : Int) == 1))))
                            else
                              bif (n3 == 17) then
                                bif (decide (((l7.length : Nat) : Int) ≥ 1)) then
                                  some (.v (.cell (.bool (decide (((l7.length : Nat) : Int) ≤ 4)))))
                                else
                                  some (.v (.cell (.bool false)))
                              else
                                some (.v (.cell (.bool (((l7.length : Nat) : Int) == 1))))
                else
                  bif (n3 == 11) then
                    some (.v (.cell (.bool (((l7.length : Nat) : Int) == 2))))
                  else
                    bif (n3 == 6) then
                      callR (impl_fieldsOfCon [.cell (.sl 3 l1), .cell (.int n5)]) false [(false, [.sl 1 []])] fun l93 =>
                      some (.v (.cell (.bool (((l7.length : Nat) : Int) == ((l93.length : Nat) : Int)))))
                    else
                      bif (n3 == 9) then
                        bif (n3 == 9) then
                          atR_ l2 n5 [.sl 1 [], .sl 1 [], .int 0, .sl 5 [], .int 0] fun l94 l95 n96 l97 n98 =>
                          some (.v (.cell (.bool (((l7.length : Nat) : Int) == ((l94.length : Nat) : Int)))))
                        else
                          bif (n3 == 10) then
                            atR_ l2 n5 [.sl 1 [], .sl 1 [], .int 0, .sl 5 [], .int 0] fun l99 l100 n101 l102 n103 =>
                            some (.v (.cell (.bool (((l7.length : Nat) : Int) == (wrapI (((l99.length : Nat) : Int) - 1))))))
                          else
                            bif (n3 == 16) then
                              bif (n3 == 16) then
                                bif (decide (((l7.length : Nat) : Int) ≥ 1)) then
                                  some (.v (.cell (.bool (decide (((l7.length : Nat) : Int) ≤ 4)))))
                                else
                                  some (.v (.cell (.bool false)))
                              else
                                some (.v (.cell (.bool (((l7.length : Nat) : Int) == 1))))
                            else
                              bif (n3 == 17) then
                                bif (decide (((l7.length : Nat) : Int) ≥ 1)) then
                                  some (.v (.cell (.bool (decide (((l7.length : Nat) : Int) ≤ 4)))))
                                else
                                  some (.v (.cell (.bool false)))
                              else
                                some (.v (.cell (.bool (((l7.length : Nat) : Int) == 1))))
                      else
                        bif (n3 == 24) then
                          atR_ l2 n5 [.sl 1 [], .sl 1 [], .int 0, .sl 5 [], .int 0] fun l104 l105 n106 l107 n108 =>
                          some (.v (.cell (.bool (((l7.length : Nat) : Int) == ((l104.length : Nat) : Int)))))
                        else
                          bif (n3 == 10) then
                            atR_ l2 n5 [.sl 1 [], .sl 1 [], .int 0, .sl 5 [], .int 0] fun l109 l110 n111 l112 n113 =>
                            some (.v (.cell (.bool (((l7.length : Nat) : Int) == (wrapI (((l109.length : Nat) : Int) - 1))))))
                          else
                            bif (n3 == 16) then
                              bif (n3 == 16) then
                                bif (decide (((l7.length : Nat) : Int) ≥ 1)) then
                                  some (.v (.cell (.bool (decide (((l7.length : Nat) : Int) ≤ 4)))))
                                else
                                  some (.v (.cell (.bool false)))
                              else
                                some (.v (.cell (.bool (((l7.length : Nat) : Int) == 1))))
                            else
                              bif (n3 == 17) then
                                bif (decide (((l7.length : Nat) : Int) ≥ 1)) then
                                  some (.v (.cell (.bool (decide (((l7.length : Nat) : Int) ≤ 4)))))
                                else
                                  some (.v (.cell (.bool false)))
                              else
                                some (.v (.cell (.bool (((l7.length : Nat) : Int) == 1))))
      else
        bif (n3 == 22) then
          some (.v (.cell (.bool (((l7.length : Nat) : Int) == 0))))
        else
          bif (n3 == 1) then
            bif (n3 == 1) then
              some (.v (.cell (.bool (((l7.length : Nat) : Int) == 2))))
            else
              bif (n3 == 6) then
                callR (impl_fieldsOfCon [.cell (.sl 3 l1), .cell (.int n5)]) false [(false, [.sl 1 []])] fun l114 =>
                some (.v (.cell (.bool (((l7.length : Nat) : Int) == ((l114.length : Nat) : Int)))))
              else
                bif (n3 == 9) then
                  bif (n3 == 9) then
                    atR_ l2 n5 [.sl 1 [], .sl 1 [], .int 0, .sl 5 [], .int 0] fun l115 l116 n117 l118 n119 =>
                    some (.v (.cell (.bool (((l7.length : Nat) : Int) == ((l115.length : Nat) : Int)))))
                  else
                    bif (n3 == 10) then
                      atR_ l2 n5 [.sl 1 [], .sl 1 [], .int 0, .sl 5 [], .int 0] fun l120 l121 n122 l123 n124 =>
                      some (.v (.cell (.bool (((l7.length : Nat) : Int) == (wrapI (((l120.length : Nat) : Int) - 1))))))
                    else
                      bif (n3 == 16) then
                        bif (n3 == 16) then
                          bif (decide (((l7.length : Nat) : Int) ≥ 1)) then
                            some (.v (.cell (.bool (decide (((l7.length : Nat) : Int) ≤ 4)))))
                          else
                            some (.v (.cell (.bool false)))
                        else
                          some (.v (.cell (.bool (((l7.length : Nat) : Int) == 1))))
                      else
                        bif (n3 == 17) then
                          bif (decide (((l7.length : Nat) : Int) ≥ 1)) then
                            some (.v (.cell (.bool (decide (((l7.length : Nat) : Int) ≤ 4)))))
                          else
                            some (.v (.cell (.bool false)))
                        else
                          some (.v (.cell (.bool (((l7.length : Nat) : Int) == 1))))
                else
                  bif (n3 == 24) then
                    atR_ l2 n5 [.sl 1 [], .sl 1 [], .int 0, .sl 5 [], .int 0] fun l125 l126 n127 l128 n129 =>
                    some (.v (.cell (.bool (((l7.length : Nat) : Int) == ((l125.length : Nat) : Int)))))
                  else
                    bif (n3 == 10) then
                      atR_ l2 n5 [.sl 1 [], .sl 1 [], .int 0, .sl 5 [], .int 0] fun l130 l131 n132 l133 n134 =>
                      some (.v (.cell (.bool (((l7.length : Nat) : Int) == (wrapI (((l130.length : Nat) : Int) - 1))))))
                    else
                      bif (n3 == 16) then
                        bif (n3 == 16) then
                          bif (decide (((l7.length : Nat) : Int) ≥ 1)) then
                            some (.v (.cell (.bool (decide (((l7.length : Nat) : Int) ≤ 4)))))
                          else
                            some (.v (.cell (.bool false)))
                        else
                          some (.v (.cell (.bool (((l7.length : Nat) : Int) == 1))))
                      else
                        bif (n3 == 17) then
                          bif (decide (((l7.length : Nat) : Int) ≥ 1)) then
                            some (.v (.cell (.bool (decide (((l7.length : Nat) : Int) ≤ 4)))))
                          else
                            some (.v (.cell (.bool false)))
                        else
                          some (.v (.cell (.bool (((l7.length : Nat) : Int) == 1))))
          else
            bif (n3 == 2) then
              bif (n3 == 2) then
                some (.v (.cell (.bool (((l7.length : Nat) : Int) == 2))))
              else
                bif (n3 == 6) then
                  callR (impl_fieldsOfCon [.cell (.sl 3 l1), .cell (.int n5)]) false [(false, [.sl 1 []])] fun l135 =>
                  some (.v (.cell (.bool (((l7.length : Nat) : Int) == ((l135.length : Nat) : Int)))))
                else
                  bif (n3 == 9) then
                    bif (n3 == 9) then
                      atR_ l2 n5 [.sl 1 [], .sl 1 [], .int 0, .sl 5 [], .int 0] fun l136 l137 n138 l139 n140 =>
                      some (.v (.cell (.bool (((l7.length : Nat) : Int) == ((l136.length : Nat) : Int)))))
                    else
                      bif (n3 == 10) then
                        atR_ l2 n5 [.sl 1 [], .sl 1 [], .int 0, .sl 5 [], .int 0] fun l141 l142 n143 l144 n145 =>
                        some (.v (.cell (.bool (((l7.length : Nat) : Int) == (wrapI (((l141.length : Nat) : Int) - 1))))))
                      else
                        bif (n3 == 16) then
                          bif (n3 == 16) then
                            bif (decide (((l7.length : Nat) : Int) ≥ 1)) then
                              some (.v (.cell (.bool (decide (((l7.length : Nat) : Int) ≤ 4)))))
                            else
                              some (.v (.cell (.bool false)))
                          else
                            some (.v (.cell (.bool (((l7.length : Nat) : Int) == 1))))
                        else
                          bif (n3 == 17) then
                            bif (decide (((l7.length : Nat) : Int) ≥ 1)) then
                              some (.v (.cell (.bool (decide (((l7.length : Nat) : Int) ≤ 4)))))
                            else
                              some (.v (.cell (.bool false)))
                          else
                            some (.v (.cell (.bool (((l7.length : Nat) : Int) == 1))))
                  else
                    bif (n3 == 24) then
                      atR_ l2 n5 [.sl 1 [], .sl 1 [], .int 0, .sl 5 [], .int 0] fun l146 l147 n148 l149 n150 =>
                      some (.v (.cell (.bool (((l7.length : Nat) : Int) == ((l146.length : Nat) : Int)))))
                    else
                      bif (n3 == 10) then
                        atR_ l2 n5 [.sl 1 [], .sl 1 [], .int 0, .sl 5 [], .int 0] fun l151 l152 n153 l154 n155 =>
                        some (.v (.cell (.bool (((l7.length : Nat) : Int) == (wrapI (((l151.length : Nat) : Int) - 1))))))
                      else
                        bif (n3 == 16) then
                          bif (n3 == 16) then
                            bif (decide (((l7.length : Nat) : Int) ≥ 1)) then
                              some (.v (.cell (.bool (decide (((l7.length : Nat) : Int) ≤ 4)))))
                            else
                              some (.v (.cell (.bool false)))
                          else
                            some (.v (.cell (.bool (((l7.length : Nat) : Int) == 1))))
                        else
                          bif (n3 == 17) then
                            bif (decide (((l7.length : Nat) : Int) ≥ 1)) then
                              some (.v (.cell (.bool (decide (((l7.length : Nat) : Int) ≤ 4)))))
                            else
                              some (.v (.cell (.bool false)))
                          else
                            some (.v (.cell (.bool (((l7.length : Nat) : Int) == 1))))
            else
              bif (n3 == 3) then
                bif (n3 == 3) then
                  some (.v (.cell (.bool (((l7.length : Nat) : Int) == 2))))
                else
                  bif (n3 == 6) then
                    callR (impl_fieldsOfCon [.cell (.sl 3 l1), .cell (.int n5)]) false [(false, [.sl 1 []])] fun l156 =>
                    some (.v (.cell (.bool (((l7.length : Nat) : Int) == ((l156.length : Nat) : Int)))))
                  else
                    bif (n3 == 9) then
                      bif (n3 == 9) then
                        atR_ l2 n5 [.sl 1 [], .sl 1 [], .int 0, .sl 5 [], .int 0] fun l157 l158 n159 l160 n161 =>
                        some (.v (.cell (.bool (((l7.length : Nat) : Int) == ((l157.length : Nat) : Int)))))
                      else
                        bif (n3 == 10) then
                          atR_ l2 n5 [.sl 1 [], .sl 1 [], .int 0, .sl 5 [], .int 0] fun l162 l163 n164 l165 n166 =>
                          some (.v (.cell (.bool (((l7.length : Nat) : Int) == (wrapI (((l162.length : Nat) : Int) - 1))))))
                        else
                          bif (n3 == 16) then
                            bif (n3 == 16) then
                              bif (decide (((l7.length : Nat) : Int) ≥ 1)) then
                                some (.v (.cell (.bool (decide (((l7.length : Nat) : Int) ≤ 4)))))
                              else
                                some (.v (.cell (.bool false)))
                            else
                              some (.v (.cell (.bool (((l7.length : Nat) : Int) == 1))))
                          else
                            bif (n3 == 17) then
                              bif (decide (((l7.length : Nat) : Int) ≥ 1)) then
                                some (.v (.cell (.bool (decide (((l7.length : Nat) : Int) ≤ 4)))))
                              else
                                some (.v (.cell (.bool false)))
                            else
                              some (.v (.cell (.bool (((l7.length : Nat) : Int) == 1))))
                    else
                      bif (n3 == 24) then
                        atR_ l2 n5 [.sl 1 [], .sl 1 [], .int 0, .sl 5 [], .int 0] fun l167 l168 n169 l170 n171 =>
                        some (.v (.cell (.bool (((l7.length : Nat) : Int) == ((l167.length : Nat) : Int)))))
                      else
                        bif (n3 == 10) then
                          atR_ l2 n5 [.sl 1 [], .sl 1 [], .int 0, .sl 5 [], .int 0] fun l172 l173 n174 l175 n176 =>
                          some (.v (.cell (.bool (((l7.length : Nat) : Int) == (wrapI (((l172.length : Nat) : Int) - 1))))))
                        else
                          bif (n3 == 16) then
                            bif (n3 == 16) then
                              bif (decide (((l7.length : Nat) : Int) ≥ 1)) then
                                some (.v (.cell (.bool (decide (((l7.length : Nat) : Int) ≤ 4)))))
                              else
                                some (.v (.cell (.bool false)))
                            else
                              some (.v (.cell (.bool (((l7.length : Nat) : Int) == 1))))
                          else
                            bif (n3 == 17) then
                              bif (decide (((l7.length : Nat) : Int) ≥ 1)) then
                                some (.v (.cell (.bool (decide (((l7.length : Nat) : Int) ≤ 4)))))
                              else
                                some (.v (.cell (.bool false)))
                            else
                              some (.v (.cell (.bool (((l7.length : Nat) : Int) == 1))))
              else
                bif (n3 == 4) then
                  bif (n3 == 4) then
                    some (.v (.cell (.bool (((l7.length : Nat) : Int) == 2))))
                  else
                    bif (n3 == 6) then
                      callR (impl_fieldsOfCon [.cell (.sl 3 l1), .cell (.int n5)]) false [(false, [.sl 1 []])] fun l177 =>
                      some (.v (.cell (.bool (((l7.length : Nat) : Int) == ((l177.length : Nat) : Int)))))
                    else
                      bif (n3 == 9) then
                        bif (n3 == 9) then
                          atR_ l2 n5 [.sl 1 [], .sl 1 [], .int 0, .sl 5 [], .int 0] fun l178 l179 n180 l181 n182 =>
                          some (.v (.cell (.bool (((l7.length : Nat) : Int) == ((l178.length : Nat) : Int)))))
                        else
                          bif (n3 == 10) then
                            atR_ l2 n5 [.sl 1 [], .sl 1 [], .int 0, .sl 5 [], .int 0] fun l183 l184 n185 l186 n187 =>
                            some (.v (.cell (.bool (((l7.length : Nat) : Int) == (wrapI (((l183.length : Nat) : Int) - 1))))))
                          else
                            bif (n3 == 16) then
                              bif (n3 == 16) then
                                bif (decide (((l7.length : Nat) : Int) ≥ 1)) then
                                  some (.v (.cell (.bool (decide (((l7.length : Nat) : Int) ≤ 4)))))
                                else
                                  some (.v (.cell (.bool false)))
                              else
                                some (.v (.cell (.bool (((l7.length : Nat) : Int) == 1))))
                            else
                              bif (n3 == 17) then
                                bif (decide (((l7.length : Nat) : Int) ≥ 1)) then
                                  some (.v (.cell (.bool (decide (((l7.length : Nat) : Int) ≤ 4)))))
                                else
                                  some (.v (.cell (.bool false)))
                              else
                                some (.v (.cell (.bool (((l7.length : Nat) : Int) == 1))))
                      else
                        bif (n3 == 24) then
                          atR_ l2 n5 [.sl 1 [], .sl 1 [], .int 0, .sl 5 [], .int 0] fun l188 l189 n190 l191 n192 =>
                          some (.v (.cell (.bool (((l7.length : Nat) : Int) == ((l188.length : Nat) : Int)))))
                        else
                          bif (n3 == 10) then
                            atR_ l2 n5 [.sl 1 [], .sl 1 [], .int 0, .sl 5 [], .int 0] fun l193 l194 n195 l196 n197 =>
                            some (.v (.cell (.bool (((l7.length : Nat) : Int) == (wrapI (((l193.length : Nat) : Int) - 1))))))
                          else
                            bif (n3 == 16) then
                              bif (n3 == 16) then
                                bif (decide (((l7.length : Nat) : Int) ≥ 1)) then
                                  some (.v (.cell (.bool (decide (((l7.length : Nat) : Int) ≤ 4)))))
                                else
                                  some (.v (.cell (.bool false)))
                              else
                                some (.v (.cell (.bool (((l7.length : Nat) : Int) == 1))))
                            else
                              bif (n3 == 17) then
                                bif (decide (((l7.length : Nat) : Int) ≥ 1)) then
                                  some (.v (.cell (.bool (decide (((l7.length : Nat) : Int) ≤ 4)))))
                                else
                                  some (.v (.cell (.bool false)))
                              else
                                some (.v (.cell (.bool (((l7.length : Nat) : Int) == 1))))
                else
                  bif (n3 == 11) then
                    some (.v (.cell (.bool (((l7.length : Nat) : Int) == 2))))
                  else
                    bif (n3 == 6) then
                      callR (impl_fieldsOfCon [.cell (.sl 3 l1), .cell (.int n5)]) false [(false, [.sl 1 []])] fun l198 =>
                      some (.v (.cell (.bool (((l7.length : Nat) : Int) == ((l198.length : Nat) : Int)))))
                    else
                      bif (n3 == 9) then
                        bif (n3 == 9) then
                          atR_ l2 n5 [.sl 1 [], .sl 1 [], .int 0, .sl 5 [], .int 0] fun l199 l200 n201 l202 n203 =>
                          some (.v (.cell (.bool (((l7.length : Nat) : Int) == ((l199.length : Nat) : Int)))))
                        else
                          bif (n3 == 10) then
                            atR_ l2 n5 [.sl 1 [], .sl 1 [], .int 0, .sl 5 [], .int 0] fun l204 l205 n206 l207 n208 =>
                            some (.v (.cell (.bool (((l7.length : Nat) : Int) == (wrapI (((l204.length : Nat) : Int) - 1))))))
                          else
                            bif (n3 == 16) then
                              bif (n3 == 16) then
                                bif (decide (((l7.length : Nat) : Int) ≥ 1)) then
                                  some (.v (.cell (.bool (decide (((l7.length : Nat) : Int) ≤ 4)))))
                                else
                                  some (.v (.cell (.bool false)))
                              else
                                some (.v (.cell (.bool (((l7.length : Nat) : Int) == 1))))
                            else
                              bif (n3 == 17) then
                                bif (decide (((l7.length : Nat) : Int) ≥ 1)) then
                                  some (.v (.cell (.bool (decide (((l7.length : Nat) : Int) ≤ 4)))))
                                else
                                  some (.v (.cell (.bool false)))
                              else
                                some (.v (.cell (.bool (((l7.length : Nat) : Int) == 1))))
                      else
                        bif (n3 == 24) then
                          atR_ l2 n5 [.sl 1 [], .sl 1 [], .int 0, .sl 5 [], .int 0] fun l209 l210 n211 l212 n213 =>
                          some (.v (.cell (.bool (((l7.length : Nat) : Int) == ((l209.length : Nat) : Int)))))
                        else
                          bif (n3 == 10) then
                            atR_ l2 n5 [.sl 1 [], .sl 1 [], .int 0, .sl 5 [], .int 0] fun l214 l215 n216 l217 n218 =>
                            some (.v (.cell (.bool (((l7.length : Nat) : Int) == (wrapI (((l214.length : Nat) : Int) - 1))))))
                          else
                            bif (n3 == 16) then
                              bif (n3 == 16) then
                                bif (decide (((l7.length : Nat) : Int) ≥ 1)) then
                                  some (.v (.cell (.bool (decide (((l7.length : Nat) : Int) ≤ 4)))))
                                else
                                  some (.v (.cell (.bool false)))
                              else
                                some (.v (.cell (.bool (((l7.length : Nat) : Int) == 1))))
                            else
                              bif (n3 == 17) then
                                bif (decide (((l7.length : Nat) : Int) ≥ 1)) then
                                  some (.v (.cell (.bool (decide (((l7.length : Nat) : Int) ≤ 4)))))
                                else
                                  some (.v (.cell (.bool false)))
                              else
                                some (.v (.cell (.bool (((l7.length : Nat) : Int) == 1)))) : Option AV) = some r) : impl_validArgs [.agg [.sl 3 l1, .sl 5 l2], .agg [.int n3, .int n4, .int n5, .int n6, .sl 1 l7, .sl 1 l8]] = some r :=
  V_le (X := X_impl_validArgs) (n := 100000) (c := cOf Try.f48) (by kernel_rfl) Try.func48 (by kernel_rfl) (of_decide_eq_true (by kernel_rfl)) (Eq.trans (by kernel_rfl) h)
noncomputable def X_impl_validJumps : Ctx := { P := Try.prog, L := lay, F := sig.has, E := ext, fn := Try.f49, lv := [(0, [2, 4, 36, 37, 38])], jv := [], tp := [] }
noncomputable def impl_validJumps_L0 (n18 : Int) (l19 : List (List AC)) (l20 : List (List AC)) (n21 : Int) (n22 : Int) (l23 : List (List AC)) (l24 : List (List AC)) (n25 : Int) (n26 : Int) : Option AV := GL X_impl_validJumps 0 [(2, .v (.cell (.int n18))), (4, .box [.sl 1 l19, .sl 1 l20, .int n21, .int n22, .sl 6 l23]), (36, .v (.cell (.sl 1 l24))), (37, .v (.cell (.int n25))), (38, .v (.cell (.int n26)))]
theorem impl_validJumps_L0_le {n18 : Int} {l19 : List (List AC)} {l20 : List (List AC)} {n21 : Int} {n22 : Int} {l23 : List (List AC)} {l24 : List (List AC)} {n25 : Int} {n26 : Int} {r : AV} (h : (
    bif (decide (n26 < n25)) then
        atR_ l24 n26 [.int 0] fun n27 =>
        callR (impl_isLater [.agg [.sl 1 l19, .sl 1 l20, .int n21, .int n22, .sl 6 l23], .cell (.int n18), .cell (.int n27)]) false [(false, [.bool false])] fun b28 =>
        bif (!b28) then
          some (.v (.cell (.bool false)))
        else
          impl_validJumps_L0 n18 l19 l20 n21 n22 l23 l24 n25 (wrapI (n26 + 1))
      else
        some (.v (.cell (.bool true))) : Option AV) = some r) : impl_validJumps_L0 n18 l19 l20 n21 n22 l23 l24 n25 n26 = some r :=
  GL_le (X := X_impl_validJumps) (n := 100000) (by kernel_rfl) (by kernel_rfl : (X_impl_validJumps.fn.body.bind fun c => locL 0 c []) = some (.loop (loopOf (X_impl_validJumps.fn.body.bind fun c => locL 0 c [])), ksOf (X_impl_validJumps.fn.body.bind fun c => locL 0 c []))) (Eq.trans (by kernel_rfl) h)
theorem impl_validJumps_le {l1 : List (List AC)} {l2 : List (List AC)} {l3 : List (List AC)} {l4 : List (List AC)} {n5 : Int} {n6 : Int} {l7 : List (List AC)} {n8 : Int} {r : AV} (h : (
    atR_ l7 n8 [.int 0, .int 0, .int 0, .int 0, .sl 1 [], .sl 1 []] fun n9 n10 n11 n12 l13 l14 =>
      bif (n9 != 21) then
        some (.v (.cell (.bool (((l14.length : Nat) : Int) == 0))))
      else
        atR_ l1 (wrapI (n11 - 1)) [.int 0, .int 0, .sl 1 []] fun n15 n16 l17 =>
        bif (((l14.length : Nat) : Int) != ((l17.length : Nat) : Int)) then
          some (.v (.cell (.bool false)))
        else
          impl_validJumps_L0 n8 l3 l4 n5 n6 l7 l14 ((l14.length : Nat) : Int) 0 : Option AV) = some r) : impl_validJumps [.agg [.sl 3 l1, .sl 5 l2], .agg [.sl 1 l3, .sl 1 l4, .int n5, .int n6, .sl 6 l7], .cell (.int n8)] = some r :=
  V_le (X := X_impl_validJumps) (n := 100000) (c := cOf Try.f49) (by kernel_rfl) Try.func49 (by kernel_rfl) (of_decide_eq_true (by kernel_rfl)) (Eq.trans (by kernel_rfl) h)
noncomputable def X_impl_validRegs : Ctx := { P := Try.prog, L := lay, F := sig.has, E := ext, fn := Try.f50, lv := [(0, [0, 3, 8, 9, 10])], jv := [], tp := [] }
noncomputable def impl_validRegs_L0 (n8 : Int) (n9 : Int) (n10 : Int) (n11 : Int) (n12 : Int) (l13 : List (List AC)) (l14 : List (List AC)) (l15 : List (List AC)) (n16 : Int) (n17 : Int) : Option AV := GL X_impl_validRegs 0 [(0, .v (.cell (.int n8))), (3, .box [.int n9, .int n10, .int n11, .int n12, .sl 1 l13, .sl 1 l14]), (8, .v (.cell (.sl 1 l15))), (9, .v (.cell (.int n16))), (10, .v (.cell (.int n17)))]
theorem impl_validRegs_L0_le {n8 : Int} {n9 : Int} {n10 : Int} {n11 : Int} {n12 : Int} {l13 : List (List AC)} {l14 : List (List AC)} {l15 : List (List AC)} {n16 : Int} {n17 : Int} {r : AV} (h : (
    bif (decide (n17 < n16)) then
        atR_ l15 n17 [.int 0] fun n18 =>
        bif (decide (n18 < 0)) then
          some (.v (.cell (.bool false)))
        else
          bif (decide (n18 ≥ n8)) then
            some (.v (.cell (.bool false)))
          else
            impl_validRegs_L0 n8 n9 n10 n11 n12 l13 l14 l15 n16 (wrapI (n17 + 1))
      else
        bif (decide (n10 < 0)) then
          some (.v (.cell (.bool false)))
        else
          bif (decide (n10 ≥ n8)) then
            some (.v (.cell (.bool false)))
          else
            bif (n10 != 0) then
              callR (impl_setsDst [.cell (.int n9)]) false [(false, [.bool false])] fun b19 =>
              bif (!b19) then
                some (.v (.cell (.bool false)))
              else
                bif (n12 == 0) then
                  some (.v (.cell (.bool true)))
                else
                  bif (n9 == 6) then
                    bif (decide (n12 > 0)) then
                      some (.v (.cell (.bool (decide (n12 ≤ n8)))))
                    else
                      some (.v (.cell (.bool false)))
                  else
                    some (.v (.cell (.bool false)))
            else
              bif (n12 == 0) then
                some (.v (.cell (.bool true)))
              else
                bif (n9 == 6) then
                  bif (decide (n12 > 0)) then
                    some (.v (.cell (.bool (decide (n12 ≤ n8)))))
                  else
                    some (.v (.cell (.bool false)))
                else
                  some (.v (.cell (.bool false))) : Option AV) = some r) : impl_validRegs_L0 n8 n9 n10 n11 n12 l13 l14 l15 n16 n17 = some r :=
  GL_le (X := X_impl_validRegs) (n := 100000) (by kernel_rfl) (by kernel_rfl : (X_impl_validRegs.fn.body.bind fun c => locL 0 c []) = some (.loop (loopOf (X_impl_validRegs.fn.body.bind fun c => locL 0 c [])), ksOf (X_impl_validRegs.fn.body.bind fun c => locL 0 c []))) (Eq.trans (by kernel_rfl) h)
theorem impl_validRegs_le {n1 : Int} {n2 : Int} {n3 : Int} {n4 : Int} {n5 : Int} {l6 : List (List AC)} {l7 : List (List AC)} {r : AV} (h : (
    impl_validRegs_L0 n1 n2 n3 n4 n5 l6 l7 l6 ((l6.length : Nat) : Int) 0 : Option AV) = some r) : impl_validRegs [.cell (.int n1), .agg [.int n2, .int n3, .int n4, .int n5, .sl 1 l6, .sl 1 l7]] = some r :=
  V_le (X := X_impl_validRegs) (n := 100000) (c := cOf Try.f50) (by kernel_rfl) Try.func50 (by kernel_rfl) (of_decide_eq_true (by kernel_rfl)) (Eq.trans (by kernel_rfl) h)
noncomputable def X_laws_eqConS : Ctx := { P := Try.prog, L := lay, F := sig.has, E := ext, fn := Try.f51, lv := [(0, [0, 1, 5])], jv := [], tp := [] }
noncomputable def laws_eqConS_L0 (l3 : List (List AC)) (l4 : List (List AC)) (n5 : Int) : Option AV := GL X_laws_eqConS 0 [(0, .v (.cell (.sl 1 l3))), (1, .v (.cell (.sl 1 l4))), (5, .v (.cell (.int n5)))]
theorem laws_eqConS_L0_le {l3 : List (List AC)} {l4 : List (List AC)} {n5 : Int} {r : AV} (h : (
    bif (decide (n5 < ((l3.length : Nat) : Int))) then
        atR_ l3 n5 [.sl 1 []] fun l6 =>
        atR_ l4 n5 [.sl 1 []] fun l7 =>
        callR (laws_eqCon [.agg [.sl 1 l6], .agg [.sl 1 l7]]) false [(false, [.bool false])] fun b8 =>
        bif (!b8) then
          some (.v (.cell (.bool false)))
        else
          laws_eqConS_L0 l3 l4 (wrapI (n5 + 1))
      else
        some (.v (.cell (.bool true))) : Option AV) = some r) : laws_eqConS_L0 l3 l4 n5 = some r :=
  GL_le (X := X_laws_eqConS) (n := 100000) (by kernel_rfl) (by kernel_rfl : (X_laws_eqConS.fn.body.bind fun c => locL 0 c []) = some (.loop (loopOf (X_laws_eqConS.fn.body.bind fun c => locL 0 c [])), ksOf (X_laws_eqConS.fn.body.bind fun c => locL 0 c []))) (Eq.trans (by kernel_rfl) h)
theorem laws_eqConS_le {l1 : List (List AC)} {l2 : List (List AC)} {r : AV} (h : (
    bif (((l1.length : Nat) : Int) != ((l2.length : Nat) : Int)) then
        some (.v (.cell (.bool false)))
      else
        laws_eqConS_L0 l1 l2 0 : Option AV) = some r) : laws_eqConS [.cell (.sl 1 l1), .cell (.sl 1 l2)] = some r :=
  V_le (X := X_laws_eqConS) (n := 100000) (c := cOf Try.f51) (by kernel_rfl) Try.func51 (by kernel_rfl) (of_decide_eq_true (by kernel_rfl)) (Eq.trans (by kernel_rfl) h)
noncomputable def X_laws_eqIntS : Ctx := { P := Try.prog, L := lay, F := sig.has, E := ext, fn := Try.f52, lv := [(0, [0, 1, 5])], jv := [], tp := [] }
noncomputable def laws_eqIntS_L0 (l3 : List (List AC)) (l4 : List (List AC)) (n5 : Int) : Option AV := GL X_laws_eqIntS 0 [(0, .v (.cell (.sl 1 l3))), (1, .v (.cell (.sl 1 l4))), (5, .v (.cell (.int n5)))]
theorem laws_eqIntS_L0_le {l3 : List (List AC)} {l4 : List (List AC)} {n5 : Int} {r : AV} (h : (
    bif (decide (n5 < ((l3.length : Nat) : Int))) then
        atR_ l3 n5 [.int 0] fun n6 =>
        atR_ l4 n5 [.int 0] fun n7 =>
        bif (n6 != n7) then
          some (.v (.cell (.bool false)))
        else
          laws_eqIntS_L0 l3 l4 (wrapI (n5 + 1))
      else
        some (.v (.cell (.bool true))) : Option AV) = some r) : laws_eqIntS_L0 l3 l4 n5 = some r :=
  GL_le (X := X_laws_eqIntS) (n := 100000) (by kernel_rfl) (by kernel_rfl : (X_laws_eqIntS.fn.body.bind fun c => locL 0 c []) = some (.loop (loopOf (X_laws_eqIntS.fn.body.bind fun c => locL 0 c [])), ksOf (X_laws_eqIntS.fn.body.bind fun c => locL 0 c []))) (Eq.trans (by kernel_rfl) h)
theorem laws_eqIntS_le {l1 : List (List AC)} {l2 : List (List AC)} {r : AV} (h : (
    bif (((l1.length : Nat) : Int) != ((l2.length : Nat) : Int)) then
        some (.v (.cell (.bool false)))
      else
        laws_eqIntS_L0 l1 l2 0 : Option AV) = some r) : laws_eqIntS [.cell (.sl 1 l1), .cell (.sl 1 l2)] = some r :=
  V_le (X := X_laws_eqIntS) (n := 100000) (c := cOf Try.f52) (by kernel_rfl) Try.func52 (by kernel_rfl) (of_decide_eq_true (by kernel_rfl)) (Eq.trans (by kernel_rfl) h)
noncomputable def X_laws_eqInstrS : Ctx := { P := Try.prog, L := lay, F := sig.has, E := ext, fn := Try.f53, lv := [(0, [0, 1, 5])], jv := [], tp := [] }
noncomputable def laws_eqInstrS_L0 (l3 : List (List AC)) (l4 : List (List AC)) (n5 : Int) : Option AV := GL X_laws_eqInstrS 0 [(0, .v (.cell (.sl 6 l3))), (1, .v (.cell (.sl 6 l4))), (5, .v (.cell (.int n5)))]
theorem laws_eqInstrS_L0_le {l3 : List (List AC)} {l4 : List (List AC)} {n5 : Int} {r : AV} (h : (
    bif (decide (n5 < ((l3.length : Nat) : Int))) then
        atR_ l3 n5 [.int 0, .int 0, .int 0, .int 0, .sl 1 [], .sl 1 []] fun n6 n7 n8 n9 l10 l11 =>
        atR_ l4 n5 [.int 0, .int 0, .int 0, .int 0, .sl 1 [], .sl 1 []] fun n12 n13 n14 n15 l16 l17 =>
        callR (laws_eqInstr [.agg [.int n6, .int n7, .int n8, .int n9, .sl 1 l10, .sl 1 l11], .agg [.int n12, .int n13, .int n14, .int n15, .sl 1 l16, .sl 1 l17]]) false [(false, [.bool false])] fun b18 =>
        bif (!b18) then
          some (.v (.cell (.bool false)))
        else
          laws_eqInstrS_L0 l3 l4 (wrapI (n5 + 1))
      else
        some (.v (.cell (.bool true))) : Option AV) = some r) : laws_eqInstrS_L0 l3 l4 n5 = some r :=
  GL_le (X := X_laws_eqInstrS) (n := 100000) (by kernel_rfl) (by kernel_rfl : (X_laws_eqInstrS.fn.body.bind fun c => locL 0 c []) = some (.loop (loopOf (X_laws_eqInstrS.fn.body.bind fun c => locL 0 c [])), ksOf (X_laws_eqInstrS.fn.body.bind fun c => locL 0 c []))) (Eq.trans (by kernel_rfl) h)
theorem laws_eqInstrS_le {l1 : List (List AC)} {l2 : List (List AC)} {r : AV} (h : (
    bif (((l1.length : Nat) : Int) != ((l2.length : Nat) : Int)) then
        some (.v (.cell (.bool false)))
      else
        laws_eqInstrS_L0 l1 l2 0 : Option AV) = some r) : laws_eqInstrS [.cell (.sl 6 l1), .cell (.sl 6 l2)] = some r :=
  V_le (X := X_laws_eqInstrS) (n := 100000) (c := cOf Try.f53) (by kernel_rfl) Try.func53 (by kernel_rfl) (of_decide_eq_true (by kernel_rfl)) (Eq.trans (by kernel_rfl) h)
noncomputable def X_laws_szCon : Ctx := { P := Try.prog, L := lay, F := sig.has, E := ext, fn := Try.f54, lv := [], jv := [], tp := [] }
theorem laws_szCon_le {l1 : List (List AC)} {n2 : Int} {r : AV} (h : (
    callR (laws_szIntS [.cell (.sl 1 l1), .cell (.int n2)]) false [(false, [.int 0])] fun n3 =>
      bif (decide (n3 < 0)) then
        some (.v (.cell (.int (-1))))
      else
        some (.v (.cell (.int n3))) : Option AV) = some r) : laws_szCon [.agg [.sl 1 l1], .cell (.int n2)] = some r :=
  V_le (X := X_laws_szCon) (n := 100000) (c := cOf Try.f54) (by kernel_rfl) Try.func54 (by kernel_rfl) (of_decide_eq_true (by kernel_rfl)) (Eq.trans (by kernel_rfl) h)
noncomputable def X_laws_szInstr : Ctx := { P := Try.prog, L := lay, F := sig.has, E := ext, fn := Try.f55, lv := [], jv := [], tp := [] }
theorem laws_szInstr_le {n1 : Int} {n2 : Int} {n3 : Int} {n4 : Int} {l5 : List (List AC)} {l6 : List (List AC)} {n7 : Int} {r : AV} (h : (
    callR (laws_szIntS [.cell (.sl 1 l5), .cell (.int n7)]) false [(false, [.int 0])] fun n8 =>
      bif (decide (n8 < 0)) then
        some (.v (.cell (.int (-1))))
      else
        callR (laws_szIntS [.cell (.sl 1 l6), .cell (.int n8)]) false [(false, [.int 0])] fun n9 =>
        bif (decide (n9 < 0)) then
          some (.v (.cell (.int (-1))))
        else
          some (.v (.cell (.int n9))) : Option AV) = some r) : laws_szInstr [.agg [.int n1, .int n2, .int n3, .int n4, .sl 1 l5, .sl 1 l6], .cell (.int n7)] = some r :=
  V_le (X := X_laws_szInstr) (n := 100000) (c := cOf Try.f55) (by kernel_rfl) Try.func55 (by kernel_rfl) (of_decide_eq_true (by kernel_rfl)) (Eq.trans (by kernel_rfl) h)
noncomputable def X_spec_validDecl : Ctx := { P := Try.prog, L := lay, F := sig.has, E := ext, fn := Try.f56, lv := [(0, [0, 5, 6]), (2, [0, 1, 5, 7])], jv := [], tp := [] }
noncomputable def spec_validDecl_L0 (l6 : List (List AC)) (n7 : Int) (n8 : Int) (l9 : List (List AC)) (n10 : Int) : Option AV := GL X_spec_validDecl 0 [(0, .v (.cell (.sl 3 l6))), (5, .box [.int n7, .int n8, .sl 1 l9]), (6, .v (.cell (.int n10)))]
noncomputable def spec_validDecl_L2 (l11 : List (List AC)) (n12 : Int) (n13 : Int) (n14 : Int) (l15 : List (List AC)) (n16 : Int) : Option AV := GL X_spec_validDecl 2 [(0, .v (.cell (.sl 3 l11))), (1, .v (.cell (.int n12))), (5, .box [.int n13, .int n14, .sl 1 l15]), (7, .v (.cell (.int n16)))]
theorem spec_validDecl_L0_le {l6 : List (List AC)} {n7 : Int} {n8 : Int} {l9 : List (List AC)} {n10 : Int} {r : AV} (h : (
    bif (decide (n10 < ((l9.length : Nat) : Int))) then
        atR_ l9 n10 [.sl 1 []] fun l17 =>
        bif (decide (((l17.length : Nat) : Int) > 3)) then
          some (.v (.cell (.bool false)))
        else
          atR_ l9 n10 [.sl 1 []] fun l18 =>
          callR (spec_allTypes [.cell (.sl 3 l6), .cell (.sl 1 l18)]) false [(false, [.bool false])] fun b19 =>
          bif (!b19) then
            some (.v (.cell (.bool false)))
          else
            spec_validDecl_L0 l6 n7 n8 l9 (wrapI (n10 + 1))
      else
        some (.v (.cell (.bool true))) : Option AV) = some r) : spec_validDecl_L0 l6 n7 n8 l9 n10 = some r :=
  GL_le (X := X_spec_validDecl) (n := 100000) (by kernel_rfl) (by kernel_rfl : (X_spec_validDecl.fn.body.bind fun c => locL 0 c []) = some (.loop (loopOf (X_spec_validDecl.fn.body.bind fun c => locL 0 c [])), ksOf (X_spec_validDecl.fn.body.bind fun c => locL 0 c []))) (Eq.trans (by kernel_rfl) h)
theorem spec_validDecl_L2_le {l11 : List (List AC)} {n12 : Int} {n13 : Int} {n14 : Int} {l15 : List (List AC)} {n16 : Int} {r : AV} (h : (
    bif (decide (n16 < n12)) then
        atR_ l11 n16 [.int 0, .int 0, .sl 1 []] fun n20 n21 l22 =>
        bif (((l22.length : Nat) : Int) == 0) then
          atR_ l11 n16 [.int 0, .int 0, .sl 1 []] fun n23 n24 l25 =>
          bif (n23 == n13) then
            atR_ l11 n16 [.int 0, .int 0, .sl 1 []] fun n26 n27 l28 =>
            bif (n27 == n14) then
              some (.v (.cell (.bool false)))
            else
              spec_validDecl_L2 l11 n12 n13 n14 l15 (wrapI (n16 + 1))
          else
            spec_validDecl_L2 l11 n12 n13 n14 l15 (wrapI (n16 + 1))
        else
          spec_validDecl_L2 l11 n12 n13 n14 l15 (wrapI (n16 + 1))
      else
        callR (spec_inRange [.cell (.int n13), .cell (.int 0), .cell (.int ((l11.length : Nat) : Int))]) false [(false, [.bool false])] fun b29 =>
        bif b29 then
          callR (spec_inRange [.cell (.int n14), .cell (.int 0), .cell (.int ((l11.length : Nat) : Int))]) false [(false, [.bool false])] fun b30 =>
          some (.v (.cell (.bool b30)))
        else
          some (.v (.cell (.bool false))) : Option AV) = some r) : spec_validDecl_L2 l11 n12 n13 n14 l15 n16 = some r :=
  GL_le (X := X_spec_validDecl) (n := 100000) (by kernel_rfl) (by kernel_rfl : (X_spec_validDecl.fn.body.bind fun c => locL 2 c []) = some (.loop (loopOf (X_spec_validDecl.fn.body.bind fun c => locL 2 c [])), ksOf (X_spec_validDecl.fn.body.bind fun c => locL 2 c []))) (Eq.trans (by kernel_rfl) h)
theorem spec_validDecl_le {l1 : List (List AC)} {n2 : Int} {r : AV} (h : (
    atR_ l1 n2 [.int 0, .int 0, .sl 1 []] fun n3 n4 l5 =>
      bif (decide (((l5.length : Nat) : Int) > 0)) then
        bif (decide (((l5.length : Nat) : Int) > 3)) then
          some (.v (.cell (.bool false)))
        else
          bif (n3 != 0) then
            some (.v (.cell (.bool false)))
          else
            bif (n4 != 0) then
              some (.v (.cell (.bool false)))
            else
              spec_validDecl_L0 l1 n3 n4 l5 0
      else
        spec_validDecl_L2 l1 n2 n3 n4 l5 0 : Option AV) = some r) : spec_validDecl [.cell (.sl 3 l1), .cell (.int n2)] = some r :=
  V_le (X := X_spec_validDecl) (n := 100000) (c := cOf Try.f56) (by kernel_rfl) Try.func56 (by kernel_rfl) (of_decide_eq_true (by kernel_rfl)) (Eq.trans (by kernel_rfl) h)
noncomputable def X_spec_sets : Ctx := { P := Try.prog, L := lay, F := sig.has, E := ext, fn := Try.f57, lv := [], jv := [], tp := [] }
theorem spec_sets_le {n1 : Int} {r : AV} (h : (
    callR (spec_defines [.cell (.int n1)]) false [(false, [.bool false])] fun b2 =>
      bif b2 then
        bif (n1 != 7) then
          bif (n1 != 8) then
            some (.v (.cell (.bool true)))
          else
            bif (n1 == 18) then
              some (.v (.cell (.bool true)))
            else
              some (.v (.cell (.bool (n1 == 19))))
        else
          bif (n1 == 18) then
            some (.v (.cell (.bool true)))
          else
            some (.v (.cell (.bool (n1 == 19))))
      else
        bif (n1 == 18) then
          some (.v (.cell (.bool true)))
        else
          some (.v (.cell (.bool (n1 == 19)))) : Option AV) = some r) : spec_sets [.cell (.int n1)] = some r :=
  V_le (X := X_spec_sets) (n := 100000) (c := cOf Try.f57) (by kernel_rfl) Try.func57 (by kernel_rfl) (of_decide_eq_true (by kernel_rfl)) (Eq.trans (by kernel_rfl) h)
noncomputable def X_spec_conType : Ctx := { P := Try.prog, L := lay, F := sig.has, E := ext, fn := Try.f58, lv := [(0, [0, 1, 5])], jv := [], tp := [] }
noncomputable def spec_conType_L0 (l3 : List (List AC)) (n4 : Int) (n5 : Int) : Option AV := GL X_spec_conType 0 [(0, .v (.cell (.sl 3 l3))), (1, .v (.cell (.int n4))), (5, .v (.cell (.int n5)))]
theorem spec_conType_L0_le {l3 : List (List AC)} {n4 : Int} {n5 : Int} {r : AV} (h : (
    bif (decide (n5 < ((l3.length : Nat) : Int))) then
        callR (spec_firstCon [.cell (.sl 3 l3), .cell (.int n5)]) false [(false, [.int 0])] fun n6 =>
        atR_ l3 n5 [.int 0, .int 0, .sl 1 []] fun n7 n8 l9 =>
        callR (spec_inRange [.cell (.int n4), .cell (.int n6), .cell (.int (wrapI ((wrapI (n6 + ((l9.length : Nat) : Int))) - 1)))]) false [(false, [.bool false])] fun b10 =>
        bif b10 then
          some (.v (.cell (.int (wrapI (n5 + 1)))))
        else
          spec_conType_L0 l3 n4 (wrapI (n5 + 1))
      else
        some (.v (.cell (.int (-1)))) : Option AV) = some r) : spec_conType_L0 l3 n4 n5 = some r :=
  GL_le (X := X_spec_conType) (n := 100000) (by kernel_rfl) (by kernel_rfl : (X_spec_conType.fn.body.bind fun c => locL 0 c []) = some (.loop (loopOf (X_spec_conType.fn.body.bind fun c => locL 0 c [])), ksOf (X_spec_conType.fn.body.bind fun c => locL 0 c []))) (Eq.trans (by kernel_rfl) h)
theorem spec_conType_le {l1 : List (List AC)} {n2 : Int} {r : AV} (h : (
    spec_conType_L0 l1 n2 0 : Option AV) = some r) : spec_conType [.cell (.sl 3 l1), .cell (.int n2)] = some r :=
  V_le (X := X_spec_conType) (n := 100000) (c := cOf Try.f58) (by kernel_rfl) Try.func58 (by kernel_rfl) (of_decide_eq_true (by kernel_rfl)) (Eq.trans (by kernel_rfl) h)
noncomputable def X_spec_conFields : Ctx := { P := Try.prog, L := lay, F := sig.has, E := ext, fn := Try.f59, lv := [], jv := [], tp := [] }
theorem spec_conFields_le {l1 : List (List AC)} {n2 : Int} {r : AV} (h : (
    callR (spec_conType [.cell (.sl 3 l1), .cell (.int n2)]) false [(false, [.int 0])] fun n3 =>
      bif (decide (n3 < 1)) then
        some (.v (.cell (.sl 1 [])))
      else
        atR_ l1 (wrapI (n3 - 1)) [.int 0, .int 0, .sl 1 []] fun n4 n5 l6 =>
        callR (spec_firstCon [.cell (.sl 3 l1), .cell (.int (wrapI (n3 - 1)))]) false [(false, [.int 0])] fun n7 =>
        atR_ l6 (wrapI (n2 - n7)) [.sl 1 []] fun l8 =>
        some (.v (.cell (.sl 1 l8))) : Option AV) = some r) : spec_conFields [.cell (.sl 3 l1), .cell (.int n2)] = some r :=
  V_le (X := X_spec_conFields) (n := 100000) (c := cOf Try.f59) (by kernel_rfl) Try.func59 (by kernel_rfl) (of_decide_eq_true (by kernel_rfl)) (Eq.trans (by kernel_rfl) h)
noncomputable def X_spec_procWith : Ctx := { P := Try.prog, L := lay, F := sig.has, E := ext, fn := Try.f60, lv := [], jv := [], tp := [] }
theorem spec_procWith_le {l1 : List (List AC)} {l2 : List (List AC)} {n3 : Int} {n4 : Int} {n5 : Int} {r : AV} (h : (
    callR (spec_inRange [.cell (.int n3), .cell (.int 0), .cell (.int (wrapI (((l2.length : Nat) : Int) - 1)))]) false [(false, [.bool false])] fun b6 =>
      bif b6 then
        atR_ l2 n3 [.sl 1 [], .sl 1 [], .int 0, .int 0, .sl 6 []] fun l7 l8 n9 n10 l11 =>
        some (.v (.cell (.bool (((l7.length : Nat) : Int) == (wrapI (n4 + n5))))))
      else
        some (.v (.cell (.bool false))) : Option AV) = some r) : spec_procWith [.agg [.sl 3 l1, .sl 5 l2], .cell (.int n3), .cell (.int n4), .cell (.int n5)] = some r :=
  V_le (X := X_spec_procWith) (n := 100000) (c := cOf Try.f60) (by kernel_rfl) Try.func60 (by kernel_rfl) (of_decide_eq_true (by kernel_rfl)) (Eq.trans (by kernel_rfl) h)
noncomputable def X_spec_consOf : Ctx := { P := Try.prog, L := lay, F := sig.has, E := ext, fn := Try.f61, lv := [(0, [0, 1, 5, 6])], jv := [], tp := [] }
noncomputable def spec_consOf_L0 (l4 : List (List AC)) (n5 : Int) (l6 : List (List AC)) (n7 : Int) : Option AV := GL X_spec_consOf 0 [(0, .v (.cell (.sl 3 l4))), (1, .v (.cell (.int n5))), (5, .v (.cell (.sl 1 l6))), (6, .v (.cell (.int n7)))]
theorem spec_consOf_L0_le {l4 : List (List AC)} {n5 : Int} {l6 : List (List AC)} {n7 : Int} {r : AV} (h : (
    atR_ l4 (wrapI (n5 - 1)) [.int 0, .int 0, .sl 1 []] fun n8 n9 l10 =>
      bif (decide (n7 < ((l10.length : Nat) : Int))) then
        callR (spec_firstCon [.cell (.sl 3 l4), .cell (.int (wrapI (n5 - 1)))]) false [(false, [.int 0])] fun n11 =>
        appR l6 [[.int (wrapI (n11 + n7))]] fun l12 =>
        spec_consOf_L0 l4 n5 l12 (wrapI (n7 + 1))
      else
        some (.v (.cell (.sl 1 l6))) : Option AV) = some r) : spec_consOf_L0 l4 n5 l6 n7 = some r :=
  GL_le (X := X_spec_consOf) (n := 100000) (by kernel_rfl) (by kernel_rfl : (X_spec_consOf.fn.body.bind fun c => locL 0 c []) = some (.loop (loopOf (X_spec_consOf.fn.body.bind fun c => locL 0 c [])), ksOf (X_spec_consOf.fn.body.bind fun c => locL 0 c []))) (Eq.trans (by kernel_rfl) h)
theorem spec_consOf_le {l1 : List (List AC)} {n2 : Int} {r : AV} (h : (
    callR (spec_inRange [.cell (.int n2), .cell (.int 1), .cell (.int ((l1.length : Nat) : Int))]) false [(false, [.bool false])] fun b3 =>
      bif (!b3) then
        some (.v (.cell (.sl 1 [])))
      else
        spec_consOf_L0 l1 n2 [] 0 : Option AV) = some r) : spec_consOf [.cell (.sl 3 l1), .cell (.int n2)] = some r :=
  V_le (X := X_spec_consOf) (n := 100000) (c := cOf Try.f61) (by kernel_rfl) Try.func61 (by kernel_rfl) (of_decide_eq_true (by kernel_rfl)) (Eq.trans (by kernel_rfl) h)
noncomputable def X_spec_validJumps : Ctx := { P := Try.prog, L := lay, F := sig.has, E := ext, fn := Try.f62, lv := [(0, [0, 1, 2, 3, 9])], jv := [], tp := [] }
noncomputable def spec_validJumps_L0 (l5 : List (List AC)) (n6 : Int) (n7 : Int) (n8 : Int) (n9 : Int) : Option AV := GL X_spec_validJumps 0 [(0, .v (.cell (.sl 1 l5))), (1, .v (.cell (.int n6))), (2, .v (.cell (.int n7))), (3, .v (.cell (.int n8))), (9, .v (.cell (.int n9)))]
theorem spec_validJumps_L0_le {l5 : List (List AC)} {n6 : Int} {n7 : Int} {n8 : Int} {n9 : Int} {r : AV} (h : (
    bif (decide (n9 < n6)) then
        atR_ l5 n9 [.int 0] fun n10 =>
        callR (spec_inRange [.cell (.int n10), .cell (.int (wrapI (n7 + 1))), .cell (.int (wrapI (n8 - 1)))]) false [(false, [.bool false])] fun b11 =>
        bif (!b11) then
          some (.v (.cell (.bool false)))
        else
          spec_validJumps_L0 l5 n6 n7 n8 (wrapI (n9 + 1))
      else
        some (.v (.cell (.bool true))) : Option AV) = some r) : spec_validJumps_L0 l5 n6 n7 n8 n9 = some r :=
  GL_le (X := X_spec_validJumps) (n := 100000) (by kernel_rfl) (by kernel_rfl : (X_spec_validJumps.fn.body.bind fun c => locL 0 c []) = some (.loop (loopOf (X_spec_validJumps.fn.body.bind fun c => locL 0 c [])), ksOf (X_spec_validJumps.fn.body.bind fun c => locL 0 c []))) (Eq.trans (by kernel_rfl) h)
theorem spec_validJumps_le {l1 : List (List AC)} {n2 : Int} {n3 : Int} {n4 : Int} {r : AV} (h : (
    bif (((l1.length : Nat) : Int) != n2) then
        some (.v (.cell (.bool false)))
      else
        spec_validJumps_L0 l1 n2 n3 n4 0 : Option AV) = some r) : spec_validJumps [.cell (.sl 1 l1), .cell (.int n2), .cell (.int n3), .cell (.int n4)] = some r :=
  V_le (X := X_spec_validJumps) (n := 100000) (c := cOf Try.f62) (by kernel_rfl) Try.func62 (by kernel_rfl) (of_decide_eq_true (by kernel_rfl)) (Eq.trans (by kernel_rfl) h)
noncomputable def X_laws_toCon : Ctx := { P := Try.prog, L := lay, F := sig.has, E := ext, fn := Try.f63, lv := [], jv := [], tp := [] }
theorem laws_toCon_le {l1 : List (List AC)} {r : AV} (h : (
    callR (laws_toIntS [.cell (.sl 1 l1)]) false [(false, [.sl 1 []])] fun l2 =>
      some (.v (.agg [.sl 1 l2])) : Option AV) = some r) : laws_toCon [.agg [.sl 1 l1]] = some r :=
  V_le (X := X_laws_toCon) (n := 100000) (c := cOf Try.f63) (by kernel_rfl) Try.func63 (by kernel_rfl) (of_decide_eq_true (by kernel_rfl)) (Eq.trans (by kernel_rfl) h)
noncomputable def X_laws_toInstr : Ctx := { P := Try.prog, L := lay, F := sig.has, E := ext, fn := Try.f64, lv := [], jv := [], tp := [] }
theorem laws_toInstr_le {n1 : Int} {n2 : Int} {n3 : Int} {n4 : Int} {l5 : List (List AC)} {l6 : List (List AC)} {r : AV} (h : (
    callR (laws_toIntS [.cell (.sl 1 l5)]) false [(false, [.sl 1 []])] fun l7 =>
      callR (laws_toIntS [.cell (.sl 1 l6)]) false [(false, [.sl 1 []])] fun l8 =>
      some (.v (.agg [.int n1, .int n2, .int n3, .int n4, .sl 1 l7, .sl 1 l8])) : Option AV) = some r) : laws_toInstr [.agg [.int n1, .int n2, .int n3, .int n4, .sl 1 l5, .sl 1 l6]] = some r :=
  V_le (X := X_laws_toInstr) (n := 100000) (c := cOf Try.f64) (by kernel_rfl) Try.func64 (by kernel_rfl) (of_decide_eq_true (by kernel_rfl)) (Eq.trans (by kernel_rfl) h)
noncomputable def X_impl_validDecl : Ctx := { P := Try.prog, L := lay, F := sig.has, E := ext, fn := Try.f65, lv := [], jv := [], tp := [] }
theorem impl_validDecl_le {l1 : List (List AC)} {n2 : Int} {r : AV} (h : (
    atR_ l1 n2 [.int 0, .int 0, .sl 1 []] fun n3 n4 l5 =>
      bif (decide (((l5.length : Nat) : Int) > 0)) then
        bif (n3 == 0) then
          bif (n4 == 0) then
            callR (impl_validCons [.cell (.sl 3 l1), .cell (.sl 1 l5)]) false [(false, [.bool false])] fun b6 =>
            some (.v (.cell (.bool b6)))
          else
            some (.v (.cell (.bool false)))
        else
          some (.v (.cell (.bool false)))
      else
        callR (impl_isType [.cell (.sl 3 l1), .cell (.int n3)]) false [(false, [.bool false])] fun b7 =>
        bif b7 then
          callR (impl_isType [.cell (.sl 3 l1), .cell (.int n4)]) false [(false, [.bool false])] fun b8 =>
          bif b8 then
            cutR l1 0 n2 fun l9 =>
            callR (impl_arrowBetween [.cell (.sl 3 l9), .cell (.int n3), .cell (.int n4)]) false [(false, [.int 0])] fun n10 =>
            some (.v (.cell (.bool (decide (n10 < 0)))))
          else
            some (.v (.cell (.bool false)))
        else
          some (.v (.cell (.bool false))) : Option AV) = some r) : impl_validDecl [.cell (.sl 3 l1), .cell (.int n2)] = some r :=
  V_le (X := X_impl_validDecl) (n := 100000) (c := cOf Try.f65) (by kernel_rfl) Try.func65 (by kernel_rfl) (of_decide_eq_true (by kernel_rfl)) (Eq.trans (by kernel_rfl) h)
noncomputable def X_impl_areTypes : Ctx := { P := Try.prog, L := lay, F := sig.has, E := ext, fn := Try.f66, lv := [(0, [0, 7, 8, 9])], jv := [], tp := [] }
noncomputable def impl_areTypes_L0 (l3 : List (List AC)) (l4 : List (List AC)) (n5 : Int) (n6 : Int) : Option AV := GL X_impl_areTypes 0 [(0, .v (.cell (.sl 3 l3))), (7, .v (.cell (.sl 1 l4))), (8, .v (.cell (.int n5))), (9, .v (.cell (.int n6)))]
theorem impl_areTypes_L0_le {l3 : List (List AC)} {l4 : List (List AC)} {n5 : Int} {n6 : Int} {r : AV} (h : (
    bif (decide (n6 < n5)) then
        atR_ l4 n6 [.int 0] fun n7 =>
        callR (impl_isType [.cell (.sl 3 l3), .cell (.int n7)]) false [(false, [.bool false])] fun b8 =>
        bif (!b8) then
          some (.v (.cell (.bool false)))
        else
          impl_areTypes_L0 l3 l4 n5 (wrapI (n6 + 1))
      else
        some (.v (.cell (.bool true))) : Option AV) = some r) : impl_areTypes_L0 l3 l4 n5 n6 = some r :=
  GL_le (X := X_impl_areTypes) (n := 100000) (by kernel_rfl) (by kernel_rfl : (X_impl_areTypes.fn.body.bind fun c => locL 0 c []) = some (.loop (loopOf (X_impl_areTypes.fn.body.bind fun c => locL 0 c [])), ksOf (X_impl_areTypes.fn.body.bind fun c => locL 0 c []))) (Eq.trans (by kernel_rfl) h)
theorem impl_areTypes_le {l1 : List (List AC)} {l2 : List (List AC)} {r : AV} (h : (
    impl_areTypes_L0 l1 l2 ((l2.length : Nat) : Int) 0 : Option AV) = some r) : impl_areTypes [.cell (.sl 3 l1), .cell (.sl 1 l2)] = some r :=
  V_le (X := X_impl_areTypes) (n := 100000) (c := cOf Try.f66) (by kernel_rfl) Try.func66 (by kernel_rfl) (of_decide_eq_true (by kernel_rfl)) (Eq.trans (by kernel_rfl) h)
noncomputable def X_impl_isType : Ctx := { P := Try.prog, L := lay, F := sig.has, E := ext, fn := Try.f67, lv := [], jv := [], tp := [] }
theorem impl_isType_le {l1 : List (List AC)} {n2 : Int} {r : AV} (h : (
    bif (decide (n2 ≥ 0)) then
        some (.v (.cell (.bool (decide (n2 ≤ ((l1.length : Nat) : Int))))))
      else
        some (.v (.cell (.bool false))) : Option AV) = some r) : impl_isType [.cell (.sl 3 l1), .cell (.int n2)] = some r :=
  V_le (X := X_impl_isType) (n := 100000) (c := cOf Try.f67) (by kernel_rfl) Try.func67 (by kernel_rfl) (of_decide_eq_true (by kernel_rfl)) (Eq.trans (by kernel_rfl) h)
noncomputable def X_impl_inInts : Ctx := { P := Try.prog, L := lay, F := sig.has, E := ext, fn := Try.f68, lv := [], jv := [], tp := [] }
theorem impl_inInts_le {n1 : Int} {r : AV} (h : (
    bif (decide (n1 ≥ (-999))) then
        some (.v (.cell (.bool (decide (n1 ≤ 999)))))
      else
        some (.v (.cell (.bool false))) : Option AV) = some r) : impl_inInts [.cell (.int n1)] = some r :=
  V_le (X := X_impl_inInts) (n := 100000) (c := cOf Try.f68) (by kernel_rfl) Try.func68 (by kernel_rfl) (of_decide_eq_true (by kernel_rfl)) (Eq.trans (by kernel_rfl) h)
noncomputable def X_impl_typeOfCon : Ctx := { P := Try.prog, L := lay, F := sig.has, E := ext, fn := Try.f69, lv := [(0, [1, 5, 8, 9, 10])], jv := [], tp := [] }
noncomputable def impl_typeOfCon_L0 (n3 : Int) (n4 : Int) (l5 : List (List AC)) (n6 : Int) (n7 : Int) : Option AV := GL X_impl_typeOfCon 0 [(1, .v (.cell (.int n3))), (5, .v (.cell (.int n4))), (8, .v (.cell (.sl 3 l5))), (9, .v (.cell (.int n6))), (10, .v (.cell (.int n7)))]
theorem impl_typeOfCon_L0_le {n3 : Int} {n4 : Int} {l5 : List (List AC)} {n6 : Int} {n7 : Int} {r : AV} (h : (
    bif (decide (n7 < n6)) then
        atR_ l5 n7 [.int 0, .int 0, .sl 1 []] fun n8 n9 l10 =>
        bif (decide (n3 ≥ n4)) then
          bif (decide (n3 < (wrapI (n4 + ((l10.length : Nat) : Int))))) then
            some (.v (.cell (.int (wrapI (n7 + 1)))))
          else
            impl_typeOfCon_L0 n3 (wrapI (n4 + ((l10.length : Nat) : Int))) l5 n6 (wrapI (n7 + 1))
        else
          impl_typeOfCon_L0 n3 (wrapI (n4 + ((l10.length : Nat) : Int))) l5 n6 (wrapI (n7 + 1))
      else
        some (.v (.cell (.int (-1)))) : Option AV) = some r) : impl_typeOfCon_L0 n3 n4 l5 n6 n7 = some r :=
  GL_le (X := X_impl_typeOfCon) (n := 100000) (by kernel_rfl) (by kernel_rfl : (X_impl_typeOfCon.fn.body.bind fun c => locL 0 c []) = some (.loop (loopOf (X_impl_typeOfCon.fn.body.bind fun c => locL 0 c [])), ksOf (X_impl_typeOfCon.fn.body.bind fun c => locL 0 c []))) (Eq.trans (by kernel_rfl) h)
theorem impl_typeOfCon_le {l1 : List (List AC)} {n2 : Int} {r : AV} (h : (
    impl_typeOfCon_L0 n2 0 l1 ((l1.length : Nat) : Int) 0 : Option AV) = some r) : impl_typeOfCon [.cell (.sl 3 l1), .cell (.int n2)] = some r :=
  V_le (X := X_impl_typeOfCon) (n := 100000) (c := cOf Try.f69) (by kernel_rfl) Try.func69 (by kernel_rfl) (of_decide_eq_true (by kernel_rfl)) (Eq.trans (by kernel_rfl) h)
noncomputable def X_impl_hasRoutine : Ctx := { P := Try.prog, L := lay, F := sig.has, E := ext, fn := Try.f70, lv := [], jv := [], tp := [] }
theorem impl_hasRoutine_le {l1 : List (List AC)} {l2 : List (List AC)} {n3 : Int} {r : AV} (h : (
    bif (decide (n3 ≥ 0)) then
        some (.v (.cell (.bool (decide (n3 < ((l2.length : Nat) : Int))))))
      else
        some (.v (.cell (.bool false))) : Option AV) = some r) : impl_hasRoutine [.agg [.sl 3 l1, .sl 5 l2], .cell (.int n3)] = some r :=
  V_le (X := X_impl_hasRoutine) (n := 100000) (c := cOf Try.f70) (by kernel_rfl) Try.func70 (by kernel_rfl) (of_decide_eq_true (by kernel_rfl)) (Eq.trans (by kernel_rfl) h)
noncomputable def X_impl_lends : Ctx := { P := Try.prog, L := lay, F := sig.has, E := ext, fn := Try.f71, lv := [], jv := [], tp := [] }
theorem impl_lends_le {l1 : List (List AC)} {l2 : List (List AC)} {n3 : Int} {r : AV} (h : (
    callR (impl_hasRoutine [.agg [.sl 3 l1, .sl 5 l2], .cell (.int n3)]) false [(false, [.bool false])] fun b4 =>
      bif b4 then
        atR_ l2 n3 [.sl 1 [], .sl 1 [], .int 0, .sl 5 [], .int 0] fun l5 l6 n7 l8 n9 =>
        some (.v (.cell (.bool (decide (((l6.length : Nat) : Int) > 0)))))
      else
        some (.v (.cell (.bool false))) : Option AV) = some r) : impl_lends [.agg [.sl 3 l1, .sl 5 l2], .cell (.int n3)] = some r :=
  V_le (X := X_impl_lends) (n := 100000) (c := cOf Try.f71) (by kernel_rfl) Try.func71 (by kernel_rfl) (of_decide_eq_true (by kernel_rfl)) (Eq.trans (by kernel_rfl) h)
noncomputable def X_impl_isLater : Ctx := { P := Try.prog, L := lay, F := sig.has, E := ext, fn := Try.f72, lv := [], jv := [], tp := [] }
theorem impl_isLater_le {l1 : List (List AC)} {l2 : List (List AC)} {n3 : Int} {n4 : Int} {l5 : List (List AC)} {n6 : Int} {n7 : Int} {r : AV} (h : (
    bif (decide (n7 > n6)) then
        some (.v (.cell (.bool (decide (n7 < ((l5.length : Nat) : Int))))))
      else
        some (.v (.cell (.bool false))) : Option AV) = some r) : impl_isLater [.agg [.sl 1 l1, .sl 1 l2, .int n3, .int n4, .sl 6 l5], .cell (.int n6), .cell (.int n7)] = some r :=
  V_le (X := X_impl_isLater) (n := 100000) (c := cOf Try.f72) (by kernel_rfl) Try.func72 (by kernel_rfl) (of_decide_eq_true (by kernel_rfl)) (Eq.trans (by kernel_rfl) h)
noncomputable def X_impl_isData : Ctx := { P := Try.prog, L := lay, F := sig.has, E := ext, fn := Try.f73, lv := [], jv := [], tp := [] }
theorem impl_isData_le {l1 : List (List AC)} {n2 : Int} {r : AV} (h : (
    bif (decide (n2 > 0)) then
        callR (impl_isType [.cell (.sl 3 l1), .cell (.int n2)]) false [(false, [.bool false])] fun b3 =>
        bif b3 then
          atR_ l1 (wrapI (n2 - 1)) [.int 0, .int 0, .sl 1 []] fun n4 n5 l6 =>
          some (.v (.cell (.bool (decide (((l6.length : Nat) : Int) > 0)))))
        else
          some (.v (.cell (.bool false)))
      else
        some (.v (.cell (.bool false))) : Option AV) = some r) : impl_isData [.cell (.sl 3 l1), .cell (.int n2)] = some r :=
  V_le (X := X_impl_isData) (n := 100000) (c := cOf Try.f73) (by kernel_rfl) Try.func73 (by kernel_rfl) (of_decide_eq_true (by kernel_rfl)) (Eq.trans (by kernel_rfl) h)
noncomputable def X_impl_fieldsOfCon : Ctx := { P := Try.prog, L := lay, F := sig.has, E := ext, fn := Try.f74, lv := [], jv := [], tp := [] }
theorem impl_fieldsOfCon_le {l1 : List (List AC)} {n2 : Int} {r : AV} (h : (
    callR (impl_typeOfCon [.cell (.sl 3 l1), .cell (.int n2)]) false [(false, [.int 0])] fun n3 =>
      atR_ l1 (wrapI (n3 - 1)) [.int 0, .int 0, .sl 1 []] fun n4 n5 l6 =>
      callR (impl_firstCon [.cell (.sl 3 l1), .cell (.int n3)]) false [(false, [.int 0])] fun n7 =>
      atR_ l6 (wrapI (n2 - n7)) [.sl 1 []] fun l8 =>
      some (.v (.cell (.sl 1 l8))) : Option AV) = some r) : impl_fieldsOfCon [.cell (.sl 3 l1), .cell (.int n2)] = some r :=
  V_le (X := X_impl_fieldsOfCon) (n := 100000) (c := cOf Try.f74) (by kernel_rfl) Try.func74 (by kernel_rfl) (of_decide_eq_true (by kernel_rfl)) (Eq.trans (by kernel_rfl) h)
noncomputable def X_impl_setsDst : Ctx := { P := Try.prog, L := lay, F := sig.has, E := ext, fn := Try.f75, lv := [], jv := [], tp := [] }
theorem impl_setsDst_le {n1 : Int} {r : AV} (h : (
    bif (decide (n1 ≥ 0)) then
        bif (decide (n1 ≤ 11)) then
          some (.v (.cell (.bool true)))
        else
          bif (n1 == 18) then
            some (.v (.cell (.bool true)))
          else
            some (.v (.cell (.bool (n1 == 19))))
      else
        bif (n1 == 18) then
          some (.v (.cell (.bool true)))
        else
          some (.v (.cell (.bool (n1 == 19)))) : Option AV) = some r) : impl_setsDst [.cell (.int n1)] = some r :=
  V_le (X := X_impl_setsDst) (n := 100000) (c := cOf Try.f75) (by kernel_rfl) Try.func75 (by kernel_rfl) (of_decide_eq_true (by kernel_rfl)) (Eq.trans (by kernel_rfl) h)
noncomputable def X_laws_eqCon : Ctx := { P := Try.prog, L := lay, F := sig.has, E := ext, fn := Try.f76, lv := [], jv := [], tp := [] }
theorem laws_eqCon_le {l1 : List (List AC)} {l2 : List (List AC)} {r : AV} (h : (
    callR (laws_eqIntS [.cell (.sl 1 l1), .cell (.sl 1 l2)]) false [(false, [.bool false])] fun b3 =>
      bif (!b3) then
        some (.v (.cell (.bool false)))
      else
        some (.v (.cell (.bool true))) : Option AV) = some r) : laws_eqCon [.agg [.sl 1 l1], .agg [.sl 1 l2]] = some r :=
  V_le (X := X_laws_eqCon) (n := 100000) (c := cOf Try.f76) (by kernel_rfl) Try.func76 (by kernel_rfl) (of_decide_eq_true (by kernel_rfl)) (Eq.trans (by kernel_rfl) h)
noncomputable def X_laws_eqInstr : Ctx := { P := Try.prog, L := lay, F := sig.has, E := ext, fn := Try.f77, lv := [], jv := [], tp := [] }
theorem laws_eqInstr_le {n1 : Int} {n2 : Int} {n3 : Int} {n4 : Int} {l5 : List (List AC)} {l6 : List (List AC)} {n7 : Int} {n8 : Int} {n9 : Int} {n10 : Int} {l11 : List (List AC)} {l12 : List (List AC)} {r : AV} (h : (
    bif (n1 != n7) then
        some (.v (.cell (.bool false)))
      else
        bif (n2 != n8) then
          some (.v (.cell (.bool false)))
        else
          bif (n3 != n9) then
            some (.v (.cell (.bool false)))
          else
            bif (n4 != n10) then
              some (.v (.cell (.bool false)))
            else
              callR (laws_eqIntS [.cell (.sl 1 l5), .cell (.sl 1 l11)]) false [(false, [.bool false])] fun b13 =>
              bif (!b13) then
                some (.v (.cell (.bool false)))
              else
                callR (laws_eqIntS [.cell (.sl 1 l6), .cell (.sl 1 l12)]) false [(false, [.bool false])] fun b14 =>
                bif (!b14) then
                  some (.v (.cell (.bool false)))
                else
                  some (.v (.cell (.bool true))) : Option AV) = some r) : laws_eqInstr [.agg [.int n1, .int n2, .int n3, .int n4, .sl 1 l5, .sl 1 l6], .agg [.int n7, .int n8, .int n9, .int n10, .sl 1 l11, .sl 1 l12]] = some r :=
  V_le (X := X_laws_eqInstr) (n := 100000) (c := cOf Try.f77) (by kernel_rfl) Try.func77 (by kernel_rfl) (of_decide_eq_true (by kernel_rfl)) (Eq.trans (by kernel_rfl) h)
noncomputable def X_spec_defines : Ctx := { P := Try.prog, L := lay, F := sig.has, E := ext, fn := Try.f78, lv := [], jv := [], tp := [] }
theorem spec_defines_le {n1 : Int} {r : AV} (h : (
    callR (spec_inRange [.cell (.int n1), .cell (.int 0), .cell (.int 11)]) false [(false, [.bool false])] fun b2 =>
      some (.v (.cell (.bool b2))) : Option AV) = some r) : spec_defines [.cell (.int n1)] = some r :=
  V_le (X := X_spec_defines) (n := 100000) (c := cOf Try.f78) (by kernel_rfl) Try.func78 (by kernel_rfl) (of_decide_eq_true (by kernel_rfl)) (Eq.trans (by kernel_rfl) h)
noncomputable def X_spec_firstCon : Ctx := { P := Try.prog, L := lay, F := sig.has, E := ext, fn := Try.f79, lv := [(0, [0, 1, 5, 6])], jv := [], tp := [] }
noncomputable def spec_firstCon_L0 (l3 : List (List AC)) (n4 : Int) (n5 : Int) (n6 : Int) : Option AV := GL X_spec_firstCon 0 [(0, .v (.cell (.sl 3 l3))), (1, .v (.cell (.int n4))), (5, .v (.cell (.int n5))), (6, .v (.cell (.int n6)))]
theorem spec_firstCon_L0_le {l3 : List (List AC)} {n4 : Int} {n5 : Int} {n6 : Int} {r : AV} (h : (
    bif (decide (n6 < n4)) then
        atR_ l3 n6 [.int 0, .int 0, .sl 1 []] fun n7 n8 l9 =>
        spec_firstCon_L0 l3 n4 (wrapI (n5 + ((l9.length : Nat) : Int))) (wrapI (n6 + 1))
      else
        some (.v (.cell (.int n5))) : Option AV) = some r) : spec_firstCon_L0 l3 n4 n5 n6 = some r :=
  GL_le (X := X_spec_firstCon) (n := 100000) (by kernel_rfl) (by kernel_rfl : (X_spec_firstCon.fn.body.bind fun c => locL 0 c []) = some (.loop (loopOf (X_spec_firstCon.fn.body.bind fun c => locL 0 c [])), ksOf (X_spec_firstCon.fn.body.bind fun c => locL 0 c []))) (Eq.trans (by kernel_rfl) h)
theorem spec_firstCon_le {l1 : List (List AC)} {n2 : Int} {r : AV} (h : (
    spec_firstCon_L0 l1 n2 0 0 : Option AV) = some r) : spec_firstCon [.cell (.sl 3 l1), .cell (.int n2)] = some r :=
  V_le (X := X_spec_firstCon) (n := 100000) (c := cOf Try.f79) (by kernel_rfl) Try.func79 (by kernel_rfl) (of_decide_eq_true (by kernel_rfl)) (Eq.trans (by kernel_rfl) h)
noncomputable def X_impl_validCons : Ctx := { P := Try.prog, L := lay, F := sig.has, E := ext, fn := Try.f80, lv := [(0, [0, 10, 11, 12])], jv := [], tp := [] }
noncomputable def impl_validCons_L0 (l3 : List (List AC)) (l4 : List (List AC)) (n5 : Int) (n6 : Int) : Option AV := GL X_impl_validCons 0 [(0, .v (.cell (.sl 3 l3))), (10, .v (.cell (.sl 1 l4))), (11, .v (.cell (.int n5))), (12, .v (.cell (.int n6)))]
theorem impl_validCons_L0_le {l3 : List (List AC)} {l4 : List (List AC)} {n5 : Int} {n6 : Int} {r : AV} (h : (
    bif (decide (n6 < n5)) then
        atR_ l4 n6 [.sl 1 []] fun l7 =>
        bif (decide (((l7.length : Nat) : Int) > 3)) then
          some (.v (.cell (.bool false)))
        else
          callR (impl_areTypes [.cell (.sl 3 l3), .cell (.sl 1 l7)]) false [(false, [.bool false])] fun b8 =>
          bif (!b8) then
            some (.v (.cell (.bool false)))
          else
            impl_validCons_L0 l3 l4 n5 (wrapI (n6 + 1))
      else
        some (.v (.cell (.bool true))) : Option AV) = some r) : impl_validCons_L0 l3 l4 n5 n6 = some r :=
  GL_le (X := X_impl_validCons) (n := 100000) (by kernel_rfl) (by kernel_rfl : (X_impl_validCons.fn.body.bind fun c => locL 0 c []) = some (.loop (loopOf (X_impl_validCons.fn.body.bind fun c => locL 0 c [])), ksOf (X_impl_validCons.fn.body.bind fun c => locL 0 c []))) (Eq.trans (by kernel_rfl) h)
theorem impl_validCons_le {l1 : List (List AC)} {l2 : List (List AC)} {r : AV} (h : (
    bif (decide (((l2.length : Nat) : Int) > 3)) then
        some (.v (.cell (.bool false)))
      else
        impl_validCons_L0 l1 l2 ((l2.length : Nat) : Int) 0 : Option AV) = some r) : impl_validCons [.cell (.sl 3 l1), .cell (.sl 1 l2)] = some r :=
  V_le (X := X_impl_validCons) (n := 100000) (c := cOf Try.f80) (by kernel_rfl) Try.func80 (by kernel_rfl) (of_decide_eq_true (by kernel_rfl)) (Eq.trans (by kernel_rfl) h)
noncomputable def X_impl_arrowBetween : Ctx := { P := Try.prog, L := lay, F := sig.has, E := ext, fn := Try.f81, lv := [(0, [1, 2, 9, 10, 11])], jv := [], tp := [] }
noncomputable def impl_arrowBetween_L0 (n4 : Int) (n5 : Int) (l6 : List (List AC)) (n7 : Int) (n8 : Int) : Option AV := GL X_impl_arrowBetween 0 [(1, .v (.cell (.int n4))), (2, .v (.cell (.int n5))), (9, .v (.cell (.sl 3 l6))), (10, .v (.cell (.int n7))), (11, .v (.cell (.int n8)))]
theorem impl_arrowBetween_L0_le {n4 : Int} {n5 : Int} {l6 : List (List AC)} {n7 : Int} {n8 : Int} {r : AV} (h : (
    bif (decide (n8 < n7)) then
        atR_ l6 n8 [.int 0, .int 0, .sl 1 []] fun n9 n10 l11 =>
        bif (((l11.length : Nat) : Int) == 0) then
          bif (n9 == n4) then
            bif (n10 == n5) then
              some (.v (.cell (.int (wrapI (n8 + 1)))))
            else
              impl_arrowBetween_L0 n4 n5 l6 n7 (wrapI (n8 + 1))
          else
            impl_arrowBetween_L0 n4 n5 l6 n7 (wrapI (n8 + 1))
        else
          impl_arrowBetween_L0 n4 n5 l6 n7 (wrapI (n8 + 1))
      else
        some (.v (.cell (.int (-1)))) : Option AV) = some r) : impl_arrowBetween_L0 n4 n5 l6 n7 n8 = some r :=
  GL_le (X := X_impl_arrowBetween) (n := 100000) (by kernel_rfl) (by kernel_rfl : (X_impl_arrowBetween.fn.body.bind fun c => locL 0 c []) = some (.loop (loopOf (X_impl_arrowBetween.fn.body.bind fun c => locL 0 c [])), ksOf (X_impl_arrowBetween.fn.body.bind fun c => locL 0 c []))) (Eq.trans (by kernel_rfl) h)
theorem impl_arrowBetween_le {l1 : List (List AC)} {n2 : Int} {n3 : Int} {r : AV} (h : (
    impl_arrowBetween_L0 n2 n3 l1 ((l1.length : Nat) : Int) 0 : Option AV) = some r) : impl_arrowBetween [.cell (.sl 3 l1), .cell (.int n2), .cell (.int n3)] = some r :=
  V_le (X := X_impl_arrowBetween) (n := 100000) (c := cOf Try.f81) (by kernel_rfl) Try.func81 (by kernel_rfl) (of_decide_eq_true (by kernel_rfl)) (Eq.trans (by kernel_rfl) h)
noncomputable def X_impl_firstCon : Ctx := { P := Try.prog, L := lay, F := sig.has, E := ext, fn := Try.f82, lv := [], jv := [], tp := [] }
theorem impl_firstCon_le {l1 : List (List AC)} {n2 : Int} {r : AV} (h : (
    cutR l1 0 (wrapI (n2 - 1)) fun l3 =>
      callR (impl_countCons [.cell (.sl 3 l3)]) false [(false, [.int 0])] fun n4 =>
      some (.v (.cell (.int n4))) : Option AV) = some r) : impl_firstCon [.cell (.sl 3 l1), .cell (.int n2)] = some r :=
  V_le (X := X_impl_firstCon) (n := 100000) (c := cOf Try.f82) (by kernel_rfl) Try.func82 (by kernel_rfl) (of_decide_eq_true (by kernel_rfl)) (Eq.trans (by kernel_rfl) h)
noncomputable def X_impl_countCons : Ctx := { P := Try.prog, L := lay, F := sig.has, E := ext, fn := Try.f83, lv := [(0, [3, 6, 7, 8])], jv := [], tp := [] }
noncomputable def impl_countCons_L0 (n2 : Int) (l3 : List (List AC)) (n4 : Int) (n5 : Int) : Option AV := GL X_impl_countCons 0 [(3, .v (.cell (.int n2))), (6, .v (.cell (.sl 3 l3))), (7, .v (.cell (.int n4))), (8, .v (.cell (.int n5)))]
theorem impl_countCons_L0_le {n2 : Int} {l3 : List (List AC)} {n4 : Int} {n5 : Int} {r : AV} (h : (
    bif (decide (n5 < n4)) then
        atR_ l3 n5 [.int 0, .int 0, .sl 1 []] fun n6 n7 l8 =>
        impl_countCons_L0 (wrapI (n2 + ((l8.length : Nat) : Int))) l3 n4 (wrapI (n5 + 1))
      else
        some (.v (.cell (.int n2))) : Option AV) = some r) : impl_countCons_L0 n2 l3 n4 n5 = some r :=
  GL_le (X := X_impl_countCons) (n := 100000) (by kernel_rfl) (by kernel_rfl : (X_impl_countCons.fn.body.bind fun c => locL 0 c []) = some (.loop (loopOf (X_impl_countCons.fn.body.bind fun c => locL 0 c [])), ksOf (X_impl_countCons.fn.body.bind fun c => locL 0 c []))) (Eq.trans (by kernel_rfl) h)
theorem impl_countCons_le {l1 : List (List AC)} {r : AV} (h : (
    impl_countCons_L0 0 l1 ((l1.length : Nat) : Int) 0 : Option AV) = some r) : impl_countCons [.cell (.sl 3 l1)] = some r :=
  V_le (X := X_impl_countCons) (n := 100000) (c := cOf Try.f83) (by kernel_rfl) Try.func83 (by kernel_rfl) (of_decide_eq_true (by kernel_rfl)) (Eq.trans (by kernel_rfl) h)
end Go.Proofs.Ytgiehkiicmnchaa
