/- What functions compute, place by place. MADE BY lift.py. -/
import Derived.Test.YthfihhejbplmfaaGreatOb
import Derived.Test.YthfihhejbplmfaaGreatXt
set_option maxRecDepth 100000
set_option linter.unusedVariables false
namespace Go.Proofs.YthfihhejbplmfaaGreat
open Go
noncomputable def laws_FnExactValidState (x : List SV) : Option AV := V Tryz.prog lay sig.has ext 3 x
noncomputable def laws_szImage (x : List SV) : Option AV := V Tryz.prog lay sig.has ext 4 x
noncomputable def laws_szState (x : List SV) : Option AV := V Tryz.prog lay sig.has ext 5 x
noncomputable def spec_ValidState (x : List SV) : Option AV := V Tryz.prog lay sig.has ext 6 x
noncomputable def laws_toImage (x : List SV) : Option AV := V Tryz.prog lay sig.has ext 7 x
noncomputable def laws_toState (x : List SV) : Option AV := V Tryz.prog lay sig.has ext 8 x
noncomputable def impl_ValidState (x : List SV) : Option AV := V Tryz.prog lay sig.has ext 9 x
noncomputable def laws_eqImage (x : List SV) : Option AV := V Tryz.prog lay sig.has ext 10 x
noncomputable def laws_eqState (x : List SV) : Option AV := V Tryz.prog lay sig.has ext 11 x
noncomputable def laws_szDeclS (x : List SV) : Option AV := V Tryz.prog lay sig.has ext 12 x
noncomputable def laws_szProcS (x : List SV) : Option AV := V Tryz.prog lay sig.has ext 13 x
noncomputable def laws_szIntS (x : List SV) : Option AV := V Tryz.prog lay sig.has ext 14 x
noncomputable def laws_szCellS (x : List SV) : Option AV := V Tryz.prog lay sig.has ext 15 x
noncomputable def laws_szFrameS (x : List SV) : Option AV := V Tryz.prog lay sig.has ext 16 x
noncomputable def spec_validState (x : List SV) : Option AV := V Tryz.prog lay sig.has ext 17 x
noncomputable def laws_toDeclS (x : List SV) : Option AV := V Tryz.prog lay sig.has ext 18 x
noncomputable def laws_toProcS (x : List SV) : Option AV := V Tryz.prog lay sig.has ext 19 x
noncomputable def laws_toIntS (x : List SV) : Option AV := V Tryz.prog lay sig.has ext 20 x
noncomputable def laws_toCellS (x : List SV) : Option AV := V Tryz.prog lay sig.has ext 21 x
noncomputable def laws_toFrameS (x : List SV) : Option AV := V Tryz.prog lay sig.has ext 22 x
noncomputable def impl_ValidImage (x : List SV) : Option AV := V Tryz.prog lay sig.has ext 23 x
noncomputable def impl_validNumbers (x : List SV) : Option AV := V Tryz.prog lay sig.has ext 24 x
noncomputable def impl_ValidHeap (x : List SV) : Option AV := V Tryz.prog lay sig.has ext 25 x
noncomputable def impl_validFrames (x : List SV) : Option AV := V Tryz.prog lay sig.has ext 26 x
noncomputable def impl_exactCounts (x : List SV) : Option AV := V Tryz.prog lay sig.has ext 27 x
noncomputable def laws_eqDeclS (x : List SV) : Option AV := V Tryz.prog lay sig.has ext 28 x
noncomputable def laws_eqProcS (x : List SV) : Option AV := V Tryz.prog lay sig.has ext 29 x
noncomputable def laws_eqIntS (x : List SV) : Option AV := V Tryz.prog lay sig.has ext 30 x
noncomputable def laws_eqCellS (x : List SV) : Option AV := V Tryz.prog lay sig.has ext 31 x
noncomputable def laws_eqFrameS (x : List SV) : Option AV := V Tryz.prog lay sig.has ext 32 x
noncomputable def laws_szDecl (x : List SV) : Option AV := V Tryz.prog lay sig.has ext 33 x
noncomputable def laws_szProc (x : List SV) : Option AV := V Tryz.prog lay sig.has ext 34 x
noncomputable def laws_szCell (x : List SV) : Option AV := V Tryz.prog lay sig.has ext 35 x
noncomputable def laws_szFrame (x : List SV) : Option AV := V Tryz.prog lay sig.has ext 36 x
noncomputable def spec_validImage (x : List SV) : Option AV := V Tryz.prog lay sig.has ext 37 x
noncomputable def spec_inRange (x : List SV) : Option AV := V Tryz.prog lay sig.has ext 38 x
noncomputable def spec_allInRange (x : List SV) : Option AV := V Tryz.prog lay sig.has ext 39 x
noncomputable def spec_validHeap (x : List SV) : Option AV := V Tryz.prog lay sig.has ext 40 x
noncomputable def spec_validFrame (x : List SV) : Option AV := V Tryz.prog lay sig.has ext 41 x
noncomputable def spec_heldOnce (x : List SV) : Option AV := V Tryz.prog lay sig.has ext 42 x
noncomputable def spec_exactCounts (x : List SV) : Option AV := V Tryz.prog lay sig.has ext 43 x
noncomputable def laws_toDecl (x : List SV) : Option AV := V Tryz.prog lay sig.has ext 44 x
noncomputable def laws_toProc (x : List SV) : Option AV := V Tryz.prog lay sig.has ext 45 x
noncomputable def laws_toCell (x : List SV) : Option AV := V Tryz.prog lay sig.has ext 46 x
noncomputable def laws_toFrame (x : List SV) : Option AV := V Tryz.prog lay sig.has ext 47 x
noncomputable def impl_headsOf (x : List SV) : Option AV := V Tryz.prog lay sig.has ext 48 x
noncomputable def impl_validRoutineSigs (x : List SV) : Option AV := V Tryz.prog lay sig.has ext 49 x
noncomputable def impl_validProc (x : List SV) : Option AV := V Tryz.prog lay sig.has ext 50 x
noncomputable def impl_inInts (x : List SV) : Option AV := V Tryz.prog lay sig.has ext 51 x
noncomputable def impl_allInInts (x : List SV) : Option AV := V Tryz.prog lay sig.has ext 52 x
noncomputable def impl_inCalls (x : List SV) : Option AV := V Tryz.prog lay sig.has ext 53 x
noncomputable def impl_validCell (x : List SV) : Option AV := V Tryz.prog lay sig.has ext 54 x
noncomputable def impl_allRefs (x : List SV) : Option AV := V Tryz.prog lay sig.has ext 55 x
noncomputable def impl_hasCircle (x : List SV) : Option AV := V Tryz.prog lay sig.has ext 56 x
noncomputable def impl_validFrame (x : List SV) : Option AV := V Tryz.prog lay sig.has ext 57 x
noncomputable def impl_waitsAt (x : List SV) : Option AV := V Tryz.prog lay sig.has ext 58 x
noncomputable def impl_cellOfWord (x : List SV) : Option AV := V Tryz.prog lay sig.has ext 59 x
noncomputable def laws_eqDecl (x : List SV) : Option AV := V Tryz.prog lay sig.has ext 60 x
noncomputable def laws_eqProc (x : List SV) : Option AV := V Tryz.prog lay sig.has ext 61 x
noncomputable def laws_eqCell (x : List SV) : Option AV := V Tryz.prog lay sig.has ext 62 x
noncomputable def laws_eqFrame (x : List SV) : Option AV := V Tryz.prog lay sig.has ext 63 x
noncomputable def laws_szConS (x : List SV) : Option AV := V Tryz.prog lay sig.has ext 64 x
noncomputable def laws_szInstrS (x : List SV) : Option AV := V Tryz.prog lay sig.has ext 65 x
noncomputable def spec_validSigs (x : List SV) : Option AV := V Tryz.prog lay sig.has ext 66 x
noncomputable def spec_sigsOfImage (x : List SV) : Option AV := V Tryz.prog lay sig.has ext 67 x
noncomputable def spec_validProc (x : List SV) : Option AV := V Tryz.prog lay sig.has ext 68 x
noncomputable def spec_validCell (x : List SV) : Option AV := V Tryz.prog lay sig.has ext 69 x
noncomputable def spec_refsOf (x : List SV) : Option AV := V Tryz.prog lay sig.has ext 70 x
noncomputable def spec_isAcyclic (x : List SV) : Option AV := V Tryz.prog lay sig.has ext 71 x
noncomputable def spec_validRegs (x : List SV) : Option AV := V Tryz.prog lay sig.has ext 72 x
noncomputable def spec_isPointer (x : List SV) : Option AV := V Tryz.prog lay sig.has ext 73 x
noncomputable def spec_ownersOf (x : List SV) : Option AV := V Tryz.prog lay sig.has ext 74 x
noncomputable def laws_toConS (x : List SV) : Option AV := V Tryz.prog lay sig.has ext 75 x
noncomputable def laws_toInstrS (x : List SV) : Option AV := V Tryz.prog lay sig.has ext 76 x
noncomputable def impl_ValidSigs (x : List SV) : Option AV := V Tryz.prog lay sig.has ext 77 x
noncomputable def impl_sigsOf (x : List SV) : Option AV := V Tryz.prog lay sig.has ext 78 x
noncomputable def impl_validLent (x : List SV) : Option AV := V Tryz.prog lay sig.has ext 79 x
noncomputable def impl_validInstr (x : List SV) : Option AV := V Tryz.prog lay sig.has ext 80 x
noncomputable def impl_leavesFrame (x : List SV) : Option AV := V Tryz.prog lay sig.has ext 81 x
noncomputable def impl_allIn (x : List SV) : Option AV := V Tryz.prog lay sig.has ext 82 x
noncomputable def impl_areWords (x : List SV) : Option AV := V Tryz.prog lay sig.has ext 83 x
noncomputable def impl_copyInts (x : List SV) : Option AV := V Tryz.prog lay sig.has ext 84 x
noncomputable def impl_hasProc (x : List SV) : Option AV := V Tryz.prog lay sig.has ext 85 x
noncomputable def impl_validReg (x : List SV) : Option AV := V Tryz.prog lay sig.has ext 86 x
noncomputable def impl_isKept (x : List SV) : Option AV := V Tryz.prog lay sig.has ext 87 x
noncomputable def laws_eqConS (x : List SV) : Option AV := V Tryz.prog lay sig.has ext 88 x
noncomputable def laws_eqInstrS (x : List SV) : Option AV := V Tryz.prog lay sig.has ext 89 x
noncomputable def laws_szCon (x : List SV) : Option AV := V Tryz.prog lay sig.has ext 90 x
noncomputable def laws_szInstr (x : List SV) : Option AV := V Tryz.prog lay sig.has ext 91 x
noncomputable def spec_validTypes (x : List SV) : Option AV := V Tryz.prog lay sig.has ext 92 x
noncomputable def spec_allTypes (x : List SV) : Option AV := V Tryz.prog lay sig.has ext 93 x
noncomputable def spec_validLent (x : List SV) : Option AV := V Tryz.prog lay sig.has ext 94 x
noncomputable def spec_validInstr (x : List SV) : Option AV := V Tryz.prog lay sig.has ext 95 x
noncomputable def spec_allZero (x : List SV) : Option AV := V Tryz.prog lay sig.has ext 96 x
noncomputable def spec_isWord (x : List SV) : Option AV := V Tryz.prog lay sig.has ext 97 x
noncomputable def spec_isLive (x : List SV) : Option AV := V Tryz.prog lay sig.has ext 98 x
noncomputable def spec_allMarked (x : List SV) : Option AV := V Tryz.prog lay sig.has ext 99 x
noncomputable def laws_toCon (x : List SV) : Option AV := V Tryz.prog lay sig.has ext 100 x
noncomputable def laws_toInstr (x : List SV) : Option AV := V Tryz.prog lay sig.has ext 101 x
noncomputable def impl_ValidTypes (x : List SV) : Option AV := V Tryz.prog lay sig.has ext 102 x
noncomputable def impl_validSig (x : List SV) : Option AV := V Tryz.prog lay sig.has ext 103 x
noncomputable def impl_isInstr (x : List SV) : Option AV := V Tryz.prog lay sig.has ext 104 x
noncomputable def impl_validNum (x : List SV) : Option AV := V Tryz.prog lay sig.has ext 105 x
noncomputable def impl_validArgs (x : List SV) : Option AV := V Tryz.prog lay sig.has ext 106 x
noncomputable def impl_validJumps (x : List SV) : Option AV := V Tryz.prog lay sig.has ext 107 x
noncomputable def impl_validRegs (x : List SV) : Option AV := V Tryz.prog lay sig.has ext 108 x
noncomputable def impl_hasInt (x : List SV) : Option AV := V Tryz.prog lay sig.has ext 109 x
noncomputable def impl_isWord (x : List SV) : Option AV := V Tryz.prog lay sig.has ext 110 x
noncomputable def impl_isLive (x : List SV) : Option AV := V Tryz.prog lay sig.has ext 111 x
noncomputable def laws_eqCon (x : List SV) : Option AV := V Tryz.prog lay sig.has ext 112 x
noncomputable def laws_eqInstr (x : List SV) : Option AV := V Tryz.prog lay sig.has ext 113 x
noncomputable def spec_validDecl (x : List SV) : Option AV := V Tryz.prog lay sig.has ext 114 x
noncomputable def spec_sets (x : List SV) : Option AV := V Tryz.prog lay sig.has ext 115 x
noncomputable def spec_conType (x : List SV) : Option AV := V Tryz.prog lay sig.has ext 116 x
noncomputable def spec_conFields (x : List SV) : Option AV := V Tryz.prog lay sig.has ext 117 x
noncomputable def spec_procWith (x : List SV) : Option AV := V Tryz.prog lay sig.has ext 118 x
noncomputable def spec_consOf (x : List SV) : Option AV := V Tryz.prog lay sig.has ext 119 x
noncomputable def spec_validJumps (x : List SV) : Option AV := V Tryz.prog lay sig.has ext 120 x
noncomputable def impl_validDecl (x : List SV) : Option AV := V Tryz.prog lay sig.has ext 121 x
noncomputable def impl_areTypes (x : List SV) : Option AV := V Tryz.prog lay sig.has ext 122 x
noncomputable def impl_isType (x : List SV) : Option AV := V Tryz.prog lay sig.has ext 123 x
noncomputable def impl_typeOfCon (x : List SV) : Option AV := V Tryz.prog lay sig.has ext 124 x
noncomputable def impl_hasRoutine (x : List SV) : Option AV := V Tryz.prog lay sig.has ext 125 x
noncomputable def impl_lends (x : List SV) : Option AV := V Tryz.prog lay sig.has ext 126 x
noncomputable def impl_isLater (x : List SV) : Option AV := V Tryz.prog lay sig.has ext 127 x
noncomputable def impl_isData (x : List SV) : Option AV := V Tryz.prog lay sig.has ext 128 x
noncomputable def impl_fieldsOfCon (x : List SV) : Option AV := V Tryz.prog lay sig.has ext 129 x
noncomputable def impl_setsDst (x : List SV) : Option AV := V Tryz.prog lay sig.has ext 130 x
noncomputable def spec_defines (x : List SV) : Option AV := V Tryz.prog lay sig.has ext 131 x
noncomputable def spec_firstCon (x : List SV) : Option AV := V Tryz.prog lay sig.has ext 132 x
noncomputable def impl_validCons (x : List SV) : Option AV := V Tryz.prog lay sig.has ext 133 x
noncomputable def impl_arrowBetween (x : List SV) : Option AV := V Tryz.prog lay sig.has ext 134 x
noncomputable def impl_firstCon (x : List SV) : Option AV := V Tryz.prog lay sig.has ext 135 x
noncomputable def impl_countCons (x : List SV) : Option AV := V Tryz.prog lay sig.has ext 136 x
noncomputable def X_laws_FnExactValidState : Ctx := { P := Tryz.prog, L := lay, F := sig.has, E := ext, fn := Tryz.f3, lv := [], jv := [], tp := [] }
theorem laws_FnExactValidState_le {l1 : List (List AC)} {l2 : List (List AC)} {n3 : Int} {n4 : Int} {n5 : Int} {n6 : Int} {l7 : List (List AC)} {l8 : List (List AC)} {l9 : List (List AC)} {r : AV} (h : (
    callR (laws_szImage [.agg [.sl 3 l1, .sl 5 l2], .cell (.int 1048576)]) false [(false, [.int 0])] fun n10 =>
      bif (decide (n10 < 0)) then
        some (.v (.cell (.bool true)))
      else
        callR (laws_szState [.agg [.int n3, .int n4, .int n5, .int n6, .sl 1 l7, .sl 3 l8, .sl 6 l9], .cell (.int n10)]) false [(false, [.int 0])] fun n11 =>
        bif (decide (n11 < 0)) then
          some (.v (.cell (.bool true)))
        else
          callR (laws_toImage [.agg [.sl 3 l1, .sl 5 l2]]) false [(true, [.sl 3 [], .sl 5 []])] fun l12 l13 =>
          callR (laws_toState [.agg [.int n3, .int n4, .int n5, .int n6, .sl 1 l7, .sl 3 l8, .sl 6 l9]]) false [(true, [.int 0, .int 0, .int 0, .int 0, .sl 1 [], .sl 3 [], .sl 6 []])] fun n14 n15 n16 n17 l18 l19 l20 =>
          callR (spec_ValidState [.agg [.sl 3 l12, .sl 5 l13], .agg [.int n14, .int n15, .int n16, .int n17, .sl 1 l18, .sl 3 l19, .sl 6 l20]]) false [(false, [.bool false])] fun b21 =>
          callR (laws_toImage [.agg [.sl 3 l1, .sl 5 l2]]) false [(true, [.sl 3 [], .sl 5 []])] fun l22 l23 =>
          callR (laws_toState [.agg [.int n3, .int n4, .int n5, .int n6, .sl 1 l7, .sl 3 l8, .sl 6 l9]]) false [(true, [.int 0, .int 0, .int 0, .int 0, .sl 1 [], .sl 3 [], .sl 6 []])] fun n24 n25 n26 n27 l28 l29 l30 =>
          callR (impl_ValidState [.agg [.sl 3 l22, .sl 5 l23], .agg [.int n24, .int n25, .int n26, .int n27, .sl 1 l28, .sl 3 l29, .sl 6 l30]]) false [(false, [.bool false])] fun b31 =>
          bif (b31 != b21) then
            some (.v (.cell (.bool false)))
          else
            callR (laws_toImage [.agg [.sl 3 l1, .sl 5 l2]]) false [(true, [.sl 3 [], .sl 5 []])] fun l32 l33 =>
            callR (laws_eqImage [.agg [.sl 3 l22, .sl 5 l23], .agg [.sl 3 l32, .sl 5 l33]]) false [(false, [.bool false])] fun b34 =>
            bif (!b34) then
              some (.v (.cell (.bool false)))
            else
              callR (laws_toState [.agg [.int n3, .int n4, .int n5, .int n6, .sl 1 l7, .sl 3 l8, .sl 6 l9]]) false [(true, [.int 0, .int 0, .int 0, .int 0, .sl 1 [], .sl 3 [], .sl 6 []])] fun n35 n36 n37 n38 l39 l40 l41 =>
              callR (laws_eqState [.agg [.int n24, .int n25, .int n26, .int n27, .sl 1 l28, .sl 3 l29, .sl 6 l30], .agg [.int n35, .int n36, .int n37, .int n38, .sl 1 l39, .sl 3 l40, .sl 6 l41]]) false [(false, [.bool false])] fun b42 =>
              bif (!b42) then
                some (.v (.cell (.bool false)))
              else
                some (.v (.cell (.bool true))) : Option AV) = some r) : laws_FnExactValidState [.agg [.sl 3 l1, .sl 5 l2], .agg [.int n3, .int n4, .int n5, .int n6, .sl 1 l7, .sl 3 l8, .sl 6 l9]] = some r :=
  V_le (X := X_laws_FnExactValidState) (n := 100000) (c := cOf Tryz.f3) (by kernel_rfl) Tryz.func3 (by kernel_rfl) (of_decide_eq_true (by kernel_rfl)) (Eq.trans (by kernel_rfl) h)
noncomputable def X_laws_szImage : Ctx := { P := Tryz.prog, L := lay, F := sig.has, E := ext, fn := Tryz.f4, lv := [], jv := [], tp := [] }
theorem laws_szImage_le {l1 : List (List AC)} {l2 : List (List AC)} {n3 : Int} {r : AV} (h : (
    callR (laws_szDeclS [.cell (.sl 3 l1), .cell (.int n3)]) false [(false, [.int 0])] fun n4 =>
      bif (decide (n4 < 0)) then
        some (.v (.cell (.int (-1))))
      else
        callR (laws_szProcS [.cell (.sl 5 l2), .cell (.int n4)]) false [(false, [.int 0])] fun n5 =>
        bif (decide (n5 < 0)) then
          some (.v (.cell (.int (-1))))
        else
          some (.v (.cell (.int n5))) : Option AV) = some r) : laws_szImage [.agg [.sl 3 l1, .sl 5 l2], .cell (.int n3)] = some r :=
  V_le (X := X_laws_szImage) (n := 100000) (c := cOf Tryz.f4) (by kernel_rfl) Tryz.func4 (by kernel_rfl) (of_decide_eq_true (by kernel_rfl)) (Eq.trans (by kernel_rfl) h)
noncomputable def X_laws_szState : Ctx := { P := Tryz.prog, L := lay, F := sig.has, E := ext, fn := Tryz.f5, lv := [], jv := [], tp := [] }
theorem laws_szState_le {n1 : Int} {n2 : Int} {n3 : Int} {n4 : Int} {l5 : List (List AC)} {l6 : List (List AC)} {l7 : List (List AC)} {n8 : Int} {r : AV} (h : (
    callR (laws_szIntS [.cell (.sl 1 l5), .cell (.int n8)]) false [(false, [.int 0])] fun n9 =>
      bif (decide (n9 < 0)) then
        some (.v (.cell (.int (-1))))
      else
        callR (laws_szCellS [.cell (.sl 3 l6), .cell (.int n9)]) false [(false, [.int 0])] fun n10 =>
        bif (decide (n10 < 0)) then
          some (.v (.cell (.int (-1))))
        else
          callR (laws_szFrameS [.cell (.sl 6 l7), .cell (.int n10)]) false [(false, [.int 0])] fun n11 =>
          bif (decide (n11 < 0)) then
            some (.v (.cell (.int (-1))))
          else
            some (.v (.cell (.int n11))) : Option AV) = some r) : laws_szState [.agg [.int n1, .int n2, .int n3, .int n4, .sl 1 l5, .sl 3 l6, .sl 6 l7], .cell (.int n8)] = some r :=
  V_le (X := X_laws_szState) (n := 100000) (c := cOf Tryz.f5) (by kernel_rfl) Tryz.func5 (by kernel_rfl) (of_decide_eq_true (by kernel_rfl)) (Eq.trans (by kernel_rfl) h)
noncomputable def X_spec_ValidState : Ctx := { P := Tryz.prog, L := lay, F := sig.has, E := ext, fn := Tryz.f6, lv := [], jv := [], tp := [] }
theorem spec_ValidState_le {l1 : List (List AC)} {l2 : List (List AC)} {n3 : Int} {n4 : Int} {n5 : Int} {n6 : Int} {l7 : List (List AC)} {l8 : List (List AC)} {l9 : List (List AC)} {r : AV} (h : (
    callR (spec_validState [.agg [.sl 3 l1, .sl 5 l2], .agg [.int n3, .int n4, .int n5, .int n6, .sl 1 l7, .sl 3 l8, .sl 6 l9]]) false [(false, [.bool false])] fun b10 =>
      some (.v (.cell (.bool b10))) : Option AV) = some r) : spec_ValidState [.agg [.sl 3 l1, .sl 5 l2], .agg [.int n3, .int n4, .int n5, .int n6, .sl 1 l7, .sl 3 l8, .sl 6 l9]] = some r :=
  V_le (X := X_spec_ValidState) (n := 100000) (c := cOf Tryz.f6) (by kernel_rfl) Tryz.func6 (by kernel_rfl) (of_decide_eq_true (by kernel_rfl)) (Eq.trans (by kernel_rfl) h)
noncomputable def X_laws_toImage : Ctx := { P := Tryz.prog, L := lay, F := sig.has, E := ext, fn := Tryz.f7, lv := [], jv := [], tp := [] }
theorem laws_toImage_le {l1 : List (List AC)} {l2 : List (List AC)} {r : AV} (h : (
    callR (laws_toDeclS [.cell (.sl 3 l1)]) false [(false, [.sl 3 []])] fun l3 =>
      callR (laws_toProcS [.cell (.sl 5 l2)]) false [(false, [.sl 5 []])] fun l4 =>
      some (.v (.agg [.sl 3 l3, .sl 5 l4])) : Option AV) = some r) : laws_toImage [.agg [.sl 3 l1, .sl 5 l2]] = some r :=
  V_le (X := X_laws_toImage) (n := 100000) (c := cOf Tryz.f7) (by kernel_rfl) Tryz.func7 (by kernel_rfl) (of_decide_eq_true (by kernel_rfl)) (Eq.trans (by kernel_rfl) h)
noncomputable def X_laws_toState : Ctx := { P := Tryz.prog, L := lay, F := sig.has, E := ext, fn := Tryz.f8, lv := [], jv := [], tp := [] }
theorem laws_toState_le {n1 : Int} {n2 : Int} {n3 : Int} {n4 : Int} {l5 : List (List AC)} {l6 : List (List AC)} {l7 : List (List AC)} {r : AV} (h : (
    callR (laws_toIntS [.cell (.sl 1 l5)]) false [(false, [.sl 1 []])] fun l8 =>
      callR (laws_toCellS [.cell (.sl 3 l6)]) false [(false, [.sl 3 []])] fun l9 =>
      callR (laws_toFrameS [.cell (.sl 6 l7)]) false [(false, [.sl 6 []])] fun l10 =>
      some (.v (.agg [.int n1, .int n2, .int n3, .int n4, .sl 1 l8, .sl 3 l9, .sl 6 l10])) : Option AV) = some r) : laws_toState [.agg [.int n1, .int n2, .int n3, .int n4, .sl 1 l5, .sl 3 l6, .sl 6 l7]] = some r :=
  V_le (X := X_laws_toState) (n := 100000) (c := cOf Tryz.f8) (by kernel_rfl) Tryz.func8 (by kernel_rfl) (of_decide_eq_true (by kernel_rfl)) (Eq.trans (by kernel_rfl) h)
noncomputable def X_impl_ValidState : Ctx := { P := Tryz.prog, L := lay, F := sig.has, E := ext, fn := Tryz.f9, lv := [], jv := [], tp := [] }
theorem impl_ValidState_le {l1 : List (List AC)} {l2 : List (List AC)} {n3 : Int} {n4 : Int} {n5 : Int} {n6 : Int} {l7 : List (List AC)} {l8 : List (List AC)} {l9 : List (List AC)} {r : AV} (h : (
    callR (impl_ValidImage [.agg [.sl 3 l1, .sl 5 l2]]) false [(false, [.bool false])] fun b10 =>
      bif b10 then
        callR (impl_validNumbers [.agg [.int n3, .int n4, .int n5, .int n6, .sl 1 l7, .sl 3 l8, .sl 6 l9]]) false [(false, [.bool false])] fun b11 =>
        bif b11 then
          callR (impl_ValidHeap [.cell (.sl 3 l8)]) false [(false, [.bool false])] fun b12 =>
          bif b12 then
            callR (impl_validFrames [.agg [.sl 3 l1, .sl 5 l2], .agg [.int n3, .int n4, .int n5, .int n6, .sl 1 l7, .sl 3 l8, .sl 6 l9]]) false [(false, [.bool false])] fun b13 =>
            bif b13 then
              callR (impl_exactCounts [.agg [.int n3, .int n4, .int n5, .int n6, .sl 1 l7, .sl 3 l8, .sl 6 l9]]) false [(false, [.bool false])] fun b14 =>
              some (.v (.cell (.bool b14)))
            else
              some (.v (.cell (.bool false)))
          else
            some (.v (.cell (.bool false)))
        else
          some (.v (.cell (.bool false)))
      else
        some (.v (.cell (.bool false))) : Option AV) = some r) : impl_ValidState [.agg [.sl 3 l1, .sl 5 l2], .agg [.int n3, .int n4, .int n5, .int n6, .sl 1 l7, .sl 3 l8, .sl 6 l9]] = some r :=
  V_le (X := X_impl_ValidState) (n := 100000) (c := cOf Tryz.f9) (by kernel_rfl) Tryz.func9 (by kernel_rfl) (of_decide_eq_true (by kernel_rfl)) (Eq.trans (by kernel_rfl) h)
noncomputable def X_laws_eqImage : Ctx := { P := Tryz.prog, L := lay, F := sig.has, E := ext, fn := Tryz.f10, lv := [], jv := [], tp := [] }
theorem laws_eqImage_le {l1 : List (List AC)} {l2 : List (List AC)} {l3 : List (List AC)} {l4 : List (List AC)} {r : AV} (h : (
    callR (laws_eqDeclS [.cell (.sl 3 l1), .cell (.sl 3 l3)]) false [(false, [.bool false])] fun b5 =>
      bif (!b5) then
        some (.v (.cell (.bool false)))
      else
        callR (laws_eqProcS [.cell (.sl 5 l2), .cell (.sl 5 l4)]) false [(false, [.bool false])] fun b6 =>
        bif (!b6) then
          some (.v (.cell (.bool false)))
        else
          some (.v (.cell (.bool true))) : Option AV) = some r) : laws_eqImage [.agg [.sl 3 l1, .sl 5 l2], .agg [.sl 3 l3, .sl 5 l4]] = some r :=
  V_le (X := X_laws_eqImage) (n := 100000) (c := cOf Tryz.f10) (by kernel_rfl) Tryz.func10 (by kernel_rfl) (of_decide_eq_true (by kernel_rfl)) (Eq.trans (by kernel_rfl) h)
noncomputable def X_laws_eqState : Ctx := { P := Tryz.prog, L := lay, F := sig.has, E := ext, fn := Tryz.f11, lv := [], jv := [], tp := [] }
theorem laws_eqState_le {n1 : Int} {n2 : Int} {n3 : Int} {n4 : Int} {l5 : List (List AC)} {l6 : List (List AC)} {l7 : List (List AC)} {n8 : Int} {n9 : Int} {n10 : Int} {n11 : Int} {l12 : List (List AC)} {l13 : List (List AC)} {l14 : List (List AC)} {r : AV} (h : (
    bif (n1 != n8) then
        some (.v (.cell (.bool false)))
      else
        bif (n2 != n9) then
          some (.v (.cell (.bool false)))
        else
          bif (n3 != n10) then
            some (.v (.cell (.bool false)))
          else
            bif (n4 != n11) then
              some (.v (.cell (.bool false)))
            else
              callR (laws_eqIntS [.cell (.sl 1 l5), .cell (.sl 1 l12)]) false [(false, [.bool false])] fun b15 =>
              bif (!b15) then
                some (.v (.cell (.bool false)))
              else
                callR (laws_eqCellS [.cell (.sl 3 l6), .cell (.sl 3 l13)]) false [(false, [.bool false])] fun b16 =>
                bif (!b16) then
                  some (.v (.cell (.bool false)))
                else
                  callR (laws_eqFrameS [.cell (.sl 6 l7), .cell (.sl 6 l14)]) false [(false, [.bool false])] fun b17 =>
                  bif (!b17) then
                    some (.v (.cell (.bool false)))
                  else
                    some (.v (.cell (.bool true))) : Option AV) = some r) : laws_eqState [.agg [.int n1, .int n2, .int n3, .int n4, .sl 1 l5, .sl 3 l6, .sl 6 l7], .agg [.int n8, .int n9, .int n10, .int n11, .sl 1 l12, .sl 3 l13, .sl 6 l14]] = some r :=
  V_le (X := X_laws_eqState) (n := 100000) (c := cOf Tryz.f11) (by kernel_rfl) Tryz.func11 (by kernel_rfl) (of_decide_eq_true (by kernel_rfl)) (Eq.trans (by kernel_rfl) h)
noncomputable def X_laws_szDeclS : Ctx := { P := Tryz.prog, L := lay, F := sig.has, E := ext, fn := Tryz.f12, lv := [(0, [0, 1, 5])], jv := [], tp := [] }
noncomputable def laws_szDeclS_L0 (l3 : List (List AC)) (n4 : Int) (n5 : Int) : Option AV := GL X_laws_szDeclS 0 [(0, .v (.cell (.sl 3 l3))), (1, .v (.cell (.int n4))), (5, .v (.cell (.int n5)))]
theorem laws_szDeclS_L0_le {l3 : List (List AC)} {n4 : Int} {n5 : Int} {r : AV} (h : (
    bif (decide (n5 < ((l3.length : Nat) : Int))) then
        atR_ l3 n5 [.int 0, .int 0, .sl 1 []] fun n6 n7 l8 =>
        callR (laws_szDecl [.agg [.int n6, .int n7, .sl 1 l8], .cell (.int n4)]) false [(false, [.int 0])] fun n9 =>
        bif (decide (n9 < 0)) then
          some (.v (.cell (.int (-1))))
        else
          laws_szDeclS_L0 l3 n9 (wrapI (n5 + 1))
      else
        some (.v (.cell (.int n4))) : Option AV) = some r) : laws_szDeclS_L0 l3 n4 n5 = some r :=
  GL_le (X := X_laws_szDeclS) (n := 100000) (by kernel_rfl) (by kernel_rfl : (X_laws_szDeclS.fn.body.bind fun c => locL 0 c []) = some (.loop (loopOf (X_laws_szDeclS.fn.body.bind fun c => locL 0 c [])), ksOf (X_laws_szDeclS.fn.body.bind fun c => locL 0 c []))) (Eq.trans (by kernel_rfl) h)
theorem laws_szDeclS_le {l1 : List (List AC)} {n2 : Int} {r : AV} (h : (
    bif (decide ((wrapI (n2 - ((l1.length : Nat) : Int))) < 0)) then
        some (.v (.cell (.int (-1))))
      else
        laws_szDeclS_L0 l1 (wrapI (n2 - ((l1.length : Nat) : Int))) 0 : Option AV) = some r) : laws_szDeclS [.cell (.sl 3 l1), .cell (.int n2)] = some r :=
  V_le (X := X_laws_szDeclS) (n := 100000) (c := cOf Tryz.f12) (by kernel_rfl) Tryz.func12 (by kernel_rfl) (of_decide_eq_true (by kernel_rfl)) (Eq.trans (by kernel_rfl) h)
noncomputable def X_laws_szProcS : Ctx := { P := Tryz.prog, L := lay, F := sig.has, E := ext, fn := Tryz.f13, lv := [(0, [0, 1, 5])], jv := [], tp := [] }
noncomputable def laws_szProcS_L0 (l3 : List (List AC)) (n4 : Int) (n5 : Int) : Option AV := GL X_laws_szProcS 0 [(0, .v (.cell (.sl 5 l3))), (1, .v (.cell (.int n4))), (5, .v (.cell (.int n5)))]
theorem laws_szProcS_L0_le {l3 : List (List AC)} {n4 : Int} {n5 : Int} {r : AV} (h : (
    bif (decide (n5 < ((l3.length : Nat) : Int))) then
        atR_ l3 n5 [.sl 1 [], .sl 1 [], .int 0, .int 0, .sl 6 []] fun l6 l7 n8 n9 l10 =>
        callR (laws_szProc [.agg [.sl 1 l6, .sl 1 l7, .int n8, .int n9, .sl 6 l10], .cell (.int n4)]) false [(false, [.int 0])] fun n11 =>
        bif (decide (n11 < 0)) then
          some (.v (.cell (.int (-1))))
        else
          laws_szProcS_L0 l3 n11 (wrapI (n5 + 1))
      else
        some (.v (.cell (.int n4))) : Option AV) = some r) : laws_szProcS_L0 l3 n4 n5 = some r :=
  GL_le (X := X_laws_szProcS) (n := 100000) (by kernel_rfl) (by kernel_rfl : (X_laws_szProcS.fn.body.bind fun c => locL 0 c []) = some (.loop (loopOf (X_laws_szProcS.fn.body.bind fun c => locL 0 c [])), ksOf (X_laws_szProcS.fn.body.bind fun c => locL 0 c []))) (Eq.trans (by kernel_rfl) h)
theorem laws_szProcS_le {l1 : List (List AC)} {n2 : Int} {r : AV} (h : (
    bif (decide ((wrapI (n2 - ((l1.length : Nat) : Int))) < 0)) then
        some (.v (.cell (.int (-1))))
      else
        laws_szProcS_L0 l1 (wrapI (n2 - ((l1.length : Nat) : Int))) 0 : Option AV) = some r) : laws_szProcS [.cell (.sl 5 l1), .cell (.int n2)] = some r :=
  V_le (X := X_laws_szProcS) (n := 100000) (c := cOf Tryz.f13) (by kernel_rfl) Tryz.func13 (by kernel_rfl) (of_decide_eq_true (by kernel_rfl)) (Eq.trans (by kernel_rfl) h)
noncomputable def X_laws_szIntS : Ctx := { P := Tryz.prog, L := lay, F := sig.has, E := ext, fn := Tryz.f14, lv := [], jv := [], tp := [] }
theorem laws_szIntS_le {l1 : List (List AC)} {n2 : Int} {r : AV} (h : (
    bif (decide ((wrapI (n2 - ((l1.length : Nat) : Int))) < 0)) then
        some (.v (.cell (.int (-1))))
      else
        some (.v (.cell (.int (wrapI (n2 - ((l1.length : Nat) : Int)))))) : Option AV) = some r) : laws_szIntS [.cell (.sl 1 l1), .cell (.int n2)] = some r :=
  V_le (X := X_laws_szIntS) (n := 100000) (c := cOf Tryz.f14) (by kernel_rfl) Tryz.func14 (by kernel_rfl) (of_decide_eq_true (by kernel_rfl)) (Eq.trans (by kernel_rfl) h)
noncomputable def X_laws_szCellS : Ctx := { P := Tryz.prog, L := lay, F := sig.has, E := ext, fn := Tryz.f15, lv := [(0, [0, 1, 5])], jv := [], tp := [] }
noncomputable def laws_szCellS_L0 (l3 : List (List AC)) (n4 : Int) (n5 : Int) : Option AV := GL X_laws_szCellS 0 [(0, .v (.cell (.sl 3 l3))), (1, .v (.cell (.int n4))), (5, .v (.cell (.int n5)))]
theorem laws_szCellS_L0_le {l3 : List (List AC)} {n4 : Int} {n5 : Int} {r : AV} (h : (
    bif (decide (n5 < ((l3.length : Nat) : Int))) then
        atR_ l3 n5 [.int 0, .int 0, .sl 1 []] fun n6 n7 l8 =>
        callR (laws_szCell [.agg [.int n6, .int n7, .sl 1 l8], .cell (.int n4)]) false [(false, [.int 0])] fun n9 =>
        bif (decide (n9 < 0)) then
          some (.v (.cell (.int (-1))))
        else
          laws_szCellS_L0 l3 n9 (wrapI (n5 + 1))
      else
        some (.v (.cell (.int n4))) : Option AV) = some r) : laws_szCellS_L0 l3 n4 n5 = some r :=
  GL_le (X := X_laws_szCellS) (n := 100000) (by kernel_rfl) (by kernel_rfl : (X_laws_szCellS.fn.body.bind fun c => locL 0 c []) = some (.loop (loopOf (X_laws_szCellS.fn.body.bind fun c => locL 0 c [])), ksOf (X_laws_szCellS.fn.body.bind fun c => locL 0 c []))) (Eq.trans (by kernel_rfl) h)
theorem laws_szCellS_le {l1 : List (List AC)} {n2 : Int} {r : AV} (h : (
    bif (decide ((wrapI (n2 - ((l1.length : Nat) : Int))) < 0)) then
        some (.v (.cell (.int (-1))))
      else
        laws_szCellS_L0 l1 (wrapI (n2 - ((l1.length : Nat) : Int))) 0 : Option AV) = some r) : laws_szCellS [.cell (.sl 3 l1), .cell (.int n2)] = some r :=
  V_le (X := X_laws_szCellS) (n := 100000) (c := cOf Tryz.f15) (by kernel_rfl) Tryz.func15 (by kernel_rfl) (of_decide_eq_true (by kernel_rfl)) (Eq.trans (by kernel_rfl) h)
noncomputable def X_laws_szFrameS : Ctx := { P := Tryz.prog, L := lay, F := sig.has, E := ext, fn := Tryz.f16, lv := [(0, [0, 1, 5])], jv := [], tp := [] }
noncomputable def laws_szFrameS_L0 (l3 : List (List AC)) (n4 : Int) (n5 : Int) : Option AV := GL X_laws_szFrameS 0 [(0, .v (.cell (.sl 6 l3))), (1, .v (.cell (.int n4))), (5, .v (.cell (.int n5)))]
theorem laws_szFrameS_L0_le {l3 : List (List AC)} {n4 : Int} {n5 : Int} {r : AV} (h : (
    bif (decide (n5 < ((l3.length : Nat) : Int))) then
        atR_ l3 n5 [.int 0, .int 0, .int 0, .sl 1 [], .sl 1 [], .sl 1 []] fun n6 n7 n8 l9 l10 l11 =>
        callR (laws_szFrame [.agg [.int n6, .int n7, .int n8, .sl 1 l9, .sl 1 l10, .sl 1 l11], .cell (.int n4)]) false [(false, [.int 0])] fun n12 =>
        bif (decide (n12 < 0)) then
          some (.v (.cell (.int (-1))))
        else
          laws_szFrameS_L0 l3 n12 (wrapI (n5 + 1))
      else
        some (.v (.cell (.int n4))) : Option AV) = some r) : laws_szFrameS_L0 l3 n4 n5 = some r :=
  GL_le (X := X_laws_szFrameS) (n := 100000) (by kernel_rfl) (by kernel_rfl : (X_laws_szFrameS.fn.body.bind fun c => locL 0 c []) = some (.loop (loopOf (X_laws_szFrameS.fn.body.bind fun c => locL 0 c [])), ksOf (X_laws_szFrameS.fn.body.bind fun c => locL 0 c []))) (Eq.trans (by kernel_rfl) h)
theorem laws_szFrameS_le {l1 : List (List AC)} {n2 : Int} {r : AV} (h : (
    bif (decide ((wrapI (n2 - ((l1.length : Nat) : Int))) < 0)) then
        some (.v (.cell (.int (-1))))
      else
        laws_szFrameS_L0 l1 (wrapI (n2 - ((l1.length : Nat) : Int))) 0 : Option AV) = some r) : laws_szFrameS [.cell (.sl 6 l1), .cell (.int n2)] = some r :=
  V_le (X := X_laws_szFrameS) (n := 100000) (c := cOf Tryz.f16) (by kernel_rfl) Tryz.func16 (by kernel_rfl) (of_decide_eq_true (by kernel_rfl)) (Eq.trans (by kernel_rfl) h)
noncomputable def X_spec_validState : Ctx := { P := Tryz.prog, L := lay, F := sig.has, E := ext, fn := Tryz.f17, lv := [(0, [2, 3, 5])], jv := [], tp := [] }
noncomputable def spec_validState_L0 (l17 : List (List AC)) (l18 : List (List AC)) (n19 : Int) (n20 : Int) (n21 : Int) (n22 : Int) (l23 : List (List AC)) (l24 : List (List AC)) (l25 : List (List AC)) (n26 : Int) : Option AV := GL X_spec_validState 0 [(2, .box [.sl 3 l17, .sl 5 l18]), (3, .box [.int n19, .int n20, .int n21, .int n22, .sl 1 l23, .sl 3 l24, .sl 6 l25]), (5, .v (.cell (.int n26)))]
theorem spec_validState_L0_le {l17 : List (List AC)} {l18 : List (List AC)} {n19 : Int} {n20 : Int} {n21 : Int} {n22 : Int} {l23 : List (List AC)} {l24 : List (List AC)} {l25 : List (List AC)} {n26 : Int} {r : AV} (h : (
    bif (decide (n26 < ((l25.length : Nat) : Int))) then
        callR (spec_validFrame [.agg [.sl 3 l17, .sl 5 l18], .agg [.int n19, .int n20, .int n21, .int n22, .sl 1 l23, .sl 3 l24, .sl 6 l25], .cell (.int n26)]) false [(false, [.bool false])] fun b31 =>
        bif (!b31) then
          some (.v (.cell (.bool false)))
        else
          spec_validState_L0 l17 l18 n19 n20 n21 n22 l23 l24 l25 (wrapI (n26 + 1))
      else
        callR (spec_heldOnce [.agg [.int n19, .int n20, .int n21, .int n22, .sl 1 l23, .sl 3 l24, .sl 6 l25]]) false [(false, [.bool false])] fun b32 =>
        bif b32 then
          callR (spec_exactCounts [.agg [.int n19, .int n20, .int n21, .int n22, .sl 1 l23, .sl 3 l24, .sl 6 l25]]) false [(false, [.bool false])] fun b33 =>
          some (.v (.cell (.bool b33)))
        else
          some (.v (.cell (.bool false))) : Option AV) = some r) : spec_validState_L0 l17 l18 n19 n20 n21 n22 l23 l24 l25 n26 = some r :=
  GL_le (X := X_spec_validState) (n := 100000) (by kernel_rfl) (by kernel_rfl : (X_spec_validState.fn.body.bind fun c => locL 0 c []) = some (.loop (loopOf (X_spec_validState.fn.body.bind fun c => locL 0 c [])), ksOf (X_spec_validState.fn.body.bind fun c => locL 0 c []))) (Eq.trans (by kernel_rfl) h)
theorem spec_validState_le {l1 : List (List AC)} {l2 : List (List AC)} {n3 : Int} {n4 : Int} {n5 : Int} {n6 : Int} {l7 : List (List AC)} {l8 : List (List AC)} {l9 : List (List AC)} {r : AV} (h : (
    callR (spec_validImage [.agg [.sl 3 l1, .sl 5 l2]]) false [(false, [.bool false])] fun b10 =>
      bif (!b10) then
        some (.v (.cell (.bool false)))
      else
        callR (spec_inRange [.cell (.int n3), .cell (.int 0), .cell (.int 3)]) false [(false, [.bool false])] fun b11 =>
        bif (!b11) then
          some (.v (.cell (.bool false)))
        else
          bif ((n3 == 0) != (((l9.length : Nat) : Int) == 0)) then
            some (.v (.cell (.bool false)))
          else
            callR (spec_inRange [.cell (.int n4), .cell (.int (-999)), .cell (.int 999)]) false [(false, [.bool false])] fun b12 =>
            bif (!b12) then
              some (.v (.cell (.bool false)))
            else
              bif (n4 != 0) then
                bif (n3 != 0) then
                  some (.v (.cell (.bool false)))
                else
                  callR (spec_inRange [.cell (.int n6), .cell (.int 0), .cell (.int 40)]) false [(false, [.bool false])] fun b13 =>
                  bif (!b13) then
                    some (.v (.cell (.bool false)))
                  else
                    callR (spec_inRange [.cell (.int n5), .cell (.int 0), .cell (.int n6)]) false [(false, [.bool false])] fun b14 =>
                    bif (!b14) then
                      some (.v (.cell (.bool false)))
                    else
                      bif (decide (((l9.length : Nat) : Int) > (wrapI (n5 + 1)))) then
                        some (.v (.cell (.bool false)))
                      else
                        callR (spec_allInRange [.cell (.sl 1 l7)]) false [(false, [.bool false])] fun b15 =>
                        bif (!b15) then
                          some (.v (.cell (.bool false)))
                        else
                          callR (spec_validHeap [.cell (.sl 3 l8)]) false [(false, [.bool false])] fun b16 =>
                          bif (!b16) then
                            some (.v (.cell (.bool false)))
                          else
                            spec_validState_L0 l1 l2 n3 n4 n5 n6 l7 l8 l9 0
              else
                callR (spec_inRange [.cell (.int n6), .cell (.int 0), .cell (.int 40)]) false [(false, [.bool false])] fun b27 =>
                bif (!b27) then
                  some (.v (.cell (.bool false)))
                else
                  callR (spec_inRange [.cell (.int n5), .cell (.int 0), .cell (.int n6)]) false [(false, [.bool false])] fun b28 =>
                  bif (!b28) then
                    some (.v (.cell (.bool false)))
                  else
                    bif (decide (((l9.length : Nat) : Int) > (wrapI (n5 + 1)))) then
                      some (.v (.cell (.bool false)))
                    else
                      callR (spec_allInRange [.cell (.sl 1 l7)]) false [(false, [.bool false])] fun b29 =>
                      bif (!b29) then
                        some (.v (.cell (.bool false)))
                      else
                        callR (spec_validHeap [.cell (.sl 3 l8)]) false [(false, [.bool false])] fun b30 =>
                        bif (!b30) then
                          some (.v (.cell (.bool false)))
                        else
                          spec_validState_L0 l1 l2 n3 n4 n5 n6 l7 l8 l9 0 : Option AV) = some r) : spec_validState [.agg [.sl 3 l1, .sl 5 l2], .agg [.int n3, .int n4, .int n5, .int n6, .sl 1 l7, .sl 3 l8, .sl 6 l9]] = some r :=
  V_le (X := X_spec_validState) (n := 100000) (c := cOf Tryz.f17) (by kernel_rfl) Tryz.func17 (by kernel_rfl) (of_decide_eq_true (by kernel_rfl)) (Eq.trans (by kernel_rfl) h)
noncomputable def X_impl_ValidImage : Ctx := { P := Tryz.prog, L := lay, F := sig.has, E := ext, fn := Tryz.f23, lv := [(0, [3, 16, 17, 18])], jv := [], tp := [] }
noncomputable def impl_ValidImage_L0 (l6 : List (List AC)) (l7 : List (List AC)) (l8 : List (List AC)) (n9 : Int) (n10 : Int) : Option AV := GL X_impl_ValidImage 0 [(3, .box [.sl 3 l6, .sl 5 l7]), (16, .v (.cell (.sl 5 l8))), (17, .v (.cell (.int n9))), (18, .v (.cell (.int n10)))]
theorem impl_ValidImage_L0_le {l6 : List (List AC)} {l7 : List (List AC)} {l8 : List (List AC)} {n9 : Int} {n10 : Int} {r : AV} (h : (
    bif (decide (n10 < n9)) then
        atR_ l8 n10 [.sl 1 [], .sl 1 [], .int 0, .int 0, .sl 6 []] fun l11 l12 n13 n14 l15 =>
        callR (impl_validProc [.agg [.sl 3 l6, .sl 5 l7], .agg [.sl 1 l11, .sl 1 l12, .int n13, .int n14, .sl 6 l15]]) false [(false, [.bool false])] fun b16 =>
        bif (!b16) then
          some (.v (.cell (.bool false)))
        else
          impl_ValidImage_L0 l6 l7 l8 n9 (wrapI (n10 + 1))
      else
        some (.v (.cell (.bool true))) : Option AV) = some r) : impl_ValidImage_L0 l6 l7 l8 n9 n10 = some r :=
  GL_le (X := X_impl_ValidImage) (n := 100000) (by kernel_rfl) (by kernel_rfl : (X_impl_ValidImage.fn.body.bind fun c => locL 0 c []) = some (.loop (loopOf (X_impl_ValidImage.fn.body.bind fun c => locL 0 c [])), ksOf (X_impl_ValidImage.fn.body.bind fun c => locL 0 c []))) (Eq.trans (by kernel_rfl) h)
theorem impl_ValidImage_le {l1 : List (List AC)} {l2 : List (List AC)} {r : AV} (h : (
    bif (decide (((l2.length : Nat) : Int) > 4)) then
        some (.v (.cell (.bool false)))
      else
        callR (impl_headsOf [.agg [.sl 3 l1, .sl 5 l2]]) false [(true, [.sl 3 [], .sl 5 []])] fun l3 l4 =>
        callR (impl_validRoutineSigs [.agg [.sl 3 l3, .sl 5 l4]]) false [(false, [.bool false])] fun b5 =>
        bif (!b5) then
          some (.v (.cell (.bool false)))
        else
          impl_ValidImage_L0 l3 l4 l2 ((l2.length : Nat) : Int) 0 : Option AV) = some r) : impl_ValidImage [.agg [.sl 3 l1, .sl 5 l2]] = some r :=
  V_le (X := X_impl_ValidImage) (n := 100000) (c := cOf Tryz.f23) (by kernel_rfl) Tryz.func23 (by kernel_rfl) (of_decide_eq_true (by kernel_rfl)) (Eq.trans (by kernel_rfl) h)
noncomputable def X_impl_validNumbers : Ctx := { P := Tryz.prog, L := lay, F := sig.has, E := ext, fn := Tryz.f24, lv := [], jv := [], tp := [] }
theorem impl_validNumbers_le {n1 : Int} {n2 : Int} {n3 : Int} {n4 : Int} {l5 : List (List AC)} {l6 : List (List AC)} {l7 : List (List AC)} {r : AV} (h : (
    bif (decide (n1 < 0)) then
        some (.v (.cell (.bool false)))
      else
        bif (decide (n1 > 3)) then
          some (.v (.cell (.bool false)))
        else
          bif ((n1 == 0) != (((l7.length : Nat) : Int) == 0)) then
            some (.v (.cell (.bool false)))
          else
            callR (impl_inInts [.cell (.int n2)]) false [(false, [.bool false])] fun b8 =>
            bif (!b8) then
              some (.v (.cell (.bool false)))
            else
              bif (n2 != 0) then
                bif (n1 != 0) then
                  some (.v (.cell (.bool false)))
                else
                  callR (impl_allInInts [.cell (.sl 1 l5)]) false [(false, [.bool false])] fun b9 =>
                  bif (!b9) then
                    some (.v (.cell (.bool false)))
                  else
                    callR (impl_inCalls [.cell (.int n4)]) false [(false, [.bool false])] fun b10 =>
                    bif b10 then
                      bif (decide (n3 ≥ 0)) then
                        bif (decide (n3 ≤ n4)) then
                          some (.v (.cell (.bool (decide (((l7.length : Nat) : Int) ≤ (wrapI (n3 + 1)))))))
                        else
                          some (.v (.cell (.bool false)))
                      else
                        some (.v (.cell (.bool false)))
                    else
                      some (.v (.cell (.bool false)))
              else
                callR (impl_allInInts [.cell (.sl 1 l5)]) false [(false, [.bool false])] fun b11 =>
                bif (!b11) then
                  some (.v (.cell (.bool false)))
                else
                  callR (impl_inCalls [.cell (.int n4)]) false [(false, [.bool false])] fun b12 =>
                  bif b12 then
                    bif (decide (n3 ≥ 0)) then
                      bif (decide (n3 ≤ n4)) then
                        some (.v (.cell (.bool (decide (((l7.length : Nat) : Int) ≤ (wrapI (n3 + 1)))))))
                      else
                        some (.v (.cell (.bool false)))
                    else
                      some (.v (.cell (.bool false)))
                  else
                    some (.v (.cell (.bool false))) : Option AV) = some r) : impl_validNumbers [.agg [.int n1, .int n2, .int n3, .int n4, .sl 1 l5, .sl 3 l6, .sl 6 l7]] = some r :=
  V_le (X := X_impl_validNumbers) (n := 100000) (c := cOf Tryz.f24) (by kernel_rfl) Tryz.func24 (by kernel_rfl) (of_decide_eq_true (by kernel_rfl)) (Eq.trans (by kernel_rfl) h)
noncomputable def X_impl_ValidHeap : Ctx := { P := Tryz.prog, L := lay, F := sig.has, E := ext, fn := Tryz.f25, lv := [(0, [0, 8, 9, 10]), (2, [0, 5, 34, 35, 36])], jv := [], tp := [] }
noncomputable def impl_ValidHeap_L0 (l2 : List (List AC)) (l3 : List (List AC)) (n4 : Int) (n5 : Int) : Option AV := GL X_impl_ValidHeap 0 [(0, .v (.cell (.sl 3 l2))), (8, .v (.cell (.sl 3 l3))), (9, .v (.cell (.int n4))), (10, .v (.cell (.int n5)))]
noncomputable def impl_ValidHeap_L2 (l14 : List (List AC)) (l15 : List (List AC)) (l16 : List (List AC)) (n17 : Int) (n18 : Int) : Option AV := GL X_impl_ValidHeap 2 [(0, .v (.cell (.sl 3 l14))), (5, .v (.cell (.sl 1 l15))), (34, .v (.cell (.sl 3 l16))), (35, .v (.cell (.int n17))), (36, .v (.cell (.int n18)))]
theorem impl_ValidHeap_L0_le {l2 : List (List AC)} {l3 : List (List AC)} {n4 : Int} {n5 : Int} {r : AV} (h : (
    bif (decide (n5 < n4)) then
        atR_ l3 n5 [.int 0, .int 0, .sl 1 []] fun n6 n7 l8 =>
        callR (impl_validCell [.cell (.sl 3 l2), .agg [.int n6, .int n7, .sl 1 l8]]) false [(false, [.bool false])] fun b9 =>
        bif (!b9) then
          some (.v (.cell (.bool false)))
        else
          impl_ValidHeap_L0 l2 l3 n4 (wrapI (n5 + 1))
      else
        bif (decide (((l2.length : Nat) : Int) > 0)) then
          atR_ l2 (wrapI (((l2.length : Nat) : Int) - 1)) [.int 0, .int 0, .sl 1 []] fun n10 n11 l12 =>
          bif (n10 == 0) then
            some (.v (.cell (.bool false)))
          else
            callR (impl_allRefs [.cell (.sl 3 l2)]) false [(false, [.sl 1 []])] fun l13 =>
            impl_ValidHeap_L2 l2 l13 l2 ((l2.length : Nat) : Int) 0
        else
          callR (impl_allRefs [.cell (.sl 3 l2)]) false [(false, [.sl 1 []])] fun l19 =>
          impl_ValidHeap_L2 l2 l19 l2 ((l2.length : Nat) : Int) 0 : Option AV) = some r) : impl_ValidHeap_L0 l2 l3 n4 n5 = some r :=
  GL_le (X := X_impl_ValidHeap) (n := 100000) (by kernel_rfl) (by kernel_rfl : (X_impl_ValidHeap.fn.body.bind fun c => locL 0 c []) = some (.loop (loopOf (X_impl_ValidHeap.fn.body.bind fun c => locL 0 c [])), ksOf (X_impl_ValidHeap.fn.body.bind fun c => locL 0 c []))) (Eq.trans (by kernel_rfl) h)
theorem impl_ValidHeap_L2_le {l14 : List (List AC)} {l15 : List (List AC)} {l16 : List (List AC)} {n17 : Int} {n18 : Int} {r : AV} (h : (
    bif (decide (n18 < n17)) then
        atR_ l16 n18 [.int 0, .int 0, .sl 1 []] fun n20 n21 l22 =>
        atR_ l15 n18 [.int 0] fun n23 =>
        bif (decide (n23 > n20)) then
          bif (decide (n20 > 0)) then
            some (.v (.cell (.bool false)))
          else
            impl_ValidHeap_L2 l14 l15 l16 n17 (wrapI (n18 + 1))
        else
          impl_ValidHeap_L2 l14 l15 l16 n17 (wrapI (n18 + 1))
      else
        callR (impl_hasCircle [.cell (.sl 3 l14), .cell (.sl 1 l15)]) false [(false, [.bool false])] fun b24 =>
        some (.v (.cell (.bool (!b24)))) : Option AV) = some r) : impl_ValidHeap_L2 l14 l15 l16 n17 n18 = some r :=
  GL_le (X := X_impl_ValidHeap) (n := 100000) (by kernel_rfl) (by kernel_rfl : (X_impl_ValidHeap.fn.body.bind fun c => locL 2 c []) = some (.loop (loopOf (X_impl_ValidHeap.fn.body.bind fun c => locL 2 c [])), ksOf (X_impl_ValidHeap.fn.body.bind fun c => locL 2 c []))) (Eq.trans (by kernel_rfl) h)
theorem impl_ValidHeap_le {l1 : List (List AC)} {r : AV} (h : (
    impl_ValidHeap_L0 l1 l1 ((l1.length : Nat) : Int) 0 : Option AV) = some r) : impl_ValidHeap [.cell (.sl 3 l1)] = some r :=
  V_le (X := X_impl_ValidHeap) (n := 100000) (c := cOf Tryz.f25) (by kernel_rfl) Tryz.func25 (by kernel_rfl) (of_decide_eq_true (by kernel_rfl)) (Eq.trans (by kernel_rfl) h)
noncomputable def X_impl_validFrames : Ctx := { P := Tryz.prog, L := lay, F := sig.has, E := ext, fn := Tryz.f26, lv := [(0, [2, 3, 8, 9, 10])], jv := [], tp := [] }
noncomputable def impl_validFrames_L0 (l10 : List (List AC)) (l11 : List (List AC)) (n12 : Int) (n13 : Int) (n14 : Int) (n15 : Int) (l16 : List (List AC)) (l17 : List (List AC)) (l18 : List (List AC)) (l19 : List (List AC)) (n20 : Int) (n21 : Int) : Option AV := GL X_impl_validFrames 0 [(2, .box [.sl 3 l10, .sl 5 l11]), (3, .box [.int n12, .int n13, .int n14, .int n15, .sl 1 l16, .sl 3 l17, .sl 6 l18]), (8, .v (.cell (.sl 6 l19))), (9, .v (.cell (.int n20))), (10, .v (.cell (.int n21)))]
theorem impl_validFrames_L0_le {l10 : List (List AC)} {l11 : List (List AC)} {n12 : Int} {n13 : Int} {n14 : Int} {n15 : Int} {l16 : List (List AC)} {l17 : List (List AC)} {l18 : List (List AC)} {l19 : List (List AC)} {n20 : Int} {n21 : Int} {r : AV} (h : (
    bif (decide (n21 < n20)) then
        atR_ l19 n21 [.int 0, .int 0, .int 0, .sl 1 [], .sl 1 [], .sl 1 []] fun n22 n23 n24 l25 l26 l27 =>
        callR (impl_validFrame [.agg [.sl 3 l10, .sl 5 l11], .cell (.sl 3 l17), .agg [.int n22, .int n23, .int n24, .sl 1 l25, .sl 1 l26, .sl 1 l27]]) false [(false, [.bool false])] fun b28 =>
        bif (!b28) then
          some (.v (.cell (.bool false)))
        else
          bif (n21 == 0) then
            bif (n24 != 0) then
              some (.v (.cell (.bool false)))
            else
              bif (decide (n21 > 0)) then
                atR_ l18 (wrapI (n21 - 1)) [.int 0, .int 0, .int 0, .sl 1 [], .sl 1 [], .sl 1 []] fun n29 n30 n31 l32 l33 l34 =>
                callR (impl_waitsAt [.agg [.int n29, .int n30, .int n31, .sl 1 l32, .sl 1 l33, .sl 1 l34], .cell (.int n24)]) false [(false, [.bool false])] fun b35 =>
                bif (!b35) then
                  some (.v (.cell (.bool false)))
                else
                  impl_validFrames_L0 l10 l11 n12 n13 n14 n15 l16 l17 l18 l19 n20 (wrapI (n21 + 1))
              else
                impl_validFrames_L0 l10 l11 n12 n13 n14 n15 l16 l17 l18 l19 n20 (wrapI (n21 + 1))
          else
            bif (decide (n21 > 0)) then
              atR_ l18 (wrapI (n21 - 1)) [.int 0, .int 0, .int 0, .sl 1 [], .sl 1 [], .sl 1 []] fun n36 n37 n38 l39 l40 l41 =>
              callR (impl_waitsAt [.agg [.int n36, .int n37, .int n38, .sl 1 l39, .sl 1 l40, .sl 1 l41], .cell (.int n24)]) false [(false, [.bool false])] fun b42 =>
              bif (!b42) then
                some (.v (.cell (.bool false)))
              else
                impl_validFrames_L0 l10 l11 n12 n13 n14 n15 l16 l17 l18 l19 n20 (wrapI (n21 + 1))
            else
              impl_validFrames_L0 l10 l11 n12 n13 n14 n15 l16 l17 l18 l19 n20 (wrapI (n21 + 1))
      else
        some (.v (.cell (.bool true))) : Option AV) = some r) : impl_validFrames_L0 l10 l11 n12 n13 n14 n15 l16 l17 l18 l19 n20 n21 = some r :=
  GL_le (X := X_impl_validFrames) (n := 100000) (by kernel_rfl) (by kernel_rfl : (X_impl_validFrames.fn.body.bind fun c => locL 0 c []) = some (.loop (loopOf (X_impl_validFrames.fn.body.bind fun c => locL 0 c [])), ksOf (X_impl_validFrames.fn.body.bind fun c => locL 0 c []))) (Eq.trans (by kernel_rfl) h)
theorem impl_validFrames_le {l1 : List (List AC)} {l2 : List (List AC)} {n3 : Int} {n4 : Int} {n5 : Int} {n6 : Int} {l7 : List (List AC)} {l8 : List (List AC)} {l9 : List (List AC)} {r : AV} (h : (
    impl_validFrames_L0 l1 l2 n3 n4 n5 n6 l7 l8 l9 l9 ((l9.length : Nat) : Int) 0 : Option AV) = some r) : impl_validFrames [.agg [.sl 3 l1, .sl 5 l2], .agg [.int n3, .int n4, .int n5, .int n6, .sl 1 l7, .sl 3 l8, .sl 6 l9]] = some r :=
  V_le (X := X_impl_validFrames) (n := 100000) (c := cOf Tryz.f26) (by kernel_rfl) Tryz.func26 (by kernel_rfl) (of_decide_eq_true (by kernel_rfl)) (Eq.trans (by kernel_rfl) h)
noncomputable def X_impl_exactCounts : Ctx := { P := Tryz.prog, L := lay, F := sig.has, E := ext, fn := Tryz.f27, lv := [(0, [1, 3, 12, 14, 15, 16]), (2, [1, 3, 5, 12, 14, 15, 16, 21, 22, 23]), (4, [3, 12, 66, 67, 68])], jv := [], tp := [] }
noncomputable def impl_exactCounts_L0 (n9 : Int) (n10 : Int) (n11 : Int) (n12 : Int) (l13 : List (List AC)) (l14 : List (List AC)) (l15 : List (List AC)) (l16 : List (List AC)) (l17 : List (List AC)) (n18 : Int) (n19 : Int) : Option AV := GL X_impl_exactCounts 0 [(1, .box [.int n9, .int n10, .int n11, .int n12, .sl 1 l13, .sl 3 l14, .sl 6 l15]), (3, .al 12), (12, .arr 1 l16), (14, .v (.cell (.sl 6 l17))), (15, .v (.cell (.int n18))), (16, .v (.cell (.int n19)))]
noncomputable def impl_exactCounts_L2 (n26 : Int) (n27 : Int) (n28 : Int) (n29 : Int) (l30 : List (List AC)) (l31 : List (List AC)) (l32 : List (List AC)) (n33 : Int) (n34 : Int) (n35 : Int) (l36 : List (List AC)) (l37 : List (List AC)) (l38 : List (List AC)) (l39 : List (List AC)) (l40 : List (List AC)) (n41 : Int) (n42 : Int) (l43 : List (List AC)) (n44 : Int) (n45 : Int) : Option AV := GL X_impl_exactCounts 2 [(1, .box [.int n26, .int n27, .int n28, .int n29, .sl 1 l30, .sl 3 l31, .sl 6 l32]), (3, .al 12), (5, .box [.int n33, .int n34, .int n35, .sl 1 l36, .sl 1 l37, .sl 1 l38]), (12, .arr 1 l39), (14, .v (.cell (.sl 6 l40))), (15, .v (.cell (.int n41))), (16, .v (.cell (.int n42))), (21, .v (.cell (.sl 1 l43))), (22, .v (.cell (.int n44))), (23, .v (.cell (.int n45)))]
noncomputable def impl_exactCounts_L4 (l46 : List (List AC)) (l47 : List (List AC)) (n48 : Int) (n49 : Int) : Option AV := GL X_impl_exactCounts 4 [(3, .al 12), (12, .arr 1 l46), (66, .v (.cell (.sl 3 l47))), (67, .v (.cell (.int n48))), (68, .v (.cell (.int n49)))]
theorem impl_exactCounts_L0_le {n9 : Int} {n10 : Int} {n11 : Int} {n12 : Int} {l13 : List (List AC)} {l14 : List (List AC)} {l15 : List (List AC)} {l16 : List (List AC)} {l17 : List (List AC)} {n18 : Int} {n19 : Int} {r : AV} (h : (
    bif (decide (n19 < n18)) then
        atR_ l17 n19 [.int 0, .int 0, .int 0, .sl 1 [], .sl 1 [], .sl 1 []] fun n20 n21 n22 l23 l24 l25 =>
        impl_exactCounts_L2 n9 n10 n11 n12 l13 l14 l15 n20 n21 n22 l23 l24 l25 l16 l17 n18 n19 l23 ((l23.length : Nat) : Int) 0
      else
        impl_exactCounts_L4 l16 l14 ((l14.length : Nat) : Int) 0 : Option AV) = some r) : impl_exactCounts_L0 n9 n10 n11 n12 l13 l14 l15 l16 l17 n18 n19 = some r :=
  GL_le (X := X_impl_exactCounts) (n := 100000) (by kernel_rfl) (by kernel_rfl : (X_impl_exactCounts.fn.body.bind fun c => locL 0 c []) = some (.loop (loopOf (X_impl_exactCounts.fn.body.bind fun c => locL 0 c [])), ksOf (X_impl_exactCounts.fn.body.bind fun c => locL 0 c []))) (Eq.trans (by kernel_rfl) h)
theorem impl_exactCounts_L2_le {n26 : Int} {n27 : Int} {n28 : Int} {n29 : Int} {l30 : List (List AC)} {l31 : List (List AC)} {l32 : List (List AC)} {n33 : Int} {n34 : Int} {n35 : Int} {l36 : List (List AC)} {l37 : List (List AC)} {l38 : List (List AC)} {l39 : List (List AC)} {l40 : List (List AC)} {n41 : Int} {n42 : Int} {l43 : List (List AC)} {n44 : Int} {n45 : Int} {r : AV} (h : (
    bif (decide (n45 < n44)) then
        atR_ l43 n45 [.int 0] fun n50 =>
        atR_ l37 n45 [.int 0] fun n51 =>
        bif (decide (n51 > 0)) then
          callR (impl_cellOfWord [.cell (.int n50)]) false [(false, [.int 0])] fun n52 =>
          atR_ l39 n52 [.int 0] fun n53 =>
          atR_ l37 n45 [.int 0] fun n54 =>
          idxR l39 n52 fun m55 =>
          setR l39 m55 0 [.int (wrapI (n53 + n54))] fun l56 =>
          atR_ l38 n45 [.int 0] fun n57 =>
          bif (n57 != 0) then
            atR_ l38 n45 [.int 0] fun n58 =>
            callR (impl_cellOfWord [.cell (.int n58)]) false [(false, [.int 0])] fun n59 =>
            idxR l56 n59 fun m60 =>
            elR l56 m60 0 1 [.int 0] fun n61 =>
            idxR l56 n59 fun m62 =>
            setR l56 m62 0 [.int (wrapI (n61 + 1))] fun l63 =>
            impl_exactCounts_L2 n26 n27 n28 n29 l30 l31 l32 n33 n34 n35 l36 l37 l38 l63 l40 n41 n42 l43 n44 (wrapI (n45 + 1))
          else
            impl_exactCounts_L2 n26 n27 n28 n29 l30 l31 l32 n33 n34 n35 l36 l37 l38 l56 l40 n41 n42 l43 n44 (wrapI (n45 + 1))
        else
          atR_ l38 n45 [.int 0] fun n64 =>
          bif (n64 != 0) then
            atR_ l38 n45 [.int 0] fun n65 =>
            callR (impl_cellOfWord [.cell (.int n65)]) false [(false, [.int 0])] fun n66 =>
            idxR l39 n66 fun m67 =>
            elR l39 m67 0 1 [.int 0] fun n68 =>
            idxR l39 n66 fun m69 =>
            setR l39 m69 0 [.int (wrapI (n68 + 1))] fun l70 =>
            impl_exactCounts_L2 n26 n27 n28 n29 l30 l31 l32 n33 n34 n35 l36 l37 l38 l70 l40 n41 n42 l43 n44 (wrapI (n45 + 1))
          else
            impl_exactCounts_L2 n26 n27 n28 n29 l30 l31 l32 n33 n34 n35 l36 l37 l38 l39 l40 n41 n42 l43 n44 (wrapI (n45 + 1))
      else
        impl_exactCounts_L0 n26 n27 n28 n29 l30 l31 l32 l39 l40 n41 (wrapI (n42 + 1)) : Option AV) = some r) : impl_exactCounts_L2 n26 n27 n28 n29 l30 l31 l32 n33 n34 n35 l36 l37 l38 l39 l40 n41 n42 l43 n44 n45 = some r :=
  GL_le (X := X_impl_exactCounts) (n := 100000) (by kernel_rfl) (by kernel_rfl : (X_impl_exactCounts.fn.body.bind fun c => locL 2 c []) = some (.loop (loopOf (X_impl_exactCounts.fn.body.bind fun c => locL 2 c [])), ksOf (X_impl_exactCounts.fn.body.bind fun c => locL 2 c []))) (Eq.trans (by kernel_rfl) h)
theorem impl_exactCounts_L4_le {l46 : List (List AC)} {l47 : List (List AC)} {n48 : Int} {n49 : Int} {r : AV} (h : (
    bif (decide (n49 < n48)) then
        atR_ l47 n49 [.int 0, .int 0, .sl 1 []] fun n71 n72 l73 =>
        bif (decide (n71 < 0)) then
          atR_ l46 n49 [.int 0] fun n74 =>
          bif (n74 != 1) then
            some (.v (.cell (.bool false)))
          else
            bif (decide (n71 > 0)) then
              atR_ l46 n49 [.int 0] fun n75 =>
              bif (n75 != n71) then
                some (.v (.cell (.bool false)))
              else
                impl_exactCounts_L4 l46 l47 n48 (wrapI (n49 + 1))
            else
              impl_exactCounts_L4 l46 l47 n48 (wrapI (n49 + 1))
        else
          bif (decide (n71 > 0)) then
            atR_ l46 n49 [.int 0] fun n76 =>
            bif (n76 != n71) then
              some (.v (.cell (.bool false)))
            else
              impl_exactCounts_L4 l46 l47 n48 (wrapI (n49 + 1))
          else
            impl_exactCounts_L4 l46 l47 n48 (wrapI (n49 + 1))
      else
        some (.v (.cell (.bool true))) : Option AV) = some r) : impl_exactCounts_L4 l46 l47 n48 n49 = some r :=
  GL_le (X := X_impl_exactCounts) (n := 100000) (by kernel_rfl) (by kernel_rfl : (X_impl_exactCounts.fn.body.bind fun c => locL 4 c []) = some (.loop (loopOf (X_impl_exactCounts.fn.body.bind fun c => locL 4 c [])), ksOf (X_impl_exactCounts.fn.body.bind fun c => locL 4 c []))) (Eq.trans (by kernel_rfl) h)
theorem impl_exactCounts_le {n1 : Int} {n2 : Int} {n3 : Int} {n4 : Int} {l5 : List (List AC)} {l6 : List (List AC)} {l7 : List (List AC)} {r : AV} (h : (
    thawR (impl_allRefs [.cell (.sl 3 l6)]) 1 fun l8 =>
      impl_exactCounts_L0 n1 n2 n3 n4 l5 l6 l7 l8 l7 ((l7.length : Nat) : Int) 0 : Option AV) = some r) : impl_exactCounts [.agg [.int n1, .int n2, .int n3, .int n4, .sl 1 l5, .sl 3 l6, .sl 6 l7]] = some r :=
  V_le (X := X_impl_exactCounts) (n := 100000) (c := cOf Tryz.f27) (by kernel_rfl) Tryz.func27 (by kernel_rfl) (of_decide_eq_true (by kernel_rfl)) (Eq.trans (by kernel_rfl) h)
noncomputable def X_laws_eqDeclS : Ctx := { P := Tryz.prog, L := lay, F := sig.has, E := ext, fn := Tryz.f28, lv := [(0, [0, 1, 5])], jv := [], tp := [] }
noncomputable def laws_eqDeclS_L0 (l3 : List (List AC)) (l4 : List (List AC)) (n5 : Int) : Option AV := GL X_laws_eqDeclS 0 [(0, .v (.cell (.sl 3 l3))), (1, .v (.cell (.sl 3 l4))), (5, .v (.cell (.int n5)))]
theorem laws_eqDeclS_L0_le {l3 : List (List AC)} {l4 : List (List AC)} {n5 : Int} {r : AV} (h : (
    bif (decide (n5 < ((l3.length : Nat) : Int))) then
        atR_ l3 n5 [.int 0, .int 0, .sl 1 []] fun n6 n7 l8 =>
        atR_ l4 n5 [.int 0, .int 0, .sl 1 []] fun n9 n10 l11 =>
        callR (laws_eqDecl [.agg [.int n6, .int n7, .sl 1 l8], .agg [.int n9, .int n10, .sl 1 l11]]) false [(false, [.bool false])] fun b12 =>
        bif (!b12) then
          some (.v (.cell (.bool false)))
        else
          laws_eqDeclS_L0 l3 l4 (wrapI (n5 + 1))
      else
        some (.v (.cell (.bool true))) : Option AV) = some r) : laws_eqDeclS_L0 l3 l4 n5 = some r :=
  GL_le (X := X_laws_eqDeclS) (n := 100000) (by kernel_rfl) (by kernel_rfl : (X_laws_eqDeclS.fn.body.bind fun c => locL 0 c []) = some (.loop (loopOf (X_laws_eqDeclS.fn.body.bind fun c => locL 0 c [])), ksOf (X_laws_eqDeclS.fn.body.bind fun c => locL 0 c []))) (Eq.trans (by kernel_rfl) h)
theorem laws_eqDeclS_le {l1 : List (List AC)} {l2 : List (List AC)} {r : AV} (h : (
    bif (((l1.length : Nat) : Int) != ((l2.length : Nat) : Int)) then
        some (.v (.cell (.bool false)))
      else
        laws_eqDeclS_L0 l1 l2 0 : Option AV) = some r) : laws_eqDeclS [.cell (.sl 3 l1), .cell (.sl 3 l2)] = some r :=
  V_le (X := X_laws_eqDeclS) (n := 100000) (c := cOf Tryz.f28) (by kernel_rfl) Tryz.func28 (by kernel_rfl) (of_decide_eq_true (by kernel_rfl)) (Eq.trans (by kernel_rfl) h)
noncomputable def X_laws_eqProcS : Ctx := { P := Tryz.prog, L := lay, F := sig.has, E := ext, fn := Tryz.f29, lv := [(0, [0, 1, 5])], jv := [], tp := [] }
noncomputable def laws_eqProcS_L0 (l3 : List (List AC)) (l4 : List (List AC)) (n5 : Int) : Option AV := GL X_laws_eqProcS 0 [(0, .v (.cell (.sl 5 l3))), (1, .v (.cell (.sl 5 l4))), (5, .v (.cell (.int n5)))]
theorem laws_eqProcS_L0_le {l3 : List (List AC)} {l4 : List (List AC)} {n5 : Int} {r : AV} (h : (
    bif (decide (n5 < ((l3.length : Nat) : Int))) then
        atR_ l3 n5 [.sl 1 [], .sl 1 [], .int 0, .int 0, .sl 6 []] fun l6 l7 n8 n9 l10 =>
        atR_ l4 n5 [.sl 1 [], .sl 1 [], .int 0, .int 0, .sl 6 []] fun l11 l12 n13 n14 l15 =>
        callR (laws_eqProc [.agg [.sl 1 l6, .sl 1 l7, .int n8, .int n9, .sl 6 l10], .agg [.sl 1 l11, .sl 1 l12, .int n13, .int n14, .sl 6 l15]]) false [(false, [.bool false])] fun b16 =>
        bif (!b16) then
          some (.v (.cell (.bool false)))
        else
          laws_eqProcS_L0 l3 l4 (wrapI (n5 + 1))
      else
        some (.v (.cell (.bool true))) : Option AV) = some r) : laws_eqProcS_L0 l3 l4 n5 = some r :=
  GL_le (X := X_laws_eqProcS) (n := 100000) (by kernel_rfl) (by kernel_rfl : (X_laws_eqProcS.fn.body.bind fun c => locL 0 c []) = some (.loop (loopOf (X_laws_eqProcS.fn.body.bind fun c => locL 0 c [])), ksOf (X_laws_eqProcS.fn.body.bind fun c => locL 0 c []))) (Eq.trans (by kernel_rfl) h)
theorem laws_eqProcS_le {l1 : List (List AC)} {l2 : List (List AC)} {r : AV} (h : (
    bif (((l1.length : Nat) : Int) != ((l2.length : Nat) : Int)) then
        some (.v (.cell (.bool false)))
      else
        laws_eqProcS_L0 l1 l2 0 : Option AV) = some r) : laws_eqProcS [.cell (.sl 5 l1), .cell (.sl 5 l2)] = some r :=
  V_le (X := X_laws_eqProcS) (n := 100000) (c := cOf Tryz.f29) (by kernel_rfl) Tryz.func29 (by kernel_rfl) (of_decide_eq_true (by kernel_rfl)) (Eq.trans (by kernel_rfl) h)
noncomputable def X_laws_eqIntS : Ctx := { P := Tryz.prog, L := lay, F := sig.has, E := ext, fn := Tryz.f30, lv := [(0, [0, 1, 5])], jv := [], tp := [] }
noncomputable def laws_eqIntS_L0 (l3 : List (List AC)) (l4 : List (List AC)) (n5 : Int) : Option AV := GL X_laws_eqIntS 0 [(0, .v (.cell (.sl 1 l3))), (1, .v (.cell (.sl 1 l4))), (5, .v (.cell (.int n5)))]
theorem laws_eqIntS_L0_le {l3 : List (List AC)} {l4 : List (List AC)} {n5 : Int} {r : AV} (h : (
    bif (decide (n5 < ((l3.length : Nat) : Int))) then
        atR_ l3 n5 [.int 0] fun n6 =>
        atR_ l4 n5 [.int 0] fun n7 =>
        bif (n6 != n7) then
          some (.v (.cell (.bool false)))
        else
          laws_eqIntS_L0 l3 l4 (wrapI (n5 + 1))
      else
        some (.v (.cell (.bool true))) : Option AV) = some r) : laws_eqIntS_L0 l3 l4 n5 = some r :=
  GL_le (X := X_laws_eqIntS) (n := 100000) (by kernel_rfl) (by kernel_rfl : (X_laws_eqIntS.fn.body.bind fun c => locL 0 c []) = some (.loop (loopOf (X_laws_eqIntS.fn.body.bind fun c => locL 0 c [])), ksOf (X_laws_eqIntS.fn.body.bind fun c => locL 0 c []))) (Eq.trans (by kernel_rfl) h)
theorem laws_eqIntS_le {l1 : List (List AC)} {l2 : List (List AC)} {r : AV} (h : (
    bif (((l1.length : Nat) : Int) != ((l2.length : Nat) : Int)) then
        some (.v (.cell (.bool false)))
      else
        laws_eqIntS_L0 l1 l2 0 : Option AV) = some r) : laws_eqIntS [.cell (.sl 1 l1), .cell (.sl 1 l2)] = some r :=
  V_le (X := X_laws_eqIntS) (n := 100000) (c := cOf Tryz.f30) (by kernel_rfl) Tryz.func30 (by kernel_rfl) (of_decide_eq_true (by kernel_rfl)) (Eq.trans (by kernel_rfl) h)
noncomputable def X_laws_eqCellS : Ctx := { P := Tryz.prog, L := lay, F := sig.has, E := ext, fn := Tryz.f31, lv := [(0, [0, 1, 5])], jv := [], tp := [] }
noncomputable def laws_eqCellS_L0 (l3 : List (List AC)) (l4 : List (List AC)) (n5 : Int) : Option AV := GL X_laws_eqCellS 0 [(0, .v (.cell (.sl 3 l3))), (1, .v (.cell (.sl 3 l4))), (5, .v (.cell (.int n5)))]
theorem laws_eqCellS_L0_le {l3 : List (List AC)} {l4 : List (List AC)} {n5 : Int} {r : AV} (h : (
    bif (decide (n5 < ((l3.length : Nat) : Int))) then
        atR_ l3 n5 [.int 0, .int 0, .sl 1 []] fun n6 n7 l8 =>
        atR_ l4 n5 [.int 0, .int 0, .sl 1 []] fun n9 n10 l11 =>
        callR (laws_eqCell [.agg [.int n6, .int n7, .sl 1 l8], .agg [.int n9, .int n10, .sl 1 l11]]) false [(false, [.bool false])] fun b12 =>
        bif (!b12) then
          some (.v (.cell (.bool false)))
        else
          laws_eqCellS_L0 l3 l4 (wrapI (n5 + 1))
      else
        some (.v (.cell (.bool true))) : Option AV) = some r) : laws_eqCellS_L0 l3 l4 n5 = some r :=
  GL_le (X := X_laws_eqCellS) (n := 100000) (by kernel_rfl) (by kernel_rfl : (X_laws_eqCellS.fn.body.bind fun c => locL 0 c []) = some (.loop (loopOf (X_laws_eqCellS.fn.body.bind fun c => locL 0 c [])), ksOf (X_laws_eqCellS.fn.body.bind fun c => locL 0 c []))) (Eq.trans (by kernel_rfl) h)
theorem laws_eqCellS_le {l1 : List (List AC)} {l2 : List (List AC)} {r : AV} (h : (
    bif (((l1.length : Nat) : Int) != ((l2.length : Nat) : Int)) then
        some (.v (.cell (.bool false)))
      else
        laws_eqCellS_L0 l1 l2 0 : Option AV) = some r) : laws_eqCellS [.cell (.sl 3 l1), .cell (.sl 3 l2)] = some r :=
  V_le (X := X_laws_eqCellS) (n := 100000) (c := cOf Tryz.f31) (by kernel_rfl) Tryz.func31 (by kernel_rfl) (of_decide_eq_true (by kernel_rfl)) (Eq.trans (by kernel_rfl) h)
noncomputable def X_laws_eqFrameS : Ctx := { P := Tryz.prog, L := lay, F := sig.has, E := ext, fn := Tryz.f32, lv := [(0, [0, 1, 5])], jv := [], tp := [] }
noncomputable def laws_eqFrameS_L0 (l3 : List (List AC)) (l4 : List (List AC)) (n5 : Int) : Option AV := GL X_laws_eqFrameS 0 [(0, .v (.cell (.sl 6 l3))), (1, .v (.cell (.sl 6 l4))), (5, .v (.cell (.int n5)))]
theorem laws_eqFrameS_L0_le {l3 : List (List AC)} {l4 : List (List AC)} {n5 : Int} {r : AV} (h : (
    bif (decide (n5 < ((l3.length : Nat) : Int))) then
        atR_ l3 n5 [.int 0, .int 0, .int 0, .sl 1 [], .sl 1 [], .sl 1 []] fun n6 n7 n8 l9 l10 l11 =>
        atR_ l4 n5 [.int 0, .int 0, .int 0, .sl 1 [], .sl 1 [], .sl 1 []] fun n12 n13 n14 l15 l16 l17 =>
        callR (laws_eqFrame [.agg [.int n6, .int n7, .int n8, .sl 1 l9, .sl 1 l10, .sl 1 l11], .agg [.int n12, .int n13, .int n14, .sl 1 l15, .sl 1 l16, .sl 1 l17]]) false [(false, [.bool false])] fun b18 =>
        bif (!b18) then
          some (.v (.cell (.bool false)))
        else
          laws_eqFrameS_L0 l3 l4 (wrapI (n5 + 1))
      else
        some (.v (.cell (.bool true))) : Option AV) = some r) : laws_eqFrameS_L0 l3 l4 n5 = some r :=
  GL_le (X := X_laws_eqFrameS) (n := 100000) (by kernel_rfl) (by kernel_rfl : (X_laws_eqFrameS.fn.body.bind fun c => locL 0 c []) = some (.loop (loopOf (X_laws_eqFrameS.fn.body.bind fun c => locL 0 c [])), ksOf (X_laws_eqFrameS.fn.body.bind fun c => locL 0 c []))) (Eq.trans (by kernel_rfl) h)
theorem laws_eqFrameS_le {l1 : List (List AC)} {l2 : List (List AC)} {r : AV} (h : (
    bif (((l1.length : Nat) : Int) != ((l2.length : Nat) : Int)) then
        some (.v (.cell (.bool false)))
      else
        laws_eqFrameS_L0 l1 l2 0 : Option AV) = some r) : laws_eqFrameS [.cell (.sl 6 l1), .cell (.sl 6 l2)] = some r :=
  V_le (X := X_laws_eqFrameS) (n := 100000) (c := cOf Tryz.f32) (by kernel_rfl) Tryz.func32 (by kernel_rfl) (of_decide_eq_true (by kernel_rfl)) (Eq.trans (by kernel_rfl) h)
noncomputable def X_laws_szDecl : Ctx := { P := Tryz.prog, L := lay, F := sig.has, E := ext, fn := Tryz.f33, lv := [], jv := [], tp := [] }
theorem laws_szDecl_le {n1 : Int} {n2 : Int} {l3 : List (List AC)} {n4 : Int} {r : AV} (h : (
    callR (laws_szConS [.cell (.sl 1 l3), .cell (.int n4)]) false [(false, [.int 0])] fun n5 =>
      bif (decide (n5 < 0)) then
        some (.v (.cell (.int (-1))))
      else
        some (.v (.cell (.int n5))) : Option AV) = some r) : laws_szDecl [.agg [.int n1, .int n2, .sl 1 l3], .cell (.int n4)] = some r :=
  V_le (X := X_laws_szDecl) (n := 100000) (c := cOf Tryz.f33) (by kernel_rfl) Tryz.func33 (by kernel_rfl) (of_decide_eq_true (by kernel_rfl)) (Eq.trans (by kernel_rfl) h)
noncomputable def X_laws_szProc : Ctx := { P := Tryz.prog, L := lay, F := sig.has, E := ext, fn := Tryz.f34, lv := [], jv := [], tp := [] }
theorem laws_szProc_le {l1 : List (List AC)} {l2 : List (List AC)} {n3 : Int} {n4 : Int} {l5 : List (List AC)} {n6 : Int} {r : AV} (h : (
    callR (laws_szIntS [.cell (.sl 1 l1), .cell (.int n6)]) false [(false, [.int 0])] fun n7 =>
      bif (decide (n7 < 0)) then
        some (.v (.cell (.int (-1))))
      else
        callR (laws_szIntS [.cell (.sl 1 l2), .cell (.int n7)]) false [(false, [.int 0])] fun n8 =>
        bif (decide (n8 < 0)) then
          some (.v (.cell (.int (-1))))
        else
          callR (laws_szInstrS [.cell (.sl 6 l5), .cell (.int n8)]) false [(false, [.int 0])] fun n9 =>
          bif (decide (n9 < 0)) then
            some (.v (.cell (.int (-1))))
          else
            some (.v (.cell (.int n9))) : Option AV) = some r) : laws_szProc [.agg [.sl 1 l1, .sl 1 l2, .int n3, .int n4, .sl 6 l5], .cell (.int n6)] = some r :=
  V_le (X := X_laws_szProc) (n := 100000) (c := cOf Tryz.f34) (by kernel_rfl) Tryz.func34 (by kernel_rfl) (of_decide_eq_true (by kernel_rfl)) (Eq.trans (by kernel_rfl) h)
noncomputable def X_laws_szCell : Ctx := { P := Tryz.prog, L := lay, F := sig.has, E := ext, fn := Tryz.f35, lv := [], jv := [], tp := [] }
theorem laws_szCell_le {n1 : Int} {n2 : Int} {l3 : List (List AC)} {n4 : Int} {r : AV} (h : (
    callR (laws_szIntS [.cell (.sl 1 l3), .cell (.int n4)]) false [(false, [.int 0])] fun n5 =>
      bif (decide (n5 < 0)) then
        some (.v (.cell (.int (-1))))
      else
        some (.v (.cell (.int n5))) : Option AV) = some r) : laws_szCell [.agg [.int n1, .int n2, .sl 1 l3], .cell (.int n4)] = some r :=
  V_le (X := X_laws_szCell) (n := 100000) (c := cOf Tryz.f35) (by kernel_rfl) Tryz.func35 (by kernel_rfl) (of_decide_eq_true (by kernel_rfl)) (Eq.trans (by kernel_rfl) h)
noncomputable def X_laws_szFrame : Ctx := { P := Tryz.prog, L := lay, F := sig.has, E := ext, fn := Tryz.f36, lv := [], jv := [], tp := [] }
theorem laws_szFrame_le {n1 : Int} {n2 : Int} {n3 : Int} {l4 : List (List AC)} {l5 : List (List AC)} {l6 : List (List AC)} {n7 : Int} {r : AV} (h : (
    callR (laws_szIntS [.cell (.sl 1 l4), .cell (.int n7)]) false [(false, [.int 0])] fun n8 =>
      bif (decide (n8 < 0)) then
        some (.v (.cell (.int (-1))))
      else
        callR (laws_szIntS [.cell (.sl 1 l5), .cell (.int n8)]) false [(false, [.int 0])] fun n9 =>
        bif (decide (n9 < 0)) then
          some (.v (.cell (.int (-1))))
        else
          callR (laws_szIntS [.cell (.sl 1 l6), .cell (.int n9)]) false [(false, [.int 0])] fun n10 =>
          bif (decide (n10 < 0)) then
            some (.v (.cell (.int (-1))))
          else
            some (.v (.cell (.int n10))) : Option AV) = some r) : laws_szFrame [.agg [.int n1, .int n2, .int n3, .sl 1 l4, .sl 1 l5, .sl 1 l6], .cell (.int n7)] = some r :=
  V_le (X := X_laws_szFrame) (n := 100000) (c := cOf Tryz.f36) (by kernel_rfl) Tryz.func36 (by kernel_rfl) (of_decide_eq_true (by kernel_rfl)) (Eq.trans (by kernel_rfl) h)
noncomputable def X_spec_validImage : Ctx := { P := Tryz.prog, L := lay, F := sig.has, E := ext, fn := Tryz.f37, lv := [(0, [1, 3])], jv := [], tp := [] }
noncomputable def spec_validImage_L0 (l6 : List (List AC)) (l7 : List (List AC)) (n8 : Int) : Option AV := GL X_spec_validImage 0 [(1, .box [.sl 3 l6, .sl 5 l7]), (3, .v (.cell (.int n8)))]
theorem spec_validImage_L0_le {l6 : List (List AC)} {l7 : List (List AC)} {n8 : Int} {r : AV} (h : (
    bif (decide (n8 < ((l7.length : Nat) : Int))) then
        atR_ l7 n8 [.sl 1 [], .sl 1 [], .int 0, .int 0, .sl 6 []] fun l9 l10 n11 n12 l13 =>
        callR (spec_validProc [.agg [.sl 3 l6, .sl 5 l7], .agg [.sl 1 l9, .sl 1 l10, .int n11, .int n12, .sl 6 l13]]) false [(false, [.bool false])] fun b14 =>
        bif (!b14) then
          some (.v (.cell (.bool false)))
        else
          spec_validImage_L0 l6 l7 (wrapI (n8 + 1))
      else
        some (.v (.cell (.bool true))) : Option AV) = some r) : spec_validImage_L0 l6 l7 n8 = some r :=
  GL_le (X := X_spec_validImage) (n := 100000) (by kernel_rfl) (by kernel_rfl : (X_spec_validImage.fn.body.bind fun c => locL 0 c []) = some (.loop (loopOf (X_spec_validImage.fn.body.bind fun c => locL 0 c [])), ksOf (X_spec_validImage.fn.body.bind fun c => locL 0 c []))) (Eq.trans (by kernel_rfl) h)
theorem spec_validImage_le {l1 : List (List AC)} {l2 : List (List AC)} {r : AV} (h : (
    bif (decide (((l2.length : Nat) : Int) > 4)) then
        some (.v (.cell (.bool false)))
      else
        callR (spec_sigsOfImage [.agg [.sl 3 l1, .sl 5 l2]]) false [(true, [.sl 3 [], .sl 5 []])] fun l3 l4 =>
        callR (spec_validSigs [.agg [.sl 3 l3, .sl 5 l4]]) false [(false, [.bool false])] fun b5 =>
        bif (!b5) then
          some (.v (.cell (.bool false)))
        else
          spec_validImage_L0 l1 l2 0 : Option AV) = some r) : spec_validImage [.agg [.sl 3 l1, .sl 5 l2]] = some r :=
  V_le (X := X_spec_validImage) (n := 100000) (c := cOf Tryz.f37) (by kernel_rfl) Tryz.func37 (by kernel_rfl) (of_decide_eq_true (by kernel_rfl)) (Eq.trans (by kernel_rfl) h)
noncomputable def X_spec_inRange : Ctx := { P := Tryz.prog, L := lay, F := sig.has, E := ext, fn := Tryz.f38, lv := [], jv := [], tp := [] }
theorem spec_inRange_le {n1 : Int} {n2 : Int} {n3 : Int} {r : AV} (h : (
    bif (decide (n2 ≤ n1)) then
        some (.v (.cell (.bool (decide (n1 ≤ n3)))))
      else
        some (.v (.cell (.bool false))) : Option AV) = some r) : spec_inRange [.cell (.int n1), .cell (.int n2), .cell (.int n3)] = some r :=
  V_le (X := X_spec_inRange) (n := 100000) (c := cOf Tryz.f38) (by kernel_rfl) Tryz.func38 (by kernel_rfl) (of_decide_eq_true (by kernel_rfl)) (Eq.trans (by kernel_rfl) h)
noncomputable def X_spec_allInRange : Ctx := { P := Tryz.prog, L := lay, F := sig.has, E := ext, fn := Tryz.f39, lv := [(0, [0, 3])], jv := [], tp := [] }
noncomputable def spec_allInRange_L0 (l2 : List (List AC)) (n3 : Int) : Option AV := GL X_spec_allInRange 0 [(0, .v (.cell (.sl 1 l2))), (3, .v (.cell (.int n3)))]
theorem spec_allInRange_L0_le {l2 : List (List AC)} {n3 : Int} {r : AV} (h : (
    bif (decide (n3 < ((l2.length : Nat) : Int))) then
        atR_ l2 n3 [.int 0] fun n4 =>
        callR (spec_inRange [.cell (.int n4), .cell (.int (-999)), .cell (.int 999)]) false [(false, [.bool false])] fun b5 =>
        bif (!b5) then
          some (.v (.cell (.bool false)))
        else
          spec_allInRange_L0 l2 (wrapI (n3 + 1))
      else
        some (.v (.cell (.bool true))) : Option AV) = some r) : spec_allInRange_L0 l2 n3 = some r :=
  GL_le (X := X_spec_allInRange) (n := 100000) (by kernel_rfl) (by kernel_rfl : (X_spec_allInRange.fn.body.bind fun c => locL 0 c []) = some (.loop (loopOf (X_spec_allInRange.fn.body.bind fun c => locL 0 c [])), ksOf (X_spec_allInRange.fn.body.bind fun c => locL 0 c []))) (Eq.trans (by kernel_rfl) h)
theorem spec_allInRange_le {l1 : List (List AC)} {r : AV} (h : (
    spec_allInRange_L0 l1 0 : Option AV) = some r) : spec_allInRange [.cell (.sl 1 l1)] = some r :=
  V_le (X := X_spec_allInRange) (n := 100000) (c := cOf Tryz.f39) (by kernel_rfl) Tryz.func39 (by kernel_rfl) (of_decide_eq_true (by kernel_rfl)) (Eq.trans (by kernel_rfl) h)
noncomputable def X_spec_validHeap : Ctx := { P := Tryz.prog, L := lay, F := sig.has, E := ext, fn := Tryz.f40, lv := [(0, [0, 3]), (2, [0, 4, 5])], jv := [], tp := [] }
noncomputable def spec_validHeap_L0 (l5 : List (List AC)) (n6 : Int) : Option AV := GL X_spec_validHeap 0 [(0, .v (.cell (.sl 3 l5))), (3, .v (.cell (.int n6)))]
noncomputable def spec_validHeap_L2 (l12 : List (List AC)) (l13 : List (List AC)) (n14 : Int) : Option AV := GL X_spec_validHeap 2 [(0, .v (.cell (.sl 3 l12))), (4, .v (.cell (.sl 1 l13))), (5, .v (.cell (.int n14)))]
theorem spec_validHeap_L0_le {l5 : List (List AC)} {n6 : Int} {r : AV} (h : (
    bif (decide (n6 < ((l5.length : Nat) : Int))) then
        atR_ l5 n6 [.int 0, .int 0, .sl 1 []] fun n7 n8 l9 =>
        callR (spec_validCell [.cell (.sl 3 l5), .agg [.int n7, .int n8, .sl 1 l9]]) false [(false, [.bool false])] fun b10 =>
        bif (!b10) then
          some (.v (.cell (.bool false)))
        else
          spec_validHeap_L0 l5 (wrapI (n6 + 1))
      else
        callR (spec_refsOf [.cell (.sl 3 l5)]) false [(false, [.sl 1 []])] fun l11 =>
        spec_validHeap_L2 l5 l11 0 : Option AV) = some r) : spec_validHeap_L0 l5 n6 = some r :=
  GL_le (X := X_spec_validHeap) (n := 100000) (by kernel_rfl) (by kernel_rfl : (X_spec_validHeap.fn.body.bind fun c => locL 0 c []) = some (.loop (loopOf (X_spec_validHeap.fn.body.bind fun c => locL 0 c [])), ksOf (X_spec_validHeap.fn.body.bind fun c => locL 0 c []))) (Eq.trans (by kernel_rfl) h)
theorem spec_validHeap_L2_le {l12 : List (List AC)} {l13 : List (List AC)} {n14 : Int} {r : AV} (h : (
    bif (decide (n14 < ((l12.length : Nat) : Int))) then
        atR_ l12 n14 [.int 0, .int 0, .sl 1 []] fun n15 n16 l17 =>
        bif (decide (n15 > 0)) then
          atR_ l12 n14 [.int 0, .int 0, .sl 1 []] fun n18 n19 l20 =>
          atR_ l13 n14 [.int 0] fun n21 =>
          bif (decide (n18 < n21)) then
            some (.v (.cell (.bool false)))
          else
            spec_validHeap_L2 l12 l13 (wrapI (n14 + 1))
        else
          spec_validHeap_L2 l12 l13 (wrapI (n14 + 1))
      else
        callR (spec_isAcyclic [.cell (.sl 3 l12)]) false [(false, [.bool false])] fun b22 =>
        some (.v (.cell (.bool b22))) : Option AV) = some r) : spec_validHeap_L2 l12 l13 n14 = some r :=
  GL_le (X := X_spec_validHeap) (n := 100000) (by kernel_rfl) (by kernel_rfl : (X_spec_validHeap.fn.body.bind fun c => locL 2 c []) = some (.loop (loopOf (X_spec_validHeap.fn.body.bind fun c => locL 2 c [])), ksOf (X_spec_validHeap.fn.body.bind fun c => locL 2 c []))) (Eq.trans (by kernel_rfl) h)
theorem spec_validHeap_le {l1 : List (List AC)} {r : AV} (h : (
    bif (decide (((l1.length : Nat) : Int) > 0)) then
        atR_ l1 (wrapI (((l1.length : Nat) : Int) - 1)) [.int 0, .int 0, .sl 1 []] fun n2 n3 l4 =>
        bif (n2 == 0) then
          some (.v (.cell (.bool false)))
        else
          spec_validHeap_L0 l1 0
      else
        spec_validHeap_L0 l1 0 : Option AV) = some r) : spec_validHeap [.cell (.sl 3 l1)] = some r :=
  V_le (X := X_spec_validHeap) (n := 100000) (c := cOf Tryz.f40) (by kernel_rfl) Tryz.func40 (by kernel_rfl) (of_decide_eq_true (by kernel_rfl)) (Eq.trans (by kernel_rfl) h)
noncomputable def X_spec_validFrame : Ctx := { P := Tryz.prog, L := lay, F := sig.has, E := ext, fn := Tryz.f41, lv := [], jv := [], tp := [] }
theorem spec_validFrame_le {l1 : List (List AC)} {l2 : List (List AC)} {n3 : Int} {n4 : Int} {n5 : Int} {n6 : Int} {l7 : List (List AC)} {l8 : List (List AC)} {l9 : List (List AC)} {n10 : Int} {r : AV} (h : (
    atR_ l9 n10 [.int 0, .int 0, .int 0, .sl 1 [], .sl 1 [], .sl 1 []] fun n11 n12 n13 l14 l15 l16 =>
      callR (spec_inRange [.cell (.int n11), .cell (.int 0), .cell (.int (wrapI (((l2.length : Nat) : Int) - 1)))]) false [(false, [.bool false])] fun b17 =>
      bif (!b17) then
        some (.v (.cell (.bool false)))
      else
        atR_ l2 n11 [.sl 1 [], .sl 1 [], .int 0, .int 0, .sl 6 []] fun l18 l19 n20 n21 l22 =>
        callR (spec_inRange [.cell (.int n12), .cell (.int 0), .cell (.int (wrapI (((l22.length : Nat) : Int) - 1)))]) false [(false, [.bool false])] fun b23 =>
        bif (!b23) then
          some (.v (.cell (.bool false)))
        else
          bif (((l14.length : Nat) : Int) != n21) then
            some (.v (.cell (.bool false)))
          else
            bif (((l15.length : Nat) : Int) != n21) then
              some (.v (.cell (.bool false)))
            else
              bif (((l16.length : Nat) : Int) != n21) then
                some (.v (.cell (.bool false)))
              else
                callR (spec_validRegs [.cell (.sl 3 l8), .agg [.int n11, .int n12, .int n13, .sl 1 l14, .sl 1 l15, .sl 1 l16]]) false [(false, [.bool false])] fun b24 =>
                bif (!b24) then
                  some (.v (.cell (.bool false)))
                else
                  bif (n10 == 0) then
                    some (.v (.cell (.bool (n13 == 0))))
                  else
                    atR_ l9 (wrapI (n10 - 1)) [.int 0, .int 0, .int 0, .sl 1 [], .sl 1 [], .sl 1 []] fun n25 n26 n27 l28 l29 l30 =>
                    callR (spec_inRange [.cell (.int n13), .cell (.int 0), .cell (.int (wrapI (((l29.length : Nat) : Int) - 1)))]) false [(false, [.bool false])] fun b31 =>
                    bif b31 then
                      atR_ l9 (wrapI (n10 - 1)) [.int 0, .int 0, .int 0, .sl 1 [], .sl 1 [], .sl 1 []] fun n32 n33 n34 l35 l36 l37 =>
                      atR_ l36 n13 [.int 0] fun n38 =>
                      some (.v (.cell (.bool (n38 == 0))))
                    else
                      some (.v (.cell (.bool false))) : Option AV) = some r) : spec_validFrame [.agg [.sl 3 l1, .sl 5 l2], .agg [.int n3, .int n4, .int n5, .int n6, .sl 1 l7, .sl 3 l8, .sl 6 l9], .cell (.int n10)] = some r :=
  V_le (X := X_spec_validFrame) (n := 100000) (c := cOf Tryz.f41) (by kernel_rfl) Tryz.func41 (by kernel_rfl) (of_decide_eq_true (by kernel_rfl)) (Eq.trans (by kernel_rfl) h)
noncomputable def X_spec_heldOnce : Ctx := { P := Tryz.prog, L := lay, F := sig.has, E := ext, fn := Tryz.f42, lv := [(0, [1, 3, 4, 11]), (2, [1, 3, 4, 5, 11]), (4, [1, 3, 7, 11])], jv := [], tp := [] }
noncomputable def spec_heldOnce_L0 (n9 : Int) (n10 : Int) (n11 : Int) (n12 : Int) (l13 : List (List AC)) (l14 : List (List AC)) (l15 : List (List AC)) (n16 : Int) (l17 : List (List AC)) : Option AV := GL X_spec_heldOnce 0 [(1, .box [.int n9, .int n10, .int n11, .int n12, .sl 1 l13, .sl 3 l14, .sl 6 l15]), (3, .al 11), (4, .v (.cell (.int n16))), (11, .arr 1 l17)]
noncomputable def spec_heldOnce_L2 (n18 : Int) (n19 : Int) (n20 : Int) (n21 : Int) (l22 : List (List AC)) (l23 : List (List AC)) (l24 : List (List AC)) (n25 : Int) (n26 : Int) (l27 : List (List AC)) : Option AV := GL X_spec_heldOnce 2 [(1, .box [.int n18, .int n19, .int n20, .int n21, .sl 1 l22, .sl 3 l23, .sl 6 l24]), (3, .al 11), (4, .v (.cell (.int n25))), (5, .v (.cell (.int n26))), (11, .arr 1 l27)]
noncomputable def spec_heldOnce_L4 (n28 : Int) (n29 : Int) (n30 : Int) (n31 : Int) (l32 : List (List AC)) (l33 : List (List AC)) (l34 : List (List AC)) (n35 : Int) (l36 : List (List AC)) : Option AV := GL X_spec_heldOnce 4 [(1, .box [.int n28, .int n29, .int n30, .int n31, .sl 1 l32, .sl 3 l33, .sl 6 l34]), (3, .al 11), (7, .v (.cell (.int n35))), (11, .arr 1 l36)]
theorem spec_heldOnce_L0_le {n9 : Int} {n10 : Int} {n11 : Int} {n12 : Int} {l13 : List (List AC)} {l14 : List (List AC)} {l15 : List (List AC)} {n16 : Int} {l17 : List (List AC)} {r : AV} (h : (
    bif (decide (n16 < ((l15.length : Nat) : Int))) then
        spec_heldOnce_L2 n9 n10 n11 n12 l13 l14 l15 n16 0 l17
      else
        spec_heldOnce_L4 n9 n10 n11 n12 l13 l14 l15 0 l17 : Option AV) = some r) : spec_heldOnce_L0 n9 n10 n11 n12 l13 l14 l15 n16 l17 = some r :=
  GL_le (X := X_spec_heldOnce) (n := 100000) (by kernel_rfl) (by kernel_rfl : (X_spec_heldOnce.fn.body.bind fun c => locL 0 c []) = some (.loop (loopOf (X_spec_heldOnce.fn.body.bind fun c => locL 0 c [])), ksOf (X_spec_heldOnce.fn.body.bind fun c => locL 0 c []))) (Eq.trans (by kernel_rfl) h)
theorem spec_heldOnce_L2_le {n18 : Int} {n19 : Int} {n20 : Int} {n21 : Int} {l22 : List (List AC)} {l23 : List (List AC)} {l24 : List (List AC)} {n25 : Int} {n26 : Int} {l27 : List (List AC)} {r : AV} (h : (
    atR_ l24 n25 [.int 0, .int 0, .int 0, .sl 1 [], .sl 1 [], .sl 1 []] fun n37 n38 n39 l40 l41 l42 =>
      bif (decide (n26 < ((l42.length : Nat) : Int))) then
        atR_ l24 n25 [.int 0, .int 0, .int 0, .sl 1 [], .sl 1 [], .sl 1 []] fun n43 n44 n45 l46 l47 l48 =>
        atR_ l48 n26 [.int 0] fun n49 =>
        bif (n49 != 0) then
          callR (spec_isPointer [.cell (.int n49)]) false [(false, [.bool false])] fun b50 =>
          bif (!b50) then
            some (.v (.cell (.bool false)))
          else
            callR (spec_inRange [.cell (.int (wrapI (n49 - 1000))), .cell (.int 0), .cell (.int (wrapI (((l23.length : Nat) : Int) - 1)))]) false [(false, [.bool false])] fun b51 =>
            bif (!b51) then
              some (.v (.cell (.bool false)))
            else
              idxR l27 (wrapI (n49 - 1000)) fun m52 =>
              elR l27 m52 0 1 [.int 0] fun n53 =>
              idxR l27 (wrapI (n49 - 1000)) fun m54 =>
              setR l27 m54 0 [.int (wrapI (n53 + 1))] fun l55 =>
              spec_heldOnce_L2 n18 n19 n20 n21 l22 l23 l24 n25 (wrapI (n26 + 1)) l55
        else
          spec_heldOnce_L2 n18 n19 n20 n21 l22 l23 l24 n25 (wrapI (n26 + 1)) l27
      else
        spec_heldOnce_L0 n18 n19 n20 n21 l22 l23 l24 (wrapI (n25 + 1)) l27 : Option AV) = some r) : spec_heldOnce_L2 n18 n19 n20 n21 l22 l23 l24 n25 n26 l27 = some r :=
  GL_le (X := X_spec_heldOnce) (n := 100000) (by kernel_rfl) (by kernel_rfl : (X_spec_heldOnce.fn.body.bind fun c => locL 2 c []) = some (.loop (loopOf (X_spec_heldOnce.fn.body.bind fun c => locL 2 c [])), ksOf (X_spec_heldOnce.fn.body.bind fun c => locL 2 c []))) (Eq.trans (by kernel_rfl) h)
theorem spec_heldOnce_L4_le {n28 : Int} {n29 : Int} {n30 : Int} {n31 : Int} {l32 : List (List AC)} {l33 : List (List AC)} {l34 : List (List AC)} {n35 : Int} {l36 : List (List AC)} {r : AV} (h : (
    bif (decide (n35 < ((l36.length : Nat) : Int))) then
        atR_ l33 n35 [.int 0, .int 0, .sl 1 []] fun n56 n57 l58 =>
        bif (decide (n56 < 0)) then
          idxR l36 n35 fun m59 =>
          elR l36 m59 0 1 [.int 0] fun n60 =>
          bif (n60 != 1) then
            some (.v (.cell (.bool false)))
          else
            atR_ l33 n35 [.int 0, .int 0, .sl 1 []] fun n61 n62 l63 =>
            bif (decide (n61 ≥ 0)) then
              idxR l36 n35 fun m64 =>
              elR l36 m64 0 1 [.int 0] fun n65 =>
              bif (n65 != 0) then
                some (.v (.cell (.bool false)))
              else
                spec_heldOnce_L4 n28 n29 n30 n31 l32 l33 l34 (wrapI (n35 + 1)) l36
            else
              spec_heldOnce_L4 n28 n29 n30 n31 l32 l33 l34 (wrapI (n35 + 1)) l36
        else
          atR_ l33 n35 [.int 0, .int 0, .sl 1 []] fun n66 n67 l68 =>
          bif (decide (n66 ≥ 0)) then
            idxR l36 n35 fun m69 =>
            elR l36 m69 0 1 [.int 0] fun n70 =>
            bif (n70 != 0) then
              some (.v (.cell (.bool false)))
            else
              spec_heldOnce_L4 n28 n29 n30 n31 l32 l33 l34 (wrapI (n35 + 1)) l36
          else
            spec_heldOnce_L4 n28 n29 n30 n31 l32 l33 l34 (wrapI (n35 + 1)) l36
      else
        some (.v (.cell (.bool true))) : Option AV) = some r) : spec_heldOnce_L4 n28 n29 n30 n31 l32 l33 l34 n35 l36 = some r :=
  GL_le (X := X_spec_heldOnce) (n := 100000) (by kernel_rfl) (by kernel_rfl : (X_spec_heldOnce.fn.body.bind fun c => locL 4 c []) = some (.loop (loopOf (X_spec_heldOnce.fn.body.bind fun c => locL 4 c [])), ksOf (X_spec_heldOnce.fn.body.bind fun c => locL 4 c []))) (Eq.trans (by kernel_rfl) h)
theorem spec_heldOnce_le {n1 : Int} {n2 : Int} {n3 : Int} {n4 : Int} {l5 : List (List AC)} {l6 : List (List AC)} {l7 : List (List AC)} {r : AV} (h : (
    repR ((l6.length : Nat) : Int) ((l6.length : Nat) : Int) [.int 0] fun l8 =>
      spec_heldOnce_L0 n1 n2 n3 n4 l5 l6 l7 0 l8 : Option AV) = some r) : spec_heldOnce [.agg [.int n1, .int n2, .int n3, .int n4, .sl 1 l5, .sl 3 l6, .sl 6 l7]] = some r :=
  V_le (X := X_spec_heldOnce) (n := 100000) (c := cOf Tryz.f42) (by kernel_rfl) Tryz.func42 (by kernel_rfl) (of_decide_eq_true (by kernel_rfl)) (Eq.trans (by kernel_rfl) h)
noncomputable def X_spec_exactCounts : Ctx := { P := Tryz.prog, L := lay, F := sig.has, E := ext, fn := Tryz.f43, lv := [(0, [1, 3, 4, 5])], jv := [], tp := [] }
noncomputable def spec_exactCounts_L0 (n10 : Int) (n11 : Int) (n12 : Int) (n13 : Int) (l14 : List (List AC)) (l15 : List (List AC)) (l16 : List (List AC)) (l17 : List (List AC)) (l18 : List (List AC)) (n19 : Int) : Option AV := GL X_spec_exactCounts 0 [(1, .box [.int n10, .int n11, .int n12, .int n13, .sl 1 l14, .sl 3 l15, .sl 6 l16]), (3, .v (.cell (.sl 1 l17))), (4, .v (.cell (.sl 1 l18))), (5, .v (.cell (.int n19)))]
theorem spec_exactCounts_L0_le {n10 : Int} {n11 : Int} {n12 : Int} {n13 : Int} {l14 : List (List AC)} {l15 : List (List AC)} {l16 : List (List AC)} {l17 : List (List AC)} {l18 : List (List AC)} {n19 : Int} {r : AV} (h : (
    bif (decide (n19 < ((l15.length : Nat) : Int))) then
        atR_ l15 n19 [.int 0, .int 0, .sl 1 []] fun n20 n21 l22 =>
        bif (decide (n20 > 0)) then
          atR_ l15 n19 [.int 0, .int 0, .sl 1 []] fun n23 n24 l25 =>
          atR_ l17 n19 [.int 0] fun n26 =>
          atR_ l18 n19 [.int 0] fun n27 =>
          bif (n23 != (wrapI (n26 + n27))) then
            some (.v (.cell (.bool false)))
          else
            spec_exactCounts_L0 n10 n11 n12 n13 l14 l15 l16 l17 l18 (wrapI (n19 + 1))
        else
          spec_exactCounts_L0 n10 n11 n12 n13 l14 l15 l16 l17 l18 (wrapI (n19 + 1))
      else
        some (.v (.cell (.bool true))) : Option AV) = some r) : spec_exactCounts_L0 n10 n11 n12 n13 l14 l15 l16 l17 l18 n19 = some r :=
  GL_le (X := X_spec_exactCounts) (n := 100000) (by kernel_rfl) (by kernel_rfl : (X_spec_exactCounts.fn.body.bind fun c => locL 0 c []) = some (.loop (loopOf (X_spec_exactCounts.fn.body.bind fun c => locL 0 c [])), ksOf (X_spec_exactCounts.fn.body.bind fun c => locL 0 c []))) (Eq.trans (by kernel_rfl) h)
theorem spec_exactCounts_le {n1 : Int} {n2 : Int} {n3 : Int} {n4 : Int} {l5 : List (List AC)} {l6 : List (List AC)} {l7 : List (List AC)} {r : AV} (h : (
    callR (spec_refsOf [.cell (.sl 3 l6)]) false [(false, [.sl 1 []])] fun l8 =>
      callR (spec_ownersOf [.agg [.int n1, .int n2, .int n3, .int n4, .sl 1 l5, .sl 3 l6, .sl 6 l7]]) false [(false, [.sl 1 []])] fun l9 =>
      spec_exactCounts_L0 n1 n2 n3 n4 l5 l6 l7 l8 l9 0 : Option AV) = some r) : spec_exactCounts [.agg [.int n1, .int n2, .int n3, .int n4, .sl 1 l5, .sl 3 l6, .sl 6 l7]] = some r :=
  V_le (X := X_spec_exactCounts) (n := 100000) (c := cOf Tryz.f43) (by kernel_rfl) Tryz.func43 (by kernel_rfl) (of_decide_eq_true (by kernel_rfl)) (Eq.trans (by kernel_rfl) h)
noncomputable def X_laws_toDecl : Ctx := { P := Tryz.prog, L := lay, F := sig.has, E := ext, fn := Tryz.f44, lv := [], jv := [], tp := [] }
theorem laws_toDecl_le {n1 : Int} {n2 : Int} {l3 : List (List AC)} {r : AV} (h : (
    callR (laws_toConS [.cell (.sl 1 l3)]) false [(false, [.sl 1 []])] fun l4 =>
      some (.v (.agg [.int n1, .int n2, .sl 1 l4])) : Option AV) = some r) : laws_toDecl [.agg [.int n1, .int n2, .sl 1 l3]] = some r :=
  V_le (X := X_laws_toDecl) (n := 100000) (c := cOf Tryz.f44) (by kernel_rfl) Tryz.func44 (by kernel_rfl) (of_decide_eq_true (by kernel_rfl)) (Eq.trans (by kernel_rfl) h)
noncomputable def X_laws_toProc : Ctx := { P := Tryz.prog, L := lay, F := sig.has, E := ext, fn := Tryz.f45, lv := [], jv := [], tp := [] }
theorem laws_toProc_le {l1 : List (List AC)} {l2 : List (List AC)} {n3 : Int} {n4 : Int} {l5 : List (List AC)} {r : AV} (h : (
    callR (laws_toIntS [.cell (.sl 1 l1)]) false [(false, [.sl 1 []])] fun l6 =>
      callR (laws_toIntS [.cell (.sl 1 l2)]) false [(false, [.sl 1 []])] fun l7 =>
      callR (laws_toInstrS [.cell (.sl 6 l5)]) false [(false, [.sl 6 []])] fun l8 =>
      some (.v (.agg [.sl 1 l6, .sl 1 l7, .int n3, .int n4, .sl 6 l8])) : Option AV) = some r) : laws_toProc [.agg [.sl 1 l1, .sl 1 l2, .int n3, .int n4, .sl 6 l5]] = some r :=
  V_le (X := X_laws_toProc) (n := 100000) (c := cOf Tryz.f45) (by kernel_rfl) Tryz.func45 (by kernel_rfl) (of_decide_eq_true (by kernel_rfl)) (Eq.trans (by kernel_rfl) h)
noncomputable def X_laws_toCell : Ctx := { P := Tryz.prog, L := lay, F := sig.has, E := ext, fn := Tryz.f46, lv := [], jv := [], tp := [] }
theorem laws_toCell_le {n1 : Int} {n2 : Int} {l3 : List (List AC)} {r : AV} (h : (
    callR (laws_toIntS [.cell (.sl 1 l3)]) false [(false, [.sl 1 []])] fun l4 =>
      some (.v (.agg [.int n1, .int n2, .sl 1 l4])) : Option AV) = some r) : laws_toCell [.agg [.int n1, .int n2, .sl 1 l3]] = some r :=
  V_le (X := X_laws_toCell) (n := 100000) (c := cOf Tryz.f46) (by kernel_rfl) Tryz.func46 (by kernel_rfl) (of_decide_eq_true (by kernel_rfl)) (Eq.trans (by kernel_rfl) h)
noncomputable def X_laws_toFrame : Ctx := { P := Tryz.prog, L := lay, F := sig.has, E := ext, fn := Tryz.f47, lv := [], jv := [], tp := [] }
theorem laws_toFrame_le {n1 : Int} {n2 : Int} {n3 : Int} {l4 : List (List AC)} {l5 : List (List AC)} {l6 : List (List AC)} {r : AV} (h : (
    callR (laws_toIntS [.cell (.sl 1 l4)]) false [(false, [.sl 1 []])] fun l7 =>
      callR (laws_toIntS [.cell (.sl 1 l5)]) false [(false, [.sl 1 []])] fun l8 =>
      callR (laws_toIntS [.cell (.sl 1 l6)]) false [(false, [.sl 1 []])] fun l9 =>
      some (.v (.agg [.int n1, .int n2, .int n3, .sl 1 l7, .sl 1 l8, .sl 1 l9])) : Option AV) = some r) : laws_toFrame [.agg [.int n1, .int n2, .int n3, .sl 1 l4, .sl 1 l5, .sl 1 l6]] = some r :=
  V_le (X := X_laws_toFrame) (n := 100000) (c := cOf Tryz.f47) (by kernel_rfl) Tryz.func47 (by kernel_rfl) (of_decide_eq_true (by kernel_rfl)) (Eq.trans (by kernel_rfl) h)
noncomputable def X_impl_headsOf : Ctx := { P := Tryz.prog, L := lay, F := sig.has, E := ext, fn := Tryz.f48, lv := [(0, [2, 3, 10, 11, 12])], jv := [], tp := [] }
noncomputable def impl_headsOf_L0 (l3 : List (List AC)) (l4 : List (List AC)) (l5 : List (List AC)) (l6 : List (List AC)) (l7 : List (List AC)) (n8 : Int) (n9 : Int) : Option AV := GL X_impl_headsOf 0 [(2, .box [.sl 3 l3, .sl 5 l4]), (3, .box [.sl 3 l5, .sl 5 l6]), (10, .v (.cell (.sl 5 l7))), (11, .v (.cell (.int n8))), (12, .v (.cell (.int n9)))]
theorem impl_headsOf_L0_le {l3 : List (List AC)} {l4 : List (List AC)} {l5 : List (List AC)} {l6 : List (List AC)} {l7 : List (List AC)} {n8 : Int} {n9 : Int} {r : AV} (h : (
    bif (decide (n9 < n8)) then
        atR_ l7 n9 [.sl 1 [], .sl 1 [], .int 0, .int 0, .sl 6 []] fun l10 l11 n12 n13 l14 =>
        appR l6 [[.sl 1 l10, .sl 1 l11, .int n12, .sl 5 [], .int 0]] fun l15 =>
        impl_headsOf_L0 l3 l4 l5 l15 l7 n8 (wrapI (n9 + 1))
      else
        some (.v (.agg [.sl 3 l5, .sl 5 l6])) : Option AV) = some r) : impl_headsOf_L0 l3 l4 l5 l6 l7 n8 n9 = some r :=
  GL_le (X := X_impl_headsOf) (n := 100000) (by kernel_rfl) (by kernel_rfl : (X_impl_headsOf.fn.body.bind fun c => locL 0 c []) = some (.loop (loopOf (X_impl_headsOf.fn.body.bind fun c => locL 0 c [])), ksOf (X_impl_headsOf.fn.body.bind fun c => locL 0 c []))) (Eq.trans (by kernel_rfl) h)
theorem impl_headsOf_le {l1 : List (List AC)} {l2 : List (List AC)} {r : AV} (h : (
    impl_headsOf_L0 [] [] l1 [] l2 ((l2.length : Nat) : Int) 0 : Option AV) = some r) : impl_headsOf [.agg [.sl 3 l1, .sl 5 l2]] = some r :=
  V_le (X := X_impl_headsOf) (n := 100000) (c := cOf Tryz.f48) (by kernel_rfl) Tryz.func48 (by kernel_rfl) (of_decide_eq_true (by kernel_rfl)) (Eq.trans (by kernel_rfl) h)
noncomputable def X_impl_validRoutineSigs : Ctx := { P := Tryz.prog, L := lay, F := sig.has, E := ext, fn := Tryz.f49, lv := [(0, [16, 17, 18])], jv := [], tp := [] }
noncomputable def impl_validRoutineSigs_L0 (l6 : List (List AC)) (n7 : Int) (n8 : Int) : Option AV := GL X_impl_validRoutineSigs 0 [(16, .v (.cell (.sl 5 l6))), (17, .v (.cell (.int n7))), (18, .v (.cell (.int n8)))]
theorem impl_validRoutineSigs_L0_le {l6 : List (List AC)} {n7 : Int} {n8 : Int} {r : AV} (h : (
    bif (decide (n8 < n7)) then
        atR_ l6 n8 [.sl 1 [], .sl 1 [], .int 0, .sl 5 [], .int 0] fun l9 l10 n11 l12 n13 =>
        callR (impl_validLent [.agg [.sl 1 l9, .sl 1 l10, .int n11, .sl 5 l12, .int n13]]) false [(false, [.bool false])] fun b14 =>
        bif (!b14) then
          some (.v (.cell (.bool false)))
        else
          impl_validRoutineSigs_L0 l6 n7 (wrapI (n8 + 1))
      else
        some (.v (.cell (.bool true))) : Option AV) = some r) : impl_validRoutineSigs_L0 l6 n7 n8 = some r :=
  GL_le (X := X_impl_validRoutineSigs) (n := 100000) (by kernel_rfl) (by kernel_rfl : (X_impl_validRoutineSigs.fn.body.bind fun c => locL 0 c []) = some (.loop (loopOf (X_impl_validRoutineSigs.fn.body.bind fun c => locL 0 c [])), ksOf (X_impl_validRoutineSigs.fn.body.bind fun c => locL 0 c []))) (Eq.trans (by kernel_rfl) h)
theorem impl_validRoutineSigs_le {l1 : List (List AC)} {l2 : List (List AC)} {r : AV} (h : (
    bif (decide (((l2.length : Nat) : Int) > 4)) then
        some (.v (.cell (.bool false)))
      else
        callR (impl_sigsOf [.agg [.sl 3 l1, .sl 5 l2]]) false [(true, [.sl 3 [], .sl 5 []])] fun l3 l4 =>
        callR (impl_ValidSigs [.agg [.sl 3 l3, .sl 5 l4]]) false [(false, [.bool false])] fun b5 =>
        bif (!b5) then
          some (.v (.cell (.bool false)))
        else
          impl_validRoutineSigs_L0 l2 ((l2.length : Nat) : Int) 0 : Option AV) = some r) : impl_validRoutineSigs [.agg [.sl 3 l1, .sl 5 l2]] = some r :=
  V_le (X := X_impl_validRoutineSigs) (n := 100000) (c := cOf Tryz.f49) (by kernel_rfl) Tryz.func49 (by kernel_rfl) (of_decide_eq_true (by kernel_rfl)) (Eq.trans (by kernel_rfl) h)
noncomputable def X_impl_validProc : Ctx := { P := Tryz.prog, L := lay, F := sig.has, E := ext, fn := Tryz.f50, lv := [(0, [2, 3, 36, 37])], jv := [], tp := [] }
noncomputable def impl_validProc_L0 (l8 : List (List AC)) (l9 : List (List AC)) (l10 : List (List AC)) (l11 : List (List AC)) (n12 : Int) (n13 : Int) (l14 : List (List AC)) (n15 : Int) (n16 : Int) : Option AV := GL X_impl_validProc 0 [(2, .box [.sl 3 l8, .sl 5 l9]), (3, .box [.sl 1 l10, .sl 1 l11, .int n12, .int n13, .sl 6 l14]), (36, .v (.cell (.int n15))), (37, .v (.cell (.int n16)))]
theorem impl_validProc_L0_le {l8 : List (List AC)} {l9 : List (List AC)} {l10 : List (List AC)} {l11 : List (List AC)} {n12 : Int} {n13 : Int} {l14 : List (List AC)} {n15 : Int} {n16 : Int} {r : AV} (h : (
    bif (decide (n16 < n15)) then
        callR (impl_validInstr [.agg [.sl 3 l8, .sl 5 l9], .agg [.sl 1 l10, .sl 1 l11, .int n12, .int n13, .sl 6 l14], .cell (.int n16)]) false [(false, [.bool false])] fun b17 =>
        bif (!b17) then
          some (.v (.cell (.bool false)))
        else
          impl_validProc_L0 l8 l9 l10 l11 n12 n13 l14 n15 (wrapI (n16 + 1))
      else
        atR_ l14 (wrapI (((l14.length : Nat) : Int) - 1)) [.int 0, .int 0, .int 0, .int 0, .sl 1 [], .sl 1 []] fun n18 n19 n20 n21 l22 l23 =>
        callR (impl_leavesFrame [.cell (.int n18)]) false [(false, [.bool false])] fun b24 =>
        some (.v (.cell (.bool b24))) : Option AV) = some r) : impl_validProc_L0 l8 l9 l10 l11 n12 n13 l14 n15 n16 = some r :=
  GL_le (X := X_impl_validProc) (n := 100000) (by kernel_rfl) (by kernel_rfl : (X_impl_validProc.fn.body.bind fun c => locL 0 c []) = some (.loop (loopOf (X_impl_validProc.fn.body.bind fun c => locL 0 c [])), ksOf (X_impl_validProc.fn.body.bind fun c => locL 0 c []))) (Eq.trans (by kernel_rfl) h)
theorem impl_validProc_le {l1 : List (List AC)} {l2 : List (List AC)} {l3 : List (List AC)} {l4 : List (List AC)} {n5 : Int} {n6 : Int} {l7 : List (List AC)} {r : AV} (h : (
    bif (decide (n6 < 1)) then
        some (.v (.cell (.bool false)))
      else
        bif (decide (n6 > 2000)) then
          some (.v (.cell (.bool false)))
        else
          bif (decide (n6 < ((l3.length : Nat) : Int))) then
            some (.v (.cell (.bool false)))
          else
            bif (decide (((l7.length : Nat) : Int) < 1)) then
              some (.v (.cell (.bool false)))
            else
              bif (decide (((l7.length : Nat) : Int) > 2000)) then
                some (.v (.cell (.bool false)))
              else
                impl_validProc_L0 l1 l2 l3 l4 n5 n6 l7 ((l7.length : Nat) : Int) 0 : Option AV) = some r) : impl_validProc [.agg [.sl 3 l1, .sl 5 l2], .agg [.sl 1 l3, .sl 1 l4, .int n5, .int n6, .sl 6 l7]] = some r :=
  V_le (X := X_impl_validProc) (n := 100000) (c := cOf Tryz.f50) (by kernel_rfl) Tryz.func50 (by kernel_rfl) (of_decide_eq_true (by kernel_rfl)) (Eq.trans (by kernel_rfl) h)
noncomputable def X_impl_inInts : Ctx := { P := Tryz.prog, L := lay, F := sig.has, E := ext, fn := Tryz.f51, lv := [], jv := [], tp := [] }
theorem impl_inInts_le {n1 : Int} {r : AV} (h : (
    bif (decide (n1 ≥ (-999))) then
        some (.v (.cell (.bool (decide (n1 ≤ 999)))))
      else
        some (.v (.cell (.bool false))) : Option AV) = some r) : impl_inInts [.cell (.int n1)] = some r :=
  V_le (X := X_impl_inInts) (n := 100000) (c := cOf Tryz.f51) (by kernel_rfl) Tryz.func51 (by kernel_rfl) (of_decide_eq_true (by kernel_rfl)) (Eq.trans (by kernel_rfl) h)
noncomputable def X_impl_allInInts : Ctx := { P := Tryz.prog, L := lay, F := sig.has, E := ext, fn := Tryz.f52, lv := [(0, [5, 6, 7])], jv := [], tp := [] }
noncomputable def impl_allInInts_L0 (l2 : List (List AC)) (n3 : Int) (n4 : Int) : Option AV := GL X_impl_allInInts 0 [(5, .v (.cell (.sl 1 l2))), (6, .v (.cell (.int n3))), (7, .v (.cell (.int n4)))]
theorem impl_allInInts_L0_le {l2 : List (List AC)} {n3 : Int} {n4 : Int} {r : AV} (h : (
    bif (decide (n4 < n3)) then
        atR_ l2 n4 [.int 0] fun n5 =>
        callR (impl_inInts [.cell (.int n5)]) false [(false, [.bool false])] fun b6 =>
        bif (!b6) then
          some (.v (.cell (.bool false)))
        else
          impl_allInInts_L0 l2 n3 (wrapI (n4 + 1))
      else
        some (.v (.cell (.bool true))) : Option AV) = some r) : impl_allInInts_L0 l2 n3 n4 = some r :=
  GL_le (X := X_impl_allInInts) (n := 100000) (by kernel_rfl) (by kernel_rfl : (X_impl_allInInts.fn.body.bind fun c => locL 0 c []) = some (.loop (loopOf (X_impl_allInInts.fn.body.bind fun c => locL 0 c [])), ksOf (X_impl_allInInts.fn.body.bind fun c => locL 0 c []))) (Eq.trans (by kernel_rfl) h)
theorem impl_allInInts_le {l1 : List (List AC)} {r : AV} (h : (
    impl_allInInts_L0 l1 ((l1.length : Nat) : Int) 0 : Option AV) = some r) : impl_allInInts [.cell (.sl 1 l1)] = some r :=
  V_le (X := X_impl_allInInts) (n := 100000) (c := cOf Tryz.f52) (by kernel_rfl) Tryz.func52 (by kernel_rfl) (of_decide_eq_true (by kernel_rfl)) (Eq.trans (by kernel_rfl) h)
noncomputable def X_impl_inCalls : Ctx := { P := Tryz.prog, L := lay, F := sig.has, E := ext, fn := Tryz.f53, lv := [], jv := [], tp := [] }
theorem impl_inCalls_le {n1 : Int} {r : AV} (h : (
    bif (decide (n1 ≥ 0)) then
        some (.v (.cell (.bool (decide (n1 ≤ 40)))))
      else
        some (.v (.cell (.bool false))) : Option AV) = some r) : impl_inCalls [.cell (.int n1)] = some r :=
  V_le (X := X_impl_inCalls) (n := 100000) (c := cOf Tryz.f53) (by kernel_rfl) Tryz.func53 (by kernel_rfl) (of_decide_eq_true (by kernel_rfl)) (Eq.trans (by kernel_rfl) h)
noncomputable def X_impl_validCell : Ctx := { P := Tryz.prog, L := lay, F := sig.has, E := ext, fn := Tryz.f54, lv := [], jv := [], tp := [] }
theorem impl_validCell_le {l1 : List (List AC)} {n2 : Int} {n3 : Int} {l4 : List (List AC)} {r : AV} (h : (
    bif (decide (((l4.length : Nat) : Int) > 3)) then
        some (.v (.cell (.bool false)))
      else
        bif (n2 == 0) then
          bif (n3 == 0) then
            some (.v (.cell (.bool (((l4.length : Nat) : Int) == 0))))
          else
            some (.v (.cell (.bool false)))
        else
          bif (n2 == (-1)) then
            bif (n3 == 0) then
              callR (impl_allIn [.cell (.sl 1 l4), .cell (.sl 1 [[.int 0]])]) false [(false, [.bool false])] fun b5 =>
              some (.v (.cell (.bool b5)))
            else
              some (.v (.cell (.bool false)))
          else
            bif (decide (n2 > 0)) then
              bif (decide (n2 ≤ 999999)) then
                bif (decide (n3 ≥ 0)) then
                  bif (decide (n3 ≤ 99)) then
                    callR (impl_areWords [.cell (.sl 3 l1), .cell (.sl 1 l4)]) false [(false, [.bool false])] fun b6 =>
                    some (.v (.cell (.bool b6)))
                  else
                    some (.v (.cell (.bool false)))
                else
                  some (.v (.cell (.bool false)))
              else
                some (.v (.cell (.bool false)))
            else
              some (.v (.cell (.bool false))) : Option AV) = some r) : impl_validCell [.cell (.sl 3 l1), .agg [.int n2, .int n3, .sl 1 l4]] = some r :=
  V_le (X := X_impl_validCell) (n := 100000) (c := cOf Tryz.f54) (by kernel_rfl) Tryz.func54 (by kernel_rfl) (of_decide_eq_true (by kernel_rfl)) (Eq.trans (by kernel_rfl) h)
noncomputable def X_impl_allRefs : Ctx := { P := Tryz.prog, L := lay, F := sig.has, E := ext, fn := Tryz.f55, lv := [(0, [3, 11, 12, 13, 14]), (2, [3, 11, 12, 13, 14, 19, 20, 21])], jv := [], tp := [] }
noncomputable def impl_allRefs_L0 (l3 : List (List AC)) (l4 : List (List AC)) (n5 : Int) (n6 : Int) : Option AV := GL X_impl_allRefs 0 [(3, .al 11), (11, .arr 1 l3), (12, .v (.cell (.sl 3 l4))), (13, .v (.cell (.int n5))), (14, .v (.cell (.int n6)))]
noncomputable def impl_allRefs_L2 (l10 : List (List AC)) (l11 : List (List AC)) (n12 : Int) (n13 : Int) (l14 : List (List AC)) (n15 : Int) (n16 : Int) : Option AV := GL X_impl_allRefs 2 [(3, .al 11), (11, .arr 1 l10), (12, .v (.cell (.sl 3 l11))), (13, .v (.cell (.int n12))), (14, .v (.cell (.int n13))), (19, .v (.cell (.sl 1 l14))), (20, .v (.cell (.int n15))), (21, .v (.cell (.int n16)))]
theorem impl_allRefs_L0_le {l3 : List (List AC)} {l4 : List (List AC)} {n5 : Int} {n6 : Int} {r : AV} (h : (
    bif (decide (n6 < n5)) then
        atR_ l4 n6 [.int 0, .int 0, .sl 1 []] fun n7 n8 l9 =>
        impl_allRefs_L2 l3 l4 n5 n6 l9 ((l9.length : Nat) : Int) 0
      else
        some (.v (.cell (.sl 1 l3))) : Option AV) = some r) : impl_allRefs_L0 l3 l4 n5 n6 = some r :=
  GL_le (X := X_impl_allRefs) (n := 100000) (by kernel_rfl) (by kernel_rfl : (X_impl_allRefs.fn.body.bind fun c => locL 0 c []) = some (.loop (loopOf (X_impl_allRefs.fn.body.bind fun c => locL 0 c [])), ksOf (X_impl_allRefs.fn.body.bind fun c => locL 0 c []))) (Eq.trans (by kernel_rfl) h)
theorem impl_allRefs_L2_le {l10 : List (List AC)} {l11 : List (List AC)} {n12 : Int} {n13 : Int} {l14 : List (List AC)} {n15 : Int} {n16 : Int} {r : AV} (h : (
    bif (decide (n16 < n15)) then
        atR_ l14 n16 [.int 0] fun n17 =>
        callR (impl_cellOfWord [.cell (.int n17)]) false [(false, [.int 0])] fun n18 =>
        bif (decide (n18 ≥ 0)) then
          idxR l10 n18 fun m19 =>
          elR l10 m19 0 1 [.int 0] fun n20 =>
          idxR l10 n18 fun m21 =>
          setR l10 m21 0 [.int (wrapI (n20 + 1))] fun l22 =>
          impl_allRefs_L2 l22 l11 n12 n13 l14 n15 (wrapI (n16 + 1))
        else
          impl_allRefs_L2 l10 l11 n12 n13 l14 n15 (wrapI (n16 + 1))
      else
        impl_allRefs_L0 l10 l11 n12 (wrapI (n13 + 1)) : Option AV) = some r) : impl_allRefs_L2 l10 l11 n12 n13 l14 n15 n16 = some r :=
  GL_le (X := X_impl_allRefs) (n := 100000) (by kernel_rfl) (by kernel_rfl : (X_impl_allRefs.fn.body.bind fun c => locL 2 c []) = some (.loop (loopOf (X_impl_allRefs.fn.body.bind fun c => locL 2 c [])), ksOf (X_impl_allRefs.fn.body.bind fun c => locL 2 c []))) (Eq.trans (by kernel_rfl) h)
theorem impl_allRefs_le {l1 : List (List AC)} {r : AV} (h : (
    repR ((l1.length : Nat) : Int) ((l1.length : Nat) : Int) [.int 0] fun l2 =>
      impl_allRefs_L0 l2 l1 ((l1.length : Nat) : Int) 0 : Option AV) = some r) : impl_allRefs [.cell (.sl 3 l1)] = some r :=
  V_le (X := X_impl_allRefs) (n := 100000) (c := cOf Tryz.f55) (by kernel_rfl) Tryz.func55 (by kernel_rfl) (of_decide_eq_true (by kernel_rfl)) (Eq.trans (by kernel_rfl) h)
noncomputable def X_impl_hasCircle : Ctx := { P := Tryz.prog, L := lay, F := sig.has, E := ext, fn := Tryz.f56, lv := [(0, [0, 5, 6, 14, 15, 16, 17]), (2, [0, 5, 6, 9, 14]), (4, [0, 5, 6, 9, 14, 42, 43, 44])], jv := [], tp := [] }
noncomputable def impl_hasCircle_L0 (l4 : List (List AC)) (l5 : List (List AC)) (l6 : List (List AC)) (n7 : Int) (n8 : Int) : Option AV := GL X_impl_hasCircle 0 [(0, .v (.cell (.sl 3 l4))), (5, .al 14), (6, .v (.cell (.sl 1 l5))), (14, .arr 1 l6), (15, .al 14), (16, .v (.cell (.int n7))), (17, .v (.cell (.int n8)))]
noncomputable def impl_hasCircle_L2 (l12 : List (List AC)) (l13 : List (List AC)) (n14 : Int) (l15 : List (List AC)) : Option AV := GL X_impl_hasCircle 2 [(0, .v (.cell (.sl 3 l12))), (5, .al 14), (6, .v (.cell (.sl 1 l13))), (9, .v (.cell (.int n14))), (14, .arr 1 l15)]
noncomputable def impl_hasCircle_L4 (l20 : List (List AC)) (l21 : List (List AC)) (n22 : Int) (l23 : List (List AC)) (l24 : List (List AC)) (n25 : Int) (n26 : Int) : Option AV := GL X_impl_hasCircle 4 [(0, .v (.cell (.sl 3 l20))), (5, .al 14), (6, .v (.cell (.sl 1 l21))), (9, .v (.cell (.int n22))), (14, .arr 1 l23), (42, .v (.cell (.sl 1 l24))), (43, .v (.cell (.int n25))), (44, .v (.cell (.int n26)))]
theorem impl_hasCircle_L0_le {l4 : List (List AC)} {l5 : List (List AC)} {l6 : List (List AC)} {n7 : Int} {n8 : Int} {r : AV} (h : (
    bif (decide (n8 < n7)) then
        idxR l6 n8 fun m9 =>
        elR l6 m9 0 1 [.int 0] fun n10 =>
        bif (n10 == 0) then
          appR l5 [[.int n8]] fun l11 =>
          impl_hasCircle_L0 l4 l11 l6 n7 (wrapI (n8 + 1))
        else
          impl_hasCircle_L0 l4 l5 l6 n7 (wrapI (n8 + 1))
      else
        impl_hasCircle_L2 l4 l5 0 l6 : Option AV) = some r) : impl_hasCircle_L0 l4 l5 l6 n7 n8 = some r :=
  GL_le (X := X_impl_hasCircle) (n := 100000) (by kernel_rfl) (by kernel_rfl : (X_impl_hasCircle.fn.body.bind fun c => locL 0 c []) = some (.loop (loopOf (X_impl_hasCircle.fn.body.bind fun c => locL 0 c [])), ksOf (X_impl_hasCircle.fn.body.bind fun c => locL 0 c []))) (Eq.trans (by kernel_rfl) h)
theorem impl_hasCircle_L2_le {l12 : List (List AC)} {l13 : List (List AC)} {n14 : Int} {l15 : List (List AC)} {r : AV} (h : (
    bif (decide (n14 < ((l13.length : Nat) : Int))) then
        atR_ l13 n14 [.int 0] fun n16 =>
        atR_ l12 n16 [.int 0, .int 0, .sl 1 []] fun n17 n18 l19 =>
        impl_hasCircle_L4 l12 l13 n14 l15 l19 ((l19.length : Nat) : Int) 0
      else
        some (.v (.cell (.bool (decide (((l13.length : Nat) : Int) < ((l12.length : Nat) : Int)))))) : Option AV) = some r) : impl_hasCircle_L2 l12 l13 n14 l15 = some r :=
  GL_le (X := X_impl_hasCircle) (n := 100000) (by kernel_rfl) (by kernel_rfl : (X_impl_hasCircle.fn.body.bind fun c => locL 2 c []) = some (.loop (loopOf (X_impl_hasCircle.fn.body.bind fun c => locL 2 c [])), ksOf (X_impl_hasCircle.fn.body.bind fun c => locL 2 c []))) (Eq.trans (by kernel_rfl) h)
theorem impl_hasCircle_L4_le {l20 : List (List AC)} {l21 : List (List AC)} {n22 : Int} {l23 : List (List AC)} {l24 : List (List AC)} {n25 : Int} {n26 : Int} {r : AV} (h : (
    bif (decide (n26 < n25)) then
        atR_ l24 n26 [.int 0] fun n27 =>
        callR (impl_cellOfWord [.cell (.int n27)]) false [(false, [.int 0])] fun n28 =>
        bif (decide (n28 < 0)) then
          impl_hasCircle_L4 l20 l21 n22 l23 l24 n25 (wrapI (n26 + 1))
        else
          idxR l23 n28 fun m29 =>
          elR l23 m29 0 1 [.int 0] fun n30 =>
          idxR l23 n28 fun m31 =>
          setR l23 m31 0 [.int (wrapI (n30 - 1))] fun l32 =>
          idxR l32 n28 fun m33 =>
          elR l32 m33 0 1 [.int 0] fun n34 =>
          bif (n34 == 0) then
            appR l21 [[.int n28]] fun l35 =>
            impl_hasCircle_L4 l20 l35 n22 l32 l24 n25 (wrapI (n26 + 1))
          else
            impl_hasCircle_L4 l20 l21 n22 l32 l24 n25 (wrapI (n26 + 1))
      else
        impl_hasCircle_L2 l20 l21 (wrapI (n22 + 1)) l23 : Option AV) = some r) : impl_hasCircle_L4 l20 l21 n22 l23 l24 n25 n26 = some r :=
  GL_le (X := X_impl_hasCircle) (n := 100000) (by kernel_rfl) (by kernel_rfl : (X_impl_hasCircle.fn.body.bind fun c => locL 4 c []) = some (.loop (loopOf (X_impl_hasCircle.fn.body.bind fun c => locL 4 c [])), ksOf (X_impl_hasCircle.fn.body.bind fun c => locL 4 c []))) (Eq.trans (by kernel_rfl) h)
theorem impl_hasCircle_le {l1 : List (List AC)} {l2 : List (List AC)} {r : AV} (h : (
    thawR (impl_copyInts [.cell (.sl 1 l2)]) 1 fun l3 =>
      impl_hasCircle_L0 l1 [] l3 ((l3.length : Nat) : Int) 0 : Option AV) = some r) : impl_hasCircle [.cell (.sl 3 l1), .cell (.sl 1 l2)] = some r :=
  V_le (X := X_impl_hasCircle) (n := 100000) (c := cOf Tryz.f56) (by kernel_rfl) Tryz.func56 (by kernel_rfl) (of_decide_eq_true (by kernel_rfl)) (Eq.trans (by kernel_rfl) h)
noncomputable def X_impl_validFrame : Ctx := { P := Tryz.prog, L := lay, F := sig.has, E := ext, fn := Tryz.f57, lv := [(0, [1, 5, 57, 58, 59])], jv := [], tp := [] }
noncomputable def impl_validFrame_L0 (l16 : List (List AC)) (n17 : Int) (n18 : Int) (n19 : Int) (l20 : List (List AC)) (l21 : List (List AC)) (l22 : List (List AC)) (l23 : List (List AC)) (n24 : Int) (n25 : Int) : Option AV := GL X_impl_validFrame 0 [(1, .v (.cell (.sl 3 l16))), (5, .box [.int n17, .int n18, .int n19, .sl 1 l20, .sl 1 l21, .sl 1 l22]), (57, .v (.cell (.sl 1 l23))), (58, .v (.cell (.int n24))), (59, .v (.cell (.int n25)))]
theorem impl_validFrame_L0_le {l16 : List (List AC)} {n17 : Int} {n18 : Int} {n19 : Int} {l20 : List (List AC)} {l21 : List (List AC)} {l22 : List (List AC)} {l23 : List (List AC)} {n24 : Int} {n25 : Int} {r : AV} (h : (
    bif (decide (n25 < n24)) then
        atR_ l23 n25 [.int 0] fun n26 =>
        atR_ l21 n25 [.int 0] fun n27 =>
        callR (impl_validReg [.cell (.sl 3 l16), .cell (.int n26), .cell (.int n27)]) false [(false, [.bool false])] fun b28 =>
        bif (!b28) then
          some (.v (.cell (.bool false)))
        else
          atR_ l22 n25 [.int 0] fun n29 =>
          bif (n29 != 0) then
            atR_ l22 n25 [.int 0] fun n30 =>
            callR (impl_cellOfWord [.cell (.int n30)]) false [(false, [.int 0])] fun n31 =>
            callR (impl_isKept [.cell (.sl 3 l16), .cell (.int n31)]) false [(false, [.bool false])] fun b32 =>
            bif (!b32) then
              some (.v (.cell (.bool false)))
            else
              impl_validFrame_L0 l16 n17 n18 n19 l20 l21 l22 l23 n24 (wrapI (n25 + 1))
          else
            impl_validFrame_L0 l16 n17 n18 n19 l20 l21 l22 l23 n24 (wrapI (n25 + 1))
      else
        some (.v (.cell (.bool true))) : Option AV) = some r) : impl_validFrame_L0 l16 n17 n18 n19 l20 l21 l22 l23 n24 n25 = some r :=
  GL_le (X := X_impl_validFrame) (n := 100000) (by kernel_rfl) (by kernel_rfl : (X_impl_validFrame.fn.body.bind fun c => locL 0 c []) = some (.loop (loopOf (X_impl_validFrame.fn.body.bind fun c => locL 0 c [])), ksOf (X_impl_validFrame.fn.body.bind fun c => locL 0 c []))) (Eq.trans (by kernel_rfl) h)
theorem impl_validFrame_le {l1 : List (List AC)} {l2 : List (List AC)} {l3 : List (List AC)} {n4 : Int} {n5 : Int} {n6 : Int} {l7 : List (List AC)} {l8 : List (List AC)} {l9 : List (List AC)} {r : AV} (h : (
    callR (impl_hasProc [.agg [.sl 3 l1, .sl 5 l2], .cell (.int n4)]) false [(false, [.bool false])] fun b10 =>
      bif (!b10) then
        some (.v (.cell (.bool false)))
      else
        atR_ l2 n4 [.sl 1 [], .sl 1 [], .int 0, .int 0, .sl 6 []] fun l11 l12 n13 n14 l15 =>
        bif (decide (n5 < 0)) then
          some (.v (.cell (.bool false)))
        else
          bif (decide (n5 ≥ ((l15.length : Nat) : Int))) then
            some (.v (.cell (.bool false)))
          else
            bif (((l7.length : Nat) : Int) != n14) then
              some (.v (.cell (.bool false)))
            else
              bif (((l8.length : Nat) : Int) != n14) then
                some (.v (.cell (.bool false)))
              else
                bif (((l9.length : Nat) : Int) != n14) then
                  some (.v (.cell (.bool false)))
                else
                  impl_validFrame_L0 l3 n4 n5 n6 l7 l8 l9 l7 ((l7.length : Nat) : Int) 0 : Option AV) = some r) : impl_validFrame [.agg [.sl 3 l1, .sl 5 l2], .cell (.sl 3 l3), .agg [.int n4, .int n5, .int n6, .sl 1 l7, .sl 1 l8, .sl 1 l9]] = some r :=
  V_le (X := X_impl_validFrame) (n := 100000) (c := cOf Tryz.f57) (by kernel_rfl) Tryz.func57 (by kernel_rfl) (of_decide_eq_true (by kernel_rfl)) (Eq.trans (by kernel_rfl) h)
noncomputable def X_impl_waitsAt : Ctx := { P := Tryz.prog, L := lay, F := sig.has, E := ext, fn := Tryz.f58, lv := [], jv := [], tp := [] }
theorem impl_waitsAt_le {n1 : Int} {n2 : Int} {n3 : Int} {l4 : List (List AC)} {l5 : List (List AC)} {l6 : List (List AC)} {n7 : Int} {r : AV} (h : (
    bif (decide (n7 ≥ 0)) then
        bif (decide (n7 < ((l5.length : Nat) : Int))) then
          atR_ l5 n7 [.int 0] fun n8 =>
          some (.v (.cell (.bool (n8 == 0))))
        else
          some (.v (.cell (.bool false)))
      else
        some (.v (.cell (.bool false))) : Option AV) = some r) : impl_waitsAt [.agg [.int n1, .int n2, .int n3, .sl 1 l4, .sl 1 l5, .sl 1 l6], .cell (.int n7)] = some r :=
  V_le (X := X_impl_waitsAt) (n := 100000) (c := cOf Tryz.f58) (by kernel_rfl) Tryz.func58 (by kernel_rfl) (of_decide_eq_true (by kernel_rfl)) (Eq.trans (by kernel_rfl) h)
noncomputable def X_impl_cellOfWord : Ctx := { P := Tryz.prog, L := lay, F := sig.has, E := ext, fn := Tryz.f59, lv := [], jv := [], tp := [] }
theorem impl_cellOfWord_le {n1 : Int} {r : AV} (h : (
    bif (decide (n1 < 1000)) then
        some (.v (.cell (.int (-1))))
      else
        some (.v (.cell (.int (wrapI (n1 - 1000))))) : Option AV) = some r) : impl_cellOfWord [.cell (.int n1)] = some r :=
  V_le (X := X_impl_cellOfWord) (n := 100000) (c := cOf Tryz.f59) (by kernel_rfl) Tryz.func59 (by kernel_rfl) (of_decide_eq_true (by kernel_rfl)) (Eq.trans (by kernel_rfl) h)
noncomputable def X_laws_eqDecl : Ctx := { P := Tryz.prog, L := lay, F := sig.has, E := ext, fn := Tryz.f60, lv := [], jv := [], tp := [] }
theorem laws_eqDecl_le {n1 : Int} {n2 : Int} {l3 : List (List AC)} {n4 : Int} {n5 : Int} {l6 : List (List AC)} {r : AV} (h : (
    bif (n1 != n4) then
        some (.v (.cell (.bool false)))
      else
        bif (n2 != n5) then
          some (.v (.cell (.bool false)))
        else
          callR (laws_eqConS [.cell (.sl 1 l3), .cell (.sl 1 l6)]) false [(false, [.bool false])] fun b7 =>
          bif (!b7) then
            some (.v (.cell (.bool false)))
          else
            some (.v (.cell (.bool true))) : Option AV) = some r) : laws_eqDecl [.agg [.int n1, .int n2, .sl 1 l3], .agg [.int n4, .int n5, .sl 1 l6]] = some r :=
  V_le (X := X_laws_eqDecl) (n := 100000) (c := cOf Tryz.f60) (by kernel_rfl) Tryz.func60 (by kernel_rfl) (of_decide_eq_true (by kernel_rfl)) (Eq.trans (by kernel_rfl) h)
noncomputable def X_laws_eqProc : Ctx := { P := Tryz.prog, L := lay, F := sig.has, E := ext, fn := Tryz.f61, lv := [], jv := [], tp := [] }
theorem laws_eqProc_le {l1 : List (List AC)} {l2 : List (List AC)} {n3 : Int} {n4 : Int} {l5 : List (List AC)} {l6 : List (List AC)} {l7 : List (List AC)} {n8 : Int} {n9 : Int} {l10 : List (List AC)} {r : AV} (h : (
    callR (laws_eqIntS [.cell (.sl 1 l1), .cell (.sl 1 l6)]) false [(false, [.bool false])] fun b11 =>
      bif (!b11) then
        some (.v (.cell (.bool false)))
      else
        callR (laws_eqIntS [.cell (.sl 1 l2), .cell (.sl 1 l7)]) false [(false, [.bool false])] fun b12 =>
        bif (!b12) then
          some (.v (.cell (.bool false)))
        else
          bif (n3 != n8) then
            some (.v (.cell (.bool false)))
          else
            bif (n4 != n9) then
              some (.v (.cell (.bool false)))
            else
              callR (laws_eqInstrS [.cell (.sl 6 l5), .cell (.sl 6 l10)]) false [(false, [.bool false])] fun b13 =>
              bif (!b13) then
                some (.v (.cell (.bool false)))
              else
                some (.v (.cell (.bool true))) : Option AV) = some r) : laws_eqProc [.agg [.sl 1 l1, .sl 1 l2, .int n3, .int n4, .sl 6 l5], .agg [.sl 1 l6, .sl 1 l7, .int n8, .int n9, .sl 6 l10]] = some r :=
  V_le (X := X_laws_eqProc) (n := 100000) (c := cOf Tryz.f61) (by kernel_rfl) Tryz.func61 (by kernel_rfl) (of_decide_eq_true (by kernel_rfl)) (Eq.trans (by kernel_rfl) h)
noncomputable def X_laws_eqCell : Ctx := { P := Tryz.prog, L := lay, F := sig.has, E := ext, fn := Tryz.f62, lv := [], jv := [], tp := [] }
theorem laws_eqCell_le {n1 : Int} {n2 : Int} {l3 : List (List AC)} {n4 : Int} {n5 : Int} {l6 : List (List AC)} {r : AV} (h : (
    bif (n1 != n4) then
        some (.v (.cell (.bool false)))
      else
        bif (n2 != n5) then
          some (.v (.cell (.bool false)))
        else
          callR (laws_eqIntS [.cell (.sl 1 l3), .cell (.sl 1 l6)]) false [(false, [.bool false])] fun b7 =>
          bif (!b7) then
            some (.v (.cell (.bool false)))
          else
            some (.v (.cell (.bool true))) : Option AV) = some r) : laws_eqCell [.agg [.int n1, .int n2, .sl 1 l3], .agg [.int n4, .int n5, .sl 1 l6]] = some r :=
  V_le (X := X_laws_eqCell) (n := 100000) (c := cOf Tryz.f62) (by kernel_rfl) Tryz.func62 (by kernel_rfl) (of_decide_eq_true (by kernel_rfl)) (Eq.trans (by kernel_rfl) h)
noncomputable def X_laws_eqFrame : Ctx := { P := Tryz.prog, L := lay, F := sig.has, E := ext, fn := Tryz.f63, lv := [], jv := [], tp := [] }
theorem laws_eqFrame_le {n1 : Int} {n2 : Int} {n3 : Int} {l4 : List (List AC)} {l5 : List (List AC)} {l6 : List (List AC)} {n7 : Int} {n8 : Int} {n9 : Int} {l10 : List (List AC)} {l11 : List (List AC)} {l12 : List (List AC)} {r : AV} (h : (
    bif (n1 != n7) then
        some (.v (.cell (.bool false)))
      else
        bif (n2 != n8) then
          some (.v (.cell (.bool false)))
        else
          bif (n3 != n9) then
            some (.v (.cell (.bool false)))
          else
            callR (laws_eqIntS [.cell (.sl 1 l4), .cell (.sl 1 l10)]) false [(false, [.bool false])] fun b13 =>
            bif (!b13) then
              some (.v (.cell (.bool false)))
            else
              callR (laws_eqIntS [.cell (.sl 1 l5), .cell (.sl 1 l11)]) false [(false, [.bool false])] fun b14 =>
              bif (!b14) then
                some (.v (.cell (.bool false)))
              else
                callR (laws_eqIntS [.cell (.sl 1 l6), .cell (.sl 1 l12)]) false [(false, [.bool false])] fun b15 =>
                bif (!b15) then
                  some (.v (.cell (.bool false)))
                else
                  some (.v (.cell (.bool true))) : Option AV) = some r) : laws_eqFrame [.agg [.int n1, .int n2, .int n3, .sl 1 l4, .sl 1 l5, .sl 1 l6], .agg [.int n7, .int n8, .int n9, .sl 1 l10, .sl 1 l11, .sl 1 l12]] = some r :=
  V_le (X := X_laws_eqFrame) (n := 100000) (c := cOf Tryz.f63) (by kernel_rfl) Tryz.func63 (by kernel_rfl) (of_decide_eq_true (by kernel_rfl)) (Eq.trans (by kernel_rfl) h)
noncomputable def X_laws_szConS : Ctx := { P := Tryz.prog, L := lay, F := sig.has, E := ext, fn := Tryz.f64, lv := [(0, [0, 1, 5])], jv := [], tp := [] }
noncomputable def laws_szConS_L0 (l3 : List (List AC)) (n4 : Int) (n5 : Int) : Option AV := GL X_laws_szConS 0 [(0, .v (.cell (.sl 1 l3))), (1, .v (.cell (.int n4))), (5, .v (.cell (.int n5)))]
theorem laws_szConS_L0_le {l3 : List (List AC)} {n4 : Int} {n5 : Int} {r : AV} (h : (
    bif (decide (n5 < ((l3.length : Nat) : Int))) then
        atR_ l3 n5 [.sl 1 []] fun l6 =>
        callR (laws_szCon [.agg [.sl 1 l6], .cell (.int n4)]) false [(false, [.int 0])] fun n7 =>
        bif (decide (n7 < 0)) then
          some (.v (.cell (.int (-1))))
        else
          laws_szConS_L0 l3 n7 (wrapI (n5 + 1))
      else
        some (.v (.cell (.int n4))) : Option AV) = some r) : laws_szConS_L0 l3 n4 n5 = some r :=
  GL_le (X := X_laws_szConS) (n := 100000) (by kernel_rfl) (by kernel_rfl : (X_laws_szConS.fn.body.bind fun c => locL 0 c []) = some (.loop (loopOf (X_laws_szConS.fn.body.bind fun c => locL 0 c [])), ksOf (X_laws_szConS.fn.body.bind fun c => locL 0 c []))) (Eq.trans (by kernel_rfl) h)
theorem laws_szConS_le {l1 : List (List AC)} {n2 : Int} {r : AV} (h : (
    bif (decide ((wrapI (n2 - ((l1.length : Nat) : Int))) < 0)) then
        some (.v (.cell (.int (-1))))
      else
        laws_szConS_L0 l1 (wrapI (n2 - ((l1.length : Nat) : Int))) 0 : Option AV) = some r) : laws_szConS [.cell (.sl 1 l1), .cell (.int n2)] = some r :=
  V_le (X := X_laws_szConS) (n := 100000) (c := cOf Tryz.f64) (by kernel_rfl) Tryz.func64 (by kernel_rfl) (of_decide_eq_true (by kernel_rfl)) (Eq.trans (by kernel_rfl) h)
noncomputable def X_laws_szInstrS : Ctx := { P := Tryz.prog, L := lay, F := sig.has, E := ext, fn := Tryz.f65, lv := [(0, [0, 1, 5])], jv := [], tp := [] }
noncomputable def laws_szInstrS_L0 (l3 : List (List AC)) (n4 : Int) (n5 : Int) : Option AV := GL X_laws_szInstrS 0 [(0, .v (.cell (.sl 6 l3))), (1, .v (.cell (.int n4))), (5, .v (.cell (.int n5)))]
theorem laws_szInstrS_L0_le {l3 : List (List AC)} {n4 : Int} {n5 : Int} {r : AV} (h : (
    bif (decide (n5 < ((l3.length : Nat) : Int))) then
        atR_ l3 n5 [.int 0, .int 0, .int 0, .int 0, .sl 1 [], .sl 1 []] fun n6 n7 n8 n9 l10 l11 =>
        callR (laws_szInstr [.agg [.int n6, .int n7, .int n8, .int n9, .sl 1 l10, .sl 1 l11], .cell (.int n4)]) false [(false, [.int 0])] fun n12 =>
        bif (decide (n12 < 0)) then
          some (.v (.cell (.int (-1))))
        else
          laws_szInstrS_L0 l3 n12 (wrapI (n5 + 1))
      else
        some (.v (.cell (.int n4))) : Option AV) = some r) : laws_szInstrS_L0 l3 n4 n5 = some r :=
  GL_le (X := X_laws_szInstrS) (n := 100000) (by kernel_rfl) (by kernel_rfl : (X_laws_szInstrS.fn.body.bind fun c => locL 0 c []) = some (.loop (loopOf (X_laws_szInstrS.fn.body.bind fun c => locL 0 c [])), ksOf (X_laws_szInstrS.fn.body.bind fun c => locL 0 c []))) (Eq.trans (by kernel_rfl) h)
theorem laws_szInstrS_le {l1 : List (List AC)} {n2 : Int} {r : AV} (h : (
    bif (decide ((wrapI (n2 - ((l1.length : Nat) : Int))) < 0)) then
        some (.v (.cell (.int (-1))))
      else
        laws_szInstrS_L0 l1 (wrapI (n2 - ((l1.length : Nat) : Int))) 0 : Option AV) = some r) : laws_szInstrS [.cell (.sl 6 l1), .cell (.int n2)] = some r :=
  V_le (X := X_laws_szInstrS) (n := 100000) (c := cOf Tryz.f65) (by kernel_rfl) Tryz.func65 (by kernel_rfl) (of_decide_eq_true (by kernel_rfl)) (Eq.trans (by kernel_rfl) h)
noncomputable def X_spec_validSigs : Ctx := { P := Tryz.prog, L := lay, F := sig.has, E := ext, fn := Tryz.f66, lv := [(0, [1, 3])], jv := [], tp := [] }
noncomputable def spec_validSigs_L0 (l5 : List (List AC)) (l6 : List (List AC)) (n7 : Int) : Option AV := GL X_spec_validSigs 0 [(1, .box [.sl 3 l5, .sl 5 l6]), (3, .v (.cell (.int n7)))]
theorem spec_validSigs_L0_le {l5 : List (List AC)} {l6 : List (List AC)} {n7 : Int} {r : AV} (h : (
    bif (decide (n7 < ((l6.length : Nat) : Int))) then
        atR_ l6 n7 [.sl 1 [], .int 0, .int 0, .int 0, .sl 3 []] fun l8 n9 n10 n11 l12 =>
        bif (decide (((l8.length : Nat) : Int) > 3)) then
          some (.v (.cell (.bool false)))
        else
          callR (spec_allTypes [.cell (.sl 3 l5), .cell (.sl 1 l8)]) false [(false, [.bool false])] fun b13 =>
          bif (!b13) then
            some (.v (.cell (.bool false)))
          else
            callR (spec_inRange [.cell (.int n9), .cell (.int 0), .cell (.int ((l5.length : Nat) : Int))]) false [(false, [.bool false])] fun b14 =>
            bif (!b14) then
              some (.v (.cell (.bool false)))
            else
              spec_validSigs_L0 l5 l6 (wrapI (n7 + 1))
      else
        atR_ l6 0 [.sl 1 [], .int 0, .int 0, .int 0, .sl 3 []] fun l15 n16 n17 n18 l19 =>
        bif (((l15.length : Nat) : Int) == 0) then
          atR_ l6 0 [.sl 1 [], .int 0, .int 0, .int 0, .sl 3 []] fun l20 n21 n22 n23 l24 =>
          some (.v (.cell (.bool (n21 == 0))))
        else
          some (.v (.cell (.bool false))) : Option AV) = some r) : spec_validSigs_L0 l5 l6 n7 = some r :=
  GL_le (X := X_spec_validSigs) (n := 100000) (by kernel_rfl) (by kernel_rfl : (X_spec_validSigs.fn.body.bind fun c => locL 0 c []) = some (.loop (loopOf (X_spec_validSigs.fn.body.bind fun c => locL 0 c [])), ksOf (X_spec_validSigs.fn.body.bind fun c => locL 0 c []))) (Eq.trans (by kernel_rfl) h)
theorem spec_validSigs_le {l1 : List (List AC)} {l2 : List (List AC)} {r : AV} (h : (
    callR (spec_validTypes [.cell (.sl 3 l1)]) false [(false, [.bool false])] fun b3 =>
      bif (!b3) then
        some (.v (.cell (.bool false)))
      else
        callR (spec_inRange [.cell (.int ((l2.length : Nat) : Int)), .cell (.int 1), .cell (.int 4)]) false [(false, [.bool false])] fun b4 =>
        bif (!b4) then
          some (.v (.cell (.bool false)))
        else
          spec_validSigs_L0 l1 l2 0 : Option AV) = some r) : spec_validSigs [.agg [.sl 3 l1, .sl 5 l2]] = some r :=
  V_le (X := X_spec_validSigs) (n := 100000) (c := cOf Tryz.f66) (by kernel_rfl) Tryz.func66 (by kernel_rfl) (of_decide_eq_true (by kernel_rfl)) (Eq.trans (by kernel_rfl) h)
noncomputable def X_spec_sigsOfImage : Ctx := { P := Tryz.prog, L := lay, F := sig.has, E := ext, fn := Tryz.f67, lv := [(0, [1, 2, 3, 4])], jv := [], tp := [] }
noncomputable def spec_sigsOfImage_L0 (l3 : List (List AC)) (l4 : List (List AC)) (l5 : List (List AC)) (l6 : List (List AC)) (l7 : List (List AC)) (l8 : List (List AC)) (n9 : Int) : Option AV := GL X_spec_sigsOfImage 0 [(1, .box [.sl 3 l3, .sl 5 l4]), (2, .box [.sl 3 l5, .sl 5 l6]), (3, .box [.sl 3 l7, .sl 5 l8]), (4, .v (.cell (.int n9)))]
theorem spec_sigsOfImage_L0_le {l3 : List (List AC)} {l4 : List (List AC)} {l5 : List (List AC)} {l6 : List (List AC)} {l7 : List (List AC)} {l8 : List (List AC)} {n9 : Int} {r : AV} (h : (
    bif (decide (n9 < ((l4.length : Nat) : Int))) then
        atR_ l4 n9 [.sl 1 [], .sl 1 [], .int 0, .int 0, .sl 6 []] fun l10 l11 n12 n13 l14 =>
        atR_ l4 n9 [.sl 1 [], .sl 1 [], .int 0, .int 0, .sl 6 []] fun l15 l16 n17 n18 l19 =>
        appR l8 [[.sl 1 l10, .int n17, .int 0, .int 0, .sl 3 []]] fun l20 =>
        spec_sigsOfImage_L0 l3 l4 l5 l6 l7 l20 (wrapI (n9 + 1))
      else
        some (.v (.agg [.sl 3 l7, .sl 5 l8])) : Option AV) = some r) : spec_sigsOfImage_L0 l3 l4 l5 l6 l7 l8 n9 = some r :=
  GL_le (X := X_spec_sigsOfImage) (n := 100000) (by kernel_rfl) (by kernel_rfl : (X_spec_sigsOfImage.fn.body.bind fun c => locL 0 c []) = some (.loop (loopOf (X_spec_sigsOfImage.fn.body.bind fun c => locL 0 c [])), ksOf (X_spec_sigsOfImage.fn.body.bind fun c => locL 0 c []))) (Eq.trans (by kernel_rfl) h)
theorem spec_sigsOfImage_le {l1 : List (List AC)} {l2 : List (List AC)} {r : AV} (h : (
    spec_sigsOfImage_L0 l1 l2 [] [] l1 [] 0 : Option AV) = some r) : spec_sigsOfImage [.agg [.sl 3 l1, .sl 5 l2]] = some r :=
  V_le (X := X_spec_sigsOfImage) (n := 100000) (c := cOf Tryz.f67) (by kernel_rfl) Tryz.func67 (by kernel_rfl) (of_decide_eq_true (by kernel_rfl)) (Eq.trans (by kernel_rfl) h)
noncomputable def X_spec_validProc : Ctx := { P := Tryz.prog, L := lay, F := sig.has, E := ext, fn := Tryz.f68, lv := [(0, [2, 3, 5, 6])], jv := [], tp := [] }
noncomputable def spec_validProc_L0 (l11 : List (List AC)) (l12 : List (List AC)) (l13 : List (List AC)) (l14 : List (List AC)) (n15 : Int) (n16 : Int) (l17 : List (List AC)) (n18 : Int) (n19 : Int) : Option AV := GL X_spec_validProc 0 [(2, .box [.sl 3 l11, .sl 5 l12]), (3, .box [.sl 1 l13, .sl 1 l14, .int n15, .int n16, .sl 6 l17]), (5, .v (.cell (.int n18))), (6, .v (.cell (.int n19)))]
theorem spec_validProc_L0_le {l11 : List (List AC)} {l12 : List (List AC)} {l13 : List (List AC)} {l14 : List (List AC)} {n15 : Int} {n16 : Int} {l17 : List (List AC)} {n18 : Int} {n19 : Int} {r : AV} (h : (
    bif (decide (n19 < n18)) then
        callR (spec_validInstr [.agg [.sl 3 l11, .sl 5 l12], .agg [.sl 1 l13, .sl 1 l14, .int n15, .int n16, .sl 6 l17], .cell (.int n19)]) false [(false, [.bool false])] fun b20 =>
        bif (!b20) then
          some (.v (.cell (.bool false)))
        else
          spec_validProc_L0 l11 l12 l13 l14 n15 n16 l17 n18 (wrapI (n19 + 1))
      else
        atR_ l17 (wrapI (n18 - 1)) [.int 0, .int 0, .int 0, .int 0, .sl 1 [], .sl 1 []] fun n21 n22 n23 n24 l25 l26 =>
        bif (n21 == 23) then
          some (.v (.cell (.bool true)))
        else
          atR_ l17 (wrapI (n18 - 1)) [.int 0, .int 0, .int 0, .int 0, .sl 1 [], .sl 1 []] fun n27 n28 n29 n30 l31 l32 =>
          some (.v (.cell (.bool (n27 == 24)))) : Option AV) = some r) : spec_validProc_L0 l11 l12 l13 l14 n15 n16 l17 n18 n19 = some r :=
  GL_le (X := X_spec_validProc) (n := 100000) (by kernel_rfl) (by kernel_rfl : (X_spec_validProc.fn.body.bind fun c => locL 0 c []) = some (.loop (loopOf (X_spec_validProc.fn.body.bind fun c => locL 0 c [])), ksOf (X_spec_validProc.fn.body.bind fun c => locL 0 c []))) (Eq.trans (by kernel_rfl) h)
theorem spec_validProc_le {l1 : List (List AC)} {l2 : List (List AC)} {l3 : List (List AC)} {l4 : List (List AC)} {n5 : Int} {n6 : Int} {l7 : List (List AC)} {r : AV} (h : (
    callR (spec_validLent [.cell (.sl 1 l3), .cell (.sl 1 l4)]) false [(false, [.bool false])] fun b8 =>
      bif (!b8) then
        some (.v (.cell (.bool false)))
      else
        callR (spec_inRange [.cell (.int n6), .cell (.int (max2I 1 ((l3.length : Nat) : Int))), .cell (.int 2000)]) false [(false, [.bool false])] fun b9 =>
        bif (!b9) then
          some (.v (.cell (.bool false)))
        else
          callR (spec_inRange [.cell (.int ((l7.length : Nat) : Int)), .cell (.int 1), .cell (.int 2000)]) false [(false, [.bool false])] fun b10 =>
          bif (!b10) then
            some (.v (.cell (.bool false)))
          else
            spec_validProc_L0 l1 l2 l3 l4 n5 n6 l7 ((l7.length : Nat) : Int) 0 : Option AV) = some r) : spec_validProc [.agg [.sl 3 l1, .sl 5 l2], .agg [.sl 1 l3, .sl 1 l4, .int n5, .int n6, .sl 6 l7]] = some r :=
  V_le (X := X_spec_validProc) (n := 100000) (c := cOf Tryz.f68) (by kernel_rfl) Tryz.func68 (by kernel_rfl) (of_decide_eq_true (by kernel_rfl)) (Eq.trans (by kernel_rfl) h)
noncomputable def X_spec_validCell : Ctx := { P := Tryz.prog, L := lay, F := sig.has, E := ext, fn := Tryz.f69, lv := [(0, [0, 3, 5])], jv := [], tp := [] }
noncomputable def spec_validCell_L0 (l7 : List (List AC)) (n8 : Int) (n9 : Int) (l10 : List (List AC)) (n11 : Int) : Option AV := GL X_spec_validCell 0 [(0, .v (.cell (.sl 3 l7))), (3, .box [.int n8, .int n9, .sl 1 l10]), (5, .v (.cell (.int n11)))]
theorem spec_validCell_L0_le {l7 : List (List AC)} {n8 : Int} {n9 : Int} {l10 : List (List AC)} {n11 : Int} {r : AV} (h : (
    bif (decide (n11 < ((l10.length : Nat) : Int))) then
        atR_ l10 n11 [.int 0] fun n12 =>
        callR (spec_isWord [.cell (.sl 3 l7), .cell (.int n12)]) false [(false, [.bool false])] fun b13 =>
        bif (!b13) then
          some (.v (.cell (.bool false)))
        else
          spec_validCell_L0 l7 n8 n9 l10 (wrapI (n11 + 1))
      else
        callR (spec_inRange [.cell (.int n9), .cell (.int 0), .cell (.int 99)]) false [(false, [.bool false])] fun b14 =>
        some (.v (.cell (.bool b14))) : Option AV) = some r) : spec_validCell_L0 l7 n8 n9 l10 n11 = some r :=
  GL_le (X := X_spec_validCell) (n := 100000) (by kernel_rfl) (by kernel_rfl : (X_spec_validCell.fn.body.bind fun c => locL 0 c []) = some (.loop (loopOf (X_spec_validCell.fn.body.bind fun c => locL 0 c [])), ksOf (X_spec_validCell.fn.body.bind fun c => locL 0 c []))) (Eq.trans (by kernel_rfl) h)
theorem spec_validCell_le {l1 : List (List AC)} {n2 : Int} {n3 : Int} {l4 : List (List AC)} {r : AV} (h : (
    bif (decide (((l4.length : Nat) : Int) > 3)) then
        some (.v (.cell (.bool false)))
      else
        callR (spec_inRange [.cell (.int n2), .cell (.int (-1)), .cell (.int 999999)]) false [(false, [.bool false])] fun b5 =>
        bif (!b5) then
          some (.v (.cell (.bool false)))
        else
          bif (decide (n2 < 1)) then
            bif (n3 == 0) then
              callR (spec_allZero [.cell (.sl 1 l4)]) false [(false, [.bool false])] fun b6 =>
              bif b6 then
                bif (decide (n2 < 0)) then
                  some (.v (.cell (.bool true)))
                else
                  some (.v (.cell (.bool (((l4.length : Nat) : Int) == 0))))
              else
                some (.v (.cell (.bool false)))
            else
              some (.v (.cell (.bool false)))
          else
            spec_validCell_L0 l1 n2 n3 l4 0 : Option AV) = some r) : spec_validCell [.cell (.sl 3 l1), .agg [.int n2, .int n3, .sl 1 l4]] = some r :=
  V_le (X := X_spec_validCell) (n := 100000) (c := cOf Tryz.f69) (by kernel_rfl) Tryz.func69 (by kernel_rfl) (of_decide_eq_true (by kernel_rfl)) (Eq.trans (by kernel_rfl) h)
noncomputable def X_spec_refsOf : Ctx := { P := Tryz.prog, L := lay, F := sig.has, E := ext, fn := Tryz.f70, lv := [(0, [0, 3, 4, 9]), (2, [0, 3, 4, 5, 9])], jv := [], tp := [] }
noncomputable def spec_refsOf_L0 (l3 : List (List AC)) (n4 : Int) (l5 : List (List AC)) : Option AV := GL X_spec_refsOf 0 [(0, .v (.cell (.sl 3 l3))), (3, .al 9), (4, .v (.cell (.int n4))), (9, .arr 1 l5)]
noncomputable def spec_refsOf_L2 (l6 : List (List AC)) (n7 : Int) (n8 : Int) (l9 : List (List AC)) : Option AV := GL X_spec_refsOf 2 [(0, .v (.cell (.sl 3 l6))), (3, .al 9), (4, .v (.cell (.int n7))), (5, .v (.cell (.int n8))), (9, .arr 1 l9)]
theorem spec_refsOf_L0_le {l3 : List (List AC)} {n4 : Int} {l5 : List (List AC)} {r : AV} (h : (
    bif (decide (n4 < ((l3.length : Nat) : Int))) then
        spec_refsOf_L2 l3 n4 0 l5
      else
        some (.v (.cell (.sl 1 l5))) : Option AV) = some r) : spec_refsOf_L0 l3 n4 l5 = some r :=
  GL_le (X := X_spec_refsOf) (n := 100000) (by kernel_rfl) (by kernel_rfl : (X_spec_refsOf.fn.body.bind fun c => locL 0 c []) = some (.loop (loopOf (X_spec_refsOf.fn.body.bind fun c => locL 0 c [])), ksOf (X_spec_refsOf.fn.body.bind fun c => locL 0 c []))) (Eq.trans (by kernel_rfl) h)
theorem spec_refsOf_L2_le {l6 : List (List AC)} {n7 : Int} {n8 : Int} {l9 : List (List AC)} {r : AV} (h : (
    atR_ l6 n7 [.int 0, .int 0, .sl 1 []] fun n10 n11 l12 =>
      bif (decide (n8 < ((l12.length : Nat) : Int))) then
        atR_ l6 n7 [.int 0, .int 0, .sl 1 []] fun n13 n14 l15 =>
        atR_ l15 n8 [.int 0] fun n16 =>
        callR (spec_isLive [.cell (.sl 3 l6), .cell (.int n16)]) false [(false, [.bool false])] fun b17 =>
        bif b17 then
          atR_ l6 n7 [.int 0, .int 0, .sl 1 []] fun n18 n19 l20 =>
          atR_ l20 n8 [.int 0] fun n21 =>
          idxR l9 (wrapI (n21 - 1000)) fun m22 =>
          elR l9 m22 0 1 [.int 0] fun n23 =>
          idxR l9 (wrapI (n21 - 1000)) fun m24 =>
          setR l9 m24 0 [.int (wrapI (n23 + 1))] fun l25 =>
          spec_refsOf_L2 l6 n7 (wrapI (n8 + 1)) l25
        else
          spec_refsOf_L2 l6 n7 (wrapI (n8 + 1)) l9
      else
        spec_refsOf_L0 l6 (wrapI (n7 + 1)) l9 : Option AV) = some r) : spec_refsOf_L2 l6 n7 n8 l9 = some r :=
  GL_le (X := X_spec_refsOf) (n := 100000) (by kernel_rfl) (by kernel_rfl : (X_spec_refsOf.fn.body.bind fun c => locL 2 c []) = some (.loop (loopOf (X_spec_refsOf.fn.body.bind fun c => locL 2 c [])), ksOf (X_spec_refsOf.fn.body.bind fun c => locL 2 c []))) (Eq.trans (by kernel_rfl) h)
theorem spec_refsOf_le {l1 : List (List AC)} {r : AV} (h : (
    repR ((l1.length : Nat) : Int) ((l1.length : Nat) : Int) [.int 0] fun l2 =>
      spec_refsOf_L0 l1 0 l2 : Option AV) = some r) : spec_refsOf [.cell (.sl 3 l1)] = some r :=
  V_le (X := X_spec_refsOf) (n := 100000) (c := cOf Tryz.f70) (by kernel_rfl) Tryz.func70 (by kernel_rfl) (of_decide_eq_true (by kernel_rfl)) (Eq.trans (by kernel_rfl) h)
noncomputable def X_spec_isAcyclic : Ctx := { P := Tryz.prog, L := lay, F := sig.has, E := ext, fn := Tryz.f71, lv := [(0, [0, 3, 4, 5, 9]), (2, [0, 3, 4, 5, 6, 9])], jv := [], tp := [] }
noncomputable def spec_isAcyclic_L0 (l3 : List (List AC)) (n4 : Int) (b5 : Bool) (l6 : List (List AC)) : Option AV := GL X_spec_isAcyclic 0 [(0, .v (.cell (.sl 3 l3))), (3, .al 9), (4, .v (.cell (.int n4))), (5, .v (.cell (.bool b5))), (9, .arr 1 l6)]
noncomputable def spec_isAcyclic_L2 (l7 : List (List AC)) (n8 : Int) (b9 : Bool) (n10 : Int) (l11 : List (List AC)) : Option AV := GL X_spec_isAcyclic 2 [(0, .v (.cell (.sl 3 l7))), (3, .al 9), (4, .v (.cell (.int n8))), (5, .v (.cell (.bool b9))), (6, .v (.cell (.int n10))), (9, .arr 1 l11)]
theorem spec_isAcyclic_L0_le {l3 : List (List AC)} {n4 : Int} {b5 : Bool} {l6 : List (List AC)} {r : AV} (h : (
    bif b5 then
        spec_isAcyclic_L2 l3 n4 false 0 l6
      else
        some (.v (.cell (.bool (n4 == ((l3.length : Nat) : Int))))) : Option AV) = some r) : spec_isAcyclic_L0 l3 n4 b5 l6 = some r :=
  GL_le (X := X_spec_isAcyclic) (n := 100000) (by kernel_rfl) (by kernel_rfl : (X_spec_isAcyclic.fn.body.bind fun c => locL 0 c []) = some (.loop (loopOf (X_spec_isAcyclic.fn.body.bind fun c => locL 0 c [])), ksOf (X_spec_isAcyclic.fn.body.bind fun c => locL 0 c []))) (Eq.trans (by kernel_rfl) h)
theorem spec_isAcyclic_L2_le {l7 : List (List AC)} {n8 : Int} {b9 : Bool} {n10 : Int} {l11 : List (List AC)} {r : AV} (h : (
    bif (decide (n10 < ((l7.length : Nat) : Int))) then
        idxR l11 n10 fun m12 =>
        elR l11 m12 0 1 [.bool false] fun b13 =>
        bif (!b13) then
          atR_ l7 n10 [.int 0, .int 0, .sl 1 []] fun n14 n15 l16 =>
          callF (spec_allMarked [.cell (.sl 1 l11), .cell (.sl 1 l16)]) false [(false, [.bool false])] fun b17 =>
          bif b17 then
            idxR l11 n10 fun m18 =>
            setR l11 m18 0 [.bool true] fun l19 =>
            spec_isAcyclic_L2 l7 (wrapI (n8 + 1)) true (wrapI (n10 + 1)) l19
          else
            spec_isAcyclic_L2 l7 n8 b9 (wrapI (n10 + 1)) l11
        else
          spec_isAcyclic_L2 l7 n8 b9 (wrapI (n10 + 1)) l11
      else
        spec_isAcyclic_L0 l7 n8 b9 l11 : Option AV) = some r) : spec_isAcyclic_L2 l7 n8 b9 n10 l11 = some r :=
  GL_le (X := X_spec_isAcyclic) (n := 100000) (by kernel_rfl) (by kernel_rfl : (X_spec_isAcyclic.fn.body.bind fun c => locL 2 c []) = some (.loop (loopOf (X_spec_isAcyclic.fn.body.bind fun c => locL 2 c [])), ksOf (X_spec_isAcyclic.fn.body.bind fun c => locL 2 c []))) (Eq.trans (by kernel_rfl) h)
theorem spec_isAcyclic_le {l1 : List (List AC)} {r : AV} (h : (
    repR ((l1.length : Nat) : Int) ((l1.length : Nat) : Int) [.bool false] fun l2 =>
      spec_isAcyclic_L0 l1 0 true l2 : Option AV) = some r) : spec_isAcyclic [.cell (.sl 3 l1)] = some r :=
  V_le (X := X_spec_isAcyclic) (n := 100000) (c := cOf Tryz.f71) (by kernel_rfl) Tryz.func71 (by kernel_rfl) (of_decide_eq_true (by kernel_rfl)) (Eq.trans (by kernel_rfl) h)
noncomputable def X_spec_validRegs : Ctx := { P := Tryz.prog, L := lay, F := sig.has, E := ext, fn := Tryz.f72, lv := [(0, [0, 3, 5])], jv := [], tp := [] }
noncomputable def spec_validRegs_L0 (l8 : List (List AC)) (n9 : Int) (n10 : Int) (n11 : Int) (l12 : List (List AC)) (l13 : List (List AC)) (l14 : List (List AC)) (n15 : Int) : Option AV := GL X_spec_validRegs 0 [(0, .v (.cell (.sl 3 l8))), (3, .box [.int n9, .int n10, .int n11, .sl 1 l12, .sl 1 l13, .sl 1 l14]), (5, .v (.cell (.int n15)))]
theorem spec_validRegs_L0_le {l8 : List (List AC)} {n9 : Int} {n10 : Int} {n11 : Int} {l12 : List (List AC)} {l13 : List (List AC)} {l14 : List (List AC)} {n15 : Int} {r : AV} (h : (
    bif (decide (n15 < ((l12.length : Nat) : Int))) then
        atR_ l12 n15 [.int 0] fun n16 =>
        callR (spec_inRange [.cell (.int n16), .cell (.int (-999)), .cell (.int 999)]) false [(false, [.bool false])] fun b17 =>
        bif (!b17) then
          callR (spec_isPointer [.cell (.int n16)]) false [(false, [.bool false])] fun b18 =>
          bif (!b18) then
            some (.v (.cell (.bool false)))
          else
            atR_ l13 n15 [.int 0] fun n19 =>
            callR (spec_inRange [.cell (.int n19), .cell (.int 0), .cell (.int 999999)]) false [(false, [.bool false])] fun b20 =>
            bif (!b20) then
              some (.v (.cell (.bool false)))
            else
              atR_ l13 n15 [.int 0] fun n21 =>
              bif (decide (n21 > 0)) then
                callR (spec_isLive [.cell (.sl 3 l8), .cell (.int n16)]) false [(false, [.bool false])] fun b22 =>
                bif (!b22) then
                  some (.v (.cell (.bool false)))
                else
                  spec_validRegs_L0 l8 n9 n10 n11 l12 l13 l14 (wrapI (n15 + 1))
              else
                spec_validRegs_L0 l8 n9 n10 n11 l12 l13 l14 (wrapI (n15 + 1))
        else
          atR_ l13 n15 [.int 0] fun n23 =>
          callR (spec_inRange [.cell (.int n23), .cell (.int 0), .cell (.int 999999)]) false [(false, [.bool false])] fun b24 =>
          bif (!b24) then
            some (.v (.cell (.bool false)))
          else
            atR_ l13 n15 [.int 0] fun n25 =>
            bif (decide (n25 > 0)) then
              callR (spec_isLive [.cell (.sl 3 l8), .cell (.int n16)]) false [(false, [.bool false])] fun b26 =>
              bif (!b26) then
                some (.v (.cell (.bool false)))
              else
                spec_validRegs_L0 l8 n9 n10 n11 l12 l13 l14 (wrapI (n15 + 1))
            else
              spec_validRegs_L0 l8 n9 n10 n11 l12 l13 l14 (wrapI (n15 + 1))
      else
        some (.v (.cell (.bool true))) : Option AV) = some r) : spec_validRegs_L0 l8 n9 n10 n11 l12 l13 l14 n15 = some r :=
  GL_le (X := X_spec_validRegs) (n := 100000) (by kernel_rfl) (by kernel_rfl : (X_spec_validRegs.fn.body.bind fun c => locL 0 c []) = some (.loop (loopOf (X_spec_validRegs.fn.body.bind fun c => locL 0 c [])), ksOf (X_spec_validRegs.fn.body.bind fun c => locL 0 c []))) (Eq.trans (by kernel_rfl) h)
theorem spec_validRegs_le {l1 : List (List AC)} {n2 : Int} {n3 : Int} {n4 : Int} {l5 : List (List AC)} {l6 : List (List AC)} {l7 : List (List AC)} {r : AV} (h : (
    spec_validRegs_L0 l1 n2 n3 n4 l5 l6 l7 0 : Option AV) = some r) : spec_validRegs [.cell (.sl 3 l1), .agg [.int n2, .int n3, .int n4, .sl 1 l5, .sl 1 l6, .sl 1 l7]] = some r :=
  V_le (X := X_spec_validRegs) (n := 100000) (c := cOf Tryz.f72) (by kernel_rfl) Tryz.func72 (by kernel_rfl) (of_decide_eq_true (by kernel_rfl)) (Eq.trans (by kernel_rfl) h)
noncomputable def X_spec_isPointer : Ctx := { P := Tryz.prog, L := lay, F := sig.has, E := ext, fn := Tryz.f73, lv := [], jv := [], tp := [] }
theorem spec_isPointer_le {n1 : Int} {r : AV} (h : (
    some (.v (.cell (.bool (decide (n1 ≥ 1000))))) : Option AV) = some r) : spec_isPointer [.cell (.int n1)] = some r :=
  V_le (X := X_spec_isPointer) (n := 100000) (c := cOf Tryz.f73) (by kernel_rfl) Tryz.func73 (by kernel_rfl) (of_decide_eq_true (by kernel_rfl)) (Eq.trans (by kernel_rfl) h)
noncomputable def X_spec_ownersOf : Ctx := { P := Tryz.prog, L := lay, F := sig.has, E := ext, fn := Tryz.f74, lv := [(0, [1, 3, 4, 10]), (2, [1, 3, 4, 5, 6, 10])], jv := [], tp := [] }
noncomputable def spec_ownersOf_L0 (n9 : Int) (n10 : Int) (n11 : Int) (n12 : Int) (l13 : List (List AC)) (l14 : List (List AC)) (l15 : List (List AC)) (n16 : Int) (l17 : List (List AC)) : Option AV := GL X_spec_ownersOf 0 [(1, .box [.int n9, .int n10, .int n11, .int n12, .sl 1 l13, .sl 3 l14, .sl 6 l15]), (3, .al 10), (4, .v (.cell (.int n16))), (10, .arr 1 l17)]
noncomputable def spec_ownersOf_L2 (n24 : Int) (n25 : Int) (n26 : Int) (n27 : Int) (l28 : List (List AC)) (l29 : List (List AC)) (l30 : List (List AC)) (n31 : Int) (n32 : Int) (n33 : Int) (n34 : Int) (l35 : List (List AC)) (l36 : List (List AC)) (l37 : List (List AC)) (n38 : Int) (l39 : List (List AC)) : Option AV := GL X_spec_ownersOf 2 [(1, .box [.int n24, .int n25, .int n26, .int n27, .sl 1 l28, .sl 3 l29, .sl 6 l30]), (3, .al 10), (4, .v (.cell (.int n31))), (5, .box [.int n32, .int n33, .int n34, .sl 1 l35, .sl 1 l36, .sl 1 l37]), (6, .v (.cell (.int n38))), (10, .arr 1 l39)]
theorem spec_ownersOf_L0_le {n9 : Int} {n10 : Int} {n11 : Int} {n12 : Int} {l13 : List (List AC)} {l14 : List (List AC)} {l15 : List (List AC)} {n16 : Int} {l17 : List (List AC)} {r : AV} (h : (
    bif (decide (n16 < ((l15.length : Nat) : Int))) then
        atR_ l15 n16 [.int 0, .int 0, .int 0, .sl 1 [], .sl 1 [], .sl 1 []] fun n18 n19 n20 l21 l22 l23 =>
        spec_ownersOf_L2 n9 n10 n11 n12 l13 l14 l15 n16 n18 n19 n20 l21 l22 l23 0 l17
      else
        some (.v (.cell (.sl 1 l17))) : Option AV) = some r) : spec_ownersOf_L0 n9 n10 n11 n12 l13 l14 l15 n16 l17 = some r :=
  GL_le (X := X_spec_ownersOf) (n := 100000) (by kernel_rfl) (by kernel_rfl : (X_spec_ownersOf.fn.body.bind fun c => locL 0 c []) = some (.loop (loopOf (X_spec_ownersOf.fn.body.bind fun c => locL 0 c [])), ksOf (X_spec_ownersOf.fn.body.bind fun c => locL 0 c []))) (Eq.trans (by kernel_rfl) h)
theorem spec_ownersOf_L2_le {n24 : Int} {n25 : Int} {n26 : Int} {n27 : Int} {l28 : List (List AC)} {l29 : List (List AC)} {l30 : List (List AC)} {n31 : Int} {n32 : Int} {n33 : Int} {n34 : Int} {l35 : List (List AC)} {l36 : List (List AC)} {l37 : List (List AC)} {n38 : Int} {l39 : List (List AC)} {r : AV} (h : (
    bif (decide (n38 < ((l36.length : Nat) : Int))) then
        atR_ l36 n38 [.int 0] fun n40 =>
        bif (decide (n40 > 0)) then
          atR_ l35 n38 [.int 0] fun n41 =>
          atR_ l35 n38 [.int 0] fun n42 =>
          atR_ l39 (wrapI (n42 - 1000)) [.int 0] fun n43 =>
          atR_ l36 n38 [.int 0] fun n44 =>
          idxR l39 (wrapI (n41 - 1000)) fun m45 =>
          setR l39 m45 0 [.int (wrapI (n43 + n44))] fun l46 =>
          spec_ownersOf_L2 n24 n25 n26 n27 l28 l29 l30 n31 n32 n33 n34 l35 l36 l37 (wrapI (n38 + 1)) l46
        else
          spec_ownersOf_L2 n24 n25 n26 n27 l28 l29 l30 n31 n32 n33 n34 l35 l36 l37 (wrapI (n38 + 1)) l39
      else
        spec_ownersOf_L0 n24 n25 n26 n27 l28 l29 l30 (wrapI (n31 + 1)) l39 : Option AV) = some r) : spec_ownersOf_L2 n24 n25 n26 n27 l28 l29 l30 n31 n32 n33 n34 l35 l36 l37 n38 l39 = some r :=
  GL_le (X := X_spec_ownersOf) (n := 100000) (by kernel_rfl) (by kernel_rfl : (X_spec_ownersOf.fn.body.bind fun c => locL 2 c []) = some (.loop (loopOf (X_spec_ownersOf.fn.body.bind fun c => locL 2 c [])), ksOf (X_spec_ownersOf.fn.body.bind fun c => locL 2 c []))) (Eq.trans (by kernel_rfl) h)
theorem spec_ownersOf_le {n1 : Int} {n2 : Int} {n3 : Int} {n4 : Int} {l5 : List (List AC)} {l6 : List (List AC)} {l7 : List (List AC)} {r : AV} (h : (
    repR ((l6.length : Nat) : Int) ((l6.length : Nat) : Int) [.int 0] fun l8 =>
      spec_ownersOf_L0 n1 n2 n3 n4 l5 l6 l7 0 l8 : Option AV) = some r) : spec_ownersOf [.agg [.int n1, .int n2, .int n3, .int n4, .sl 1 l5, .sl 3 l6, .sl 6 l7]] = some r :=
  V_le (X := X_spec_ownersOf) (n := 100000) (c := cOf Tryz.f74) (by kernel_rfl) Tryz.func74 (by kernel_rfl) (of_decide_eq_true (by kernel_rfl)) (Eq.trans (by kernel_rfl) h)
noncomputable def X_impl_ValidSigs : Ctx := { P := Tryz.prog, L := lay, F := sig.has, E := ext, fn := Tryz.f77, lv := [(0, [1, 22, 23, 24])], jv := [], tp := [] }
noncomputable def impl_ValidSigs_L0 (l4 : List (List AC)) (l5 : List (List AC)) (l6 : List (List AC)) (n7 : Int) (n8 : Int) : Option AV := GL X_impl_ValidSigs 0 [(1, .box [.sl 3 l4, .sl 5 l5]), (22, .v (.cell (.sl 5 l6))), (23, .v (.cell (.int n7))), (24, .v (.cell (.int n8)))]
theorem impl_ValidSigs_L0_le {l4 : List (List AC)} {l5 : List (List AC)} {l6 : List (List AC)} {n7 : Int} {n8 : Int} {r : AV} (h : (
    bif (decide (n8 < n7)) then
        atR_ l6 n8 [.sl 1 [], .int 0, .int 0, .int 0, .sl 3 []] fun l9 n10 n11 n12 l13 =>
        callR (impl_validSig [.cell (.sl 3 l4), .cell (.sl 1 l9), .cell (.int n10)]) false [(false, [.bool false])] fun b14 =>
        bif (!b14) then
          some (.v (.cell (.bool false)))
        else
          impl_ValidSigs_L0 l4 l5 l6 n7 (wrapI (n8 + 1))
      else
        atR_ l5 0 [.sl 1 [], .int 0, .int 0, .int 0, .sl 3 []] fun l15 n16 n17 n18 l19 =>
        bif (((l15.length : Nat) : Int) == 0) then
          atR_ l5 0 [.sl 1 [], .int 0, .int 0, .int 0, .sl 3 []] fun l20 n21 n22 n23 l24 =>
          some (.v (.cell (.bool (n21 == 0))))
        else
          some (.v (.cell (.bool false))) : Option AV) = some r) : impl_ValidSigs_L0 l4 l5 l6 n7 n8 = some r :=
  GL_le (X := X_impl_ValidSigs) (n := 100000) (by kernel_rfl) (by kernel_rfl : (X_impl_ValidSigs.fn.body.bind fun c => locL 0 c []) = some (.loop (loopOf (X_impl_ValidSigs.fn.body.bind fun c => locL 0 c [])), ksOf (X_impl_ValidSigs.fn.body.bind fun c => locL 0 c []))) (Eq.trans (by kernel_rfl) h)
theorem impl_ValidSigs_le {l1 : List (List AC)} {l2 : List (List AC)} {r : AV} (h : (
    callR (impl_ValidTypes [.cell (.sl 3 l1)]) false [(false, [.bool false])] fun b3 =>
      bif (!b3) then
        some (.v (.cell (.bool false)))
      else
        bif (decide (((l2.length : Nat) : Int) < 1)) then
          some (.v (.cell (.bool false)))
        else
          bif (decide (((l2.length : Nat) : Int) > 4)) then
            some (.v (.cell (.bool false)))
          else
            impl_ValidSigs_L0 l1 l2 l2 ((l2.length : Nat) : Int) 0 : Option AV) = some r) : impl_ValidSigs [.agg [.sl 3 l1, .sl 5 l2]] = some r :=
  V_le (X := X_impl_ValidSigs) (n := 100000) (c := cOf Tryz.f77) (by kernel_rfl) Tryz.func77 (by kernel_rfl) (of_decide_eq_true (by kernel_rfl)) (Eq.trans (by kernel_rfl) h)
noncomputable def X_impl_sigsOf : Ctx := { P := Tryz.prog, L := lay, F := sig.has, E := ext, fn := Tryz.f78, lv := [(0, [2, 3, 10, 11, 12])], jv := [], tp := [] }
noncomputable def impl_sigsOf_L0 (l3 : List (List AC)) (l4 : List (List AC)) (l5 : List (List AC)) (l6 : List (List AC)) (l7 : List (List AC)) (n8 : Int) (n9 : Int) : Option AV := GL X_impl_sigsOf 0 [(2, .box [.sl 3 l3, .sl 5 l4]), (3, .box [.sl 3 l5, .sl 5 l6]), (10, .v (.cell (.sl 5 l7))), (11, .v (.cell (.int n8))), (12, .v (.cell (.int n9)))]
theorem impl_sigsOf_L0_le {l3 : List (List AC)} {l4 : List (List AC)} {l5 : List (List AC)} {l6 : List (List AC)} {l7 : List (List AC)} {n8 : Int} {n9 : Int} {r : AV} (h : (
    bif (decide (n9 < n8)) then
        atR_ l7 n9 [.sl 1 [], .sl 1 [], .int 0, .sl 5 [], .int 0] fun l10 l11 n12 l13 n14 =>
        appR l6 [[.sl 1 l10, .int n12, .int 0, .int 0, .sl 3 []]] fun l15 =>
        impl_sigsOf_L0 l3 l4 l5 l15 l7 n8 (wrapI (n9 + 1))
      else
        some (.v (.agg [.sl 3 l5, .sl 5 l6])) : Option AV) = some r) : impl_sigsOf_L0 l3 l4 l5 l6 l7 n8 n9 = some r :=
  GL_le (X := X_impl_sigsOf) (n := 100000) (by kernel_rfl) (by kernel_rfl : (X_impl_sigsOf.fn.body.bind fun c => locL 0 c []) = some (.loop (loopOf (X_impl_sigsOf.fn.body.bind fun c => locL 0 c [])), ksOf (X_impl_sigsOf.fn.body.bind fun c => locL 0 c []))) (Eq.trans (by kernel_rfl) h)
theorem impl_sigsOf_le {l1 : List (List AC)} {l2 : List (List AC)} {r : AV} (h : (
    impl_sigsOf_L0 [] [] l1 [] l2 ((l2.length : Nat) : Int) 0 : Option AV) = some r) : impl_sigsOf [.agg [.sl 3 l1, .sl 5 l2]] = some r :=
  V_le (X := X_impl_sigsOf) (n := 100000) (c := cOf Tryz.f78) (by kernel_rfl) Tryz.func78 (by kernel_rfl) (of_decide_eq_true (by kernel_rfl)) (Eq.trans (by kernel_rfl) h)
noncomputable def X_impl_validLent : Ctx := { P := Tryz.prog, L := lay, F := sig.has, E := ext, fn := Tryz.f79, lv := [(0, [1, 3, 7, 8, 9])], jv := [], tp := [] }
noncomputable def impl_validLent_L0 (l6 : List (List AC)) (l7 : List (List AC)) (n8 : Int) (l9 : List (List AC)) (n10 : Int) (n11 : Int) (l12 : List (List AC)) (n13 : Int) (n14 : Int) : Option AV := GL X_impl_validLent 0 [(1, .box [.sl 1 l6, .sl 1 l7, .int n8, .sl 5 l9, .int n10]), (3, .v (.cell (.int n11))), (7, .v (.cell (.sl 1 l12))), (8, .v (.cell (.int n13))), (9, .v (.cell (.int n14)))]
theorem impl_validLent_L0_le {l6 : List (List AC)} {l7 : List (List AC)} {n8 : Int} {l9 : List (List AC)} {n10 : Int} {n11 : Int} {l12 : List (List AC)} {n13 : Int} {n14 : Int} {r : AV} (h : (
    bif (decide (n14 < n13)) then
        atR_ l12 n14 [.int 0] fun n15 =>
        bif (decide (n15 ≤ n11)) then
          some (.v (.cell (.bool false)))
        else
          bif (decide (n15 ≥ ((l6.length : Nat) : Int))) then
            some (.v (.cell (.bool false)))
          else
            atR_ l6 n15 [.int 0] fun n16 =>
            bif (n16 == 0) then
              some (.v (.cell (.bool false)))
            else
              impl_validLent_L0 l6 l7 n8 l9 n10 n15 l12 n13 (wrapI (n14 + 1))
      else
        some (.v (.cell (.bool true))) : Option AV) = some r) : impl_validLent_L0 l6 l7 n8 l9 n10 n11 l12 n13 n14 = some r :=
  GL_le (X := X_impl_validLent) (n := 100000) (by kernel_rfl) (by kernel_rfl : (X_impl_validLent.fn.body.bind fun c => locL 0 c []) = some (.loop (loopOf (X_impl_validLent.fn.body.bind fun c => locL 0 c [])), ksOf (X_impl_validLent.fn.body.bind fun c => locL 0 c []))) (Eq.trans (by kernel_rfl) h)
theorem impl_validLent_le {l1 : List (List AC)} {l2 : List (List AC)} {n3 : Int} {l4 : List (List AC)} {n5 : Int} {r : AV} (h : (
    impl_validLent_L0 l1 l2 n3 l4 n5 (-1) l2 ((l2.length : Nat) : Int) 0 : Option AV) = some r) : impl_validLent [.agg [.sl 1 l1, .sl 1 l2, .int n3, .sl 5 l4, .int n5]] = some r :=
  V_le (X := X_impl_validLent) (n := 100000) (c := cOf Tryz.f79) (by kernel_rfl) Tryz.func79 (by kernel_rfl) (of_decide_eq_true (by kernel_rfl)) (Eq.trans (by kernel_rfl) h)
noncomputable def X_impl_validInstr : Ctx := { P := Tryz.prog, L := lay, F := sig.has, E := ext, fn := Tryz.f80, lv := [], jv := [], tp := [] }
theorem impl_validInstr_le {l1 : List (List AC)} {l2 : List (List AC)} {l3 : List (List AC)} {l4 : List (List AC)} {n5 : Int} {n6 : Int} {l7 : List (List AC)} {n8 : Int} {r : AV} (h : (
    atR_ l7 n8 [.int 0, .int 0, .int 0, .int 0, .sl 1 [], .sl 1 []] fun n9 n10 n11 n12 l13 l14 =>
      callR (impl_isInstr [.cell (.int n9)]) false [(false, [.bool false])] fun b15 =>
      bif b15 then
        callR (impl_validNum [.agg [.sl 3 l1, .sl 5 l2], .agg [.sl 1 l3, .sl 1 l4, .int n5, .int n6, .sl 6 l7], .cell (.int n8)]) false [(false, [.bool false])] fun b16 =>
        bif b16 then
          callR (impl_validArgs [.agg [.sl 3 l1, .sl 5 l2], .agg [.int n9, .int n10, .int n11, .int n12, .sl 1 l13, .sl 1 l14]]) false [(false, [.bool false])] fun b17 =>
          bif b17 then
            callR (impl_validJumps [.agg [.sl 3 l1, .sl 5 l2], .agg [.sl 1 l3, .sl 1 l4, .int n5, .int n6, .sl 6 l7], .cell (.int n8)]) false [(false, [.bool false])] fun b18 =>
            bif b18 then
              callR (impl_validRegs [.cell (.int n6), .agg [.int n9, .int n10, .int n11, .int n12, .sl 1 l13, .sl 1 l14]]) false [(false, [.bool false])] fun b19 =>
              some (.v (.cell (.bool b19)))
            else
              some (.v (.cell (.bool false)))
          else
            some (.v (.cell (.bool false)))
        else
          some (.v (.cell (.bool false)))
      else
        some (.v (.cell (.bool false))) : Option AV) = some r) : impl_validInstr [.agg [.sl 3 l1, .sl 5 l2], .agg [.sl 1 l3, .sl 1 l4, .int n5, .int n6, .sl 6 l7], .cell (.int n8)] = some r :=
  V_le (X := X_impl_validInstr) (n := 100000) (c := cOf Tryz.f80) (by kernel_rfl) Tryz.func80 (by kernel_rfl) (of_decide_eq_true (by kernel_rfl)) (Eq.trans (by kernel_rfl) h)
noncomputable def X_impl_leavesFrame : Ctx := { P := Tryz.prog, L := lay, F := sig.has, E := ext, fn := Tryz.f81, lv := [], jv := [], tp := [] }
theorem impl_leavesFrame_le {n1 : Int} {r : AV} (h : (
    bif (n1 == 23) then
        some (.v (.cell (.bool true)))
      else
        some (.v (.cell (.bool (n1 == 24)))) : Option AV) = some r) : impl_leavesFrame [.cell (.int n1)] = some r :=
  V_le (X := X_impl_leavesFrame) (n := 100000) (c := cOf Tryz.f81) (by kernel_rfl) Tryz.func81 (by kernel_rfl) (of_decide_eq_true (by kernel_rfl)) (Eq.trans (by kernel_rfl) h)
noncomputable def X_impl_allIn : Ctx := { P := Tryz.prog, L := lay, F := sig.has, E := ext, fn := Tryz.f82, lv := [(0, [1, 7, 8, 9])], jv := [], tp := [] }
noncomputable def impl_allIn_L0 (l3 : List (List AC)) (l4 : List (List AC)) (n5 : Int) (n6 : Int) : Option AV := GL X_impl_allIn 0 [(1, .v (.cell (.sl 1 l3))), (7, .v (.cell (.sl 1 l4))), (8, .v (.cell (.int n5))), (9, .v (.cell (.int n6)))]
theorem impl_allIn_L0_le {l3 : List (List AC)} {l4 : List (List AC)} {n5 : Int} {n6 : Int} {r : AV} (h : (
    bif (decide (n6 < n5)) then
        atR_ l4 n6 [.int 0] fun n7 =>
        callR (impl_hasInt [.cell (.sl 1 l3), .cell (.int n7)]) false [(false, [.bool false])] fun b8 =>
        bif (!b8) then
          some (.v (.cell (.bool false)))
        else
          impl_allIn_L0 l3 l4 n5 (wrapI (n6 + 1))
      else
        some (.v (.cell (.bool true))) : Option AV) = some r) : impl_allIn_L0 l3 l4 n5 n6 = some r :=
  GL_le (X := X_impl_allIn) (n := 100000) (by kernel_rfl) (by kernel_rfl : (X_impl_allIn.fn.body.bind fun c => locL 0 c []) = some (.loop (loopOf (X_impl_allIn.fn.body.bind fun c => locL 0 c [])), ksOf (X_impl_allIn.fn.body.bind fun c => locL 0 c []))) (Eq.trans (by kernel_rfl) h)
theorem impl_allIn_le {l1 : List (List AC)} {l2 : List (List AC)} {r : AV} (h : (
    impl_allIn_L0 l2 l1 ((l1.length : Nat) : Int) 0 : Option AV) = some r) : impl_allIn [.cell (.sl 1 l1), .cell (.sl 1 l2)] = some r :=
  V_le (X := X_impl_allIn) (n := 100000) (c := cOf Tryz.f82) (by kernel_rfl) Tryz.func82 (by kernel_rfl) (of_decide_eq_true (by kernel_rfl)) (Eq.trans (by kernel_rfl) h)
noncomputable def X_impl_areWords : Ctx := { P := Tryz.prog, L := lay, F := sig.has, E := ext, fn := Tryz.f83, lv := [(0, [0, 7, 8, 9])], jv := [], tp := [] }
noncomputable def impl_areWords_L0 (l3 : List (List AC)) (l4 : List (List AC)) (n5 : Int) (n6 : Int) : Option AV := GL X_impl_areWords 0 [(0, .v (.cell (.sl 3 l3))), (7, .v (.cell (.sl 1 l4))), (8, .v (.cell (.int n5))), (9, .v (.cell (.int n6)))]
theorem impl_areWords_L0_le {l3 : List (List AC)} {l4 : List (List AC)} {n5 : Int} {n6 : Int} {r : AV} (h : (
    bif (decide (n6 < n5)) then
        atR_ l4 n6 [.int 0] fun n7 =>
        callR (impl_isWord [.cell (.sl 3 l3), .cell (.int n7)]) false [(false, [.bool false])] fun b8 =>
        bif (!b8) then
          some (.v (.cell (.bool false)))
        else
          impl_areWords_L0 l3 l4 n5 (wrapI (n6 + 1))
      else
        some (.v (.cell (.bool true))) : Option AV) = some r) : impl_areWords_L0 l3 l4 n5 n6 = some r :=
  GL_le (X := X_impl_areWords) (n := 100000) (by kernel_rfl) (by kernel_rfl : (X_impl_areWords.fn.body.bind fun c => locL 0 c []) = some (.loop (loopOf (X_impl_areWords.fn.body.bind fun c => locL 0 c [])), ksOf (X_impl_areWords.fn.body.bind fun c => locL 0 c []))) (Eq.trans (by kernel_rfl) h)
theorem impl_areWords_le {l1 : List (List AC)} {l2 : List (List AC)} {r : AV} (h : (
    impl_areWords_L0 l1 l2 ((l2.length : Nat) : Int) 0 : Option AV) = some r) : impl_areWords [.cell (.sl 3 l1), .cell (.sl 1 l2)] = some r :=
  V_le (X := X_impl_areWords) (n := 100000) (c := cOf Tryz.f83) (by kernel_rfl) Tryz.func83 (by kernel_rfl) (of_decide_eq_true (by kernel_rfl)) (Eq.trans (by kernel_rfl) h)
noncomputable def X_impl_copyInts : Ctx := { P := Tryz.prog, L := lay, F := sig.has, E := ext, fn := Tryz.f84, lv := [(0, [3, 6, 7, 8])], jv := [], tp := [] }
noncomputable def impl_copyInts_L0 (l2 : List (List AC)) (l3 : List (List AC)) (n4 : Int) (n5 : Int) : Option AV := GL X_impl_copyInts 0 [(3, .v (.cell (.sl 1 l2))), (6, .v (.cell (.sl 1 l3))), (7, .v (.cell (.int n4))), (8, .v (.cell (.int n5)))]
theorem impl_copyInts_L0_le {l2 : List (List AC)} {l3 : List (List AC)} {n4 : Int} {n5 : Int} {r : AV} (h : (
    bif (decide (n5 < n4)) then
        atR_ l3 n5 [.int 0] fun n6 =>
        appR l2 [[.int n6]] fun l7 =>
        impl_copyInts_L0 l7 l3 n4 (wrapI (n5 + 1))
      else
        some (.v (.cell (.sl 1 l2))) : Option AV) = some r) : impl_copyInts_L0 l2 l3 n4 n5 = some r :=
  GL_le (X := X_impl_copyInts) (n := 100000) (by kernel_rfl) (by kernel_rfl : (X_impl_copyInts.fn.body.bind fun c => locL 0 c []) = some (.loop (loopOf (X_impl_copyInts.fn.body.bind fun c => locL 0 c [])), ksOf (X_impl_copyInts.fn.body.bind fun c => locL 0 c []))) (Eq.trans (by kernel_rfl) h)
theorem impl_copyInts_le {l1 : List (List AC)} {r : AV} (h : (
    impl_copyInts_L0 [] l1 ((l1.length : Nat) : Int) 0 : Option AV) = some r) : impl_copyInts [.cell (.sl 1 l1)] = some r :=
  V_le (X := X_impl_copyInts) (n := 100000) (c := cOf Tryz.f84) (by kernel_rfl) Tryz.func84 (by kernel_rfl) (of_decide_eq_true (by kernel_rfl)) (Eq.trans (by kernel_rfl) h)
noncomputable def X_impl_hasProc : Ctx := { P := Tryz.prog, L := lay, F := sig.has, E := ext, fn := Tryz.f85, lv := [], jv := [], tp := [] }
theorem impl_hasProc_le {l1 : List (List AC)} {l2 : List (List AC)} {n3 : Int} {r : AV} (h : (
    bif (decide (n3 ≥ 0)) then
        some (.v (.cell (.bool (decide (n3 < ((l2.length : Nat) : Int))))))
      else
        some (.v (.cell (.bool false))) : Option AV) = some r) : impl_hasProc [.agg [.sl 3 l1, .sl 5 l2], .cell (.int n3)] = some r :=
  V_le (X := X_impl_hasProc) (n := 100000) (c := cOf Tryz.f85) (by kernel_rfl) Tryz.func85 (by kernel_rfl) (of_decide_eq_true (by kernel_rfl)) (Eq.trans (by kernel_rfl) h)
noncomputable def X_impl_validReg : Ctx := { P := Tryz.prog, L := lay, F := sig.has, E := ext, fn := Tryz.f86, lv := [], jv := [], tp := [] }
theorem impl_validReg_le {l1 : List (List AC)} {n2 : Int} {n3 : Int} {r : AV} (h : (
    callR (impl_inInts [.cell (.int n2)]) false [(false, [.bool false])] fun b4 =>
      bif (!b4) then
        bif (decide (n2 < 1000)) then
          some (.v (.cell (.bool false)))
        else
          bif (n3 == 0) then
            some (.v (.cell (.bool true)))
          else
            bif (decide (n3 > 0)) then
              bif (decide (n3 ≤ 999999)) then
                callR (impl_cellOfWord [.cell (.int n2)]) false [(false, [.int 0])] fun n5 =>
                callR (impl_isLive [.cell (.sl 3 l1), .cell (.int n5)]) false [(false, [.bool false])] fun b6 =>
                some (.v (.cell (.bool b6)))
              else
                some (.v (.cell (.bool false)))
            else
              some (.v (.cell (.bool false)))
      else
        bif (n3 == 0) then
          some (.v (.cell (.bool true)))
        else
          bif (decide (n3 > 0)) then
            bif (decide (n3 ≤ 999999)) then
              callR (impl_cellOfWord [.cell (.int n2)]) false [(false, [.int 0])] fun n7 =>
              callR (impl_isLive [.cell (.sl 3 l1), .cell (.int n7)]) false [(false, [.bool false])] fun b8 =>
              some (.v (.cell (.bool b8)))
            else
              some (.v (.cell (.bool false)))
          else
            some (.v (.cell (.bool false))) : Option AV) = some r) : impl_validReg [.cell (.sl 3 l1), .cell (.int n2), .cell (.int n3)] = some r :=
  V_le (X := X_impl_validReg) (n := 100000) (c := cOf Tryz.f86) (by kernel_rfl) Tryz.func86 (by kernel_rfl) (of_decide_eq_true (by kernel_rfl)) (Eq.trans (by kernel_rfl) h)
noncomputable def X_impl_isKept : Ctx := { P := Tryz.prog, L := lay, F := sig.has, E := ext, fn := Tryz.f87, lv := [], jv := [], tp := [] }
theorem impl_isKept_le {l1 : List (List AC)} {n2 : Int} {r : AV} (h : (
    bif (decide (n2 ≥ 0)) then
        bif (decide (n2 < ((l1.length : Nat) : Int))) then
          atR_ l1 n2 [.int 0, .int 0, .sl 1 []] fun n3 n4 l5 =>
          some (.v (.cell (.bool (decide (n3 < 0)))))
        else
          some (.v (.cell (.bool false)))
      else
        some (.v (.cell (.bool false))) : Option AV) = some r) : impl_isKept [.cell (.sl 3 l1), .cell (.int n2)] = some r :=
  V_le (X := X_impl_isKept) (n := 100000) (c := cOf Tryz.f87) (by kernel_rfl) Tryz.func87 (by kernel_rfl) (of_decide_eq_true (by kernel_rfl)) (Eq.trans (by kernel_rfl) h)
noncomputable def X_laws_eqConS : Ctx := { P := Tryz.prog, L := lay, F := sig.has, E := ext, fn := Tryz.f88, lv := [(0, [0, 1, 5])], jv := [], tp := [] }
noncomputable def laws_eqConS_L0 (l3 : List (List AC)) (l4 : List (List AC)) (n5 : Int) : Option AV := GL X_laws_eqConS 0 [(0, .v (.cell (.sl 1 l3))), (1, .v (.cell (.sl 1 l4))), (5, .v (.cell (.int n5)))]
theorem laws_eqConS_L0_le {l3 : List (List AC)} {l4 : List (List AC)} {n5 : Int} {r : AV} (h : (
    bif (decide (n5 < ((l3.length : Nat) : Int))) then
        atR_ l3 n5 [.sl 1 []] fun l6 =>
        atR_ l4 n5 [.sl 1 []] fun l7 =>
        callR (laws_eqCon [.agg [.sl 1 l6], .agg [.sl 1 l7]]) false [(false, [.bool false])] fun b8 =>
        bif (!b8) then
          some (.v (.cell (.bool false)))
        else
          laws_eqConS_L0 l3 l4 (wrapI (n5 + 1))
      else
        some (.v (.cell (.bool true))) : Option AV) = some r) : laws_eqConS_L0 l3 l4 n5 = some r :=
  GL_le (X := X_laws_eqConS) (n := 100000) (by kernel_rfl) (by kernel_rfl : (X_laws_eqConS.fn.body.bind fun c => locL 0 c []) = some (.loop (loopOf (X_laws_eqConS.fn.body.bind fun c => locL 0 c [])), ksOf (X_laws_eqConS.fn.body.bind fun c => locL 0 c []))) (Eq.trans (by kernel_rfl) h)
theorem laws_eqConS_le {l1 : List (List AC)} {l2 : List (List AC)} {r : AV} (h : (
    bif (((l1.length : Nat) : Int) != ((l2.length : Nat) : Int)) then
        some (.v (.cell (.bool false)))
      else
        laws_eqConS_L0 l1 l2 0 : Option AV) = some r) : laws_eqConS [.cell (.sl 1 l1), .cell (.sl 1 l2)] = some r :=
  V_le (X := X_laws_eqConS) (n := 100000) (c := cOf Tryz.f88) (by kernel_rfl) Tryz.func88 (by kernel_rfl) (of_decide_eq_true (by kernel_rfl)) (Eq.trans (by kernel_rfl) h)
noncomputable def X_laws_eqInstrS : Ctx := { P := Tryz.prog, L := lay, F := sig.has, E := ext, fn := Tryz.f89, lv := [(0, [0, 1, 5])], jv := [], tp := [] }
noncomputable def laws_eqInstrS_L0 (l3 : List (List AC)) (l4 : List (List AC)) (n5 : Int) : Option AV := GL X_laws_eqInstrS 0 [(0, .v (.cell (.sl 6 l3))), (1, .v (.cell (.sl 6 l4))), (5, .v (.cell (.int n5)))]
theorem laws_eqInstrS_L0_le {l3 : List (List AC)} {l4 : List (List AC)} {n5 : Int} {r : AV} (h : (
    bif (decide (n5 < ((l3.length : Nat) : Int))) then
        atR_ l3 n5 [.int 0, .int 0, .int 0, .int 0, .sl 1 [], .sl 1 []] fun n6 n7 n8 n9 l10 l11 =>
        atR_ l4 n5 [.int 0, .int 0, .int 0, .int 0, .sl 1 [], .sl 1 []] fun n12 n13 n14 n15 l16 l17 =>
        callR (laws_eqInstr [.agg [.int n6, .int n7, .int n8, .int n9, .sl 1 l10, .sl 1 l11], .agg [.int n12, .int n13, .int n14, .int n15, .sl 1 l16, .sl 1 l17]]) false [(false, [.bool false])] fun b18 =>
        bif (!b18) then
          some (.v (.cell (.bool false)))
        else
          laws_eqInstrS_L0 l3 l4 (wrapI (n5 + 1))
      else
        some (.v (.cell (.bool true))) : Option AV) = some r) : laws_eqInstrS_L0 l3 l4 n5 = some r :=
  GL_le (X := X_laws_eqInstrS) (n := 100000) (by kernel_rfl) (by kernel_rfl : (X_laws_eqInstrS.fn.body.bind fun c => locL 0 c []) = some (.loop (loopOf (X_laws_eqInstrS.fn.body.bind fun c => locL 0 c [])), ksOf (X_laws_eqInstrS.fn.body.bind fun c => locL 0 c []))) (Eq.trans (by kernel_rfl) h)
theorem laws_eqInstrS_le {l1 : List (List AC)} {l2 : List (List AC)} {r : AV} (h : (
    bif (((l1.length : Nat) : Int) != ((l2.length : Nat) : Int)) then
        some (.v (.cell (.bool false)))
      else
        laws_eqInstrS_L0 l1 l2 0 : Option AV) = some r) : laws_eqInstrS [.cell (.sl 6 l1), .cell (.sl 6 l2)] = some r :=
  V_le (X := X_laws_eqInstrS) (n := 100000) (c := cOf Tryz.f89) (by kernel_rfl) Tryz.func89 (by kernel_rfl) (of_decide_eq_true (by kernel_rfl)) (Eq.trans (by kernel_rfl) h)
noncomputable def X_laws_szCon : Ctx := { P := Tryz.prog, L := lay, F := sig.has, E := ext, fn := Tryz.f90, lv := [], jv := [], tp := [] }
theorem laws_szCon_le {l1 : List (List AC)} {n2 : Int} {r : AV} (h : (
    callR (laws_szIntS [.cell (.sl 1 l1), .cell (.int n2)]) false [(false, [.int 0])] fun n3 =>
      bif (decide (n3 < 0)) then
        some (.v (.cell (.int (-1))))
      else
        some (.v (.cell (.int n3))) : Option AV) = some r) : laws_szCon [.agg [.sl 1 l1], .cell (.int n2)] = some r :=
  V_le (X := X_laws_szCon) (n := 100000) (c := cOf Tryz.f90) (by kernel_rfl) Tryz.func90 (by kernel_rfl) (of_decide_eq_true (by kernel_rfl)) (Eq.trans (by kernel_rfl) h)
noncomputable def X_laws_szInstr : Ctx := { P := Tryz.prog, L := lay, F := sig.has, E := ext, fn := Tryz.f91, lv := [], jv := [], tp := [] }
theorem laws_szInstr_le {n1 : Int} {n2 : Int} {n3 : Int} {n4 : Int} {l5 : List (List AC)} {l6 : List (List AC)} {n7 : Int} {r : AV} (h : (
    callR (laws_szIntS [.cell (.sl 1 l5), .cell (.int n7)]) false [(false, [.int 0])] fun n8 =>
      bif (decide (n8 < 0)) then
        some (.v (.cell (.int (-1))))
      else
        callR (laws_szIntS [.cell (.sl 1 l6), .cell (.int n8)]) false [(false, [.int 0])] fun n9 =>
        bif (decide (n9 < 0)) then
          some (.v (.cell (.int (-1))))
        else
          some (.v (.cell (.int n9))) : Option AV) = some r) : laws_szInstr [.agg [.int n1, .int n2, .int n3, .int n4, .sl 1 l5, .sl 1 l6], .cell (.int n7)] = some r :=
  V_le (X := X_laws_szInstr) (n := 100000) (c := cOf Tryz.f91) (by kernel_rfl) Tryz.func91 (by kernel_rfl) (of_decide_eq_true (by kernel_rfl)) (Eq.trans (by kernel_rfl) h)
noncomputable def X_spec_validTypes : Ctx := { P := Tryz.prog, L := lay, F := sig.has, E := ext, fn := Tryz.f92, lv := [(0, [0, 3])], jv := [], tp := [] }
noncomputable def spec_validTypes_L0 (l2 : List (List AC)) (n3 : Int) : Option AV := GL X_spec_validTypes 0 [(0, .v (.cell (.sl 3 l2))), (3, .v (.cell (.int n3)))]
theorem spec_validTypes_L0_le {l2 : List (List AC)} {n3 : Int} {r : AV} (h : (
    bif (decide (n3 < ((l2.length : Nat) : Int))) then
        callR (spec_validDecl [.cell (.sl 3 l2), .cell (.int n3)]) false [(false, [.bool false])] fun b4 =>
        bif (!b4) then
          some (.v (.cell (.bool false)))
        else
          spec_validTypes_L0 l2 (wrapI (n3 + 1))
      else
        some (.v (.cell (.bool true))) : Option AV) = some r) : spec_validTypes_L0 l2 n3 = some r :=
  GL_le (X := X_spec_validTypes) (n := 100000) (by kernel_rfl) (by kernel_rfl : (X_spec_validTypes.fn.body.bind fun c => locL 0 c []) = some (.loop (loopOf (X_spec_validTypes.fn.body.bind fun c => locL 0 c [])), ksOf (X_spec_validTypes.fn.body.bind fun c => locL 0 c []))) (Eq.trans (by kernel_rfl) h)
theorem spec_validTypes_le {l1 : List (List AC)} {r : AV} (h : (
    bif (decide (((l1.length : Nat) : Int) > 4)) then
        some (.v (.cell (.bool false)))
      else
        spec_validTypes_L0 l1 0 : Option AV) = some r) : spec_validTypes [.cell (.sl 3 l1)] = some r :=
  V_le (X := X_spec_validTypes) (n := 100000) (c := cOf Tryz.f92) (by kernel_rfl) Tryz.func92 (by kernel_rfl) (of_decide_eq_true (by kernel_rfl)) (Eq.trans (by kernel_rfl) h)
noncomputable def X_spec_allTypes : Ctx := { P := Tryz.prog, L := lay, F := sig.has, E := ext, fn := Tryz.f93, lv := [(0, [0, 1, 5])], jv := [], tp := [] }
noncomputable def spec_allTypes_L0 (l3 : List (List AC)) (l4 : List (List AC)) (n5 : Int) : Option AV := GL X_spec_allTypes 0 [(0, .v (.cell (.sl 3 l3))), (1, .v (.cell (.sl 1 l4))), (5, .v (.cell (.int n5)))]
theorem spec_allTypes_L0_le {l3 : List (List AC)} {l4 : List (List AC)} {n5 : Int} {r : AV} (h : (
    bif (decide (n5 < ((l4.length : Nat) : Int))) then
        atR_ l4 n5 [.int 0] fun n6 =>
        callR (spec_inRange [.cell (.int n6), .cell (.int 0), .cell (.int ((l3.length : Nat) : Int))]) false [(false, [.bool false])] fun b7 =>
        bif (!b7) then
          some (.v (.cell (.bool false)))
        else
          spec_allTypes_L0 l3 l4 (wrapI (n5 + 1))
      else
        some (.v (.cell (.bool true))) : Option AV) = some r) : spec_allTypes_L0 l3 l4 n5 = some r :=
  GL_le (X := X_spec_allTypes) (n := 100000) (by kernel_rfl) (by kernel_rfl : (X_spec_allTypes.fn.body.bind fun c => locL 0 c []) = some (.loop (loopOf (X_spec_allTypes.fn.body.bind fun c => locL 0 c [])), ksOf (X_spec_allTypes.fn.body.bind fun c => locL 0 c []))) (Eq.trans (by kernel_rfl) h)
theorem spec_allTypes_le {l1 : List (List AC)} {l2 : List (List AC)} {r : AV} (h : (
    spec_allTypes_L0 l1 l2 0 : Option AV) = some r) : spec_allTypes [.cell (.sl 3 l1), .cell (.sl 1 l2)] = some r :=
  V_le (X := X_spec_allTypes) (n := 100000) (c := cOf Tryz.f93) (by kernel_rfl) Tryz.func93 (by kernel_rfl) (of_decide_eq_true (by kernel_rfl)) (Eq.trans (by kernel_rfl) h)
noncomputable def X_spec_validLent : Ctx := { P := Tryz.prog, L := lay, F := sig.has, E := ext, fn := Tryz.f94, lv := [(0, [0, 1, 5])], jv := [], tp := [] }
noncomputable def spec_validLent_L0 (l3 : List (List AC)) (l4 : List (List AC)) (n5 : Int) : Option AV := GL X_spec_validLent 0 [(0, .v (.cell (.sl 1 l3))), (1, .v (.cell (.sl 1 l4))), (5, .v (.cell (.int n5)))]
theorem spec_validLent_L0_le {l3 : List (List AC)} {l4 : List (List AC)} {n5 : Int} {r : AV} (h : (
    bif (decide (n5 < ((l4.length : Nat) : Int))) then
        atR_ l4 n5 [.int 0] fun n6 =>
        callR (spec_inRange [.cell (.int n6), .cell (.int 0), .cell (.int (wrapI (((l3.length : Nat) : Int) - 1)))]) false [(false, [.bool false])] fun b7 =>
        bif (!b7) then
          some (.v (.cell (.bool false)))
        else
          atR_ l4 n5 [.int 0] fun n8 =>
          atR_ l3 n8 [.int 0] fun n9 =>
          bif (n9 == 0) then
            some (.v (.cell (.bool false)))
          else
            bif (decide (n5 > 0)) then
              atR_ l4 n5 [.int 0] fun n10 =>
              atR_ l4 (wrapI (n5 - 1)) [.int 0] fun n11 =>
              bif (decide (n10 ≤ n11)) then
                some (.v (.cell (.bool false)))
              else
                spec_validLent_L0 l3 l4 (wrapI (n5 + 1))
            else
              spec_validLent_L0 l3 l4 (wrapI (n5 + 1))
      else
        some (.v (.cell (.bool true))) : Option AV) = some r) : spec_validLent_L0 l3 l4 n5 = some r :=
  GL_le (X := X_spec_validLent) (n := 100000) (by kernel_rfl) (by kernel_rfl : (X_spec_validLent.fn.body.bind fun c => locL 0 c []) = some (.loop (loopOf (X_spec_validLent.fn.body.bind fun c => locL 0 c [])), ksOf (X_spec_validLent.fn.body.bind fun c => locL 0 c []))) (Eq.trans (by kernel_rfl) h)
theorem spec_validLent_le {l1 : List (List AC)} {l2 : List (List AC)} {r : AV} (h : (
    spec_validLent_L0 l1 l2 0 : Option AV) = some r) : spec_validLent [.cell (.sl 1 l1), .cell (.sl 1 l2)] = some r :=
  V_le (X := X_spec_validLent) (n := 100000) (c := cOf Tryz.f94) (by kernel_rfl) Tryz.func94 (by kernel_rfl) (of_decide_eq_true (by kernel_rfl)) (Eq.trans (by kernel_rfl) h)
noncomputable def X_spec_validInstr : Ctx := { P := Tryz.prog, L := lay, F := sig.has, E := ext, fn := Tryz.f95, lv := [(0, [2, 3, 4, 7, 8, 9])], jv := [(10, [2, 3, 4, 7, 8]), (18, [2, 3, 4, 7, 8, 74, 84]), (24, [2, 3, 4, 7, 8, 74, 97]), (29, [2, 3, 4, 7, 8, 74, 135]), (34, [2, 3, 4, 7, 8, 74, 161])], tp := [] }
noncomputable def spec_validInstr_L0 (n15 : Int) (l16 : List (List AC)) (l17 : List (List AC)) (l18 : List (List AC)) (l19 : List (List AC)) (n20 : Int) (n21 : Int) (l22 : List (List AC)) (n23 : Int) (n24 : Int) (n25 : Int) (n26 : Int) (l27 : List (List AC)) (l28 : List (List AC)) (n29 : Int) (n30 : Int) : Option AV := GL X_spec_validInstr 0 [(2, .v (.cell (.int n15))), (3, .box [.sl 3 l16, .sl 5 l17]), (4, .box [.sl 1 l18, .sl 1 l19, .int n20, .int n21, .sl 6 l22]), (7, .box [.int n23, .int n24, .int n25, .int n26, .sl 1 l27, .sl 1 l28]), (8, .v (.cell (.int n29))), (9, .v (.cell (.int n30)))]
noncomputable def spec_validInstr_J10 (n35 : Int) (l36 : List (List AC)) (l37 : List (List AC)) (l38 : List (List AC)) (l39 : List (List AC)) (n40 : Int) (n41 : Int) (l42 : List (List AC)) (n43 : Int) (n44 : Int) (n45 : Int) (n46 : Int) (l47 : List (List AC)) (l48 : List (List AC)) (n49 : Int) : Option AV := GJ X_spec_validInstr 10 [(2, .v (.cell (.int n35))), (3, .box [.sl 3 l36, .sl 5 l37]), (4, .box [.sl 1 l38, .sl 1 l39, .int n40, .int n41, .sl 6 l42]), (7, .box [.int n43, .int n44, .int n45, .int n46, .sl 1 l47, .sl 1 l48]), (8, .v (.cell (.int n49)))]
noncomputable def spec_validInstr_J18 (n51 : Int) (l52 : List (List AC)) (l53 : List (List AC)) (l54 : List (List AC)) (l55 : List (List AC)) (n56 : Int) (n57 : Int) (l58 : List (List AC)) (n59 : Int) (n60 : Int) (n61 : Int) (n62 : Int) (l63 : List (List AC)) (l64 : List (List AC)) (n65 : Int) (n66 : Int) (b67 : Bool) : Option AV := GJ X_spec_validInstr 18 [(2, .v (.cell (.int n51))), (3, .box [.sl 3 l52, .sl 5 l53]), (4, .box [.sl 1 l54, .sl 1 l55, .int n56, .int n57, .sl 6 l58]), (7, .box [.int n59, .int n60, .int n61, .int n62, .sl 1 l63, .sl 1 l64]), (8, .v (.cell (.int n65))), (74, .v (.cell (.int n66))), (84, .v (.cell (.bool b67)))]
noncomputable def spec_validInstr_J24 (n68 : Int) (l69 : List (List AC)) (l70 : List (List AC)) (l71 : List (List AC)) (l72 : List (List AC)) (n73 : Int) (n74 : Int) (l75 : List (List AC)) (n76 : Int) (n77 : Int) (n78 : Int) (n79 : Int) (l80 : List (List AC)) (l81 : List (List AC)) (n82 : Int) (n83 : Int) (b84 : Bool) : Option AV := GJ X_spec_validInstr 24 [(2, .v (.cell (.int n68))), (3, .box [.sl 3 l69, .sl 5 l70]), (4, .box [.sl 1 l71, .sl 1 l72, .int n73, .int n74, .sl 6 l75]), (7, .box [.int n76, .int n77, .int n78, .int n79, .sl 1 l80, .sl 1 l81]), (8, .v (.cell (.int n82))), (74, .v (.cell (.int n83))), (97, .v (.cell (.bool b84)))]
noncomputable def spec_validInstr_J29 (n88 : Int) (l89 : List (List AC)) (l90 : List (List AC)) (l91 : List (List AC)) (l92 : List (List AC)) (n93 : Int) (n94 : Int) (l95 : List (List AC)) (n96 : Int) (n97 : Int) (n98 : Int) (n99 : Int) (l100 : List (List AC)) (l101 : List (List AC)) (n102 : Int) (n103 : Int) (b104 : Bool) : Option AV := GJ X_spec_validInstr 29 [(2, .v (.cell (.int n88))), (3, .box [.sl 3 l89, .sl 5 l90]), (4, .box [.sl 1 l91, .sl 1 l92, .int n93, .int n94, .sl 6 l95]), (7, .box [.int n96, .int n97, .int n98, .int n99, .sl 1 l100, .sl 1 l101]), (8, .v (.cell (.int n102))), (74, .v (.cell (.int n103))), (135, .v (.cell (.bool b104)))]
noncomputable def spec_validInstr_J34 (n112 : Int) (l113 : List (List AC)) (l114 : List (List AC)) (l115 : List (List AC)) (l116 : List (List AC)) (n117 : Int) (n118 : Int) (l119 : List (List AC)) (n120 : Int) (n121 : Int) (n122 : Int) (n123 : Int) (l124 : List (List AC)) (l125 : List (List AC)) (n126 : Int) (n127 : Int) (b128 : Bool) : Option AV := GJ X_spec_validInstr 34 [(2, .v (.cell (.int n112))), (3, .box [.sl 3 l113, .sl 5 l114]), (4, .box [.sl 1 l115, .sl 1 l116, .int n117, .int n118, .sl 6 l119]), (7, .box [.int n120, .int n121, .int n122, .int n123, .sl 1 l124, .sl 1 l125]), (8, .v (.cell (.int n126))), (74, .v (.cell (.int n127))), (161, .v (.cell (.bool b128)))]
theorem spec_validInstr_L0_le {n15 : Int} {l16 : List (List AC)} {l17 : List (List AC)} {l18 : List (List AC)} {l19 : List (List AC)} {n20 : Int} {n21 : Int} {l22 : List (List AC)} {n23 : Int} {n24 : Int} {n25 : Int} {n26 : Int} {l27 : List (List AC)} {l28 : List (List AC)} {n29 : Int} {n30 : Int} {r : AV} (h : (
    bif (decide (n30 < n29)) then
        atR_ l27 n30 [.int 0] fun n31 =>
        callR (spec_inRange [.cell (.int n31), .cell (.int 0), .cell (.int (wrapI (n21 - 1)))]) false [(false, [.bool false])] fun b32 =>
        bif (!b32) then
          some (.v (.cell (.bool false)))
        else
          spec_validInstr_L0 n15 l16 l17 l18 l19 n20 n21 l22 n23 n24 n25 n26 l27 l28 n29 (wrapI (n30 + 1))
      else
        callR (spec_inRange [.cell (.int n24), .cell (.int 0), .cell (.int (wrapI (n21 - 1)))]) false [(false, [.bool false])] fun b33 =>
        bif (!b33) then
          some (.v (.cell (.bool false)))
        else
          bif (n24 != 0) then
            callR (spec_sets [.cell (.int n23)]) false [(false, [.bool false])] fun b34 =>
            bif (!b34) then
              some (.v (.cell (.bool false)))
            else
              bif (n26 != 0) then
                bif (n23 != 6) then
                  some (.v (.cell (.bool false)))
                else
                  bif (n23 != 21) then
                    bif (decide (((l28.length : Nat) : Int) > 0)) then
                      some (.v (.cell (.bool false)))
                    else
                      spec_validInstr_J10 n15 l16 l17 l18 l19 n20 n21 l22 n23 n24 n25 n26 l27 l28 n29
                  else
                    spec_validInstr_J10 n15 l16 l17 l18 l19 n20 n21 l22 n23 n24 n25 n26 l27 l28 n29
              else
                bif (n23 != 21) then
                  bif (decide (((l28.length : Nat) : Int) > 0)) then
                    some (.v (.cell (.bool false)))
                  else
                    spec_validInstr_J10 n15 l16 l17 l18 l19 n20 n21 l22 n23 n24 n25 n26 l27 l28 n29
                else
                  spec_validInstr_J10 n15 l16 l17 l18 l19 n20 n21 l22 n23 n24 n25 n26 l27 l28 n29
          else
            bif (n26 != 0) then
              bif (n23 != 6) then
                some (.v (.cell (.bool false)))
              else
                bif (n23 != 21) then
                  bif (decide (((l28.length : Nat) : Int) > 0)) then
                    some (.v (.cell (.bool false)))
                  else
                    spec_validInstr_J10 n15 l16 l17 l18 l19 n20 n21 l22 n23 n24 n25 n26 l27 l28 n29
                else
                  spec_validInstr_J10 n15 l16 l17 l18 l19 n20 n21 l22 n23 n24 n25 n26 l27 l28 n29
            else
              bif (n23 != 21) then
                bif (decide (((l28.length : Nat) : Int) > 0)) then
                  some (.v (.cell (.bool false)))
                else
                  spec_validInstr_J10 n15 l16 l17 l18 l19 n20 n21 l22 n23 n24 n25 n26 l27 l28 n29
              else
                spec_validInstr_J10 n15 l16 l17 l18 l19 n20 n21 l22 n23 n24 n25 n26 l27 l28 n29 : Option AV) = some r) : spec_validInstr_L0 n15 l16 l17 l18 l19 n20 n21 l22 n23 n24 n25 n26 l27 l28 n29 n30 = some r :=
  GL_le (X := X_spec_validInstr) (n := 100000) (by kernel_rfl) (by kernel_rfl : (X_spec_validInstr.fn.body.bind fun c => locL 0 c []) = some (.loop (loopOf (X_spec_validInstr.fn.body.bind fun c => locL 0 c [])), ksOf (X_spec_validInstr.fn.body.bind fun c => locL 0 c []))) (Eq.trans (by kernel_rfl) h)
theorem spec_validInstr_J10_le {n35 : Int} {l36 : List (List AC)} {l37 : List (List AC)} {l38 : List (List AC)} {l39 : List (List AC)} {n40 : Int} {n41 : Int} {l42 : List (List AC)} {n43 : Int} {n44 : Int} {n45 : Int} {n46 : Int} {l47 : List (List AC)} {l48 : List (List AC)} {n49 : Int} {r : AV} (h : (
    bif (n43 == 0) then
        bif (n49 == 0) then
          callR (spec_inRange [.cell (.int n45), .cell (.int (-999)), .cell (.int 999)]) false [(false, [.bool false])] fun b50 =>
          some (.v (.cell (.bool b50)))
        else
          some (.v (.cell (.bool false)))
      else
        bif (n43 == 1) then
          spec_validInstr_J18 n35 l36 l37 l38 l39 n40 n41 l42 n43 n44 n45 n46 l47 l48 n49 n43 (n43 == 1)
        else
          bif (n43 == 2) then
            spec_validInstr_J18 n35 l36 l37 l38 l39 n40 n41 l42 n43 n44 n45 n46 l47 l48 n49 n43 (n43 == 2)
          else
            bif (n43 == 3) then
              spec_validInstr_J18 n35 l36 l37 l38 l39 n40 n41 l42 n43 n44 n45 n46 l47 l48 n49 n43 (n43 == 3)
            else
              bif (n43 == 4) then
                spec_validInstr_J18 n35 l36 l37 l38 l39 n40 n41 l42 n43 n44 n45 n46 l47 l48 n49 n43 (n43 == 4)
              else
                spec_validInstr_J18 n35 l36 l37 l38 l39 n40 n41 l42 n43 n44 n45 n46 l47 l48 n49 n43 (n43 == 11) : Option AV) = some r) : spec_validInstr_J10 n35 l36 l37 l38 l39 n40 n41 l42 n43 n44 n45 n46 l47 l48 n49 = some r :=
  GJ_le (X := X_spec_validInstr) (n := 100000) (by kernel_rfl) (by kernel_rfl : (X_spec_validInstr.fn.body.bind fun c => locJ 10 c []) = some (cdOf (X_spec_validInstr.fn.body.bind fun c => locJ 10 c []), ksOf (X_spec_validInstr.fn.body.bind fun c => locJ 10 c []))) (Eq.trans (by kernel_rfl) h)
theorem spec_validInstr_J18_le {n51 : Int} {l52 : List (List AC)} {l53 : List (List AC)} {l54 : List (List AC)} {l55 : List (List AC)} {n56 : Int} {n57 : Int} {l58 : List (List AC)} {n59 : Int} {n60 : Int} {n61 : Int} {n62 : Int} {l63 : List (List AC)} {l64 : List (List AC)} {n65 : Int} {n66 : Int} {b67 : Bool} {r : AV} (h : (
    bif b67 then
        bif (n65 == 2) then
          some (.v (.cell (.bool (n61 == 0))))
        else
          some (.v (.cell (.bool false)))
      else
        bif (n66 == 5) then
          spec_validInstr_J24 n51 l52 l53 l54 l55 n56 n57 l58 n59 n60 n61 n62 l63 l64 n65 n66 (n66 == 5)
        else
          bif (n66 == 14) then
            spec_validInstr_J24 n51 l52 l53 l54 l55 n56 n57 l58 n59 n60 n61 n62 l63 l64 n65 n66 (n66 == 14)
          else
            bif (n66 == 15) then
              spec_validInstr_J24 n51 l52 l53 l54 l55 n56 n57 l58 n59 n60 n61 n62 l63 l64 n65 n66 (n66 == 15)
            else
              bif (n66 == 18) then
                spec_validInstr_J24 n51 l52 l53 l54 l55 n56 n57 l58 n59 n60 n61 n62 l63 l64 n65 n66 (n66 == 18)
              else
                spec_validInstr_J24 n51 l52 l53 l54 l55 n56 n57 l58 n59 n60 n61 n62 l63 l64 n65 n66 (n66 == 23) : Option AV) = some r) : spec_validInstr_J18 n51 l52 l53 l54 l55 n56 n57 l58 n59 n60 n61 n62 l63 l64 n65 n66 b67 = some r :=
  GJ_le (X := X_spec_validInstr) (n := 100000) (by kernel_rfl) (by kernel_rfl : (X_spec_validInstr.fn.body.bind fun c => locJ 18 c []) = some (cdOf (X_spec_validInstr.fn.body.bind fun c => locJ 18 c []), ksOf (X_spec_validInstr.fn.body.bind fun c => locJ 18 c []))) (Eq.trans (by kernel_rfl) h)
theorem spec_validInstr_J24_le {n68 : Int} {l69 : List (List AC)} {l70 : List (List AC)} {l71 : List (List AC)} {l72 : List (List AC)} {n73 : Int} {n74 : Int} {l75 : List (List AC)} {n76 : Int} {n77 : Int} {n78 : Int} {n79 : Int} {l80 : List (List AC)} {l81 : List (List AC)} {n82 : Int} {n83 : Int} {b84 : Bool} {r : AV} (h : (
    bif b84 then
        bif (n82 == 1) then
          some (.v (.cell (.bool (n78 == 0))))
        else
          some (.v (.cell (.bool false)))
      else
        bif (n83 == 6) then
          callR (spec_conType [.cell (.sl 3 l69), .cell (.int n78)]) false [(false, [.int 0])] fun n85 =>
          bif (decide (n85 > 0)) then
            callR (spec_conFields [.cell (.sl 3 l69), .cell (.int n78)]) false [(false, [.sl 1 []])] fun l86 =>
            bif (n82 == ((l86.length : Nat) : Int)) then
              callR (spec_inRange [.cell (.int n79), .cell (.int 0), .cell (.int n74)]) false [(false, [.bool false])] fun b87 =>
              some (.v (.cell (.bool b87)))
            else
              some (.v (.cell (.bool false)))
          else
            some (.v (.cell (.bool false)))
        else
          bif (n83 == 9) then
            spec_validInstr_J29 n68 l69 l70 l71 l72 n73 n74 l75 n76 n77 n78 n79 l80 l81 n82 n83 (n83 == 9)
          else
            spec_validInstr_J29 n68 l69 l70 l71 l72 n73 n74 l75 n76 n77 n78 n79 l80 l81 n82 n83 (n83 == 24) : Option AV) = some r) : spec_validInstr_J24 n68 l69 l70 l71 l72 n73 n74 l75 n76 n77 n78 n79 l80 l81 n82 n83 b84 = some r :=
  GJ_le (X := X_spec_validInstr) (n := 100000) (by kernel_rfl) (by kernel_rfl : (X_spec_validInstr.fn.body.bind fun c => locJ 24 c []) = some (cdOf (X_spec_validInstr.fn.body.bind fun c => locJ 24 c []), ksOf (X_spec_validInstr.fn.body.bind fun c => locJ 24 c []))) (Eq.trans (by kernel_rfl) h)
theorem spec_validInstr_J29_le {n88 : Int} {l89 : List (List AC)} {l90 : List (List AC)} {l91 : List (List AC)} {l92 : List (List AC)} {n93 : Int} {n94 : Int} {l95 : List (List AC)} {n96 : Int} {n97 : Int} {n98 : Int} {n99 : Int} {l100 : List (List AC)} {l101 : List (List AC)} {n102 : Int} {n103 : Int} {b104 : Bool} {r : AV} (h : (
    bif b104 then
        callR (spec_procWith [.agg [.sl 3 l89, .sl 5 l90], .cell (.int n98), .cell (.int n102), .cell (.int 0)]) false [(false, [.bool false])] fun b105 =>
        some (.v (.cell (.bool b105)))
      else
        bif (n103 == 10) then
          callR (spec_procWith [.agg [.sl 3 l89, .sl 5 l90], .cell (.int n98), .cell (.int n102), .cell (.int 1)]) false [(false, [.bool false])] fun b106 =>
          bif b106 then
            atR_ l90 n98 [.sl 1 [], .sl 1 [], .int 0, .int 0, .sl 6 []] fun l107 l108 n109 n110 l111 =>
            some (.v (.cell (.bool (((l108.length : Nat) : Int) == 0))))
          else
            some (.v (.cell (.bool false)))
        else
          bif (n103 == 16) then
            spec_validInstr_J34 n88 l89 l90 l91 l92 n93 n94 l95 n96 n97 n98 n99 l100 l101 n102 n103 (n103 == 16)
          else
            spec_validInstr_J34 n88 l89 l90 l91 l92 n93 n94 l95 n96 n97 n98 n99 l100 l101 n102 n103 (n103 == 17) : Option AV) = some r) : spec_validInstr_J29 n88 l89 l90 l91 l92 n93 n94 l95 n96 n97 n98 n99 l100 l101 n102 n103 b104 = some r :=
  GJ_le (X := X_spec_validInstr) (n := 100000) (by kernel_rfl) (by kernel_rfl : (X_spec_validInstr.fn.body.bind fun c => locJ 29 c []) = some (cdOf (X_spec_validInstr.fn.body.bind fun c => locJ 29 c []), ksOf (X_spec_validInstr.fn.body.bind fun c => locJ 29 c []))) (Eq.trans (by kernel_rfl) h)
theorem spec_validInstr_J34_le {n112 : Int} {l113 : List (List AC)} {l114 : List (List AC)} {l115 : List (List AC)} {l116 : List (List AC)} {n117 : Int} {n118 : Int} {l119 : List (List AC)} {n120 : Int} {n121 : Int} {n122 : Int} {n123 : Int} {l124 : List (List AC)} {l125 : List (List AC)} {n126 : Int} {n127 : Int} {b128 : Bool} {r : AV} (h : (
    bif b128 then
        callR (spec_inRange [.cell (.int n126), .cell (.int 1), .cell (.int 4)]) false [(false, [.bool false])] fun b129 =>
        bif b129 then
          some (.v (.cell (.bool (n122 == 0))))
        else
          some (.v (.cell (.bool false)))
      else
        bif (n127 == 19) then
          bif (n126 == 1) then
            callR (spec_inRange [.cell (.int n122), .cell (.int 0), .cell (.int 2)]) false [(false, [.bool false])] fun b130 =>
            some (.v (.cell (.bool b130)))
          else
            some (.v (.cell (.bool false)))
        else
          bif (n127 == 20) then
            bif (n126 == 1) then
              callR (spec_inRange [.cell (.int n122), .cell (.int (wrapI (n112 + 1))), .cell (.int (wrapI (((l119.length : Nat) : Int) - 1)))]) false [(false, [.bool false])] fun b131 =>
              some (.v (.cell (.bool b131)))
            else
              some (.v (.cell (.bool false)))
          else
            bif (n127 == 22) then
              bif (n126 == 0) then
                callR (spec_inRange [.cell (.int n122), .cell (.int (wrapI (n112 + 1))), .cell (.int (wrapI (((l119.length : Nat) : Int) - 1)))]) false [(false, [.bool false])] fun b132 =>
                some (.v (.cell (.bool b132)))
              else
                some (.v (.cell (.bool false)))
            else
              bif (n127 == 21) then
                callR (spec_consOf [.cell (.sl 3 l113), .cell (.int n122)]) false [(false, [.sl 1 []])] fun l133 =>
                bif (n126 == 1) then
                  bif (decide (((l133.length : Nat) : Int) > 0)) then
                    callR (spec_validJumps [.cell (.sl 1 l125), .cell (.int ((l133.length : Nat) : Int)), .cell (.int n112), .cell (.int ((l119.length : Nat) : Int))]) false [(false, [.bool false])] fun b134 =>
                    some (.v (.cell (.bool b134)))
                  else
                    some (.v (.cell (.bool false)))
                else
                  some (.v (.cell (.bool false)))
              else
                some (.v (.cell (.bool false))) : Option AV) = some r) : spec_validInstr_J34 n112 l113 l114 l115 l116 n117 n118 l119 n120 n121 n122 n123 l124 l125 n126 n127 b128 = some r :=
  GJ_le (X := X_spec_validInstr) (n := 100000) (by kernel_rfl) (by kernel_rfl : (X_spec_validInstr.fn.body.bind fun c => locJ 34 c []) = some (cdOf (X_spec_validInstr.fn.body.bind fun c => locJ 34 c []), ksOf (X_spec_validInstr.fn.body.bind fun c => locJ 34 c []))) (Eq.trans (by kernel_rfl) h)
theorem spec_validInstr_le {l1 : List (List AC)} {l2 : List (List AC)} {l3 : List (List AC)} {l4 : List (List AC)} {n5 : Int} {n6 : Int} {l7 : List (List AC)} {n8 : Int} {r : AV} (h : (
    atR_ l7 n8 [.int 0, .int 0, .int 0, .int 0, .sl 1 [], .sl 1 []] fun n9 n10 n11 n12 l13 l14 =>
      spec_validInstr_L0 n8 l1 l2 l3 l4 n5 n6 l7 n9 n10 n11 n12 l13 l14 ((l13.length : Nat) : Int) 0 : Option AV) = some r) : spec_validInstr [.agg [.sl 3 l1, .sl 5 l2], .agg [.sl 1 l3, .sl 1 l4, .int n5, .int n6, .sl 6 l7], .cell (.int n8)] = some r :=
  V_le (X := X_spec_validInstr) (n := 100000) (c := cOf Tryz.f95) (by kernel_rfl) Tryz.func95 (by kernel_rfl) (of_decide_eq_true (by kernel_rfl)) (Eq.trans (by kernel_rfl) h)
noncomputable def X_spec_allZero : Ctx := { P := Tryz.prog, L := lay, F := sig.has, E := ext, fn := Tryz.f96, lv := [(0, [0, 3])], jv := [], tp := [] }
noncomputable def spec_allZero_L0 (l2 : List (List AC)) (n3 : Int) : Option AV := GL X_spec_allZero 0 [(0, .v (.cell (.sl 1 l2))), (3, .v (.cell (.int n3)))]
theorem spec_allZero_L0_le {l2 : List (List AC)} {n3 : Int} {r : AV} (h : (
    bif (decide (n3 < ((l2.length : Nat) : Int))) then
        atR_ l2 n3 [.int 0] fun n4 =>
        bif (n4 != 0) then
          some (.v (.cell (.bool false)))
        else
          spec_allZero_L0 l2 (wrapI (n3 + 1))
      else
        some (.v (.cell (.bool true))) : Option AV) = some r) : spec_allZero_L0 l2 n3 = some r :=
  GL_le (X := X_spec_allZero) (n := 100000) (by kernel_rfl) (by kernel_rfl : (X_spec_allZero.fn.body.bind fun c => locL 0 c []) = some (.loop (loopOf (X_spec_allZero.fn.body.bind fun c => locL 0 c [])), ksOf (X_spec_allZero.fn.body.bind fun c => locL 0 c []))) (Eq.trans (by kernel_rfl) h)
theorem spec_allZero_le {l1 : List (List AC)} {r : AV} (h : (
    spec_allZero_L0 l1 0 : Option AV) = some r) : spec_allZero [.cell (.sl 1 l1)] = some r :=
  V_le (X := X_spec_allZero) (n := 100000) (c := cOf Tryz.f96) (by kernel_rfl) Tryz.func96 (by kernel_rfl) (of_decide_eq_true (by kernel_rfl)) (Eq.trans (by kernel_rfl) h)
noncomputable def X_spec_isWord : Ctx := { P := Tryz.prog, L := lay, F := sig.has, E := ext, fn := Tryz.f97, lv := [], jv := [], tp := [] }
theorem spec_isWord_le {l1 : List (List AC)} {n2 : Int} {r : AV} (h : (
    callR (spec_inRange [.cell (.int n2), .cell (.int (-999)), .cell (.int 999)]) false [(false, [.bool false])] fun b3 =>
      bif b3 then
        some (.v (.cell (.bool true)))
      else
        callR (spec_isLive [.cell (.sl 3 l1), .cell (.int n2)]) false [(false, [.bool false])] fun b4 =>
        some (.v (.cell (.bool b4))) : Option AV) = some r) : spec_isWord [.cell (.sl 3 l1), .cell (.int n2)] = some r :=
  V_le (X := X_spec_isWord) (n := 100000) (c := cOf Tryz.f97) (by kernel_rfl) Tryz.func97 (by kernel_rfl) (of_decide_eq_true (by kernel_rfl)) (Eq.trans (by kernel_rfl) h)
noncomputable def X_spec_isLive : Ctx := { P := Tryz.prog, L := lay, F := sig.has, E := ext, fn := Tryz.f98, lv := [], jv := [], tp := [] }
theorem spec_isLive_le {l1 : List (List AC)} {n2 : Int} {r : AV} (h : (
    callR (spec_inRange [.cell (.int (wrapI (n2 - 1000))), .cell (.int 0), .cell (.int (wrapI (((l1.length : Nat) : Int) - 1)))]) false [(false, [.bool false])] fun b3 =>
      bif b3 then
        callR (spec_isPointer [.cell (.int n2)]) false [(false, [.bool false])] fun b4 =>
        bif b4 then
          atR_ l1 (wrapI (n2 - 1000)) [.int 0, .int 0, .sl 1 []] fun n5 n6 l7 =>
          some (.v (.cell (.bool (decide (n5 > 0)))))
        else
          some (.v (.cell (.bool false)))
      else
        some (.v (.cell (.bool false))) : Option AV) = some r) : spec_isLive [.cell (.sl 3 l1), .cell (.int n2)] = some r :=
  V_le (X := X_spec_isLive) (n := 100000) (c := cOf Tryz.f98) (by kernel_rfl) Tryz.func98 (by kernel_rfl) (of_decide_eq_true (by kernel_rfl)) (Eq.trans (by kernel_rfl) h)
noncomputable def X_spec_allMarked : Ctx := { P := Tryz.prog, L := lay, F := sig.has, E := ext, fn := Tryz.f99, lv := [(0, [0, 1, 5])], jv := [], tp := [] }
noncomputable def spec_allMarked_L0 (l3 : List (List AC)) (l4 : List (List AC)) (n5 : Int) : Option AV := GL X_spec_allMarked 0 [(0, .v (.cell (.sl 1 l3))), (1, .v (.cell (.sl 1 l4))), (5, .v (.cell (.int n5)))]
theorem spec_allMarked_L0_le {l3 : List (List AC)} {l4 : List (List AC)} {n5 : Int} {r : AV} (h : (
    bif (decide (n5 < ((l4.length : Nat) : Int))) then
        atR_ l4 n5 [.int 0] fun n6 =>
        callR (spec_isPointer [.cell (.int n6)]) false [(false, [.bool false])] fun b7 =>
        bif b7 then
          atR_ l4 n5 [.int 0] fun n8 =>
          atR_ l3 (wrapI (n8 - 1000)) [.bool false] fun b9 =>
          bif (!b9) then
            some (.v (.cell (.bool false)))
          else
            spec_allMarked_L0 l3 l4 (wrapI (n5 + 1))
        else
          spec_allMarked_L0 l3 l4 (wrapI (n5 + 1))
      else
        some (.v (.cell (.bool true))) : Option AV) = some r) : spec_allMarked_L0 l3 l4 n5 = some r :=
  GL_le (X := X_spec_allMarked) (n := 100000) (by kernel_rfl) (by kernel_rfl : (X_spec_allMarked.fn.body.bind fun c => locL 0 c []) = some (.loop (loopOf (X_spec_allMarked.fn.body.bind fun c => locL 0 c [])), ksOf (X_spec_allMarked.fn.body.bind fun c => locL 0 c []))) (Eq.trans (by kernel_rfl) h)
theorem spec_allMarked_le {l1 : List (List AC)} {l2 : List (List AC)} {r : AV} (h : (
    spec_allMarked_L0 l1 l2 0 : Option AV) = some r) : spec_allMarked [.cell (.sl 1 l1), .cell (.sl 1 l2)] = some r :=
  V_le (X := X_spec_allMarked) (n := 100000) (c := cOf Tryz.f99) (by kernel_rfl) Tryz.func99 (by kernel_rfl) (of_decide_eq_true (by kernel_rfl)) (Eq.trans (by kernel_rfl) h)
noncomputable def X_laws_toCon : Ctx := { P := Tryz.prog, L := lay, F := sig.has, E := ext, fn := Tryz.f100, lv := [], jv := [], tp := [] }
theorem laws_toCon_le {l1 : List (List AC)} {r : AV} (h : (
    callR (laws_toIntS [.cell (.sl 1 l1)]) false [(false, [.sl 1 []])] fun l2 =>
      some (.v (.agg [.sl 1 l2])) : Option AV) = some r) : laws_toCon [.agg [.sl 1 l1]] = some r :=
  V_le (X := X_laws_toCon) (n := 100000) (c := cOf Tryz.f100) (by kernel_rfl) Tryz.func100 (by kernel_rfl) (of_decide_eq_true (by kernel_rfl)) (Eq.trans (by kernel_rfl) h)
noncomputable def X_laws_toInstr : Ctx := { P := Tryz.prog, L := lay, F := sig.has, E := ext, fn := Tryz.f101, lv := [], jv := [], tp := [] }
theorem laws_toInstr_le {n1 : Int} {n2 : Int} {n3 : Int} {n4 : Int} {l5 : List (List AC)} {l6 : List (List AC)} {r : AV} (h : (
    callR (laws_toIntS [.cell (.sl 1 l5)]) false [(false, [.sl 1 []])] fun l7 =>
      callR (laws_toIntS [.cell (.sl 1 l6)]) false [(false, [.sl 1 []])] fun l8 =>
      some (.v (.agg [.int n1, .int n2, .int n3, .int n4, .sl 1 l7, .sl 1 l8])) : Option AV) = some r) : laws_toInstr [.agg [.int n1, .int n2, .int n3, .int n4, .sl 1 l5, .sl 1 l6]] = some r :=
  V_le (X := X_laws_toInstr) (n := 100000) (c := cOf Tryz.f101) (by kernel_rfl) Tryz.func101 (by kernel_rfl) (of_decide_eq_true (by kernel_rfl)) (Eq.trans (by kernel_rfl) h)
noncomputable def X_impl_ValidTypes : Ctx := { P := Tryz.prog, L := lay, F := sig.has, E := ext, fn := Tryz.f102, lv := [(0, [0, 8, 9])], jv := [], tp := [] }
noncomputable def impl_ValidTypes_L0 (l2 : List (List AC)) (n3 : Int) (n4 : Int) : Option AV := GL X_impl_ValidTypes 0 [(0, .v (.cell (.sl 3 l2))), (8, .v (.cell (.int n3))), (9, .v (.cell (.int n4)))]
theorem impl_ValidTypes_L0_le {l2 : List (List AC)} {n3 : Int} {n4 : Int} {r : AV} (h : (
    bif (decide (n4 < n3)) then
        callR (impl_validDecl [.cell (.sl 3 l2), .cell (.int n4)]) false [(false, [.bool false])] fun b5 =>
        bif (!b5) then
          some (.v (.cell (.bool false)))
        else
          impl_ValidTypes_L0 l2 n3 (wrapI (n4 + 1))
      else
        some (.v (.cell (.bool true))) : Option AV) = some r) : impl_ValidTypes_L0 l2 n3 n4 = some r :=
  GL_le (X := X_impl_ValidTypes) (n := 100000) (by kernel_rfl) (by kernel_rfl : (X_impl_ValidTypes.fn.body.bind fun c => locL 0 c []) = some (.loop (loopOf (X_impl_ValidTypes.fn.body.bind fun c => locL 0 c [])), ksOf (X_impl_ValidTypes.fn.body.bind fun c => locL 0 c []))) (Eq.trans (by kernel_rfl) h)
theorem impl_ValidTypes_le {l1 : List (List AC)} {r : AV} (h : (
    bif (decide (((l1.length : Nat) : Int) > 4)) then
        some (.v (.cell (.bool false)))
      else
        impl_ValidTypes_L0 l1 ((l1.length : Nat) : Int) 0 : Option AV) = some r) : impl_ValidTypes [.cell (.sl 3 l1)] = some r :=
  V_le (X := X_impl_ValidTypes) (n := 100000) (c := cOf Tryz.f102) (by kernel_rfl) Tryz.func102 (by kernel_rfl) (of_decide_eq_true (by kernel_rfl)) (Eq.trans (by kernel_rfl) h)
noncomputable def X_impl_validSig : Ctx := { P := Tryz.prog, L := lay, F := sig.has, E := ext, fn := Tryz.f103, lv := [], jv := [], tp := [] }
theorem impl_validSig_le {l1 : List (List AC)} {l2 : List (List AC)} {n3 : Int} {r : AV} (h : (
    bif (decide (((l2.length : Nat) : Int) ≤ 3)) then
        callR (impl_areTypes [.cell (.sl 3 l1), .cell (.sl 1 l2)]) false [(false, [.bool false])] fun b4 =>
        bif b4 then
          callR (impl_isType [.cell (.sl 3 l1), .cell (.int n3)]) false [(false, [.bool false])] fun b5 =>
          some (.v (.cell (.bool b5)))
        else
          some (.v (.cell (.bool false)))
      else
        some (.v (.cell (.bool false))) : Option AV) = some r) : impl_validSig [.cell (.sl 3 l1), .cell (.sl 1 l2), .cell (.int n3)] = some r :=
  V_le (X := X_impl_validSig) (n := 100000) (c := cOf Tryz.f103) (by kernel_rfl) Tryz.func103 (by kernel_rfl) (of_decide_eq_true (by kernel_rfl)) (Eq.trans (by kernel_rfl) h)
noncomputable def X_impl_isInstr : Ctx := { P := Tryz.prog, L := lay, F := sig.has, E := ext, fn := Tryz.f104, lv := [], jv := [], tp := [] }
theorem impl_isInstr_le {n1 : Int} {r : AV} (h : (
    bif (decide (n1 ≥ 0)) then
        bif (decide (n1 ≤ 24)) then
          bif (n1 != 7) then
            bif (n1 != 8) then
              bif (n1 != 12) then
                some (.v (.cell (.bool (n1 != 13))))
              else
                some (.v (.cell (.bool false)))
            else
              some (.v (.cell (.bool false)))
          else
            some (.v (.cell (.bool false)))
        else
          some (.v (.cell (.bool false)))
      else
        some (.v (.cell (.bool false))) : Option AV) = some r) : impl_isInstr [.cell (.int n1)] = some r :=
  V_le (X := X_impl_isInstr) (n := 100000) (c := cOf Tryz.f104) (by kernel_rfl) Tryz.func104 (by kernel_rfl) (of_decide_eq_true (by kernel_rfl)) (Eq.trans (by kernel_rfl) h)
noncomputable def X_impl_validNum : Ctx := { P := Tryz.prog, L := lay, F := sig.has, E := ext, fn := Tryz.f105, lv := [], jv := [], tp := [] }
theorem impl_validNum_le {l1 : List (List AC)} {l2 : List (List AC)} {l3 : List (List AC)} {l4 : List (List AC)} {n5 : Int} {n6 : Int} {l7 : List (List AC)} {n8 : Int} {r : AV} (h : (
    atR_ l7 n8 [.int 0, .int 0, .int 0, .int 0, .sl 1 [], .sl 1 []] fun n9 n10 n11 n12 l13 l14 =>
      atR_ l7 n8 [.int 0, .int 0, .int 0, .int 0, .sl 1 [], .sl 1 []] fun n15 n16 n17 n18 l19 l20 =>
      bif (n15 == 0) then
        callR (impl_inInts [.cell (.int n11)]) false [(false, [.bool false])] fun b21 =>
        some (.v (.cell (.bool b21)))
      else
        bif (n15 == 6) then
          callR (impl_typeOfCon [.cell (.sl 3 l1), .cell (.int n11)]) false [(false, [.int 0])] fun n22 =>
          some (.v (.cell (.bool (decide (n22 ≥ 0)))))
        else
          bif (n15 == 9) then
            bif (n15 == 9) then
              callR (impl_hasRoutine [.agg [.sl 3 l1, .sl 5 l2], .cell (.int n11)]) false [(false, [.bool false])] fun b23 =>
              some (.v (.cell (.bool b23)))
            else
              bif (n15 == 10) then
                callR (impl_hasRoutine [.agg [.sl 3 l1, .sl 5 l2], .cell (.int n11)]) false [(false, [.bool false])] fun b24 =>
                bif b24 then
                  callR (impl_lends [.agg [.sl 3 l1, .sl 5 l2], .cell (.int n11)]) false [(false, [.bool false])] fun b25 =>
                  some (.v (.cell (.bool (!b25))))
                else
                  some (.v (.cell (.bool false)))
              else
                bif (n15 == 19) then
                  bif (decide (n11 ≥ 0)) then
                    some (.v (.cell (.bool (decide (n11 < 3)))))
                  else
                    some (.v (.cell (.bool false)))
                else
                  bif (n15 == 20) then
                    bif (n15 == 20) then
                      callR (impl_isLater [.agg [.sl 1 l3, .sl 1 l4, .int n5, .int n6, .sl 6 l7], .cell (.int n8), .cell (.int n11)]) false [(false, [.bool false])] fun b26 =>
                      some (.v (.cell (.bool b26)))
                    else
                      bif (n15 == 21) then
                        callR (impl_isData [.cell (.sl 3 l1), .cell (.int n11)]) false [(false, [.bool false])] fun b27 =>
                        some (.v (.cell (.bool b27)))
                      else
                        some (.v (.cell (.bool (n11 == 0))))
                  else
                    bif (n15 == 22) then
                      callR (impl_isLater [.agg [.sl 1 l3, .sl 1 l4, .int n5, .int n6, .sl 6 l7], .cell (.int n8), .cell (.int n11)]) false [(false, [.bool false])] fun b28 =>
                      some (.v (.cell (.bool b28)))
                    else
                      bif (n15 == 21) then
                        callR (impl_isData [.cell (.sl 3 l1), .cell (.int n11)]) false [(false, [.bool false])] fun b29 =>
                        some (.v (.cell (.bool b29)))
                      else
                        some (.v (.cell (.bool (n11 == 0))))
          else
            bif (n15 == 24) then
              callR (impl_hasRoutine [.agg [.sl 3 l1, .sl 5 l2], .cell (.int n11)]) false [(false, [.bool false])] fun b30 =>
              some (.v (.cell (.bool b30)))
            else
              bif (n15 == 10) then
                callR (impl_hasRoutine [.agg [.sl 3 l1, .sl 5 l2], .cell (.int n11)]) false [(false, [.bool false])] fun b31 =>
                bif b31 then
                  callR (impl_lends [.agg [.sl 3 l1, .sl 5 l2], .cell (.int n11)]) false [(false, [.bool false])] fun b32 =>
                  some (.v (.cell (.bool (!b32))))
                else
                  some (.v (.cell (.bool false)))
              else
                bif (n15 == 19) then
                  bif (decide (n11 ≥ 0)) then
                    some (.v (.cell (.bool (decide (n11 < 3)))))
                  else
                    some (.v (.cell (.bool false)))
                else
                  bif (n15 == 20) then
                    bif (n15 == 20) then
                      callR (impl_isLater [.agg [.sl 1 l3, .sl 1 l4, .int n5, .int n6, .sl 6 l7], .cell (.int n8), .cell (.int n11)]) false [(false, [.bool false])] fun b33 =>
                      some (.v (.cell (.bool b33)))
                    else
                      bif (n15 == 21) then
                        callR (impl_isData [.cell (.sl 3 l1), .cell (.int n11)]) false [(false, [.bool false])] fun b34 =>
                        some (.v (.cell (.bool b34)))
                      else
                        some (.v (.cell (.bool (n11 == 0))))
                  else
                    bif (n15 == 22) then
                      callR (impl_isLater [.agg [.sl 1 l3, .sl 1 l4, .int n5, .int n6, .sl 6 l7], .cell (.int n8), .cell (.int n11)]) false [(false, [.bool false])] fun b35 =>
                      some (.v (.cell (.bool b35)))
                    else
                      bif (n15 == 21) then
                        callR (impl_isData [.cell (.sl 3 l1), .cell (.int n11)]) false [(false, [.bool false])] fun b36 =>
                        some (.v (.cell (.bool b36)))
                      else
                        some (.v (.cell (.bool (n11 == 0)))) : Option AV) = some r) : impl_validNum [.agg [.sl 3 l1, .sl 5 l2], .agg [.sl 1 l3, .sl 1 l4, .int n5, .int n6, .sl 6 l7], .cell (.int n8)] = some r :=
  V_le (X := X_impl_validNum) (n := 100000) (c := cOf Tryz.f105) (by kernel_rfl) Tryz.func105 (by kernel_rfl) (of_decide_eq_true (by kernel_rfl)) (Eq.trans (by kernel_rfl) h)
noncomputable def X_impl_validArgs : Ctx := { P := Tryz.prog, L := lay, F := sig.has, E := ext, fn := Tryz.f106, lv := [], jv := [], tp := [] }
theorem impl_validArgs_le {l1 : List (List AC)} {l2 : List (List AC)} {n3 : Int} {n4 : Int} {n5 : Int} {n6 : Int} {l7 : List (List AC)} {l8 : List (List AC)} {r : AV} (h : (
    bif (n3 == 0) then
        bif (n3 == 0) then
          some (.v (.cell (.bool (((l7.length : Nat) : Int) == 0))))
        else
          bif (n3 == 1) then
            bif (n3 == 1) then
              some (.v (.cell (.bool (((l7.length : Nat) : Int) == 2))))
            else
              bif (n3 == 6) then
                callR (impl_fieldsOfCon [.cell (.sl 3 l1), .cell (.int n5)]) false [(false, [.sl 1 []])] fun l9 =>
                some (.v (.cell (.bool (((l7.length : Nat) : Int) == ((l9.length : Nat) : Int)))))
              else
                bif (n3 == 9) then
                  bif (n3 == 9) then
                    atR_ l2 n5 [.sl 1 [], .sl 1 [], .int 0, .sl 5 [], .int 0] fun l10 l11 n12 l13 n14 =>
                    some (.v (.cell (.bool (((l7.length : Nat) : Int) == ((l10.length : Nat) : Int)))))
                  else
                    bif (n3 == 10) then
                      atR_ l2 n5 [.sl 1 [], .sl 1 [], .int 0, .sl 5 [], .int 0] fun l15 l16 n17 l18 n19 =>
                      some (.v (.cell (.bool (((l7.length : Nat) : Int) == (wrapI (((l15.length : Nat) : Int) - 1))))))
                    else
                      bif (n3 == 16) then
                        bif (n3 == 16) then
                          bif (decide (((l7.length : Nat) : Int) ≥ 1)) then
                            some (.v (.cell (.bool (decide (((l7.length : Nat) : Int) ≤ 4)))))
                          else
                            some (.v (.cell (.bool false)))
                        else
                          some (.v (.cell (.bool (((l7.length : Nat) : Int) == 1))))
                      else
                        bif (n3 == 17) then
                          bif (decide (((l7.length : Nat) : Int) ≥ 1)) then
                            some (.v (.cell (.bool (decide (((l7.length : Nat) : Int) ≤ 4)))))
                          else
                            some (.v (.cell (.bool false)))
                        else
                          some (.v (.cell (.bool (((l7.length : Nat) : Int) == 1))))
                else
                  bif (n3 == 24) then
                    atR_ l2 n5 [.sl 1 [], .sl 1 [], .int 0, .sl 5 [], .int 0] fun l20 l21 n22 l23 n24 =>
                    some (.v (.cell (.bool (((l7.length : Nat) : Int) == ((l20.length : Nat) : Int)))))
                  else
                    bif (n3 == 10) then
                      atR_ l2 n5 [.sl 1 [], .sl 1 [], .int 0, .sl 5 [], .int 0] fun l25 l26 n27 l28 n29 =>
                      some (.v (.cell (.bool (((l7.length : Nat) : Int) == (wrapI (((l25.length : Nat) : Int) - 1))))))
                    else
                      bif (n3 == 16) then
                        bif (n3 == 16) then
                          bif (decide (((l7.length : Nat) : Int) ≥ 1)) then
                            some (.v (.cell (.bool (decide (((l7.length : Nat) : Int) ≤ 4)))))
                          else
                            some (.v (.cell (.bool false)))
                        else
                          some (.v (.cell (.bool (((l7.length : Nat) : Int) == 1))))
                      else
                        bif (n3 == 17) then
                          bif (decide (((l7.length : Nat) : Int) ≥ 1)) then
                            some (.v (.cell (.bool (decide (((l7.length : Nat) : Int) ≤ 4)))))
                          else
                            some (.v (.cell (.bool false)))
                        else
                          some (.v (.cell (.bool (((l7.length : Nat) : Int) == 1))))
          else
            bif (n3 == 2) then
              bif (n3 == 2) then
                some (.v (.cell (.bool (((l7.length : Nat) : Int) == 2))))
              else
                bif (n3 == 6) then
                  callR (impl_fieldsOfCon [.cell (.sl 3 l1), .cell (.int n5)]) false [(false, [.sl 1 []])] fun l30 =>
                  some (.v (.cell (.bool (((l7.length : Nat) : Int) == ((l30.length : Nat) : Int)))))
                else
                  bif (n3 == 9) then
                    bif (n3 == 9) then
                      atR_ l2 n5 [.sl 1 [], .sl 1 [], .int 0, .sl 5 [], .int 0] fun l31 l32 n33 l34 n35 =>
                      some (.v (.cell (.bool (((l7.length : Nat) : Int) == ((l31.length : Nat) : Int)))))
                    else
                      bif (n3 == 10) then
                        atR_ l2 n5 [.sl 1 [], .sl 1 [], .int 0, .sl 5 [], .int 0] fun l36 l37 n38 l39 n40 =>
                        some (.v (.cell (.bool (((l7.length : Nat) : Int) == (wrapI (((l36.length : Nat) : Int) - 1))))))
                      else
                        bif (n3 == 16) then
                          bif (n3 == 16) then
                            bif (decide (((l7.length : Nat) : Int) ≥ 1)) then
                              some (.v (.cell (.bool (decide (((l7.length : Nat) : Int) ≤ 4)))))
                            else
                              some (.v (.cell (.bool false)))
                          else
                            some (.v (.cell (.bool (((l7.length : Nat) : Int) == 1))))
                        else
                          bif (n3 == 17) then
                            bif (decide (((l7.length : Nat) : Int) ≥ 1)) then
                              some (.v (.cell (.bool (decide (((l7.length : Nat) : Int) ≤ 4)))))
                            else
                              some (.v (.cell (.bool false)))
                          else
                            some (.v (.cell (.bool (((l7.length : Nat) : Int) == 1))))
                  else
                    bif (n3 == 24) then
                      atR_ l2 n5 [.sl 1 [], .sl 1 [], .int 0, .sl 5 [], .int 0] fun l41 l42 n43 l44 n45 =>
                      some (.v (.cell (.bool (((l7.length : Nat) : Int) == ((l41.length : Nat) : Int)))))
                    else
                      bif (n3 == 10) then
                        atR_ l2 n5 [.sl 1 [], .sl 1 [], .int 0, .sl 5 [], .int 0] fun l46 l47 n48 l49 n50 =>
                        some (.v (.cell (.bool (((l7.length : Nat) : Int) == (wrapI (((l46.length : Nat) : Int) - 1))))))
                      else
                        bif (n3 == 16) then
                          bif (n3 == 16) then
                            bif (decide (((l7.length : Nat) : Int) ≥ 1)) then
                              some (.v (.cell (.bool (decide (((l7.length : Nat) : Int) ≤ 4)))))
                            else
                              some (.v (.cell (.bool false)))
                          else
                            some (.v (.cell (.bool (((l7.length : Nat) : Int) == 1))))
                        else
                          bif (n3 == 17) then
                            bif (decide (((l7.length : Nat) : Int) ≥ 1)) then
                              some (.v (.cell (.bool (decide (((l7.length : Nat) : Int) ≤ 4)))))
                            else
                              some (.v (.cell (.bool false)))
                          else
                            some (.v (.cell (.bool (((l7.length : Nat) : Int) == 1))))
            else
              bif (n3 == 3) then
                bif (n3 == 3) then
                  some (.v (.cell (.bool (((l7.length : Nat) : Int) == 2))))
                else
                  bif (n3 == 6) then
                    callR (impl_fieldsOfCon [.cell (.sl 3 l1), .cell (.int n5)]) false [(false, [.sl 1 []])] fun l51 =>
                    some (.v (.cell (.bool (((l7.length : Nat) : Int) == ((l51.length : Nat) : Int)))))
                  else
                    bif (n3 == 9) then
                      bif (n3 == 9) then
                        atR_ l2 n5 [.sl 1 [], .sl 1 [], .int 0, .sl 5 [], .int 0] fun l52 l53 n54 l55 n56 =>
                        some (.v (.cell (.bool (((l7.length : Nat) : Int) == ((l52.length : Nat) : Int)))))
                      else
                        bif (n3 == 10) then
                          atR_ l2 n5 [.sl 1 [], .sl 1 [], .int 0, .sl 5 [], .int 0] fun l57 l58 n59 l60 n61 =>
                          some (.v (.cell (.bool (((l7.length : Nat) : Int) == (wrapI (((l57.length : Nat) : Int) - 1))))))
                        else
                          bif (n3 == 16) then
                            bif (n3 == 16) then
                              bif (decide (((l7.length : Nat) : Int) ≥ 1)) then
                                some (.v (.cell (.bool (decide (((l7.length : Nat) : Int) ≤ 4)))))
                              else
                                some (.v (.cell (.bool false)))
                            else
                              some (.v (.cell (.bool (((l7.length : Nat) : Int) == 1))))
                          else
                            bif (n3 == 17) then
                              bif (decide (((l7.length : Nat) : Int) ≥ 1)) then
                                some (.v (.cell (.bool (decide (((l7.length : Nat) : Int) ≤ 4)))))
                              else
                                some (.v (.cell (.bool false)))
                            else
                              some (.v (.cell (.bool (((l7.length : Nat) : Int) == 1))))
                    else
                      bif (n3 == 24) then
                        atR_ l2 n5 [.sl 1 [], .sl 1 [], .int 0, .sl 5 [], .int 0] fun l62 l63 n64 l65 n66 =>
                        some (.v (.cell (.bool (((l7.length : Nat) : Int) == ((l62.length : Nat) : Int)))))
                      else
                        bif (n3 == 10) then
                          atR_ l2 n5 [.sl 1 [], .sl 1 [], .int 0, .sl 5 [], .int 0] fun l67 l68 n69 l70 n71 =>
                          some (.v (.cell (.bool (((l7.length : Nat) : Int) == (wrapI (((l67.length : Nat) : Int) - 1))))))
                        else
                          bif (n3 == 16) then
                            bif (n3 == 16) then
                              bif (decide (((l7.length : Nat) : Int) ≥ 1)) then
                                some (.v (.cell (.bool (decide (((l7.length : Nat) : Int) ≤ 4)))))
                              else
                                some (.v (.cell (.bool false)))
                            else
                              some (.v (.cell (.bool (((l7.length : Nat) : Int) == 1))))
                          else
                            bif (n3 == 17) then
                              bif (decide (((l7.length : Nat) : Int) ≥ 1)) then
                                some (.v (.cell (.bool (decide (((l7.length : Nat) : Int) ≤ 4)))))
                              else
                                some (.v (.cell (.bool false)))
                            else
                              some (.v (.cell (.bool (((l7.length : Nat) : Int) == 1))))
              else
                bif (n3 == 4) then
                  bif (n3 == 4) then
                    some (.v (.cell (.bool (((l7.length : Nat) : Int) == 2))))
                  else
                    bif (n3 == 6) then
                      callR (impl_fieldsOfCon [.cell (.sl 3 l1), .cell (.int n5)]) false [(false, [.sl 1 []])] fun l72 =>
                      some (.v (.cell (.bool (((l7.length : Nat) : Int) == ((l72.length : Nat) : Int)))))
                    else
                      bif (n3 == 9) then
                        bif (n3 == 9) then
                          atR_ l2 n5 [.sl 1 [], .sl 1 [], .int 0, .sl 5 [], .int 0] fun l73 l74 n75 l76 n77 =>
                          some (.v (.cell (.bool (((l7.length : Nat) : Int) == ((l73.length : Nat) : Int)))))
                        else
                          bif (n3 == 10) then
                            atR_ l2 n5 [.sl 1 [], .sl 1 [], .int 0, .sl 5 [], .int 0] fun l78 l79 n80 l81 n82 =>
                            some (.v (.cell (.bool (((l7.length : Nat) : Int) == (wrapI (((l78.length : Nat) : Int) - 1))))))
                          else
                            bif (n3 == 16) then
                              bif (n3 == 16) then
                                bif (decide (((l7.length : Nat) : Int) ≥ 1)) then
                                  some (.v (.cell (.bool (decide (((l7.length : Nat) : Int) ≤ 4)))))
                                else
                                  some (.v (.cell (.bool false)))
                              else
                                some (.v (.cell (.bool (((l7.length : Nat) : Int) == 1))))
                            else
                              bif (n3 == 17) then
                                bif (decide (((l7.length : Nat) : Int) ≥ 1)) then
                                  some (.v (.cell (.bool (decide (((l7.length : Nat) : Int) ≤ 4)))))
                                else
                                  some (.v (.cell (.bool false)))
                              else
                                some (.v (.cell (.bool (((l7.length : Nat) : Int) == 1))))
                      else
                        bif (n3 == 24) then
                          atR_ l2 n5 [.sl 1 [], .sl 1 [], .int 0, .sl 5 [], .int 0] fun l83 l84 n85 l86 n87 =>
                          some (.v (.cell (.bool (((l7.length : Nat) : Int) == ((l83.length : Nat) : Int)))))
                        else
                          bif (n3 == 10) then
                            atR_ l2 n5 [.sl 1 [], .sl 1 [], .int 0, .sl 5 [], .int 0] fun l88 l89 n90 l91 n92 =>
                            some (.v (.cell (.bool (((l7.length : Nat) : Int) == (wrapI (((l88.length : Nat) : Int) - 1))))))
                          else
                            bif (n3 == 16) then
                              bif (n3 == 16) then
                                bif (decide (((l7.length : Nat) : Int) ≥ 1)) then
                                  some (.v (.cell (.bool (decide (((l7.length : Nat) : Int) ≤ 4)))))
                                else
                                  some (.v (.cell (.bool false)))
                              else
                                some (.v (.cell (.bool (((l7.length : Nat) : Int) == 1))))
                            else
                              bif (n3 == 17) then
                                bif (decide (((l7.length : Nat) : Int) ≥ 1)) then
                                  some (.v (.cell (.bool (decide (((l7.length : Nat) : Int) ≤ 4)))))
                                else
                                  some (.v (.cell (.bool false)))
                              else
                                some (.v (.cell (.bool (((l7.length : Nat) : Int) == 1))))
                else
                  bif (n3 == 11) then
                    some (.v (.cell (.bool (((l7.length : Nat) : Int) == 2))))
                  else
                    bif (n3 == 6) then
                      callR (impl_fieldsOfCon [.cell (.sl 3 l1), .cell (.int n5)]) false [(false, [.sl 1 []])] fun l93 =>
                      some (.v (.cell (.bool (((l7.length : Nat) : Int) == ((l93.length : Nat) : Int)))))
                    else
                      bif (n3 == 9) then
                        bif (n3 == 9) then
                          atR_ l2 n5 [.sl 1 [], .sl 1 [], .int 0, .sl 5 [], .int 0] fun l94 l95 n96 l97 n98 =>
                          some (.v (.cell (.bool (((l7.length : Nat) : Int) == ((l94.length : Nat) : Int)))))
                        else
                          bif (n3 == 10) then
                            atR_ l2 n5 [.sl 1 [], .sl 1 [], .int 0, .sl 5 [], .int 0] fun l99 l100 n101 l102 n103 =>
                            some (.v (.cell (.bool (((l7.length : Nat) : Int) == (wrapI (((l99.length : Nat) : Int) - 1))))))
                          else
                            bif (n3 == 16) then
                              bif (n3 == 16) then
                                bif (decide (((l7.length : Nat) : Int) ≥ 1)) then
                                  some (.v (.cell (.bool (decide (((l7.length : Nat) : Int) ≤ 4)))))
                                else
                                  some (.v (.cell (.bool false)))
                              else
                                some (.v (.cell (.bool (((l7.length : Nat) : Int) == 1))))
                            else
                              bif (n3 == 17) then
                                bif (decide (((l7.length : Nat) : Int) ≥ 1)) then
                                  some (.v (.cell (.bool (decide (((l7.length : Nat) : Int) ≤ 4)))))
                                else
                                  some (.v (.cell (.bool false)))
                              else
                                some (.v (.cell (.bool (((l7.length : Nat) : Int) == 1))))
                      else
                        bif (n3 == 24) then
                          atR_ l2 n5 [.sl 1 [], .sl 1 [], .int 0, .sl 5 [], .int 0] fun l104 l105 n106 l107 n108 =>
                          some (.v (.cell (.bool (((l7.length : Nat) : Int) == ((l104.length : Nat) : Int)))))
                        else
                          bif (n3 == 10) then
                            atR_ l2 n5 [.sl 1 [], .sl 1 [], .int 0, .sl 5 [], .int 0] fun l109 l110 n111 l112 n113 =>
                            some (.v (.cell (.bool (((l7.length : Nat) : Int) == (wrapI (((l109.length : Nat) : Int) - 1))))))
                          else
                            bif (n3 == 16) then
                              bif (n3 == 16) then
                                bif (decide (((l7.length : Nat) : Int) ≥ 1)) then
                                  some (.v (.cell (.bool (decide (((l7.length : Nat) : Int) ≤ 4)))))
                                else
                                  some (.v (.cell (.bool false)))
                              else
                                some (.v (.cell (.bool (((l7.length : Nat) : Int) == 1))))
                            else
                              bif (n3 == 17) then
                                bif (decide (((l7.length : Nat) : Int) ≥ 1)) then
                                  some (.v (.cell (.bool (decide (((l7.length : Nat) : Int) ≤ 4)))))
                                else
                                  some (.v (.cell (.bool false)))
                              else
                                some (.v (.cell (.bool (((l7.length : Nat) : Int) == 1))))
      else
        bif (n3 == 22) then
          some (.v (.cell (.bool (((l7.length : Nat) : Int) == 0))))
        else
          bif (n3 == 1) then
            bif (n3 == 1) then
              some (.v (.cell (.bool (((l7.length : Nat) : Int) == 2))))
            else
              bif (n3 == 6) then
                callR (impl_fieldsOfCon [.cell (.sl 3 l1), .cell (.int n5)]) false [(false, [.sl 1 []])] fun l114 =>
                some (.v (.cell (.bool (((l7.length : Nat) : Int) == ((l114.length : Nat) : Int)))))
              else
                bif (n3 == 9) then
                  bif (n3 == 9) then
                    atR_ l2 n5 [.sl 1 [], .sl 1 [], .int 0, .sl 5 [], .int 0] fun l115 l116 n117 l118 n119 =>
                    some (.v (.cell (.bool (((l7.length : Nat) : Int) == ((l115.length : Nat) : Int)))))
                  else
                    bif (n3 == 10) then
                      atR_ l2 n5 [.sl 1 [], .sl 1 [], .int 0, .sl 5 [], .int 0] fun l120 l121 n122 l123 n124 =>
                      some (.v (.cell (.bool (((l7.length : Nat) : Int) == (wrapI (((l120.length : Nat) : Int) - 1))))))
                    else
                      bif (n3 == 16) then
                        bif (n3 == 16) then
                          bif (decide (((l7.length : Nat) : Int) ≥ 1)) then
                            some (.v (.cell (.bool (decide (((l7.length : Nat) : Int) ≤ 4)))))
                          else
                            some (.v (.cell (.bool false)))
                        else
                          some (.v (.cell (.bool (((l7.length : Nat) : Int) == 1))))
                      else
                        bif (n3 == 17) then
                          bif (decide (((l7.length : Nat) : Int) ≥ 1)) then
                            some (.v (.cell (.bool (decide (((l7.length : Nat) : Int) ≤ 4)))))
                          else
                            some (.v (.cell (.bool false)))
                        else
                          some (.v (.cell (.bool (((l7.length : Nat) : Int) == 1))))
                else
                  bif (n3 == 24) then
                    atR_ l2 n5 [.sl 1 [], .sl 1 [], .int 0, .sl 5 [], .int 0] fun l125 l126 n127 l128 n129 =>
                    some (.v (.cell (.bool (((l7.length : Nat) : Int) == ((l125.length : Nat) : Int)))))
                  else
                    bif (n3 == 10) then
                      atR_ l2 n5 [.sl 1 [], .sl 1 [], .int 0, .sl 5 [], .int 0] fun l130 l131 n132 l133 n134 =>
                      some (.v (.cell (.bool (((l7.length : Nat) : Int) == (wrapI (((l130.length : Nat) : Int) - 1))))))
                    else
                      bif (n3 == 16) then
                        bif (n3 == 16) then
                          bif (decide (((l7.length : Nat) : Int) ≥ 1)) then
                            some (.v (.cell (.bool (decide (((l7.length : Nat) : Int) ≤ 4)))))
                          else
                            some (.v (.cell (.bool false)))
                        else
                          some (.v (.cell (.bool (((l7.length : Nat) : Int) == 1))))
                      else
                        bif (n3 == 17) then
                          bif (decide (((l7.length : Nat) : Int) ≥ 1)) then
                            some (.v (.cell (.bool (decide (((l7.length : Nat) : Int) ≤ 4)))))
                          else
                            some (.v (.cell (.bool false)))
                        else
                          some (.v (.cell (.bool (((l7.length : Nat) : Int) == 1))))
          else
            bif (n3 == 2) then
              bif (n3 == 2) then
                some (.v (.cell (.bool (((l7.length : Nat) : Int) == 2))))
              else
                bif (n3 == 6) then
                  callR (impl_fieldsOfCon [.cell (.sl 3 l1), .cell (.int n5)]) false [(false, [.sl 1 []])] fun l135 =>
                  some (.v (.cell (.bool (((l7.length : Nat) : Int) == ((l135.length : Nat) : Int)))))
                else
                  bif (n3 == 9) then
                    bif (n3 == 9) then
                      atR_ l2 n5 [.sl 1 [], .sl 1 [], .int 0, .sl 5 [], .int 0] fun l136 l137 n138 l139 n140 =>
                      some (.v (.cell (.bool (((l7.length : Nat) : Int) == ((l136.length : Nat) : Int)))))
                    else
                      bif (n3 == 10) then
                        atR_ l2 n5 [.sl 1 [], .sl 1 [], .int 0, .sl 5 [], .int 0] fun l141 l142 n143 l144 n145 =>
                        some (.v (.cell (.bool (((l7.length : Nat) : Int) == (wrapI (((l141.length : Nat) : Int) - 1))))))
                      else
                        bif (n3 == 16) then
                          bif (n3 == 16) then
                            bif (decide (((l7.length : Nat) : Int) ≥ 1)) then
                              some (.v (.cell (.bool (decide (((l7.length : Nat) : Int) ≤ 4)))))
                            else
                              some (.v (.cell (.bool false)))
                          else
                            some (.v (.cell (.bool (((l7.length : Nat) : Int) == 1))))
                        else
                          bif (n3 == 17) then
                            bif (decide (((l7.length : Nat) : Int) ≥ 1)) then
                              some (.v (.cell (.bool (decide (((l7.length : Nat) : Int) ≤ 4)))))
                            else
                              some (.v (.cell (.bool false)))
                          else
                            some (.v (.cell (.bool (((l7.length : Nat) : Int) == 1))))
                  else
                    bif (n3 == 24) then
                      atR_ l2 n5 [.sl 1 [], .sl 1 [], .int 0, .sl 5 [], .int 0] fun l146 l147 n148 l149 n150 =>
                      some (.v (.cell (.bool (((l7.length : Nat) : Int) == ((l146.length : Nat) : Int)))))
                    else
                      bif (n3 == 10) then
                        atR_ l2 n5 [.sl 1 [], .sl 1 [], .int 0, .sl 5 [], .int 0] fun l151 l152 n153 l154 n155 =>
                        some (.v (.cell (.bool (((l7.length : Nat) : Int) == (wrapI (((l151.length : Nat) : Int) - 1))))))
                      else
                        bif (n3 == 16) then
                          bif (n3 == 16) then
                            bif (decide (((l7.length : Nat) : Int) ≥ 1)) then
                              some (.v (.cell (.bool (decide (((l7.length : Nat) : Int) ≤ 4)))))
                            else
                              some (.v (.cell (.bool false)))
                          else
                            some (.v (.cell (.bool (((l7.length : Nat) : Int) == 1))))
                        else
                          bif (n3 == 17) then
                            bif (decide (((l7.length : Nat) : Int) ≥ 1)) then
                              some (.v (.cell (.bool (decide (((l7.length : Nat) : Int) ≤ 4)))))
                            else
                              some (.v (.cell (.bool false)))
                          else
                            some (.v (.cell (.bool (((l7.length : Nat) : Int) == 1))))
            else
              bif (n3 == 3) then
                bif (n3 == 3) then
                  some (.v (.cell (.bool (((l7.length : Nat) : Int) == 2))))
                else
                  bif (n3 == 6) then
                    callR (impl_fieldsOfCon [.cell (.sl 3 l1), .cell (.int n5)]) false [(false, [.sl 1 []])] fun l156 =>
                    some (.v (.cell (.bool (((l7.length : Nat) : Int) == ((l156.length : Nat) : Int)))))
                  else
                    bif (n3 == 9) then
                      bif (n3 == 9) then
                        atR_ l2 n5 [.sl 1 [], .sl 1 [], .int 0, .sl 5 [], .int 0] fun l157 l158 n159 l160 n161 =>
                        some (.v (.cell (.bool (((l7.length : Nat) : Int) == ((l157.length : Nat) : Int)))))
                      else
                        bif (n3 == 10) then
                          atR_ l2 n5 [.sl 1 [], .sl 1 [], .int 0, .sl 5 [], .int 0] fun l162 l163 n164 l165 n166 =>
                          some (.v (.cell (.bool (((l7.length : Nat) : Int) == (wrapI (((l162.length : Nat) : Int) - 1))))))
                        else
                          bif (n3 == 16) then
                            bif (n3 == 16) then
                              bif (decide (((l7.length : Nat) : Int) ≥ 1)) then
                                some (.v (.cell (.bool (decide (((l7.length : Nat) : Int) ≤ 4)))))
                              else
                                some (.v (.cell (.bool false)))
                            else
                              some (.v (.cell (.bool (((l7.length : Nat) : Int) == 1))))
                          else
                            bif (n3 == 17) then
                              bif (decide (((l7.length : Nat) : Int) ≥ 1)) then
                                some (.v (.cell (.bool (decide (((l7.length : Nat) : Int) ≤ 4)))))
                              else
                                some (.v (.cell (.bool false)))
                            else
                              some (.v (.cell (.bool (((l7.length : Nat) : Int) == 1))))
                    else
                      bif (n3 == 24) then
                        atR_ l2 n5 [.sl 1 [], .sl 1 [], .int 0, .sl 5 [], .int 0] fun l167 l168 n169 l170 n171 =>
                        some (.v (.cell (.bool (((l7.length : Nat) : Int) == ((l167.length : Nat) : Int)))))
                      else
                        bif (n3 == 10) then
                          atR_ l2 n5 [.sl 1 [], .sl 1 [], .int 0, .sl 5 [], .int 0] fun l172 l173 n174 l175 n176 =>
                          some (.v (.cell (.bool (((l7.length : Nat) : Int) == (wrapI (((l172.length : Nat) : Int) - 1))))))
                        else
                          bif (n3 == 16) then
                            bif (n3 == 16) then
                              bif (decide (((l7.length : Nat) : Int) ≥ 1)) then
                                some (.v (.cell (.bool (decide (((l7.length : Nat) : Int) ≤ 4)))))
                              else
                                some (.v (.cell (.bool false)))
                            else
                              some (.v (.cell (.bool (((l7.length : Nat) : Int) == 1))))
                          else
                            bif (n3 == 17) then
                              bif (decide (((l7.length : Nat) : Int) ≥ 1)) then
                                some (.v (.cell (.bool (decide (((l7.length : Nat) : Int) ≤ 4)))))
                              else
                                some (.v (.cell (.bool false)))
                            else
                              some (.v (.cell (.bool (((l7.length : Nat) : Int) == 1))))
              else
                bif (n3 == 4) then
                  bif (n3 == 4) then
                    some (.v (.cell (.bool (((l7.length : Nat) : Int) == 2))))
                  else
                    bif (n3 == 6) then
                      callR (impl_fieldsOfCon [.cell (.sl 3 l1), .cell (.int n5)]) false [(false, [.sl 1 []])] fun l177 =>
                      some (.v (.cell (.bool (((l7.length : Nat) : Int) == ((l177.length : Nat) : Int)))))
                    else
                      bif (n3 == 9) then
                        bif (n3 == 9) then
                          atR_ l2 n5 [.sl 1 [], .sl 1 [], .int 0, .sl 5 [], .int 0] fun l178 l179 n180 l181 n182 =>
                          some (.v (.cell (.bool (((l7.length : Nat) : Int) == ((l178.length : Nat) : Int)))))
                        else
                          bif (n3 == 10) then
                            atR_ l2 n5 [.sl 1 [], .sl 1 [], .int 0, .sl 5 [], .int 0] fun l183 l184 n185 l186 n187 =>
                            some (.v (.cell (.bool (((l7.length : Nat) : Int) == (wrapI (((l183.length : Nat) : Int) - 1))))))
                          else
                            bif (n3 == 16) then
                              bif (n3 == 16) then
                                bif (decide (((l7.length : Nat) : Int) ≥ 1)) then
                                  some (.v (.cell (.bool (decide (((l7.length : Nat) : Int) ≤ 4)))))
                                else
                                  some (.v (.cell (.bool false)))
                              else
                                some (.v (.cell (.bool (((l7.length : Nat) : Int) == 1))))
                            else
                              bif (n3 == 17) then
                                bif (decide (((l7.length : Nat) : Int) ≥ 1)) then
                                  some (.v (.cell (.bool (decide (((l7.length : Nat) : Int) ≤ 4)))))
                                else
                                  some (.v (.cell (.bool false)))
                              else
                                some (.v (.cell (.bool (((l7.length : Nat) : Int) == 1))))
                      else
                        bif (n3 == 24) then
                          atR_ l2 n5 [.sl 1 [], .sl 1 [], .int 0, .sl 5 [], .int 0] fun l188 l189 n190 l191 n192 =>
                          some (.v (.cell (.bool (((l7.length : Nat) : Int) == ((l188.length : Nat) : Int)))))
                        else
                          bif (n3 == 10) then
                            atR_ l2 n5 [.sl 1 [], .sl 1 [], .int 0, .sl 5 [], .int 0] fun l193 l194 n195 l196 n197 =>
                            some (.v (.cell (.bool (((l7.length : Nat) : Int) == (wrapI (((l193.length : Nat) : Int) - 1))))))
                          else
                            bif (n3 == 16) then
                              bif (n3 == 16) then
                                bif (decide (((l7.length : Nat) : Int) ≥ 1)) then
                                  some (.v (.cell (.bool (decide (((l7.length : Nat) : Int) ≤ 4)))))
                                else
                                  some (.v (.cell (.bool false)))
                              else
                                some (.v (.cell (.bool (((l7.length : Nat) : Int) == 1))))
                            else
                              bif (n3 == 17) then
                                bif (decide (((l7.length : Nat) : Int) ≥ 1)) then
                                  some (.v (.cell (.bool (decide (((l7.length : Nat) : Int) ≤ 4)))))
                                else
                                  some (.v (.cell (.bool false)))
                              else
                                some (.v (.cell (.bool (((l7.length : Nat) : Int) == 1))))
                else
                  bif (n3 == 11) then
                    some (.v (.cell (.bool (((l7.length : Nat) : Int) == 2))))
                  else
                    bif (n3 == 6) then
                      callR (impl_fieldsOfCon [.cell (.sl 3 l1), .cell (.int n5)]) false [(false, [.sl 1 []])] fun l198 =>
                      some (.v (.cell (.bool (((l7.length : Nat) : Int) == ((l198.length : Nat) : Int)))))
                    else
                      bif (n3 == 9) then
                        bif (n3 == 9) then
                          atR_ l2 n5 [.sl 1 [], .sl 1 [], .int 0, .sl 5 [], .int 0] fun l199 l200 n201 l202 n203 =>
                          some (.v (.cell (.bool (((l7.length : Nat) : Int) == ((l199.length : Nat) : Int)))))
                        else
                          bif (n3 == 10) then
                            atR_ l2 n5 [.sl 1 [], .sl 1 [], .int 0, .sl 5 [], .int 0] fun l204 l205 n206 l207 n208 =>
                            some (.v (.cell (.bool (((l7.length : Nat) : Int) == (wrapI (((l204.length : Nat) : Int) - 1))))))
                          else
                            bif (n3 == 16) then
                              bif (n3 == 16) then
                                bif (decide (((l7.length : Nat) : Int) ≥ 1)) then
                                  some (.v (.cell (.bool (decide (((l7.length : Nat) : Int) ≤ 4)))))
                                else
                                  some (.v (.cell (.bool false)))
                              else
                                some (.v (.cell (.bool (((l7.length : Nat) : Int) == 1))))
                            else
                              bif (n3 == 17) then
                                bif (decide (((l7.length : Nat) : Int) ≥ 1)) then
                                  some (.v (.cell (.bool (decide (((l7.length : Nat) : Int) ≤ 4)))))
                                else
                                  some (.v (.cell (.bool false)))
                              else
                                some (.v (.cell (.bool (((l7.length : Nat) : Int) == 1))))
                      else
                        bif (n3 == 24) then
                          atR_ l2 n5 [.sl 1 [], .sl 1 [], .int 0, .sl 5 [], .int 0] fun l209 l210 n211 l212 n213 =>
                          some (.v (.cell (.bool (((l7.length : Nat) : Int) == ((l209.length : Nat) : Int)))))
                        else
                          bif (n3 == 10) then
                            atR_ l2 n5 [.sl 1 [], .sl 1 [], .int 0, .sl 5 [], .int 0] fun l214 l215 n216 l217 n218 =>
                            some (.v (.cell (.bool (((l7.length : Nat) : Int) == (wrapI (((l214.length : Nat) : Int) - 1))))))
                          else
                            bif (n3 == 16) then
                              bif (n3 == 16) then
                                bif (decide (((l7.length : Nat) : Int) ≥ 1)) then
                                  some (.v (.cell (.bool (decide (((l7.length : Nat) : Int) ≤ 4)))))
                                else
                                  some (.v (.cell (.bool false)))
                              else
                                some (.v (.cell (.bool (((l7.length : Nat) : Int) == 1))))
                            else
                              bif (n3 == 17) then
                                bif (decide (((l7.length : Nat) : Int) ≥ 1)) then
                                  some (.v (.cell (.bool (decide (((l7.length : Nat) : Int) ≤ 4)))))
                                else
                                  some (.v (.cell (.bool false)))
                              else
                                some (.v (.cell (.bool (((l7.length : Nat) : Int) == 1)))) : Option AV) = some r) : impl_validArgs [.agg [.sl 3 l1, .sl 5 l2], .agg [.int n3, .int n4, .int n5, .int n6, .sl 1 l7, .sl 1 l8]] = some r :=
  V_le (X := X_impl_validArgs) (n := 100000) (c := cOf Tryz.f106) (by kernel_rfl) Tryz.func106 (by kernel_rfl) (of_decide_eq_true (by kernel_rfl)) (Eq.trans (by kernel_rfl) h)
noncomputable def X_impl_validJumps : Ctx := { P := Tryz.prog, L := lay, F := sig.has, E := ext, fn := Tryz.f107, lv := [(0, [2, 4, 36, 37, 38])], jv := [], tp := [] }
noncomputable def impl_validJumps_L0 (n18 : Int) (l19 : List (List AC)) (l20 : List (List AC)) (n21 : Int) (n22 : Int) (l23 : List (List AC)) (l24 : List (List AC)) (n25 : Int) (n26 : Int) : Option AV := GL X_impl_validJumps 0 [(2, .v (.cell (.int n18))), (4, .box [.sl 1 l19, .sl 1 l20, .int n21, .int n22, .sl 6 l23]), (36, .v (.cell (.sl 1 l24))), (37, .v (.cell (.int n25))), (38, .v (.cell (.int n26)))]
theorem impl_validJumps_L0_le {n18 : Int} {l19 : List (List AC)} {l20 : List (List AC)} {n21 : Int} {n22 : Int} {l23 : List (List AC)} {l24 : List (List AC)} {n25 : Int} {n26 : Int} {r : AV} (h : (
    bif (decide (n26 < n25)) then
        atR_ l24 n26 [.int 0] fun n27 =>
        callR (impl_isLater [.agg [.sl 1 l19, .sl 1 l20, .int n21, .int n22, .sl 6 l23], .cell (.int n18), .cell (.int n27)]) false [(false, [.bool false])] fun b28 =>
        bif (!b28) then
          some (.v (.cell (.bool false)))
        else
          impl_validJumps_L0 n18 l19 l20 n21 n22 l23 l24 n25 (wrapI (n26 + 1))
      else
        some (.v (.cell (.bool true))) : Option AV) = some r) : impl_validJumps_L0 n18 l19 l20 n21 n22 l23 l24 n25 n26 = some r :=
  GL_le (X := X_impl_validJumps) (n := 100000) (by kernel_rfl) (by kernel_rfl : (X_impl_validJumps.fn.body.bind fun c => locL 0 c []) = some (.loop (loopOf (X_impl_validJumps.fn.body.bind fun c => locL 0 c [])), ksOf (X_impl_validJumps.fn.body.bind fun c => locL 0 c []))) (Eq.trans (by kernel_rfl) h)
theorem impl_validJumps_le {l1 : List (List AC)} {l2 : List (List AC)} {l3 : List (List AC)} {l4 : List (List AC)} {n5 : Int} {n6 : Int} {l7 : List (List AC)} {n8 : Int} {r : AV} (h : (
    atR_ l7 n8 [.int 0, .int 0, .int 0, .int 0, .sl 1 [], .sl 1 []] fun n9 n10 n11 n12 l13 l14 =>
      bif (n9 != 21) then
        some (.v (.cell (.bool (((l14.length : Nat) : Int) == 0))))
      else
        atR_ l1 (wrapI (n11 - 1)) [.int 0, .int 0, .sl 1 []] fun n15 n16 l17 =>
        bif (((l14.length : Nat) : Int) != ((l17.length : Nat) : Int)) then
          some (.v (.cell (.bool false)))
        else
          impl_validJumps_L0 n8 l3 l4 n5 n6 l7 l14 ((l14.length : Nat) : Int) 0 : Option AV) = some r) : impl_validJumps [.agg [.sl 3 l1, .sl 5 l2], .agg [.sl 1 l3, .sl 1 l4, .int n5, .int n6, .sl 6 l7], .cell (.int n8)] = some r :=
  V_le (X := X_impl_validJumps) (n := 100000) (c := cOf Tryz.f107) (by kernel_rfl) Tryz.func107 (by kernel_rfl) (of_decide_eq_true (by kernel_rfl)) (Eq.trans (by kernel_rfl) h)
noncomputable def X_impl_validRegs : Ctx := { P := Tryz.prog, L := lay, F := sig.has, E := ext, fn := Tryz.f108, lv := [(0, [0, 3, 8, 9, 10])], jv := [], tp := [] }
noncomputable def impl_validRegs_L0 (n8 : Int) (n9 : Int) (n10 : Int) (n11 : Int) (n12 : Int) (l13 : List (List AC)) (l14 : List (List AC)) (l15 : List (List AC)) (n16 : Int) (n17 : Int) : Option AV := GL X_impl_validRegs 0 [(0, .v (.cell (.int n8))), (3, .box [.int n9, .int n10, .int n11, .int n12, .sl 1 l13, .sl 1 l14]), (8, .v (.cell (.sl 1 l15))), (9, .v (.cell (.int n16))), (10, .v (.cell (.int n17)))]
theorem impl_validRegs_L0_le {n8 : Int} {n9 : Int} {n10 : Int} {n11 : Int} {n12 : Int} {l13 : List (List AC)} {l14 : List (List AC)} {l15 : List (List AC)} {n16 : Int} {n17 : Int} {r : AV} (h : (
    bif (decide (n17 < n16)) then
        atR_ l15 n17 [.int 0] fun n18 =>
        bif (decide (n18 < 0)) then
          some (.v (.cell (.bool false)))
        else
          bif (decide (n18 ≥ n8)) then
            some (.v (.cell (.bool false)))
          else
            impl_validRegs_L0 n8 n9 n10 n11 n12 l13 l14 l15 n16 (wrapI (n17 + 1))
      else
        bif (decide (n10 < 0)) then
          some (.v (.cell (.bool false)))
        else
          bif (decide (n10 ≥ n8)) then
            some (.v (.cell (.bool false)))
          else
            bif (n10 != 0) then
              callR (impl_setsDst [.cell (.int n9)]) false [(false, [.bool false])] fun b19 =>
              bif (!b19) then
                some (.v (.cell (.bool false)))
              else
                bif (n12 == 0) then
                  some (.v (.cell (.bool true)))
                else
                  bif (n9 == 6) then
                    bif (decide (n12 > 0)) then
                      some (.v (.cell (.bool (decide (n12 ≤ n8)))))
                    else
                      some (.v (.cell (.bool false)))
                  else
                    some (.v (.cell (.bool false)))
            else
              bif (n12 == 0) then
                some (.v (.cell (.bool true)))
              else
                bif (n9 == 6) then
                  bif (decide (n12 > 0)) then
                    some (.v (.cell (.bool (decide (n12 ≤ n8)))))
                  else
                    some (.v (.cell (.bool false)))
                else
                  some (.v (.cell (.bool false))) : Option AV) = some r) : impl_validRegs_L0 n8 n9 n10 n11 n12 l13 l14 l15 n16 n17 = some r :=
  GL_le (X := X_impl_validRegs) (n := 100000) (by kernel_rfl) (by kernel_rfl : (X_impl_validRegs.fn.body.bind fun c => locL 0 c []) = some (.loop (loopOf (X_impl_validRegs.fn.body.bind fun c => locL 0 c [])), ksOf (X_impl_validRegs.fn.body.bind fun c => locL 0 c []))) (Eq.trans (by kernel_rfl) h)
theorem impl_validRegs_le {n1 : Int} {n2 : Int} {n3 : Int} {n4 : Int} {n5 : Int} {l6 : List (List AC)} {l7 : List (List AC)} {r : AV} (h : (
    impl_validRegs_L0 n1 n2 n3 n4 n5 l6 l7 l6 ((l6.length : Nat) : Int) 0 : Option AV) = some r) : impl_validRegs [.cell (.int n1), .agg [.int n2, .int n3, .int n4, .int n5, .sl 1 l6, .sl 1 l7]] = some r :=
  V_le (X := X_impl_validRegs) (n := 100000) (c := cOf Tryz.f108) (by kernel_rfl) Tryz.func108 (by kernel_rfl) (of_decide_eq_true (by kernel_rfl)) (Eq.trans (by kernel_rfl) h)
noncomputable def X_impl_hasInt : Ctx := { P := Tryz.prog, L := lay, F := sig.has, E := ext, fn := Tryz.f109, lv := [(0, [1, 7, 8, 9])], jv := [], tp := [] }
noncomputable def impl_hasInt_L0 (n3 : Int) (l4 : List (List AC)) (n5 : Int) (n6 : Int) : Option AV := GL X_impl_hasInt 0 [(1, .v (.cell (.int n3))), (7, .v (.cell (.sl 1 l4))), (8, .v (.cell (.int n5))), (9, .v (.cell (.int n6)))]
theorem impl_hasInt_L0_le {n3 : Int} {l4 : List (List AC)} {n5 : Int} {n6 : Int} {r : AV} (h : (
    bif (decide (n6 < n5)) then
        atR_ l4 n6 [.int 0] fun n7 =>
        bif (n7 == n3) then
          some (.v (.cell (.bool true)))
        else
          impl_hasInt_L0 n3 l4 n5 (wrapI (n6 + 1))
      else
        some (.v (.cell (.bool false))) : Option AV) = some r) : impl_hasInt_L0 n3 l4 n5 n6 = some r :=
  GL_le (X := X_impl_hasInt) (n := 100000) (by kernel_rfl) (by kernel_rfl : (X_impl_hasInt.fn.body.bind fun c => locL 0 c []) = some (.loop (loopOf (X_impl_hasInt.fn.body.bind fun c => locL 0 c [])), ksOf (X_impl_hasInt.fn.body.bind fun c => locL 0 c []))) (Eq.trans (by kernel_rfl) h)
theorem impl_hasInt_le {l1 : List (List AC)} {n2 : Int} {r : AV} (h : (
    impl_hasInt_L0 n2 l1 ((l1.length : Nat) : Int) 0 : Option AV) = some r) : impl_hasInt [.cell (.sl 1 l1), .cell (.int n2)] = some r :=
  V_le (X := X_impl_hasInt) (n := 100000) (c := cOf Tryz.f109) (by kernel_rfl) Tryz.func109 (by kernel_rfl) (of_decide_eq_true (by kernel_rfl)) (Eq.trans (by kernel_rfl) h)
noncomputable def X_impl_isWord : Ctx := { P := Tryz.prog, L := lay, F := sig.has, E := ext, fn := Tryz.f110, lv := [], jv := [], tp := [] }
theorem impl_isWord_le {l1 : List (List AC)} {n2 : Int} {r : AV} (h : (
    callR (impl_inInts [.cell (.int n2)]) false [(false, [.bool false])] fun b3 =>
      bif b3 then
        some (.v (.cell (.bool true)))
      else
        callR (impl_cellOfWord [.cell (.int n2)]) false [(false, [.int 0])] fun n4 =>
        callR (impl_isLive [.cell (.sl 3 l1), .cell (.int n4)]) false [(false, [.bool false])] fun b5 =>
        some (.v (.cell (.bool b5))) : Option AV) = some r) : impl_isWord [.cell (.sl 3 l1), .cell (.int n2)] = some r :=
  V_le (X := X_impl_isWord) (n := 100000) (c := cOf Tryz.f110) (by kernel_rfl) Tryz.func110 (by kernel_rfl) (of_decide_eq_true (by kernel_rfl)) (Eq.trans (by kernel_rfl) h)
noncomputable def X_impl_isLive : Ctx := { P := Tryz.prog, L := lay, F := sig.has, E := ext, fn := Tryz.f111, lv := [], jv := [], tp := [] }
theorem impl_isLive_le {l1 : List (List AC)} {n2 : Int} {r : AV} (h : (
    bif (decide (n2 ≥ 0)) then
        bif (decide (n2 < ((l1.length : Nat) : Int))) then
          atR_ l1 n2 [.int 0, .int 0, .sl 1 []] fun n3 n4 l5 =>
          some (.v (.cell (.bool (decide (n3 > 0)))))
        else
          some (.v (.cell (.bool false)))
      else
        some (.v (.cell (.bool false))) : Option AV) = some r) : impl_isLive [.cell (.sl 3 l1), .cell (.int n2)] = some r :=
  V_le (X := X_impl_isLive) (n := 100000) (c := cOf Tryz.f111) (by kernel_rfl) Tryz.func111 (by kernel_rfl) (of_decide_eq_true (by kernel_rfl)) (Eq.trans (by kernel_rfl) h)
noncomputable def X_laws_eqCon : Ctx := { P := Tryz.prog, L := lay, F := sig.has, E := ext, fn := Tryz.f112, lv := [], jv := [], tp := [] }
theorem laws_eqCon_le {l1 : List (List AC)} {l2 : List (List AC)} {r : AV} (h : (
    callR (laws_eqIntS [.cell (.sl 1 l1), .cell (.sl 1 l2)]) false [(false, [.bool false])] fun b3 =>
      bif (!b3) then
        some (.v (.cell (.bool false)))
      else
        some (.v (.cell (.bool true))) : Option AV) = some r) : laws_eqCon [.agg [.sl 1 l1], .agg [.sl 1 l2]] = some r :=
  V_le (X := X_laws_eqCon) (n := 100000) (c := cOf Tryz.f112) (by kernel_rfl) Tryz.func112 (by kernel_rfl) (of_decide_eq_true (by kernel_rfl)) (Eq.trans (by kernel_rfl) h)
noncomputable def X_laws_eqInstr : Ctx := { P := Tryz.prog, L := lay, F := sig.has, E := ext, fn := Tryz.f113, lv := [], jv := [], tp := [] }
theorem laws_eqInstr_le {n1 : Int} {n2 : Int} {n3 : Int} {n4 : Int} {l5 : List (List AC)} {l6 : List (List AC)} {n7 : Int} {n8 : Int} {n9 : Int} {n10 : Int} {l11 : List (List AC)} {l12 : List (List AC)} {r : AV} (h : (
    bif (n1 != n7) then
        some (.v (.cell (.bool false)))
      else
        bif (n2 != n8) then
          some (.v (.cell (.bool false)))
        else
          bif (n3 != n9) then
            some (.v (.cell (.bool false)))
          else
            bif (n4 != n10) then
              some (.v (.cell (.bool false)))
            else
              callR (laws_eqIntS [.cell (.sl 1 l5), .cell (.sl 1 l11)]) false [(false, [.bool false])] fun b13 =>
              bif (!b13) then
                some (.v (.cell (.bool false)))
              else
                callR (laws_eqIntS [.cell (.sl 1 l6), .cell (.sl 1 l12)]) false [(false, [.bool false])] fun b14 =>
                bif (!b14) then
                  some (.v (.cell (.bool false)))
                else
                  some (.v (.cell (.bool true))) : Option AV) = some r) : laws_eqInstr [.agg [.int n1, .int n2, .int n3, .int n4, .sl 1 l5, .sl 1 l6], .agg [.int n7, .int n8, .int n9, .int n10, .sl 1 l11, .sl 1 l12]] = some r :=
  V_le (X := X_laws_eqInstr) (n := 100000) (c := cOf Tryz.f113) (by kernel_rfl) Tryz.func113 (by kernel_rfl) (of_decide_eq_true (by kernel_rfl)) (Eq.trans (by kernel_rfl) h)
noncomputable def X_spec_validDecl : Ctx := { P := Tryz.prog, L := lay, F := sig.has, E := ext, fn := Tryz.f114, lv := [(0, [0, 5, 6]), (2, [0, 1, 5, 7])], jv := [], tp := [] }
noncomputable def spec_validDecl_L0 (l6 : List (List AC)) (n7 : Int) (n8 : Int) (l9 : List (List AC)) (n10 : Int) : Option AV := GL X_spec_validDecl 0 [(0, .v (.cell (.sl 3 l6))), (5, .box [.int n7, .int n8, .sl 1 l9]), (6, .v (.cell (.int n10)))]
noncomputable def spec_validDecl_L2 (l11 : List (List AC)) (n12 : Int) (n13 : Int) (n14 : Int) (l15 : List (List AC)) (n16 : Int) : Option AV := GL X_spec_validDecl 2 [(0, .v (.cell (.sl 3 l11))), (1, .v (.cell (.int n12))), (5, .box [.int n13, .int n14, .sl 1 l15]), (7, .v (.cell (.int n16)))]
theorem spec_validDecl_L0_le {l6 : List (List AC)} {n7 : Int} {n8 : Int} {l9 : List (List AC)} {n10 : Int} {r : AV} (h : (
    bif (decide (n10 < ((l9.length : Nat) : Int))) then
        atR_ l9 n10 [.sl 1 []] fun l17 =>
        bif (decide (((l17.length : Nat) : Int) > 3)) then
          some (.v (.cell (.bool false)))
        else
          atR_ l9 n10 [.sl 1 []] fun l18 =>
          callR (spec_allTypes [.cell (.sl 3 l6), .cell (.sl 1 l18)]) false [(false, [.bool false])] fun b19 =>
          bif (!b19) then
            some (.v (.cell (.bool false)))
          else
            spec_validDecl_L0 l6 n7 n8 l9 (wrapI (n10 + 1))
      else
        some (.v (.cell (.bool true))) : Option AV) = some r) : spec_validDecl_L0 l6 n7 n8 l9 n10 = some r :=
  GL_le (X := X_spec_validDecl) (n := 100000) (by kernel_rfl) (by kernel_rfl : (X_spec_validDecl.fn.body.bind fun c => locL 0 c []) = some (.loop (loopOf (X_spec_validDecl.fn.body.bind fun c => locL 0 c [])), ksOf (X_spec_validDecl.fn.body.bind fun c => locL 0 c []))) (Eq.trans (by kernel_rfl) h)
theorem spec_validDecl_L2_le {l11 : List (List AC)} {n12 : Int} {n13 : Int} {n14 : Int} {l15 : List (List AC)} {n16 : Int} {r : AV} (h : (
    bif (decide (n16 < n12)) then
        atR_ l11 n16 [.int 0, .int 0, .sl 1 []] fun n20 n21 l22 =>
        bif (((l22.length : Nat) : Int) == 0) then
          atR_ l11 n16 [.int 0, .int 0, .sl 1 []] fun n23 n24 l25 =>
          bif (n23 == n13) then
            atR_ l11 n16 [.int 0, .int 0, .sl 1 []] fun n26 n27 l28 =>
            bif (n27 == n14) then
              some (.v (.cell (.bool false)))
            else
              spec_validDecl_L2 l11 n12 n13 n14 l15 (wrapI (n16 + 1))
          else
            spec_validDecl_L2 l11 n12 n13 n14 l15 (wrapI (n16 + 1))
        else
          spec_validDecl_L2 l11 n12 n13 n14 l15 (wrapI (n16 + 1))
      else
        callR (spec_inRange [.cell (.int n13), .cell (.int 0), .cell (.int ((l11.length : Nat) : Int))]) false [(false, [.bool false])] fun b29 =>
        bif b29 then
          callR (spec_inRange [.cell (.int n14), .cell (.int 0), .cell (.int ((l11.length : Nat) : Int))]) false [(false, [.bool false])] fun b30 =>
          some (.v (.cell (.bool b30)))
        else
          some (.v (.cell (.bool false))) : Option AV) = some r) : spec_validDecl_L2 l11 n12 n13 n14 l15 n16 = some r :=
  GL_le (X := X_spec_validDecl) (n := 100000) (by kernel_rfl) (by kernel_rfl : (X_spec_validDecl.fn.body.bind fun c => locL 2 c []) = some (.loop (loopOf (X_spec_validDecl.fn.body.bind fun c => locL 2 c [])), ksOf (X_spec_validDecl.fn.body.bind fun c => locL 2 c []))) (Eq.trans (by kernel_rfl) h)
theorem spec_validDecl_le {l1 : List (List AC)} {n2 : Int} {r : AV} (h : (
    atR_ l1 n2 [.int 0, .int 0, .sl 1 []] fun n3 n4 l5 =>
      bif (decide (((l5.length : Nat) : Int) > 0)) then
        bif (decide (((l5.length : Nat) : Int) > 3)) then
          some (.v (.cell (.bool false)))
        else
          bif (n3 != 0) then
            some (.v (.cell (.bool false)))
          else
            bif (n4 != 0) then
              some (.v (.cell (.bool false)))
            else
              spec_validDecl_L0 l1 n3 n4 l5 0
      else
        spec_validDecl_L2 l1 n2 n3 n4 l5 0 : Option AV) = some r) : spec_validDecl [.cell (.sl 3 l1), .cell (.int n2)] = some r :=
  V_le (X := X_spec_validDecl) (n := 100000) (c := cOf Tryz.f114) (by kernel_rfl) Tryz.func114 (by kernel_rfl) (of_decide_eq_true (by kernel_rfl)) (Eq.trans (by kernel_rfl) h)
noncomputable def X_spec_sets : Ctx := { P := Tryz.prog, L := lay, F := sig.has, E := ext, fn := Tryz.f115, lv := [], jv := [], tp := [] }
theorem spec_sets_le {n1 : Int} {r : AV} (h : (
    callR (spec_defines [.cell (.int n1)]) false [(false, [.bool false])] fun b2 =>
      bif b2 then
        bif (n1 != 7) then
          bif (n1 != 8) then
            some (.v (.cell (.bool true)))
          else
            bif (n1 == 18) then
              some (.v (.cell (.bool true)))
            else
              some (.v (.cell (.bool (n1 == 19))))
        else
          bif (n1 == 18) then
            some (.v (.cell (.bool true)))
          else
            some (.v (.cell (.bool (n1 == 19))))
      else
        bif (n1 == 18) then
          some (.v (.cell (.bool true)))
        else
          some (.v (.cell (.bool (n1 == 19)))) : Option AV) = some r) : spec_sets [.cell (.int n1)] = some r :=
  V_le (X := X_spec_sets) (n := 100000) (c := cOf Tryz.f115) (by kernel_rfl) Tryz.func115 (by kernel_rfl) (of_decide_eq_true (by kernel_rfl)) (Eq.trans (by kernel_rfl) h)
noncomputable def X_spec_conType : Ctx := { P := Tryz.prog, L := lay, F := sig.has, E := ext, fn := Tryz.f116, lv := [(0, [0, 1, 5])], jv := [], tp := [] }
noncomputable def spec_conType_L0 (l3 : List (List AC)) (n4 : Int) (n5 : Int) : Option AV := GL X_spec_conType 0 [(0, .v (.cell (.sl 3 l3))), (1, .v (.cell (.int n4))), (5, .v (.cell (.int n5)))]
theorem spec_conType_L0_le {l3 : List (List AC)} {n4 : Int} {n5 : Int} {r : AV} (h : (
    bif (decide (n5 < ((l3.length : Nat) : Int))) then
        callR (spec_firstCon [.cell (.sl 3 l3), .cell (.int n5)]) false [(false, [.int 0])] fun n6 =>
        atR_ l3 n5 [.int 0, .int 0, .sl 1 []] fun n7 n8 l9 =>
        callR (spec_inRange [.cell (.int n4), .cell (.int n6), .cell (.int (wrapI ((wrapI (n6 + ((l9.length : Nat) : Int))) - 1)))]) false [(false, [.bool false])] fun b10 =>
        bif b10 then
          some (.v (.cell (.int (wrapI (n5 + 1)))))
        else
          spec_conType_L0 l3 n4 (wrapI (n5 + 1))
      else
        some (.v (.cell (.int (-1)))) : Option AV) = some r) : spec_conType_L0 l3 n4 n5 = some r :=
  GL_le (X := X_spec_conType) (n := 100000) (by kernel_rfl) (by kernel_rfl : (X_spec_conType.fn.body.bind fun c => locL 0 c []) = some (.loop (loopOf (X_spec_conType.fn.body.bind fun c => locL 0 c [])), ksOf (X_spec_conType.fn.body.bind fun c => locL 0 c []))) (Eq.trans (by kernel_rfl) h)
theorem spec_conType_le {l1 : List (List AC)} {n2 : Int} {r : AV} (h : (
    spec_conType_L0 l1 n2 0 : Option AV) = some r) : spec_conType [.cell (.sl 3 l1), .cell (.int n2)] = some r :=
  V_le (X := X_spec_conType) (n := 100000) (c := cOf Tryz.f116) (by kernel_rfl) Tryz.func116 (by kernel_rfl) (of_decide_eq_true (by kernel_rfl)) (Eq.trans (by kernel_rfl) h)
noncomputable def X_spec_conFields : Ctx := { P := Tryz.prog, L := lay, F := sig.has, E := ext, fn := Tryz.f117, lv := [], jv := [], tp := [] }
theorem spec_conFields_le {l1 : List (List AC)} {n2 : Int} {r : AV} (h : (
    callR (spec_conType [.cell (.sl 3 l1), .cell (.int n2)]) false [(false, [.int 0])] fun n3 =>
      bif (decide (n3 < 1)) then
        some (.v (.cell (.sl 1 [])))
      else
        atR_ l1 (wrapI (n3 - 1)) [.int 0, .int 0, .sl 1 []] fun n4 n5 l6 =>
        callR (spec_firstCon [.cell (.sl 3 l1), .cell (.int (wrapI (n3 - 1)))]) false [(false, [.int 0])] fun n7 =>
        atR_ l6 (wrapI (n2 - n7)) [.sl 1 []] fun l8 =>
        some (.v (.cell (.sl 1 l8))) : Option AV) = some r) : spec_conFields [.cell (.sl 3 l1), .cell (.int n2)] = some r :=
  V_le (X := X_spec_conFields) (n := 100000) (c := cOf Tryz.f117) (by kernel_rfl) Tryz.func117 (by kernel_rfl) (of_decide_eq_true (by kernel_rfl)) (Eq.trans (by kernel_rfl) h)
noncomputable def X_spec_procWith : Ctx := { P := Tryz.prog, L := lay, F := sig.has, E := ext, fn := Tryz.f118, lv := [], jv := [], tp := [] }
theorem spec_procWith_le {l1 : List (List AC)} {l2 : List (List AC)} {n3 : Int} {n4 : Int} {n5 : Int} {r : AV} (h : (
    callR (spec_inRange [.cell (.int n3), .cell (.int 0), .cell (.int (wrapI (((l2.length : Nat) : Int) - 1)))]) false [(false, [.bool false])] fun b6 =>
      bif b6 then
        atR_ l2 n3 [.sl 1 [], .sl 1 [], .int 0, .int 0, .sl 6 []] fun l7 l8 n9 n10 l11 =>
        some (.v (.cell (.bool (((l7.length : Nat) : Int) == (wrapI (n4 + n5))))))
      else
        some (.v (.cell (.bool false))) : Option AV) = some r) : spec_procWith [.agg [.sl 3 l1, .sl 5 l2], .cell (.int n3), .cell (.int n4), .cell (.int n5)] = some r :=
  V_le (X := X_spec_procWith) (n := 100000) (c := cOf Tryz.f118) (by kernel_rfl) Tryz.func118 (by kernel_rfl) (of_decide_eq_true (by kernel_rfl)) (Eq.trans (by kernel_rfl) h)
noncomputable def X_spec_consOf : Ctx := { P := Tryz.prog, L := lay, F := sig.has, E := ext, fn := Tryz.f119, lv := [(0, [0, 1, 5, 6])], jv := [], tp := [] }
noncomputable def spec_consOf_L0 (l4 : List (List AC)) (n5 : Int) (l6 : List (List AC)) (n7 : Int) : Option AV := GL X_spec_consOf 0 [(0, .v (.cell (.sl 3 l4))), (1, .v (.cell (.int n5))), (5, .v (.cell (.sl 1 l6))), (6, .v (.cell (.int n7)))]
theorem spec_consOf_L0_le {l4 : List (List AC)} {n5 : Int} {l6 : List (List AC)} {n7 : Int} {r : AV} (h : (
    atR_ l4 (wrapI (n5 - 1)) [.int 0, .int 0, .sl 1 []] fun n8 n9 l10 =>
      bif (decide (n7 < ((l10.length : Nat) : Int))) then
        callR (spec_firstCon [.cell (.sl 3 l4), .cell (.int (wrapI (n5 - 1)))]) false [(false, [.int 0])] fun n11 =>
        appR l6 [[.int (wrapI (n11 + n7))]] fun l12 =>
        spec_consOf_L0 l4 n5 l12 (wrapI (n7 + 1))
      else
        some (.v (.cell (.sl 1 l6))) : Option AV) = some r) : spec_consOf_L0 l4 n5 l6 n7 = some r :=
  GL_le (X := X_spec_consOf) (n := 100000) (by kernel_rfl) (by kernel_rfl : (X_spec_consOf.fn.body.bind fun c => locL 0 c []) = some (.loop (loopOf (X_spec_consOf.fn.body.bind fun c => locL 0 c [])), ksOf (X_spec_consOf.fn.body.bind fun c => locL 0 c []))) (Eq.trans (by kernel_rfl) h)
theorem spec_consOf_le {l1 : List (List AC)} {n2 : Int} {r : AV} (h : (
    callR (spec_inRange [.cell (.int n2), .cell (.int 1), .cell (.int ((l1.length : Nat) : Int))]) false [(false, [.bool false])] fun b3 =>
      bif (!b3) then
        some (.v (.cell (.sl 1 [])))
      else
        spec_consOf_L0 l1 n2 [] 0 : Option AV) = some r) : spec_consOf [.cell (.sl 3 l1), .cell (.int n2)] = some r :=
  V_le (X := X_spec_consOf) (n := 100000) (c := cOf Tryz.f119) (by kernel_rfl) Tryz.func119 (by kernel_rfl) (of_decide_eq_true (by kernel_rfl)) (Eq.trans (by kernel_rfl) h)
noncomputable def X_spec_validJumps : Ctx := { P := Tryz.prog, L := lay, F := sig.has, E := ext, fn := Tryz.f120, lv := [(0, [0, 1, 2, 3, 9])], jv := [], tp := [] }
noncomputable def spec_validJumps_L0 (l5 : List (List AC)) (n6 : Int) (n7 : Int) (n8 : Int) (n9 : Int) : Option AV := GL X_spec_validJumps 0 [(0, .v (.cell (.sl 1 l5))), (1, .v (.cell (.int n6))), (2, .v (.cell (.int n7))), (3, .v (.cell (.int n8))), (9, .v (.cell (.int n9)))]
theorem spec_validJumps_L0_le {l5 : List (List AC)} {n6 : Int} {n7 : Int} {n8 : Int} {n9 : Int} {r : AV} (h : (
    bif (decide (n9 < n6)) then
        atR_ l5 n9 [.int 0] fun n10 =>
        callR (spec_inRange [.cell (.int n10), .cell (.int (wrapI (n7 + 1))), .cell (.int (wrapI (n8 - 1)))]) false [(false, [.bool false])] fun b11 =>
        bif (!b11) then
          some (.v (.cell (.bool false)))
        else
          spec_validJumps_L0 l5 n6 n7 n8 (wrapI (n9 + 1))
      else
        some (.v (.cell (.bool true))) : Option AV) = some r) : spec_validJumps_L0 l5 n6 n7 n8 n9 = some r :=
  GL_le (X := X_spec_validJumps) (n := 100000) (by kernel_rfl) (by kernel_rfl : (X_spec_validJumps.fn.body.bind fun c => locL 0 c []) = some (.loop (loopOf (X_spec_validJumps.fn.body.bind fun c => locL 0 c [])), ksOf (X_spec_validJumps.fn.body.bind fun c => locL 0 c []))) (Eq.trans (by kernel_rfl) h)
theorem spec_validJumps_le {l1 : List (List AC)} {n2 : Int} {n3 : Int} {n4 : Int} {r : AV} (h : (
    bif (((l1.length : Nat) : Int) != n2) then
        some (.v (.cell (.bool false)))
      else
        spec_validJumps_L0 l1 n2 n3 n4 0 : Option AV) = some r) : spec_validJumps [.cell (.sl 1 l1), .cell (.int n2), .cell (.int n3), .cell (.int n4)] = some r :=
  V_le (X := X_spec_validJumps) (n := 100000) (c := cOf Tryz.f120) (by kernel_rfl) Tryz.func120 (by kernel_rfl) (of_decide_eq_true (by kernel_rfl)) (Eq.trans (by kernel_rfl) h)
noncomputable def X_impl_validDecl : Ctx := { P := Tryz.prog, L := lay, F := sig.has, E := ext, fn := Tryz.f121, lv := [], jv := [], tp := [] }
theorem impl_validDecl_le {l1 : List (List AC)} {n2 : Int} {r : AV} (h : (
    atR_ l1 n2 [.int 0, .int 0, .sl 1 []] fun n3 n4 l5 =>
      bif (decide (((l5.length : Nat) : Int) > 0)) then
        bif (n3 == 0) then
          bif (n4 == 0) then
            callR (impl_validCons [.cell (.sl 3 l1), .cell (.sl 1 l5)]) false [(false, [.bool false])] fun b6 =>
            some (.v (.cell (.bool b6)))
          else
            some (.v (.cell (.bool false)))
        else
          some (.v (.cell (.bool false)))
      else
        callR (impl_isType [.cell (.sl 3 l1), .cell (.int n3)]) false [(false, [.bool false])] fun b7 =>
        bif b7 then
          callR (impl_isType [.cell (.sl 3 l1), .cell (.int n4)]) false [(false, [.bool false])] fun b8 =>
          bif b8 then
            cutR l1 0 n2 fun l9 =>
            callR (impl_arrowBetween [.cell (.sl 3 l9), .cell (.int n3), .cell (.int n4)]) false [(false, [.int 0])] fun n10 =>
            some (.v (.cell (.bool (decide (n10 < 0)))))
          else
            some (.v (.cell (.bool false)))
        else
          some (.v (.cell (.bool false))) : Option AV) = some r) : impl_validDecl [.cell (.sl 3 l1), .cell (.int n2)] = some r :=
  V_le (X := X_impl_validDecl) (n := 100000) (c := cOf Tryz.f121) (by kernel_rfl) Tryz.func121 (by kernel_rfl) (of_decide_eq_true (by kernel_rfl)) (Eq.trans (by kernel_rfl) h)
noncomputable def X_impl_areTypes : Ctx := { P := Tryz.prog, L := lay, F := sig.has, E := ext, fn := Tryz.f122, lv := [(0, [0, 7, 8, 9])], jv := [], tp := [] }
noncomputable def impl_areTypes_L0 (l3 : List (List AC)) (l4 : List (List AC)) (n5 : Int) (n6 : Int) : Option AV := GL X_impl_areTypes 0 [(0, .v (.cell (.sl 3 l3))), (7, .v (.cell (.sl 1 l4))), (8, .v (.cell (.int n5))), (9, .v (.cell (.int n6)))]
theorem impl_areTypes_L0_le {l3 : List (List AC)} {l4 : List (List AC)} {n5 : Int} {n6 : Int} {r : AV} (h : (
    bif (decide (n6 < n5)) then
        atR_ l4 n6 [.int 0] fun n7 =>
        callR (impl_isType [.cell (.sl 3 l3), .cell (.int n7)]) false [(false, [.bool false])] fun b8 =>
        bif (!b8) then
          some (.v (.cell (.bool false)))
        else
          impl_areTypes_L0 l3 l4 n5 (wrapI (n6 + 1))
      else
        some (.v (.cell (.bool true))) : Option AV) = some r) : impl_areTypes_L0 l3 l4 n5 n6 = some r :=
  GL_le (X := X_impl_areTypes) (n := 100000) (by kernel_rfl) (by kernel_rfl : (X_impl_areTypes.fn.body.bind fun c => locL 0 c []) = some (.loop (loopOf (X_impl_areTypes.fn.body.bind fun c => locL 0 c [])), ksOf (X_impl_areTypes.fn.body.bind fun c => locL 0 c []))) (Eq.trans (by kernel_rfl) h)
theorem impl_areTypes_le {l1 : List (List AC)} {l2 : List (List AC)} {r : AV} (h : (
    impl_areTypes_L0 l1 l2 ((l2.length : Nat) : Int) 0 : Option AV) = some r) : impl_areTypes [.cell (.sl 3 l1), .cell (.sl 1 l2)] = some r :=
  V_le (X := X_impl_areTypes) (n := 100000) (c := cOf Tryz.f122) (by kernel_rfl) Tryz.func122 (by kernel_rfl) (of_decide_eq_true (by kernel_rfl)) (Eq.trans (by kernel_rfl) h)
noncomputable def X_impl_isType : Ctx := { P := Tryz.prog, L := lay, F := sig.has, E := ext, fn := Tryz.f123, lv := [], jv := [], tp := [] }
theorem impl_isType_le {l1 : List (List AC)} {n2 : Int} {r : AV} (h : (
    bif (decide (n2 ≥ 0)) then
        some (.v (.cell (.bool (decide (n2 ≤ ((l1.length : Nat) : Int))))))
      else
        some (.v (.cell (.bool false))) : Option AV) = some r) : impl_isType [.cell (.sl 3 l1), .cell (.int n2)] = some r :=
  V_le (X := X_impl_isType) (n := 100000) (c := cOf Tryz.f123) (by kernel_rfl) Tryz.func123 (by kernel_rfl) (of_decide_eq_true (by kernel_rfl)) (Eq.trans (by kernel_rfl) h)
noncomputable def X_impl_typeOfCon : Ctx := { P := Tryz.prog, L := lay, F := sig.has, E := ext, fn := Tryz.f124, lv := [(0, [1, 5, 8, 9, 10])], jv := [], tp := [] }
noncomputable def impl_typeOfCon_L0 (n3 : Int) (n4 : Int) (l5 : List (List AC)) (n6 : Int) (n7 : Int) : Option AV := GL X_impl_typeOfCon 0 [(1, .v (.cell (.int n3))), (5, .v (.cell (.int n4))), (8, .v (.cell (.sl 3 l5))), (9, .v (.cell (.int n6))), (10, .v (.cell (.int n7)))]
theorem impl_typeOfCon_L0_le {n3 : Int} {n4 : Int} {l5 : List (List AC)} {n6 : Int} {n7 : Int} {r : AV} (h : (
    bif (decide (n7 < n6)) then
        atR_ l5 n7 [.int 0, .int 0, .sl 1 []] fun n8 n9 l10 =>
        bif (decide (n3 ≥ n4)) then
          bif (decide (n3 < (wrapI (n4 + ((l10.length : Nat) : Int))))) then
            some (.v (.cell (.int (wrapI (n7 + 1)))))
          else
            impl_typeOfCon_L0 n3 (wrapI (n4 + ((l10.length : Nat) : Int))) l5 n6 (wrapI (n7 + 1))
        else
          impl_typeOfCon_L0 n3 (wrapI (n4 + ((l10.length : Nat) : Int))) l5 n6 (wrapI (n7 + 1))
      else
        some (.v (.cell (.int (-1)))) : Option AV) = some r) : impl_typeOfCon_L0 n3 n4 l5 n6 n7 = some r :=
  GL_le (X := X_impl_typeOfCon) (n := 100000) (by kernel_rfl) (by kernel_rfl : (X_impl_typeOfCon.fn.body.bind fun c => locL 0 c []) = some (.loop (loopOf (X_impl_typeOfCon.fn.body.bind fun c => locL 0 c [])), ksOf (X_impl_typeOfCon.fn.body.bind fun c => locL 0 c []))) (Eq.trans (by kernel_rfl) h)
theorem impl_typeOfCon_le {l1 : List (List AC)} {n2 : Int} {r : AV} (h : (
    impl_typeOfCon_L0 n2 0 l1 ((l1.length : Nat) : Int) 0 : Option AV) = some r) : impl_typeOfCon [.cell (.sl 3 l1), .cell (.int n2)] = some r :=
  V_le (X := X_impl_typeOfCon) (n := 100000) (c := cOf Tryz.f124) (by kernel_rfl) Tryz.func124 (by kernel_rfl) (of_decide_eq_true (by kernel_rfl)) (Eq.trans (by kernel_rfl) h)
noncomputable def X_impl_hasRoutine : Ctx := { P := Tryz.prog, L := lay, F := sig.has, E := ext, fn := Tryz.f125, lv := [], jv := [], tp := [] }
theorem impl_hasRoutine_le {l1 : List (List AC)} {l2 : List (List AC)} {n3 : Int} {r : AV} (h : (
    bif (decide (n3 ≥ 0)) then
        some (.v (.cell (.bool (decide (n3 < ((l2.length : Nat) : Int))))))
      else
        some (.v (.cell (.bool false))) : Option AV) = some r) : impl_hasRoutine [.agg [.sl 3 l1, .sl 5 l2], .cell (.int n3)] = some r :=
  V_le (X := X_impl_hasRoutine) (n := 100000) (c := cOf Tryz.f125) (by kernel_rfl) Tryz.func125 (by kernel_rfl) (of_decide_eq_true (by kernel_rfl)) (Eq.trans (by kernel_rfl) h)
noncomputable def X_impl_lends : Ctx := { P := Tryz.prog, L := lay, F := sig.has, E := ext, fn := Tryz.f126, lv := [], jv := [], tp := [] }
theorem impl_lends_le {l1 : List (List AC)} {l2 : List (List AC)} {n3 : Int} {r : AV} (h : (
    callR (impl_hasRoutine [.agg [.sl 3 l1, .sl 5 l2], .cell (.int n3)]) false [(false, [.bool false])] fun b4 =>
      bif b4 then
        atR_ l2 n3 [.sl 1 [], .sl 1 [], .int 0, .sl 5 [], .int 0] fun l5 l6 n7 l8 n9 =>
        some (.v (.cell (.bool (decide (((l6.length : Nat) : Int) > 0)))))
      else
        some (.v (.cell (.bool false))) : Option AV) = some r) : impl_lends [.agg [.sl 3 l1, .sl 5 l2], .cell (.int n3)] = some r :=
  V_le (X := X_impl_lends) (n := 100000) (c := cOf Tryz.f126) (by kernel_rfl) Tryz.func126 (by kernel_rfl) (of_decide_eq_true (by kernel_rfl)) (Eq.trans (by kernel_rfl) h)
noncomputable def X_impl_isLater : Ctx := { P := Tryz.prog, L := lay, F := sig.has, E := ext, fn := Tryz.f127, lv := [], jv := [], tp := [] }
theorem impl_isLater_le {l1 : List (List AC)} {l2 : List (List AC)} {n3 : Int} {n4 : Int} {l5 : List (List AC)} {n6 : Int} {n7 : Int} {r : AV} (h : (
    bif (decide (n7 > n6)) then
        some (.v (.cell (.bool (decide (n7 < ((l5.length : Nat) : Int))))))
      else
        some (.v (.cell (.bool false))) : Option AV) = some r) : impl_isLater [.agg [.sl 1 l1, .sl 1 l2, .int n3, .int n4, .sl 6 l5], .cell (.int n6), .cell (.int n7)] = some r :=
  V_le (X := X_impl_isLater) (n := 100000) (c := cOf Tryz.f127) (by kernel_rfl) Tryz.func127 (by kernel_rfl) (of_decide_eq_true (by kernel_rfl)) (Eq.trans (by kernel_rfl) h)
noncomputable def X_impl_isData : Ctx := { P := Tryz.prog, L := lay, F := sig.has, E := ext, fn := Tryz.f128, lv := [], jv := [], tp := [] }
theorem impl_isData_le {l1 : List (List AC)} {n2 : Int} {r : AV} (h : (
    bif (decide (n2 > 0)) then
        callR (impl_isType [.cell (.sl 3 l1), .cell (.int n2)]) false [(false, [.bool false])] fun b3 =>
        bif b3 then
          atR_ l1 (wrapI (n2 - 1)) [.int 0, .int 0, .sl 1 []] fun n4 n5 l6 =>
          some (.v (.cell (.bool (decide (((l6.length : Nat) : Int) > 0)))))
        else
          some (.v (.cell (.bool false)))
      else
        some (.v (.cell (.bool false))) : Option AV) = some r) : impl_isData [.cell (.sl 3 l1), .cell (.int n2)] = some r :=
  V_le (X := X_impl_isData) (n := 100000) (c := cOf Tryz.f128) (by kernel_rfl) Tryz.func128 (by kernel_rfl) (of_decide_eq_true (by kernel_rfl)) (Eq.trans (by kernel_rfl) h)
noncomputable def X_impl_fieldsOfCon : Ctx := { P := Tryz.prog, L := lay, F := sig.has, E := ext, fn := Tryz.f129, lv := [], jv := [], tp := [] }
theorem impl_fieldsOfCon_le {l1 : List (List AC)} {n2 : Int} {r : AV} (h : (
    callR (impl_typeOfCon [.cell (.sl 3 l1), .cell (.int n2)]) false [(false, [.int 0])] fun n3 =>
      atR_ l1 (wrapI (n3 - 1)) [.int 0, .int 0, .sl 1 []] fun n4 n5 l6 =>
      callR (impl_firstCon [.cell (.sl 3 l1), .cell (.int n3)]) false [(false, [.int 0])] fun n7 =>
      atR_ l6 (wrapI (n2 - n7)) [.sl 1 []] fun l8 =>
      some (.v (.cell (.sl 1 l8))) : Option AV) = some r) : impl_fieldsOfCon [.cell (.sl 3 l1), .cell (.int n2)] = some r :=
  V_le (X := X_impl_fieldsOfCon) (n := 100000) (c := cOf Tryz.f129) (by kernel_rfl) Tryz.func129 (by kernel_rfl) (of_decide_eq_true (by kernel_rfl)) (Eq.trans (by kernel_rfl) h)
noncomputable def X_impl_setsDst : Ctx := { P := Tryz.prog, L := lay, F := sig.has, E := ext, fn := Tryz.f130, lv := [], jv := [], tp := [] }
theorem impl_setsDst_le {n1 : Int} {r : AV} (h : (
    bif (decide (n1 ≥ 0)) then
        bif (decide (n1 ≤ 11)) then
          some (.v (.cell (.bool true)))
        else
          bif (n1 == 18) then
            some (.v (.cell (.bool true)))
          else
            some (.v (.cell (.bool (n1 == 19))))
      else
        bif (n1 == 18) then
          some (.v (.cell (.bool true)))
        else
          some (.v (.cell (.bool (n1 == 19)))) : Option AV) = some r) : impl_setsDst [.cell (.int n1)] = some r :=
  V_le (X := X_impl_setsDst) (n := 100000) (c := cOf Tryz.f130) (by kernel_rfl) Tryz.func130 (by kernel_rfl) (of_decide_eq_true (by kernel_rfl)) (Eq.trans (by kernel_rfl) h)
noncomputable def X_spec_defines : Ctx := { P := Tryz.prog, L := lay, F := sig.has, E := ext, fn := Tryz.f131, lv := [], jv := [], tp := [] }
theorem spec_defines_le {n1 : Int} {r : AV} (h : (
    callR (spec_inRange [.cell (.int n1), .cell (.int 0), .cell (.int 11)]) false [(false, [.bool false])] fun b2 =>
      some (.v (.cell (.bool b2))) : Option AV) = some r) : spec_defines [.cell (.int n1)] = some r :=
  V_le (X := X_spec_defines) (n := 100000) (c := cOf Tryz.f131) (by kernel_rfl) Tryz.func131 (by kernel_rfl) (of_decide_eq_true (by kernel_rfl)) (Eq.trans (by kernel_rfl) h)
noncomputable def X_spec_firstCon : Ctx := { P := Tryz.prog, L := lay, F := sig.has, E := ext, fn := Tryz.f132, lv := [(0, [0, 1, 5, 6])], jv := [], tp := [] }
noncomputable def spec_firstCon_L0 (l3 : List (List AC)) (n4 : Int) (n5 : Int) (n6 : Int) : Option AV := GL X_spec_firstCon 0 [(0, .v (.cell (.sl 3 l3))), (1, .v (.cell (.int n4))), (5, .v (.cell (.int n5))), (6, .v (.cell (.int n6)))]
theorem spec_firstCon_L0_le {l3 : List (List AC)} {n4 : Int} {n5 : Int} {n6 : Int} {r : AV} (h : (
    bif (decide (n6 < n4)) then
        atR_ l3 n6 [.int 0, .int 0, .sl 1 []] fun n7 n8 l9 =>
        spec_firstCon_L0 l3 n4 (wrapI (n5 + ((l9.length : Nat) : Int))) (wrapI (n6 + 1))
      else
        some (.v (.cell (.int n5))) : Option AV) = some r) : spec_firstCon_L0 l3 n4 n5 n6 = some r :=
  GL_le (X := X_spec_firstCon) (n := 100000) (by kernel_rfl) (by kernel_rfl : (X_spec_firstCon.fn.body.bind fun c => locL 0 c []) = some (.loop (loopOf (X_spec_firstCon.fn.body.bind fun c => locL 0 c [])), ksOf (X_spec_firstCon.fn.body.bind fun c => locL 0 c []))) (Eq.trans (by kernel_rfl) h)
theorem spec_firstCon_le {l1 : List (List AC)} {n2 : Int} {r : AV} (h : (
    spec_firstCon_L0 l1 n2 0 0 : Option AV) = some r) : spec_firstCon [.cell (.sl 3 l1), .cell (.int n2)] = some r :=
  V_le (X := X_spec_firstCon) (n := 100000) (c := cOf Tryz.f132) (by kernel_rfl) Tryz.func132 (by kernel_rfl) (of_decide_eq_true (by kernel_rfl)) (Eq.trans (by kernel_rfl) h)
noncomputable def X_impl_validCons : Ctx := { P := Tryz.prog, L := lay, F := sig.has, E := ext, fn := Tryz.f133, lv := [(0, [0, 10, 11, 12])], jv := [], tp := [] }
noncomputable def impl_validCons_L0 (l3 : List (List AC)) (l4 : List (List AC)) (n5 : Int) (n6 : Int) : Option AV := GL X_impl_validCons 0 [(0, .v (.cell (.sl 3 l3))), (10, .v (.cell (.sl 1 l4))), (11, .v (.cell (.int n5))), (12, .v (.cell (.int n6)))]
theorem impl_validCons_L0_le {l3 : List (List AC)} {l4 : List (List AC)} {n5 : Int} {n6 : Int} {r : AV} (h : (
    bif (decide (n6 < n5)) then
        atR_ l4 n6 [.sl 1 []] fun l7 =>
        bif (decide (((l7.length : Nat) : Int) > 3)) then
          some (.v (.cell (.bool false)))
        else
          callR (impl_areTypes [.cell (.sl 3 l3), .cell (.sl 1 l7)]) false [(false, [.bool false])] fun b8 =>
          bif (!b8) then
            some (.v (.cell (.bool false)))
          else
            impl_validCons_L0 l3 l4 n5 (wrapI (n6 + 1))
      else
        some (.v (.cell (.bool true))) : Option AV) = some r) : impl_validCons_L0 l3 l4 n5 n6 = some r :=
  GL_le (X := X_impl_validCons) (n := 100000) (by kernel_rfl) (by kernel_rfl : (X_impl_validCons.fn.body.bind fun c => locL 0 c []) = some (.loop (loopOf (X_impl_validCons.fn.body.bind fun c => locL 0 c [])), ksOf (X_impl_validCons.fn.body.bind fun c => locL 0 c []))) (Eq.trans (by kernel_rfl) h)
theorem impl_validCons_le {l1 : List (List AC)} {l2 : List (List AC)} {r : AV} (h : (
    bif (decide (((l2.length : Nat) : Int) > 3)) then
        some (.v (.cell (.bool false)))
      else
        impl_validCons_L0 l1 l2 ((l2.length : Nat) : Int) 0 : Option AV) = some r) : impl_validCons [.cell (.sl 3 l1), .cell (.sl 1 l2)] = some r :=
  V_le (X := X_impl_validCons) (n := 100000) (c := cOf Tryz.f133) (by kernel_rfl) Tryz.func133 (by kernel_rfl) (of_decide_eq_true (by kernel_rfl)) (Eq.trans (by kernel_rfl) h)
noncomputable def X_impl_arrowBetween : Ctx := { P := Tryz.prog, L := lay, F := sig.has, E := ext, fn := Tryz.f134, lv := [(0, [1, 2, 9, 10, 11])], jv := [], tp := [] }
noncomputable def impl_arrowBetween_L0 (n4 : Int) (n5 : Int) (l6 : List (List AC)) (n7 : Int) (n8 : Int) : Option AV := GL X_impl_arrowBetween 0 [(1, .v (.cell (.int n4))), (2, .v (.cell (.int n5))), (9, .v (.cell (.sl 3 l6))), (10, .v (.cell (.int n7))), (11, .v (.cell (.int n8)))]
theorem impl_arrowBetween_L0_le {n4 : Int} {n5 : Int} {l6 : List (List AC)} {n7 : Int} {n8 : Int} {r : AV} (h : (
    bif (decide (n8 < n7)) then
        atR_ l6 n8 [.int 0, .int 0, .sl 1 []] fun n9 n10 l11 =>
        bif (((l11.length : Nat) : Int) == 0) then
          bif (n9 == n4) then
            bif (n10 == n5) then
              some (.v (.cell (.int (wrapI (n8 + 1)))))
            else
              impl_arrowBetween_L0 n4 n5 l6 n7 (wrapI (n8 + 1))
          else
            impl_arrowBetween_L0 n4 n5 l6 n7 (wrapI (n8 + 1))
        else
          impl_arrowBetween_L0 n4 n5 l6 n7 (wrapI (n8 + 1))
      else
        some (.v (.cell (.int (-1)))) : Option AV) = some r) : impl_arrowBetween_L0 n4 n5 l6 n7 n8 = some r :=
  GL_le (X := X_impl_arrowBetween) (n := 100000) (by kernel_rfl) (by kernel_rfl : (X_impl_arrowBetween.fn.body.bind fun c => locL 0 c []) = some (.loop (loopOf (X_impl_arrowBetween.fn.body.bind fun c => locL 0 c [])), ksOf (X_impl_arrowBetween.fn.body.bind fun c => locL 0 c []))) (Eq.trans (by kernel_rfl) h)
theorem impl_arrowBetween_le {l1 : List (List AC)} {n2 : Int} {n3 : Int} {r : AV} (h : (
    impl_arrowBetween_L0 n2 n3 l1 ((l1.length : Nat) : Int) 0 : Option AV) = some r) : impl_arrowBetween [.cell (.sl 3 l1), .cell (.int n2), .cell (.int n3)] = some r :=
  V_le (X := X_impl_arrowBetween) (n := 100000) (c := cOf Tryz.f134) (by kernel_rfl) Tryz.func134 (by kernel_rfl) (of_decide_eq_true (by kernel_rfl)) (Eq.trans (by kernel_rfl) h)
noncomputable def X_impl_firstCon : Ctx := { P := Tryz.prog, L := lay, F := sig.has, E := ext, fn := Tryz.f135, lv := [], jv := [], tp := [] }
theorem impl_firstCon_le {l1 : List (List AC)} {n2 : Int} {r : AV} (h : (
    cutR l1 0 (wrapI (n2 - 1)) fun l3 =>
      callR (impl_countCons [.cell (.sl 3 l3)]) false [(false, [.int 0])] fun n4 =>
      some (.v (.cell (.int n4))) : Option AV) = some r) : impl_firstCon [.cell (.sl 3 l1), .cell (.int n2)] = some r :=
  V_le (X := X_impl_firstCon) (n := 100000) (c := cOf Tryz.f135) (by kernel_rfl) Tryz.func135 (by kernel_rfl) (of_decide_eq_true (by kernel_rfl)) (Eq.trans (by kernel_rfl) h)
noncomputable def X_impl_countCons : Ctx := { P := Tryz.prog, L := lay, F := sig.has, E := ext, fn := Tryz.f136, lv := [(0, [3, 6, 7, 8])], jv := [], tp := [] }
noncomputable def impl_countCons_L0 (n2 : Int) (l3 : List (List AC)) (n4 : Int) (n5 : Int) : Option AV := GL X_impl_countCons 0 [(3, .v (.cell (.int n2))), (6, .v (.cell (.sl 3 l3))), (7, .v (.cell (.int n4))), (8, .v (.cell (.int n5)))]
theorem impl_countCons_L0_le {n2 : Int} {l3 : List (List AC)} {n4 : Int} {n5 : Int} {r : AV} (h : (
    bif (decide (n5 < n4)) then
        atR_ l3 n5 [.int 0, .int 0, .sl 1 []] fun n6 n7 l8 =>
        impl_countCons_L0 (wrapI (n2 + ((l8.length : Nat) : Int))) l3 n4 (wrapI (n5 + 1))
      else
        some (.v (.cell (.int n2))) : Option AV) = some r) : impl_countCons_L0 n2 l3 n4 n5 = some r :=
  GL_le (X := X_impl_countCons) (n := 100000) (by kernel_rfl) (by kernel_rfl : (X_impl_countCons.fn.body.bind fun c => locL 0 c []) = some (.loop (loopOf (X_impl_countCons.fn.body.bind fun c => locL 0 c [])), ksOf (X_impl_countCons.fn.body.bind fun c => locL 0 c []))) (Eq.trans (by kernel_rfl) h)
theorem impl_countCons_le {l1 : List (List AC)} {r : AV} (h : (
    impl_countCons_L0 0 l1 ((l1.length : Nat) : Int) 0 : Option AV) = some r) : impl_countCons [.cell (.sl 3 l1)] = some r :=
  V_le (X := X_impl_countCons) (n := 100000) (c := cOf Tryz.f136) (by kernel_rfl) Tryz.func136 (by kernel_rfl) (of_decide_eq_true (by kernel_rfl)) (Eq.trans (by kernel_rfl) h)
end Go.Proofs.YthfihhejbplmfaaGreat
