/- What functions compute, place by place. MADE BY lift.py. -/
import Derived.Test.YtbdngmeoohjnoaaGreatOb
import Derived.Test.YtbdngmeoohjnoaaGreatXt
set_option maxRecDepth 100000
set_option linter.unusedVariables false
namespace Go.Proofs.YtbdngmeoohjnoaaGreat
open Go
noncomputable def laws_FnExactBlockType (x : List SV) : Option AV := V Tryz.prog lay sig.has ext 3 x
noncomputable def laws_FnExactValidNormal (x : List SV) : Option AV := V Tryz.prog lay sig.has ext 4 x
noncomputable def laws_FnExactIsPlain (x : List SV) : Option AV := V Tryz.prog lay sig.has ext 5 x
noncomputable def laws_FnExactCountsOf (x : List SV) : Option AV := V Tryz.prog lay sig.has ext 6 x
noncomputable def laws_szNormal (x : List SV) : Option AV := V Tryz.prog lay sig.has ext 7 x
noncomputable def laws_szBlock (x : List SV) : Option AV := V Tryz.prog lay sig.has ext 8 x
noncomputable def spec_BlockType (x : List SV) : Option AV := V Tryz.prog lay sig.has ext 9 x
noncomputable def laws_toNormal (x : List SV) : Option AV := V Tryz.prog lay sig.has ext 10 x
noncomputable def laws_toIntS (x : List SV) : Option AV := V Tryz.prog lay sig.has ext 11 x
noncomputable def laws_toBlock (x : List SV) : Option AV := V Tryz.prog lay sig.has ext 12 x
noncomputable def impl_BlockType (x : List SV) : Option AV := V Tryz.prog lay sig.has ext 13 x
noncomputable def laws_eqNormal (x : List SV) : Option AV := V Tryz.prog lay sig.has ext 14 x
noncomputable def laws_eqIntS (x : List SV) : Option AV := V Tryz.prog lay sig.has ext 15 x
noncomputable def laws_eqBlock (x : List SV) : Option AV := V Tryz.prog lay sig.has ext 16 x
noncomputable def spec_ValidNormal (x : List SV) : Option AV := V Tryz.prog lay sig.has ext 17 x
noncomputable def impl_ValidNormal (x : List SV) : Option AV := V Tryz.prog lay sig.has ext 18 x
noncomputable def spec_IsPlain (x : List SV) : Option AV := V Tryz.prog lay sig.has ext 19 x
noncomputable def impl_IsPlain (x : List SV) : Option AV := V Tryz.prog lay sig.has ext 20 x
noncomputable def spec_CountsOf (x : List SV) : Option AV := V Tryz.prog lay sig.has ext 21 x
noncomputable def impl_CountsOf (x : List SV) : Option AV := V Tryz.prog lay sig.has ext 22 x
noncomputable def laws_markNormal (x : List SV) : Option AV := V Tryz.prog lay sig.has ext 23 x
noncomputable def laws_markIntS (x : List SV) : Option AV := V Tryz.prog lay sig.has ext 24 x
noncomputable def laws_heldIntS (x : List SV) : Option AV := V Tryz.prog lay sig.has ext 25 x
noncomputable def laws_szDeclS (x : List SV) : Option AV := V Tryz.prog lay sig.has ext 26 x
noncomputable def laws_szRoutineS (x : List SV) : Option AV := V Tryz.prog lay sig.has ext 27 x
noncomputable def laws_szStepS (x : List SV) : Option AV := V Tryz.prog lay sig.has ext 28 x
noncomputable def spec_validNormalSigs (x : List SV) : Option AV := V Tryz.prog lay sig.has ext 29 x
noncomputable def spec_allTypes (x : List SV) : Option AV := V Tryz.prog lay sig.has ext 30 x
noncomputable def spec_stepsOf (x : List SV) : Option AV := V Tryz.prog lay sig.has ext 31 x
noncomputable def spec_blockType (x : List SV) : Option AV := V Tryz.prog lay sig.has ext 32 x
noncomputable def laws_toDeclS (x : List SV) : Option AV := V Tryz.prog lay sig.has ext 33 x
noncomputable def laws_toRoutineS (x : List SV) : Option AV := V Tryz.prog lay sig.has ext 34 x
noncomputable def laws_toStepS (x : List SV) : Option AV := V Tryz.prog lay sig.has ext 35 x
noncomputable def impl_validRoutineSigs (x : List SV) : Option AV := V Tryz.prog lay sig.has ext 36 x
noncomputable def impl_areTypes (x : List SV) : Option AV := V Tryz.prog lay sig.has ext 37 x
noncomputable def impl_StepsOf (x : List SV) : Option AV := V Tryz.prog lay sig.has ext 38 x
noncomputable def impl_typeOfBlock (x : List SV) : Option AV := V Tryz.prog lay sig.has ext 39 x
noncomputable def laws_eqDeclS (x : List SV) : Option AV := V Tryz.prog lay sig.has ext 40 x
noncomputable def laws_eqRoutineS (x : List SV) : Option AV := V Tryz.prog lay sig.has ext 41 x
noncomputable def laws_eqStepS (x : List SV) : Option AV := V Tryz.prog lay sig.has ext 42 x
noncomputable def spec_validNormal (x : List SV) : Option AV := V Tryz.prog lay sig.has ext 43 x
noncomputable def spec_isPlain (x : List SV) : Option AV := V Tryz.prog lay sig.has ext 44 x
noncomputable def impl_isPlainBlock (x : List SV) : Option AV := V Tryz.prog lay sig.has ext 45 x
noncomputable def spec_countsOf (x : List SV) : Option AV := V Tryz.prog lay sig.has ext 46 x
noncomputable def impl_stepsWithOp (x : List SV) : Option AV := V Tryz.prog lay sig.has ext 47 x
noncomputable def laws_markDeclS (x : List SV) : Option AV := V Tryz.prog lay sig.has ext 48 x
noncomputable def laws_markRoutineS (x : List SV) : Option AV := V Tryz.prog lay sig.has ext 49 x
noncomputable def laws_szDecl (x : List SV) : Option AV := V Tryz.prog lay sig.has ext 50 x
noncomputable def laws_szRoutine (x : List SV) : Option AV := V Tryz.prog lay sig.has ext 51 x
noncomputable def laws_szStep (x : List SV) : Option AV := V Tryz.prog lay sig.has ext 52 x
noncomputable def spec_validSigs (x : List SV) : Option AV := V Tryz.prog lay sig.has ext 53 x
noncomputable def spec_sigsOf (x : List SV) : Option AV := V Tryz.prog lay sig.has ext 54 x
noncomputable def spec_validLent (x : List SV) : Option AV := V Tryz.prog lay sig.has ext 55 x
noncomputable def spec_inRange (x : List SV) : Option AV := V Tryz.prog lay sig.has ext 56 x
noncomputable def spec_stepsLeft (x : List SV) : Option AV := V Tryz.prog lay sig.has ext 57 x
noncomputable def spec_copyInts (x : List SV) : Option AV := V Tryz.prog lay sig.has ext 58 x
noncomputable def spec_stepType (x : List SV) : Option AV := V Tryz.prog lay sig.has ext 59 x
noncomputable def spec_defines (x : List SV) : Option AV := V Tryz.prog lay sig.has ext 60 x
noncomputable def laws_toDecl (x : List SV) : Option AV := V Tryz.prog lay sig.has ext 61 x
noncomputable def laws_toRoutine (x : List SV) : Option AV := V Tryz.prog lay sig.has ext 62 x
noncomputable def laws_toStep (x : List SV) : Option AV := V Tryz.prog lay sig.has ext 63 x
noncomputable def impl_ValidSigs (x : List SV) : Option AV := V Tryz.prog lay sig.has ext 64 x
noncomputable def impl_sigsOf (x : List SV) : Option AV := V Tryz.prog lay sig.has ext 65 x
noncomputable def impl_validLent (x : List SV) : Option AV := V Tryz.prog lay sig.has ext 66 x
noncomputable def impl_isType (x : List SV) : Option AV := V Tryz.prog lay sig.has ext 67 x
noncomputable def impl_stepsUpTo (x : List SV) : Option AV := V Tryz.prog lay sig.has ext 68 x
noncomputable def impl_isCounting (x : List SV) : Option AV := V Tryz.prog lay sig.has ext 69 x
noncomputable def impl_validCounting (x : List SV) : Option AV := V Tryz.prog lay sig.has ext 70 x
noncomputable def impl_typeOfStep (x : List SV) : Option AV := V Tryz.prog lay sig.has ext 71 x
noncomputable def impl_bind (x : List SV) : Option AV := V Tryz.prog lay sig.has ext 72 x
noncomputable def impl_typeOfVar (x : List SV) : Option AV := V Tryz.prog lay sig.has ext 73 x
noncomputable def laws_eqDecl (x : List SV) : Option AV := V Tryz.prog lay sig.has ext 74 x
noncomputable def laws_eqRoutine (x : List SV) : Option AV := V Tryz.prog lay sig.has ext 75 x
noncomputable def laws_eqStep (x : List SV) : Option AV := V Tryz.prog lay sig.has ext 76 x
noncomputable def spec_plainSteps (x : List SV) : Option AV := V Tryz.prog lay sig.has ext 77 x
noncomputable def spec_countsIn (x : List SV) : Option AV := V Tryz.prog lay sig.has ext 78 x
noncomputable def laws_markConS (x : List SV) : Option AV := V Tryz.prog lay sig.has ext 79 x
noncomputable def laws_szConS (x : List SV) : Option AV := V Tryz.prog lay sig.has ext 81 x
noncomputable def laws_szIntS (x : List SV) : Option AV := V Tryz.prog lay sig.has ext 82 x
noncomputable def laws_szBlockS (x : List SV) : Option AV := V Tryz.prog lay sig.has ext 83 x
noncomputable def spec_validTypes (x : List SV) : Option AV := V Tryz.prog lay sig.has ext 84 x
noncomputable def spec_hasNum (x : List SV) : Option AV := V Tryz.prog lay sig.has ext 85 x
noncomputable def spec_validInto (x : List SV) : Option AV := V Tryz.prog lay sig.has ext 86 x
noncomputable def spec_typed (x : List SV) : Option AV := V Tryz.prog lay sig.has ext 87 x
noncomputable def spec_conType (x : List SV) : Option AV := V Tryz.prog lay sig.has ext 88 x
noncomputable def spec_conFields (x : List SV) : Option AV := V Tryz.prog lay sig.has ext 89 x
noncomputable def spec_kidsType (x : List SV) : Option AV := V Tryz.prog lay sig.has ext 90 x
noncomputable def spec_routineType (x : List SV) : Option AV := V Tryz.prog lay sig.has ext 91 x
noncomputable def spec_isArrow (x : List SV) : Option AV := V Tryz.prog lay sig.has ext 92 x
noncomputable def spec_countingType (x : List SV) : Option AV := V Tryz.prog lay sig.has ext 93 x
noncomputable def laws_toConS (x : List SV) : Option AV := V Tryz.prog lay sig.has ext 94 x
noncomputable def laws_toBlockS (x : List SV) : Option AV := V Tryz.prog lay sig.has ext 95 x
noncomputable def impl_ValidTypes (x : List SV) : Option AV := V Tryz.prog lay sig.has ext 96 x
noncomputable def impl_validSig (x : List SV) : Option AV := V Tryz.prog lay sig.has ext 97 x
noncomputable def impl_isData (x : List SV) : Option AV := V Tryz.prog lay sig.has ext 98 x
noncomputable def impl_typeOfChoice (x : List SV) : Option AV := V Tryz.prog lay sig.has ext 99 x
noncomputable def impl_lends (x : List SV) : Option AV := V Tryz.prog lay sig.has ext 100 x
noncomputable def impl_typeMade (x : List SV) : Option AV := V Tryz.prog lay sig.has ext 101 x
noncomputable def impl_copyInts (x : List SV) : Option AV := V Tryz.prog lay sig.has ext 102 x
noncomputable def laws_eqConS (x : List SV) : Option AV := V Tryz.prog lay sig.has ext 103 x
noncomputable def laws_eqBlockS (x : List SV) : Option AV := V Tryz.prog lay sig.has ext 104 x
noncomputable def spec_isCounting (x : List SV) : Option AV := V Tryz.prog lay sig.has ext 105 x
noncomputable def laws_szCon (x : List SV) : Option AV := V Tryz.prog lay sig.has ext 107 x
noncomputable def spec_validDecl (x : List SV) : Option AV := V Tryz.prog lay sig.has ext 108 x
noncomputable def spec_firstCon (x : List SV) : Option AV := V Tryz.prog lay sig.has ext 109 x
noncomputable def spec_consOf (x : List SV) : Option AV := V Tryz.prog lay sig.has ext 110 x
noncomputable def spec_extend (x : List SV) : Option AV := V Tryz.prog lay sig.has ext 111 x
noncomputable def spec_arrowOf (x : List SV) : Option AV := V Tryz.prog lay sig.has ext 112 x
noncomputable def laws_toCon (x : List SV) : Option AV := V Tryz.prog lay sig.has ext 113 x
noncomputable def impl_validDecl (x : List SV) : Option AV := V Tryz.prog lay sig.has ext 114 x
noncomputable def impl_choicesOf (x : List SV) : Option AV := V Tryz.prog lay sig.has ext 115 x
noncomputable def impl_hasRoutine (x : List SV) : Option AV := V Tryz.prog lay sig.has ext 116 x
noncomputable def impl_resultOf (x : List SV) : Option AV := V Tryz.prog lay sig.has ext 117 x
noncomputable def laws_eqCon (x : List SV) : Option AV := V Tryz.prog lay sig.has ext 118 x
noncomputable def impl_validCons (x : List SV) : Option AV := V Tryz.prog lay sig.has ext 119 x
noncomputable def impl_arrowBetween (x : List SV) : Option AV := V Tryz.prog lay sig.has ext 120 x
noncomputable def impl_typeWhen (x : List SV) : Option AV := V Tryz.prog lay sig.has ext 121 x
noncomputable def impl_sameInts (x : List SV) : Option AV := V Tryz.prog lay sig.has ext 122 x
noncomputable def impl_resultOfCon (x : List SV) : Option AV := V Tryz.prog lay sig.has ext 123 x
noncomputable def impl_resultOfCall (x : List SV) : Option AV := V Tryz.prog lay sig.has ext 124 x
noncomputable def impl_resultOfClose (x : List SV) : Option AV := V Tryz.prog lay sig.has ext 125 x
noncomputable def impl_resultOfApply (x : List SV) : Option AV := V Tryz.prog lay sig.has ext 126 x
noncomputable def impl_typeOfCon (x : List SV) : Option AV := V Tryz.prog lay sig.has ext 127 x
noncomputable def impl_fieldsOfCon (x : List SV) : Option AV := V Tryz.prog lay sig.has ext 128 x
noncomputable def impl_hasFunc (x : List SV) : Option AV := V Tryz.prog lay sig.has ext 129 x
noncomputable def impl_isArrow (x : List SV) : Option AV := V Tryz.prog lay sig.has ext 130 x
noncomputable def impl_firstCon (x : List SV) : Option AV := V Tryz.prog lay sig.has ext 131 x
noncomputable def impl_countCons (x : List SV) : Option AV := V Tryz.prog lay sig.has ext 132 x
noncomputable def X_laws_FnExactBlockType : Ctx := { P := Tryz.prog, L := lay, F := sig.has, E := ext, fn := Tryz.f3, lv := [], jv := [], tp := [] }
theorem laws_FnExactBlockType_le {l1 : List (List AC)} {l2 : List (List AC)} {l3 : List (List AC)} {l4 : List (List AC)} {n5 : Int} {r : AV} (h : (
    bif (decide (((l3.length : Nat) : Int) > 1048576)) then
        some (.v (.cell (.bool true)))
      else
        callR (laws_szNormal [.agg [.sl 3 l1, .sl 5 l2], .cell (.int 1048576)]) false [(false, [.int 0])] fun n6 =>
        bif (decide (n6 < 0)) then
          some (.v (.cell (.bool true)))
        else
          callR (laws_szBlock [.agg [.sl 5 l4, .int n5], .cell (.int n6)]) false [(false, [.int 0])] fun n7 =>
          bif (decide (n7 < 0)) then
            some (.v (.cell (.bool true)))
          else
            callR (laws_toNormal [.agg [.sl 3 l1, .sl 5 l2]]) false [(true, [.sl 3 [], .sl 5 []])] fun l8 l9 =>
            callR (laws_toIntS [.cell (.sl 1 l3)]) false [(false, [.sl 1 []])] fun l10 =>
            callR (laws_toBlock [.agg [.sl 5 l4, .int n5]]) false [(true, [.sl 5 [], .int 0])] fun l11 n12 =>
            callR (spec_BlockType [.agg [.sl 3 l8, .sl 5 l9], .cell (.sl 1 l10), .agg [.sl 5 l11, .int n12]]) false [(false, [.int 0])] fun n13 =>
            callR (laws_toNormal [.agg [.sl 3 l1, .sl 5 l2]]) false [(true, [.sl 3 [], .sl 5 []])] fun l14 l15 =>
            callR (laws_toIntS [.cell (.sl 1 l3)]) false [(false, [.sl 1 []])] fun l16 =>
            callR (laws_toBlock [.agg [.sl 5 l4, .int n5]]) false [(true, [.sl 5 [], .int 0])] fun l17 n18 =>
            callR (impl_BlockType [.agg [.sl 3 l14, .sl 5 l15], .cell (.sl 1 l16), .agg [.sl 5 l17, .int n18]]) false [(false, [.int 0])] fun n19 =>
            bif (n19 != n13) then
              some (.v (.cell (.bool false)))
            else
              callR (laws_toNormal [.agg [.sl 3 l1, .sl 5 l2]]) false [(true, [.sl 3 [], .sl 5 []])] fun l20 l21 =>
              callR (laws_eqNormal [.agg [.sl 3 l14, .sl 5 l15], .agg [.sl 3 l20, .sl 5 l21]]) false [(false, [.bool false])] fun b22 =>
              bif (!b22) then
                some (.v (.cell (.bool false)))
              else
                callR (laws_toIntS [.cell (.sl 1 l3)]) false [(false, [.sl 1 []])] fun l23 =>
                callR (laws_eqIntS [.cell (.sl 1 l16), .cell (.sl 1 l23)]) false [(false, [.bool false])] fun b24 =>
                bif (!b24) then
                  some (.v (.cell (.bool false)))
                else
                  callR (laws_toBlock [.agg [.sl 5 l4, .int n5]]) false [(true, [.sl 5 [], .int 0])] fun l25 n26 =>
                  callR (laws_eqBlock [.agg [.sl 5 l17, .int n18], .agg [.sl 5 l25, .int n26]]) false [(false, [.bool false])] fun b27 =>
                  bif (!b27) then
                    some (.v (.cell (.bool false)))
                  else
                    some (.v (.cell (.bool true))) : Option AV) = some r) : laws_FnExactBlockType [.agg [.sl 3 l1, .sl 5 l2], .cell (.sl 1 l3), .agg [.sl 5 l4, .int n5]] = some r :=
  V_le (X := X_laws_FnExactBlockType) (n := 100000) (c := cOf Tryz.f3) (by kernel_rfl) Tryz.func3 (by kernel_rfl) (of_decide_eq_true (by kernel_rfl)) (Eq.trans (by kernel_rfl) h)
noncomputable def X_laws_FnExactValidNormal : Ctx := { P := Tryz.prog, L := lay, F := sig.has, E := ext, fn := Tryz.f4, lv := [], jv := [], tp := [] }
theorem laws_FnExactValidNormal_le {l1 : List (List AC)} {l2 : List (List AC)} {r : AV} (h : (
    callR (laws_szNormal [.agg [.sl 3 l1, .sl 5 l2], .cell (.int 1048576)]) false [(false, [.int 0])] fun n3 =>
      bif (decide (n3 < 0)) then
        some (.v (.cell (.bool true)))
      else
        callR (laws_toNormal [.agg [.sl 3 l1, .sl 5 l2]]) false [(true, [.sl 3 [], .sl 5 []])] fun l4 l5 =>
        callR (spec_ValidNormal [.agg [.sl 3 l4, .sl 5 l5]]) false [(false, [.bool false])] fun b6 =>
        callR (laws_toNormal [.agg [.sl 3 l1, .sl 5 l2]]) false [(true, [.sl 3 [], .sl 5 []])] fun l7 l8 =>
        callR (impl_ValidNormal [.agg [.sl 3 l7, .sl 5 l8]]) false [(false, [.bool false])] fun b9 =>
        bif (b9 != b6) then
          some (.v (.cell (.bool false)))
        else
          callR (laws_toNormal [.agg [.sl 3 l1, .sl 5 l2]]) false [(true, [.sl 3 [], .sl 5 []])] fun l10 l11 =>
          callR (laws_eqNormal [.agg [.sl 3 l7, .sl 5 l8], .agg [.sl 3 l10, .sl 5 l11]]) false [(false, [.bool false])] fun b12 =>
          bif (!b12) then
            some (.v (.cell (.bool false)))
          else
            some (.v (.cell (.bool true))) : Option AV) = some r) : laws_FnExactValidNormal [.agg [.sl 3 l1, .sl 5 l2]] = some r :=
  V_le (X := X_laws_FnExactValidNormal) (n := 100000) (c := cOf Tryz.f4) (by kernel_rfl) Tryz.func4 (by kernel_rfl) (of_decide_eq_true (by kernel_rfl)) (Eq.trans (by kernel_rfl) h)
noncomputable def X_laws_FnExactIsPlain : Ctx := { P := Tryz.prog, L := lay, F := sig.has, E := ext, fn := Tryz.f5, lv := [], jv := [], tp := [] }
theorem laws_FnExactIsPlain_le {l1 : List (List AC)} {l2 : List (List AC)} {r : AV} (h : (
    callR (laws_szNormal [.agg [.sl 3 l1, .sl 5 l2], .cell (.int 1048576)]) false [(false, [.int 0])] fun n3 =>
      bif (decide (n3 < 0)) then
        some (.v (.cell (.bool true)))
      else
        callR (laws_toNormal [.agg [.sl 3 l1, .sl 5 l2]]) false [(true, [.sl 3 [], .sl 5 []])] fun l4 l5 =>
        callR (spec_IsPlain [.agg [.sl 3 l4, .sl 5 l5]]) false [(false, [.bool false])] fun b6 =>
        callR (laws_toNormal [.agg [.sl 3 l1, .sl 5 l2]]) false [(true, [.sl 3 [], .sl 5 []])] fun l7 l8 =>
        callR (impl_IsPlain [.agg [.sl 3 l7, .sl 5 l8]]) false [(false, [.bool false])] fun b9 =>
        bif (b9 != b6) then
          some (.v (.cell (.bool false)))
        else
          callR (laws_toNormal [.agg [.sl 3 l1, .sl 5 l2]]) false [(true, [.sl 3 [], .sl 5 []])] fun l10 l11 =>
          callR (laws_eqNormal [.agg [.sl 3 l7, .sl 5 l8], .agg [.sl 3 l10, .sl 5 l11]]) false [(false, [.bool false])] fun b12 =>
          bif (!b12) then
            some (.v (.cell (.bool false)))
          else
            some (.v (.cell (.bool true))) : Option AV) = some r) : laws_FnExactIsPlain [.agg [.sl 3 l1, .sl 5 l2]] = some r :=
  V_le (X := X_laws_FnExactIsPlain) (n := 100000) (c := cOf Tryz.f5) (by kernel_rfl) Tryz.func5 (by kernel_rfl) (of_decide_eq_true (by kernel_rfl)) (Eq.trans (by kernel_rfl) h)
noncomputable def X_laws_FnExactCountsOf : Ctx := { P := Tryz.prog, L := lay, F := sig.has, E := ext, fn := Tryz.f6, lv := [], jv := [], tp := [] }
theorem laws_FnExactCountsOf_le {l1 : List (List AC)} {l2 : List (List AC)} {r : AV} (h : (
    callR (laws_szNormal [.agg [.sl 3 l1, .sl 5 l2], .cell (.int 1048576)]) false [(false, [.int 0])] fun n3 =>
      bif (decide (n3 < 0)) then
        some (.v (.cell (.bool true)))
      else
        callR (laws_toNormal [.agg [.sl 3 l1, .sl 5 l2]]) false [(true, [.sl 3 [], .sl 5 []])] fun l4 l5 =>
        callR (spec_CountsOf [.agg [.sl 3 l4, .sl 5 l5]]) false [(false, [.sl 1 []])] fun l6 =>
        callR (laws_toNormal [.agg [.sl 3 l1, .sl 5 l2]]) false [(true, [.sl 3 [], .sl 5 []])] fun l7 l8 =>
        callR (impl_CountsOf [.agg [.sl 3 l7, .sl 5 l8]]) false [(false, [.sl 1 []])] fun l9 =>
        callR (laws_eqIntS [.cell (.sl 1 l9), .cell (.sl 1 l6)]) false [(false, [.bool false])] fun b10 =>
        bif (!b10) then
          some (.v (.cell (.bool false)))
        else
          callR (laws_toNormal [.agg [.sl 3 l1, .sl 5 l2]]) false [(true, [.sl 3 [], .sl 5 []])] fun l11 l12 =>
          callR (laws_eqNormal [.agg [.sl 3 l7, .sl 5 l8], .agg [.sl 3 l11, .sl 5 l12]]) false [(false, [.bool false])] fun b13 =>
          bif (!b13) then
            some (.v (.cell (.bool false)))
          else
            callR (laws_markNormal [.agg [.sl 3 l7, .sl 5 l8], .cell (.int 1)]) false [(false, [.int 0])] fun n14 =>
            bif (decide (n14 < 0)) then
              some (.v (.cell (.bool false)))
            else
              callR (laws_eqIntS [.cell (.sl 1 l9), .cell (.sl 1 l6)]) false [(false, [.bool false])] fun b15 =>
              bif (!b15) then
                some (.v (.cell (.bool false)))
              else
                callR (laws_markIntS [.cell (.sl 1 l9), .cell (.int 1)]) false [(false, [.int 0])] fun n16 =>
                callR (laws_heldIntS [.cell (.sl 1 l9), .cell (.int 1)]) false [(false, [.int 0])] fun n17 =>
                bif (decide (n17 < 0)) then
                  some (.v (.cell (.bool false)))
                else
                  bif (n17 != n16) then
                    some (.v (.cell (.bool false)))
                  else
                    callR (laws_toNormal [.agg [.sl 3 l1, .sl 5 l2]]) false [(true, [.sl 3 [], .sl 5 []])] fun l18 l19 =>
                    callR (impl_CountsOf [.agg [.sl 3 l18, .sl 5 l19]]) false [(false, [.sl 1 []])] fun l20 =>
                    callR (laws_eqIntS [.cell (.sl 1 l20), .cell (.sl 1 l6)]) false [(false, [.bool false])] fun b21 =>
                    bif (!b21) then
                      some (.v (.cell (.bool false)))
                    else
                      callR (laws_heldIntS [.cell (.sl 1 l9), .cell (.int 1)]) false [(false, [.int 0])] fun n22 =>
                      bif (decide (n22 < 0)) then
                        some (.v (.cell (.bool false)))
                      else
                        bif (n22 != n16) then
                          some (.v (.cell (.bool false)))
                        else
                          some (.v (.cell (.bool true))) : Option AV) = some r) : laws_FnExactCountsOf [.agg [.sl 3 l1, .sl 5 l2]] = some r :=
  V_le (X := X_laws_FnExactCountsOf) (n := 100000) (c := cOf Tryz.f6) (by kernel_rfl) Tryz.func6 (by kernel_rfl) (of_decide_eq_true (by kernel_rfl)) (Eq.trans (by kernel_rfl) h)
noncomputable def X_laws_szNormal : Ctx := { P := Tryz.prog, L := lay, F := sig.has, E := ext, fn := Tryz.f7, lv := [], jv := [], tp := [] }
theorem laws_szNormal_le {l1 : List (List AC)} {l2 : List (List AC)} {n3 : Int} {r : AV} (h : (
    callR (laws_szDeclS [.cell (.sl 3 l1), .cell (.int n3)]) false [(false, [.int 0])] fun n4 =>
      bif (decide (n4 < 0)) then
        some (.v (.cell (.int (-1))))
      else
        callR (laws_szRoutineS [.cell (.sl 5 l2), .cell (.int n4)]) false [(false, [.int 0])] fun n5 =>
        bif (decide (n5 < 0)) then
          some (.v (.cell (.int (-1))))
        else
          some (.v (.cell (.int n5))) : Option AV) = some r) : laws_szNormal [.agg [.sl 3 l1, .sl 5 l2], .cell (.int n3)] = some r :=
  V_le (X := X_laws_szNormal) (n := 100000) (c := cOf Tryz.f7) (by kernel_rfl) Tryz.func7 (by kernel_rfl) (of_decide_eq_true (by kernel_rfl)) (Eq.trans (by kernel_rfl) h)
noncomputable def X_laws_szBlock : Ctx := { P := Tryz.prog, L := lay, F := sig.has, E := ext, fn := Tryz.f8, lv := [], jv := [], tp := [] }
theorem laws_szBlock_le {l1 : List (List AC)} {n2 : Int} {n3 : Int} {r : AV} (h : (
    callR (laws_szStepS [.cell (.sl 5 l1), .cell (.int n3)]) false [(false, [.int 0])] fun n4 =>
      bif (decide (n4 < 0)) then
        some (.v (.cell (.int (-1))))
      else
        some (.v (.cell (.int n4))) : Option AV) = some r) : laws_szBlock [.agg [.sl 5 l1, .int n2], .cell (.int n3)] = some r :=
  V_le (X := X_laws_szBlock) (n := 100000) (c := cOf Tryz.f8) (by kernel_rfl) Tryz.func8 (by kernel_rfl) (of_decide_eq_true (by kernel_rfl)) (Eq.trans (by kernel_rfl) h)
noncomputable def X_spec_BlockType : Ctx := { P := Tryz.prog, L := lay, F := sig.has, E := ext, fn := Tryz.f9, lv := [], jv := [], tp := [] }
theorem spec_BlockType_le {l1 : List (List AC)} {l2 : List (List AC)} {l3 : List (List AC)} {l4 : List (List AC)} {n5 : Int} {r : AV} (h : (
    callR (spec_validNormalSigs [.agg [.sl 3 l1, .sl 5 l2]]) false [(false, [.bool false])] fun b6 =>
      bif (!b6) then
        some (.v (.cell (.int (-1))))
      else
        callR (spec_allTypes [.cell (.sl 3 l1), .cell (.sl 1 l3)]) false [(false, [.bool false])] fun b7 =>
        bif (!b7) then
          some (.v (.cell (.int (-1))))
        else
          callR (spec_stepsOf [.agg [.sl 5 l4, .int n5]]) false [(false, [.int 0])] fun n8 =>
          bif (decide (n8 < 0)) then
            some (.v (.cell (.int (-1))))
          else
            callR (spec_blockType [.agg [.sl 3 l1, .sl 5 l2], .cell (.sl 1 l3), .agg [.sl 5 l4, .int n5]]) false [(false, [.int 0])] fun n9 =>
            some (.v (.cell (.int n9))) : Option AV) = some r) : spec_BlockType [.agg [.sl 3 l1, .sl 5 l2], .cell (.sl 1 l3), .agg [.sl 5 l4, .int n5]] = some r :=
  V_le (X := X_spec_BlockType) (n := 100000) (c := cOf Tryz.f9) (by kernel_rfl) Tryz.func9 (by kernel_rfl) (of_decide_eq_true (by kernel_rfl)) (Eq.trans (by kernel_rfl) h)
noncomputable def X_laws_toNormal : Ctx := { P := Tryz.prog, L := lay, F := sig.has, E := ext, fn := Tryz.f10, lv := [], jv := [], tp := [] }
theorem laws_toNormal_le {l1 : List (List AC)} {l2 : List (List AC)} {r : AV} (h : (
    callR (laws_toDeclS [.cell (.sl 3 l1)]) false [(false, [.sl 3 []])] fun l3 =>
      callR (laws_toRoutineS [.cell (.sl 5 l2)]) false [(false, [.sl 5 []])] fun l4 =>
      some (.v (.agg [.sl 3 l3, .sl 5 l4])) : Option AV) = some r) : laws_toNormal [.agg [.sl 3 l1, .sl 5 l2]] = some r :=
  V_le (X := X_laws_toNormal) (n := 100000) (c := cOf Tryz.f10) (by kernel_rfl) Tryz.func10 (by kernel_rfl) (of_decide_eq_true (by kernel_rfl)) (Eq.trans (by kernel_rfl) h)
noncomputable def X_laws_toBlock : Ctx := { P := Tryz.prog, L := lay, F := sig.has, E := ext, fn := Tryz.f12, lv := [], jv := [], tp := [] }
theorem laws_toBlock_le {l1 : List (List AC)} {n2 : Int} {r : AV} (h : (
    callR (laws_toStepS [.cell (.sl 5 l1)]) false [(false, [.sl 5 []])] fun l3 =>
      some (.v (.agg [.sl 5 l3, .int n2])) : Option AV) = some r) : laws_toBlock [.agg [.sl 5 l1, .int n2]] = some r :=
  V_le (X := X_laws_toBlock) (n := 100000) (c := cOf Tryz.f12) (by kernel_rfl) Tryz.func12 (by kernel_rfl) (of_decide_eq_true (by kernel_rfl)) (Eq.trans (by kernel_rfl) h)
noncomputable def X_impl_BlockType : Ctx := { P := Tryz.prog, L := lay, F := sig.has, E := ext, fn := Tryz.f13, lv := [], jv := [], tp := [] }
theorem impl_BlockType_le {l1 : List (List AC)} {l2 : List (List AC)} {l3 : List (List AC)} {l4 : List (List AC)} {n5 : Int} {r : AV} (h : (
    callR (impl_validRoutineSigs [.agg [.sl 3 l1, .sl 5 l2]]) false [(false, [.bool false])] fun b6 =>
      bif (!b6) then
        some (.v (.cell (.int (-1))))
      else
        callR (impl_areTypes [.cell (.sl 3 l1), .cell (.sl 1 l3)]) false [(false, [.bool false])] fun b7 =>
        bif (!b7) then
          some (.v (.cell (.int (-1))))
        else
          callR (impl_StepsOf [.agg [.sl 5 l4, .int n5]]) false [(false, [.int 0])] fun n8 =>
          bif (decide (n8 < 0)) then
            some (.v (.cell (.int (-1))))
          else
            callR (impl_typeOfBlock [.agg [.sl 3 l1, .sl 5 l2], .agg [.sl 1 l3, .sl 1 []], .agg [.sl 5 l4, .int n5]]) false [(false, [.int 0])] fun n9 =>
            some (.v (.cell (.int n9))) : Option AV) = some r) : impl_BlockType [.agg [.sl 3 l1, .sl 5 l2], .cell (.sl 1 l3), .agg [.sl 5 l4, .int n5]] = some r :=
  V_le (X := X_impl_BlockType) (n := 100000) (c := cOf Tryz.f13) (by kernel_rfl) Tryz.func13 (by kernel_rfl) (of_decide_eq_true (by kernel_rfl)) (Eq.trans (by kernel_rfl) h)
noncomputable def X_laws_eqNormal : Ctx := { P := Tryz.prog, L := lay, F := sig.has, E := ext, fn := Tryz.f14, lv := [], jv := [], tp := [] }
theorem laws_eqNormal_le {l1 : List (List AC)} {l2 : List (List AC)} {l3 : List (List AC)} {l4 : List (List AC)} {r : AV} (h : (
    callR (laws_eqDeclS [.cell (.sl 3 l1), .cell (.sl 3 l3)]) false [(false, [.bool false])] fun b5 =>
      bif (!b5) then
        some (.v (.cell (.bool false)))
      else
        callR (laws_eqRoutineS [.cell (.sl 5 l2), .cell (.sl 5 l4)]) false [(false, [.bool false])] fun b6 =>
        bif (!b6) then
          some (.v (.cell (.bool false)))
        else
          some (.v (.cell (.bool true))) : Option AV) = some r) : laws_eqNormal [.agg [.sl 3 l1, .sl 5 l2], .agg [.sl 3 l3, .sl 5 l4]] = some r :=
  V_le (X := X_laws_eqNormal) (n := 100000) (c := cOf Tryz.f14) (by kernel_rfl) Tryz.func14 (by kernel_rfl) (of_decide_eq_true (by kernel_rfl)) (Eq.trans (by kernel_rfl) h)
noncomputable def X_laws_eqIntS : Ctx := { P := Tryz.prog, L := lay, F := sig.has, E := ext, fn := Tryz.f15, lv := [(0, [0, 1, 5])], jv := [], tp := [] }
noncomputable def laws_eqIntS_L0 (l3 : List (List AC)) (l4 : List (List AC)) (n5 : Int) : Option AV := GL X_laws_eqIntS 0 [(0, .v (.cell (.sl 1 l3))), (1, .v (.cell (.sl 1 l4))), (5, .v (.cell (.int n5)))]
theorem laws_eqIntS_L0_le {l3 : List (List AC)} {l4 : List (List AC)} {n5 : Int} {r : AV} (h : (
    bif (decide (n5 < ((l3.length : Nat) : Int))) then
        atR_ l3 n5 [.int 0] fun n6 =>
        atR_ l4 n5 [.int 0] fun n7 =>
        bif (n6 != n7) then
          some (.v (.cell (.bool false)))
        else
          laws_eqIntS_L0 l3 l4 (wrapI (n5 + 1))
      else
        some (.v (.cell (.bool true))) : Option AV) = some r) : laws_eqIntS_L0 l3 l4 n5 = some r :=
  GL_le (X := X_laws_eqIntS) (n := 100000) (by kernel_rfl) (by kernel_rfl : (X_laws_eqIntS.fn.body.bind fun c => locL 0 c []) = some (.loop (loopOf (X_laws_eqIntS.fn.body.bind fun c => locL 0 c [])), ksOf (X_laws_eqIntS.fn.body.bind fun c => locL 0 c []))) (Eq.trans (by kernel_rfl) h)
theorem laws_eqIntS_le {l1 : List (List AC)} {l2 : List (List AC)} {r : AV} (h : (
    bif (((l1.length : Nat) : Int) != ((l2.length : Nat) : Int)) then
        some (.v (.cell (.bool false)))
      else
        laws_eqIntS_L0 l1 l2 0 : Option AV) = some r) : laws_eqIntS [.cell (.sl 1 l1), .cell (.sl 1 l2)] = some r :=
  V_le (X := X_laws_eqIntS) (n := 100000) (c := cOf Tryz.f15) (by kernel_rfl) Tryz.func15 (by kernel_rfl) (of_decide_eq_true (by kernel_rfl)) (Eq.trans (by kernel_rfl) h)
noncomputable def X_laws_eqBlock : Ctx := { P := Tryz.prog, L := lay, F := sig.has, E := ext, fn := Tryz.f16, lv := [], jv := [], tp := [] }
theorem laws_eqBlock_le {l1 : List (List AC)} {n2 : Int} {l3 : List (List AC)} {n4 : Int} {r : AV} (h : (
    callR (laws_eqStepS [.cell (.sl 5 l1), .cell (.sl 5 l3)]) false [(false, [.bool false])] fun b5 =>
      bif (!b5) then
        some (.v (.cell (.bool false)))
      else
        bif (n2 != n4) then
          some (.v (.cell (.bool false)))
        else
          some (.v (.cell (.bool true))) : Option AV) = some r) : laws_eqBlock [.agg [.sl 5 l1, .int n2], .agg [.sl 5 l3, .int n4]] = some r :=
  V_le (X := X_laws_eqBlock) (n := 100000) (c := cOf Tryz.f16) (by kernel_rfl) Tryz.func16 (by kernel_rfl) (of_decide_eq_true (by kernel_rfl)) (Eq.trans (by kernel_rfl) h)
noncomputable def X_spec_ValidNormal : Ctx := { P := Tryz.prog, L := lay, F := sig.has, E := ext, fn := Tryz.f17, lv := [], jv := [], tp := [] }
theorem spec_ValidNormal_le {l1 : List (List AC)} {l2 : List (List AC)} {r : AV} (h : (
    callR (spec_validNormal [.agg [.sl 3 l1, .sl 5 l2]]) false [(false, [.bool false])] fun b3 =>
      some (.v (.cell (.bool b3))) : Option AV) = some r) : spec_ValidNormal [.agg [.sl 3 l1, .sl 5 l2]] = some r :=
  V_le (X := X_spec_ValidNormal) (n := 100000) (c := cOf Tryz.f17) (by kernel_rfl) Tryz.func17 (by kernel_rfl) (of_decide_eq_true (by kernel_rfl)) (Eq.trans (by kernel_rfl) h)
noncomputable def X_impl_ValidNormal : Ctx := { P := Tryz.prog, L := lay, F := sig.has, E := ext, fn := Tryz.f18, lv := [(0, [1, 9, 10, 11])], jv := [], tp := [] }
noncomputable def impl_ValidNormal_L0 (l4 : List (List AC)) (l5 : List (List AC)) (l6 : List (List AC)) (n7 : Int) (n8 : Int) : Option AV := GL X_impl_ValidNormal 0 [(1, .box [.sl 3 l4, .sl 5 l5]), (9, .v (.cell (.sl 5 l6))), (10, .v (.cell (.int n7))), (11, .v (.cell (.int n8)))]
theorem impl_ValidNormal_L0_le {l4 : List (List AC)} {l5 : List (List AC)} {l6 : List (List AC)} {n7 : Int} {n8 : Int} {r : AV} (h : (
    bif (decide (n8 < n7)) then
        atR_ l6 n8 [.sl 1 [], .sl 1 [], .int 0, .sl 5 [], .int 0] fun l9 l10 n11 l12 n13 =>
        callR (impl_StepsOf [.agg [.sl 5 l12, .int n13]]) false [(false, [.int 0])] fun n14 =>
        bif (decide (n14 < 0)) then
          some (.v (.cell (.bool false)))
        else
          callR (impl_typeOfBlock [.agg [.sl 3 l4, .sl 5 l5], .agg [.sl 1 l9, .sl 1 []], .agg [.sl 5 l12, .int n13]]) false [(false, [.int 0])] fun n15 =>
          bif (n15 != n11) then
            some (.v (.cell (.bool false)))
          else
            impl_ValidNormal_L0 l4 l5 l6 n7 (wrapI (n8 + 1))
      else
        some (.v (.cell (.bool true))) : Option AV) = some r) : impl_ValidNormal_L0 l4 l5 l6 n7 n8 = some r :=
  GL_le (X := X_impl_ValidNormal) (n := 100000) (by kernel_rfl) (by kernel_rfl : (X_impl_ValidNormal.fn.body.bind fun c => locL 0 c []) = some (.loop (loopOf (X_impl_ValidNormal.fn.body.bind fun c => locL 0 c [])), ksOf (X_impl_ValidNormal.fn.body.bind fun c => locL 0 c []))) (Eq.trans (by kernel_rfl) h)
theorem impl_ValidNormal_le {l1 : List (List AC)} {l2 : List (List AC)} {r : AV} (h : (
    callR (impl_validRoutineSigs [.agg [.sl 3 l1, .sl 5 l2]]) false [(false, [.bool false])] fun b3 =>
      bif (!b3) then
        some (.v (.cell (.bool false)))
      else
        impl_ValidNormal_L0 l1 l2 l2 ((l2.length : Nat) : Int) 0 : Option AV) = some r) : impl_ValidNormal [.agg [.sl 3 l1, .sl 5 l2]] = some r :=
  V_le (X := X_impl_ValidNormal) (n := 100000) (c := cOf Tryz.f18) (by kernel_rfl) Tryz.func18 (by kernel_rfl) (of_decide_eq_true (by kernel_rfl)) (Eq.trans (by kernel_rfl) h)
noncomputable def X_spec_IsPlain : Ctx := { P := Tryz.prog, L := lay, F := sig.has, E := ext, fn := Tryz.f19, lv := [], jv := [], tp := [] }
theorem spec_IsPlain_le {l1 : List (List AC)} {l2 : List (List AC)} {r : AV} (h : (
    callR (spec_isPlain [.agg [.sl 3 l1, .sl 5 l2]]) false [(false, [.bool false])] fun b3 =>
      some (.v (.cell (.bool b3))) : Option AV) = some r) : spec_IsPlain [.agg [.sl 3 l1, .sl 5 l2]] = some r :=
  V_le (X := X_spec_IsPlain) (n := 100000) (c := cOf Tryz.f19) (by kernel_rfl) Tryz.func19 (by kernel_rfl) (of_decide_eq_true (by kernel_rfl)) (Eq.trans (by kernel_rfl) h)
noncomputable def X_impl_IsPlain : Ctx := { P := Tryz.prog, L := lay, F := sig.has, E := ext, fn := Tryz.f20, lv := [(0, [9, 10, 11])], jv := [], tp := [] }
noncomputable def impl_IsPlain_L0 (l4 : List (List AC)) (n5 : Int) (n6 : Int) : Option AV := GL X_impl_IsPlain 0 [(9, .v (.cell (.sl 5 l4))), (10, .v (.cell (.int n5))), (11, .v (.cell (.int n6)))]
theorem impl_IsPlain_L0_le {l4 : List (List AC)} {n5 : Int} {n6 : Int} {r : AV} (h : (
    bif (decide (n6 < n5)) then
        atR_ l4 n6 [.sl 1 [], .sl 1 [], .int 0, .sl 5 [], .int 0] fun l7 l8 n9 l10 n11 =>
        callR (impl_isPlainBlock [.agg [.sl 5 l10, .int n11]]) false [(false, [.bool false])] fun b12 =>
        bif (!b12) then
          some (.v (.cell (.bool false)))
        else
          impl_IsPlain_L0 l4 n5 (wrapI (n6 + 1))
      else
        some (.v (.cell (.bool true))) : Option AV) = some r) : impl_IsPlain_L0 l4 n5 n6 = some r :=
  GL_le (X := X_impl_IsPlain) (n := 100000) (by kernel_rfl) (by kernel_rfl : (X_impl_IsPlain.fn.body.bind fun c => locL 0 c []) = some (.loop (loopOf (X_impl_IsPlain.fn.body.bind fun c => locL 0 c [])), ksOf (X_impl_IsPlain.fn.body.bind fun c => locL 0 c []))) (Eq.trans (by kernel_rfl) h)
theorem impl_IsPlain_le {l1 : List (List AC)} {l2 : List (List AC)} {r : AV} (h : (
    callR (impl_ValidNormal [.agg [.sl 3 l1, .sl 5 l2]]) false [(false, [.bool false])] fun b3 =>
      bif (!b3) then
        some (.v (.cell (.bool false)))
      else
        impl_IsPlain_L0 l2 ((l2.length : Nat) : Int) 0 : Option AV) = some r) : impl_IsPlain [.agg [.sl 3 l1, .sl 5 l2]] = some r :=
  V_le (X := X_impl_IsPlain) (n := 100000) (c := cOf Tryz.f20) (by kernel_rfl) Tryz.func20 (by kernel_rfl) (of_decide_eq_true (by kernel_rfl)) (Eq.trans (by kernel_rfl) h)
noncomputable def X_spec_CountsOf : Ctx := { P := Tryz.prog, L := lay, F := sig.has, E := ext, fn := Tryz.f21, lv := [], jv := [], tp := [] }
theorem spec_CountsOf_le {l1 : List (List AC)} {l2 : List (List AC)} {r : AV} (h : (
    callR (spec_validNormal [.agg [.sl 3 l1, .sl 5 l2]]) false [(false, [.bool false])] fun b3 =>
      bif (!b3) then
        some (.v (.cell (.sl 1 [])))
      else
        callR (spec_countsOf [.agg [.sl 3 l1, .sl 5 l2]]) false [(false, [.sl 1 []])] fun l4 =>
        some (.v (.cell (.sl 1 l4))) : Option AV) = some r) : spec_CountsOf [.agg [.sl 3 l1, .sl 5 l2]] = some r :=
  V_le (X := X_spec_CountsOf) (n := 100000) (c := cOf Tryz.f21) (by kernel_rfl) Tryz.func21 (by kernel_rfl) (of_decide_eq_true (by kernel_rfl)) (Eq.trans (by kernel_rfl) h)
noncomputable def X_impl_CountsOf : Ctx := { P := Tryz.prog, L := lay, F := sig.has, E := ext, fn := Tryz.f22, lv := [(0, [1, 3, 4]), (2, [1, 3, 4, 5, 16, 17, 18])], jv := [], tp := [] }
noncomputable def impl_CountsOf_L0 (l4 : List (List AC)) (l5 : List (List AC)) (l6 : List (List AC)) (n7 : Int) : Option AV := GL X_impl_CountsOf 0 [(1, .box [.sl 3 l4, .sl 5 l5]), (3, .v (.cell (.sl 1 l6))), (4, .v (.cell (.int n7)))]
noncomputable def impl_CountsOf_L2 (l8 : List (List AC)) (l9 : List (List AC)) (l10 : List (List AC)) (n11 : Int) (n12 : Int) (l13 : List (List AC)) (n14 : Int) (n15 : Int) : Option AV := GL X_impl_CountsOf 2 [(1, .box [.sl 3 l8, .sl 5 l9]), (3, .v (.cell (.sl 1 l10))), (4, .v (.cell (.int n11))), (5, .v (.cell (.int n12))), (16, .v (.cell (.sl 5 l13))), (17, .v (.cell (.int n14))), (18, .v (.cell (.int n15)))]
theorem impl_CountsOf_L0_le {l4 : List (List AC)} {l5 : List (List AC)} {l6 : List (List AC)} {n7 : Int} {r : AV} (h : (
    bif (decide (n7 ≤ 17)) then
        impl_CountsOf_L2 l4 l5 l6 n7 0 l5 ((l5.length : Nat) : Int) 0
      else
        some (.v (.cell (.sl 1 l6))) : Option AV) = some r) : impl_CountsOf_L0 l4 l5 l6 n7 = some r :=
  GL_le (X := X_impl_CountsOf) (n := 100000) (by kernel_rfl) (by kernel_rfl : (X_impl_CountsOf.fn.body.bind fun c => locL 0 c []) = some (.loop (loopOf (X_impl_CountsOf.fn.body.bind fun c => locL 0 c [])), ksOf (X_impl_CountsOf.fn.body.bind fun c => locL 0 c []))) (Eq.trans (by kernel_rfl) h)
theorem impl_CountsOf_L2_le {l8 : List (List AC)} {l9 : List (List AC)} {l10 : List (List AC)} {n11 : Int} {n12 : Int} {l13 : List (List AC)} {n14 : Int} {n15 : Int} {r : AV} (h : (
    bif (decide (n15 < n14)) then
        atR_ l13 n15 [.sl 1 [], .sl 1 [], .int 0, .sl 5 [], .int 0] fun l16 l17 n18 l19 n20 =>
        callR (impl_stepsWithOp [.agg [.sl 5 l19, .int n20], .cell (.int n11)]) false [(false, [.int 0])] fun n21 =>
        impl_CountsOf_L2 l8 l9 l10 n11 (wrapI (n12 + n21)) l13 n14 (wrapI (n15 + 1))
      else
        appR l10 [[.int n12]] fun l22 =>
        impl_CountsOf_L0 l8 l9 l22 (wrapI (n11 + 1)) : Option AV) = some r) : impl_CountsOf_L2 l8 l9 l10 n11 n12 l13 n14 n15 = some r :=
  GL_le (X := X_impl_CountsOf) (n := 100000) (by kernel_rfl) (by kernel_rfl : (X_impl_CountsOf.fn.body.bind fun c => locL 2 c []) = some (.loop (loopOf (X_impl_CountsOf.fn.body.bind fun c => locL 2 c [])), ksOf (X_impl_CountsOf.fn.body.bind fun c => locL 2 c []))) (Eq.trans (by kernel_rfl) h)
theorem impl_CountsOf_le {l1 : List (List AC)} {l2 : List (List AC)} {r : AV} (h : (
    callR (impl_ValidNormal [.agg [.sl 3 l1, .sl 5 l2]]) false [(false, [.bool false])] fun b3 =>
      bif (!b3) then
        some (.v (.cell (.sl 1 [])))
      else
        impl_CountsOf_L0 l1 l2 [] 14 : Option AV) = some r) : impl_CountsOf [.agg [.sl 3 l1, .sl 5 l2]] = some r :=
  V_le (X := X_impl_CountsOf) (n := 100000) (c := cOf Tryz.f22) (by kernel_rfl) Tryz.func22 (by kernel_rfl) (of_decide_eq_true (by kernel_rfl)) (Eq.trans (by kernel_rfl) h)
noncomputable def X_laws_markNormal : Ctx := { P := Tryz.prog, L := lay, F := sig.has, E := ext, fn := Tryz.f23, lv := [], jv := [], tp := [] }
theorem laws_markNormal_le {l1 : List (List AC)} {l2 : List (List AC)} {n3 : Int} {r : AV} (h : (
    callR (laws_markDeclS [.cell (.sl 3 l1), .cell (.int n3)]) false [(false, [.int 0])] fun n4 =>
      callR (laws_markRoutineS [.cell (.sl 5 l2), .cell (.int n4)]) false [(false, [.int 0])] fun n5 =>
      some (.v (.cell (.int n5))) : Option AV) = some r) : laws_markNormal [.agg [.sl 3 l1, .sl 5 l2], .cell (.int n3)] = some r :=
  V_le (X := X_laws_markNormal) (n := 100000) (c := cOf Tryz.f23) (by kernel_rfl) Tryz.func23 (by kernel_rfl) (of_decide_eq_true (by kernel_rfl)) (Eq.trans (by kernel_rfl) h)
noncomputable def X_laws_heldIntS : Ctx := { P := Tryz.prog, L := lay, F := sig.has, E := ext, fn := Tryz.f25, lv := [(0, [0, 1, 5])], jv := [], tp := [] }
noncomputable def laws_heldIntS_L0 (l3 : List (List AC)) (n4 : Int) (n5 : Int) : Option AV := GL X_laws_heldIntS 0 [(0, .v (.cell (.sl 1 l3))), (1, .v (.cell (.int n4))), (5, .v (.cell (.int n5)))]
theorem laws_heldIntS_L0_le {l3 : List (List AC)} {n4 : Int} {n5 : Int} {r : AV} (h : (
    bif (decide (n5 < ((l3.length : Nat) : Int))) then
        atR_ l3 n5 [.int 0] fun n6 =>
        bif (n6 != n4) then
          some (.v (.cell (.int (-1))))
        else
          laws_heldIntS_L0 l3 (wrapI (n4 + 1)) (wrapI (n5 + 1))
      else
        some (.v (.cell (.int n4))) : Option AV) = some r) : laws_heldIntS_L0 l3 n4 n5 = some r :=
  GL_le (X := X_laws_heldIntS) (n := 100000) (by kernel_rfl) (by kernel_rfl : (X_laws_heldIntS.fn.body.bind fun c => locL 0 c []) = some (.loop (loopOf (X_laws_heldIntS.fn.body.bind fun c => locL 0 c [])), ksOf (X_laws_heldIntS.fn.body.bind fun c => locL 0 c []))) (Eq.trans (by kernel_rfl) h)
theorem laws_heldIntS_le {l1 : List (List AC)} {n2 : Int} {r : AV} (h : (
    laws_heldIntS_L0 l1 n2 0 : Option AV) = some r) : laws_heldIntS [.cell (.sl 1 l1), .cell (.int n2)] = some r :=
  V_le (X := X_laws_heldIntS) (n := 100000) (c := cOf Tryz.f25) (by kernel_rfl) Tryz.func25 (by kernel_rfl) (of_decide_eq_true (by kernel_rfl)) (Eq.trans (by kernel_rfl) h)
noncomputable def X_laws_szDeclS : Ctx := { P := Tryz.prog, L := lay, F := sig.has, E := ext, fn := Tryz.f26, lv := [(0, [0, 1, 5])], jv := [], tp := [] }
noncomputable def laws_szDeclS_L0 (l3 : List (List AC)) (n4 : Int) (n5 : Int) : Option AV := GL X_laws_szDeclS 0 [(0, .v (.cell (.sl 3 l3))), (1, .v (.cell (.int n4))), (5, .v (.cell (.int n5)))]
theorem laws_szDeclS_L0_le {l3 : List (List AC)} {n4 : Int} {n5 : Int} {r : AV} (h : (
    bif (decide (n5 < ((l3.length : Nat) : Int))) then
        atR_ l3 n5 [.int 0, .int 0, .sl 1 []] fun n6 n7 l8 =>
        callR (laws_szDecl [.agg [.int n6, .int n7, .sl 1 l8], .cell (.int n4)]) false [(false, [.int 0])] fun n9 =>
        bif (decide (n9 < 0)) then
          some (.v (.cell (.int (-1))))
        else
          laws_szDeclS_L0 l3 n9 (wrapI (n5 + 1))
      else
        some (.v (.cell (.int n4))) : Option AV) = some r) : laws_szDeclS_L0 l3 n4 n5 = some r :=
  GL_le (X := X_laws_szDeclS) (n := 100000) (by kernel_rfl) (by kernel_rfl : (X_laws_szDeclS.fn.body.bind fun c => locL 0 c []) = some (.loop (loopOf (X_laws_szDeclS.fn.body.bind fun c => locL 0 c [])), ksOf (X_laws_szDeclS.fn.body.bind fun c => locL 0 c []))) (Eq.trans (by kernel_rfl) h)
theorem laws_szDeclS_le {l1 : List (List AC)} {n2 : Int} {r : AV} (h : (
    bif (decide ((wrapI (n2 - ((l1.length : Nat) : Int))) < 0)) then
        some (.v (.cell (.int (-1))))
      else
        laws_szDeclS_L0 l1 (wrapI (n2 - ((l1.length : Nat) : Int))) 0 : Option AV) = some r) : laws_szDeclS [.cell (.sl 3 l1), .cell (.int n2)] = some r :=
  V_le (X := X_laws_szDeclS) (n := 100000) (c := cOf Tryz.f26) (by kernel_rfl) Tryz.func26 (by kernel_rfl) (of_decide_eq_true (by kernel_rfl)) (Eq.trans (by kernel_rfl) h)
noncomputable def X_laws_szRoutineS : Ctx := { P := Tryz.prog, L := lay, F := sig.has, E := ext, fn := Tryz.f27, lv := [(0, [0, 1, 5])], jv := [], tp := [] }
noncomputable def laws_szRoutineS_L0 (l3 : List (List AC)) (n4 : Int) (n5 : Int) : Option AV := GL X_laws_szRoutineS 0 [(0, .v (.cell (.sl 5 l3))), (1, .v (.cell (.int n4))), (5, .v (.cell (.int n5)))]
theorem laws_szRoutineS_L0_le {l3 : List (List AC)} {n4 : Int} {n5 : Int} {r : AV} (h : (
    bif (decide (n5 < ((l3.length : Nat) : Int))) then
        atR_ l3 n5 [.sl 1 [], .sl 1 [], .int 0, .sl 5 [], .int 0] fun l6 l7 n8 l9 n10 =>
        callR (laws_szRoutine [.agg [.sl 1 l6, .sl 1 l7, .int n8, .sl 5 l9, .int n10], .cell (.int n4)]) false [(false, [.int 0])] fun n11 =>
        bif (decide (n11 < 0)) then
          some (.v (.cell (.int (-1))))
        else
          laws_szRoutineS_L0 l3 n11 (wrapI (n5 + 1))
      else
        some (.v (.cell (.int n4))) : Option AV) = some r) : laws_szRoutineS_L0 l3 n4 n5 = some r :=
  GL_le (X := X_laws_szRoutineS) (n := 100000) (by kernel_rfl) (by kernel_rfl : (X_laws_szRoutineS.fn.body.bind fun c => locL 0 c []) = some (.loop (loopOf (X_laws_szRoutineS.fn.body.bind fun c => locL 0 c [])), ksOf (X_laws_szRoutineS.fn.body.bind fun c => locL 0 c []))) (Eq.trans (by kernel_rfl) h)
theorem laws_szRoutineS_le {l1 : List (List AC)} {n2 : Int} {r : AV} (h : (
    bif (decide ((wrapI (n2 - ((l1.length : Nat) : Int))) < 0)) then
        some (.v (.cell (.int (-1))))
      else
        laws_szRoutineS_L0 l1 (wrapI (n2 - ((l1.length : Nat) : Int))) 0 : Option AV) = some r) : laws_szRoutineS [.cell (.sl 5 l1), .cell (.int n2)] = some r :=
  V_le (X := X_laws_szRoutineS) (n := 100000) (c := cOf Tryz.f27) (by kernel_rfl) Tryz.func27 (by kernel_rfl) (of_decide_eq_true (by kernel_rfl)) (Eq.trans (by kernel_rfl) h)
noncomputable def X_laws_szStepS : Ctx := { P := Tryz.prog, L := lay, F := sig.has, E := ext, fn := Tryz.f28, lv := [(0, [0, 1, 5])], jv := [], tp := [] }
noncomputable def laws_szStepS_L0 (l3 : List (List AC)) (n4 : Int) (n5 : Int) : Option AV := GL X_laws_szStepS 0 [(0, .v (.cell (.sl 5 l3))), (1, .v (.cell (.int n4))), (5, .v (.cell (.int n5)))]
theorem laws_szStepS_L0_le {l3 : List (List AC)} {n4 : Int} {n5 : Int} {r : AV} (h : (
    bif (decide (n5 < ((l3.length : Nat) : Int))) then
        atR_ l3 n5 [.int 0, .int 0, .int 0, .sl 1 [], .sl 2 []] fun n6 n7 n8 l9 l10 =>
        callR (laws_szStep [.agg [.int n6, .int n7, .int n8, .sl 1 l9, .sl 2 l10], .cell (.int n4)]) false [(false, [.int 0])] fun n11 =>
        bif (decide (n11 < 0)) then
          some (.v (.cell (.int (-1))))
        else
          laws_szStepS_L0 l3 n11 (wrapI (n5 + 1))
      else
        some (.v (.cell (.int n4))) : Option AV) = some r) : laws_szStepS_L0 l3 n4 n5 = some r :=
  GL_le (X := X_laws_szStepS) (n := 100000) (by kernel_rfl) (by kernel_rfl : (X_laws_szStepS.fn.body.bind fun c => locL 0 c []) = some (.loop (loopOf (X_laws_szStepS.fn.body.bind fun c => locL 0 c [])), ksOf (X_laws_szStepS.fn.body.bind fun c => locL 0 c []))) (Eq.trans (by kernel_rfl) h)
theorem laws_szStepS_le {l1 : List (List AC)} {n2 : Int} {r : AV} (h : (
    bif (decide ((wrapI (n2 - ((l1.length : Nat) : Int))) < 0)) then
        some (.v (.cell (.int (-1))))
      else
        laws_szStepS_L0 l1 (wrapI (n2 - ((l1.length : Nat) : Int))) 0 : Option AV) = some r) : laws_szStepS [.cell (.sl 5 l1), .cell (.int n2)] = some r :=
  V_le (X := X_laws_szStepS) (n := 100000) (c := cOf Tryz.f28) (by kernel_rfl) Tryz.func28 (by kernel_rfl) (of_decide_eq_true (by kernel_rfl)) (Eq.trans (by kernel_rfl) h)
noncomputable def X_spec_validNormalSigs : Ctx := { P := Tryz.prog, L := lay, F := sig.has, E := ext, fn := Tryz.f29, lv := [(0, [1, 3])], jv := [], tp := [] }
noncomputable def spec_validNormalSigs_L0 (l6 : List (List AC)) (l7 : List (List AC)) (n8 : Int) : Option AV := GL X_spec_validNormalSigs 0 [(1, .box [.sl 3 l6, .sl 5 l7]), (3, .v (.cell (.int n8)))]
theorem spec_validNormalSigs_L0_le {l6 : List (List AC)} {l7 : List (List AC)} {n8 : Int} {r : AV} (h : (
    bif (decide (n8 < ((l7.length : Nat) : Int))) then
        atR_ l7 n8 [.sl 1 [], .sl 1 [], .int 0, .sl 5 [], .int 0] fun l9 l10 n11 l12 n13 =>
        atR_ l7 n8 [.sl 1 [], .sl 1 [], .int 0, .sl 5 [], .int 0] fun l14 l15 n16 l17 n18 =>
        callR (spec_validLent [.cell (.sl 1 l9), .cell (.sl 1 l15)]) false [(false, [.bool false])] fun b19 =>
        bif (!b19) then
          some (.v (.cell (.bool false)))
        else
          spec_validNormalSigs_L0 l6 l7 (wrapI (n8 + 1))
      else
        some (.v (.cell (.bool true))) : Option AV) = some r) : spec_validNormalSigs_L0 l6 l7 n8 = some r :=
  GL_le (X := X_spec_validNormalSigs) (n := 100000) (by kernel_rfl) (by kernel_rfl : (X_spec_validNormalSigs.fn.body.bind fun c => locL 0 c []) = some (.loop (loopOf (X_spec_validNormalSigs.fn.body.bind fun c => locL 0 c [])), ksOf (X_spec_validNormalSigs.fn.body.bind fun c => locL 0 c []))) (Eq.trans (by kernel_rfl) h)
theorem spec_validNormalSigs_le {l1 : List (List AC)} {l2 : List (List AC)} {r : AV} (h : (
    bif (decide (((l2.length : Nat) : Int) > 4)) then
        some (.v (.cell (.bool false)))
      else
        callR (spec_sigsOf [.agg [.sl 3 l1, .sl 5 l2]]) false [(true, [.sl 3 [], .sl 5 []])] fun l3 l4 =>
        callR (spec_validSigs [.agg [.sl 3 l3, .sl 5 l4]]) false [(false, [.bool false])] fun b5 =>
        bif (!b5) then
          some (.v (.cell (.bool false)))
        else
          spec_validNormalSigs_L0 l1 l2 0 : Option AV) = some r) : spec_validNormalSigs [.agg [.sl 3 l1, .sl 5 l2]] = some r :=
  V_le (X := X_spec_validNormalSigs) (n := 100000) (c := cOf Tryz.f29) (by kernel_rfl) Tryz.func29 (by kernel_rfl) (of_decide_eq_true (by kernel_rfl)) (Eq.trans (by kernel_rfl) h)
noncomputable def X_spec_allTypes : Ctx := { P := Tryz.prog, L := lay, F := sig.has, E := ext, fn := Tryz.f30, lv := [(0, [0, 1, 5])], jv := [], tp := [] }
noncomputable def spec_allTypes_L0 (l3 : List (List AC)) (l4 : List (List AC)) (n5 : Int) : Option AV := GL X_spec_allTypes 0 [(0, .v (.cell (.sl 3 l3))), (1, .v (.cell (.sl 1 l4))), (5, .v (.cell (.int n5)))]
theorem spec_allTypes_L0_le {l3 : List (List AC)} {l4 : List (List AC)} {n5 : Int} {r : AV} (h : (
    bif (decide (n5 < ((l4.length : Nat) : Int))) then
        atR_ l4 n5 [.int 0] fun n6 =>
        callR (spec_inRange [.cell (.int n6), .cell (.int 0), .cell (.int ((l3.length : Nat) : Int))]) false [(false, [.bool false])] fun b7 =>
        bif (!b7) then
          some (.v (.cell (.bool false)))
        else
          spec_allTypes_L0 l3 l4 (wrapI (n5 + 1))
      else
        some (.v (.cell (.bool true))) : Option AV) = some r) : spec_allTypes_L0 l3 l4 n5 = some r :=
  GL_le (X := X_spec_allTypes) (n := 100000) (by kernel_rfl) (by kernel_rfl : (X_spec_allTypes.fn.body.bind fun c => locL 0 c []) = some (.loop (loopOf (X_spec_allTypes.fn.body.bind fun c => locL 0 c [])), ksOf (X_spec_allTypes.fn.body.bind fun c => locL 0 c []))) (Eq.trans (by kernel_rfl) h)
theorem spec_allTypes_le {l1 : List (List AC)} {l2 : List (List AC)} {r : AV} (h : (
    spec_allTypes_L0 l1 l2 0 : Option AV) = some r) : spec_allTypes [.cell (.sl 3 l1), .cell (.sl 1 l2)] = some r :=
  V_le (X := X_spec_allTypes) (n := 100000) (c := cOf Tryz.f30) (by kernel_rfl) Tryz.func30 (by kernel_rfl) (of_decide_eq_true (by kernel_rfl)) (Eq.trans (by kernel_rfl) h)
noncomputable def X_spec_stepsOf : Ctx := { P := Tryz.prog, L := lay, F := sig.has, E := ext, fn := Tryz.f31, lv := [], jv := [], tp := [] }
theorem spec_stepsOf_le {l1 : List (List AC)} {n2 : Int} {r : AV} (h : (
    callR (spec_stepsLeft [.agg [.sl 5 l1, .int n2], .cell (.int 600)]) false [(false, [.int 0])] fun n3 =>
      bif (decide (n3 < 0)) then
        some (.v (.cell (.int (-1))))
      else
        some (.v (.cell (.int (wrapI (600 - n3))))) : Option AV) = some r) : spec_stepsOf [.agg [.sl 5 l1, .int n2]] = some r :=
  V_le (X := X_spec_stepsOf) (n := 100000) (c := cOf Tryz.f31) (by kernel_rfl) Tryz.func31 (by kernel_rfl) (of_decide_eq_true (by kernel_rfl)) (Eq.trans (by kernel_rfl) h)
noncomputable def X_spec_blockType : Ctx := { P := Tryz.prog, L := lay, F := sig.has, E := ext, fn := Tryz.f32, lv := [(0, [3, 5, 7, 8])], jv := [], tp := [] }
noncomputable def spec_blockType_L0 (l7 : List (List AC)) (l8 : List (List AC)) (l9 : List (List AC)) (n10 : Int) (l11 : List (List AC)) (n12 : Int) : Option AV := GL X_spec_blockType 0 [(3, .box [.sl 3 l7, .sl 5 l8]), (5, .box [.sl 5 l9, .int n10]), (7, .v (.cell (.sl 1 l11))), (8, .v (.cell (.int n12)))]
theorem spec_blockType_L0_le {l7 : List (List AC)} {l8 : List (List AC)} {l9 : List (List AC)} {n10 : Int} {l11 : List (List AC)} {n12 : Int} {r : AV} (h : (
    bif (decide (n12 < ((l9.length : Nat) : Int))) then
        atR_ l9 n12 [.int 0, .int 0, .int 0, .sl 1 [], .sl 2 []] fun n13 n14 n15 l16 l17 =>
        callR (spec_stepType [.agg [.sl 3 l7, .sl 5 l8], .cell (.sl 1 l11), .agg [.int n13, .int n14, .int n15, .sl 1 l16, .sl 2 l17]]) false [(false, [.int 0])] fun n18 =>
        bif (decide (n18 < 0)) then
          some (.v (.cell (.int (-1))))
        else
          atR_ l9 n12 [.int 0, .int 0, .int 0, .sl 1 [], .sl 2 []] fun n19 n20 n21 l22 l23 =>
          callR (spec_defines [.cell (.int n19)]) false [(false, [.bool false])] fun b24 =>
          bif b24 then
            appR l11 [[.int n18]] fun l25 =>
            spec_blockType_L0 l7 l8 l9 n10 l25 (wrapI (n12 + 1))
          else
            spec_blockType_L0 l7 l8 l9 n10 l11 (wrapI (n12 + 1))
      else
        callR (spec_inRange [.cell (.int n10), .cell (.int 0), .cell (.int (wrapI (((l11.length : Nat) : Int) - 1)))]) false [(false, [.bool false])] fun b26 =>
        bif (!b26) then
          some (.v (.cell (.int (-1))))
        else
          atR_ l11 n10 [.int 0] fun n27 =>
          some (.v (.cell (.int n27))) : Option AV) = some r) : spec_blockType_L0 l7 l8 l9 n10 l11 n12 = some r :=
  GL_le (X := X_spec_blockType) (n := 100000) (by kernel_rfl) (by kernel_rfl : (X_spec_blockType.fn.body.bind fun c => locL 0 c []) = some (.loop (loopOf (X_spec_blockType.fn.body.bind fun c => locL 0 c [])), ksOf (X_spec_blockType.fn.body.bind fun c => locL 0 c []))) (Eq.trans (by kernel_rfl) h)
theorem spec_blockType_le {l1 : List (List AC)} {l2 : List (List AC)} {l3 : List (List AC)} {l4 : List (List AC)} {n5 : Int} {r : AV} (h : (
    callR (spec_copyInts [.cell (.sl 1 l3)]) false [(false, [.sl 1 []])] fun l6 =>
      spec_blockType_L0 l1 l2 l4 n5 l6 0 : Option AV) = some r) : spec_blockType [.agg [.sl 3 l1, .sl 5 l2], .cell (.sl 1 l3), .agg [.sl 5 l4, .int n5]] = some r :=
  V_le (X := X_spec_blockType) (n := 100000) (c := cOf Tryz.f32) (by kernel_rfl) Tryz.func32 (by kernel_rfl) (of_decide_eq_true (by kernel_rfl)) (Eq.trans (by kernel_rfl) h)
noncomputable def X_impl_validRoutineSigs : Ctx := { P := Tryz.prog, L := lay, F := sig.has, E := ext, fn := Tryz.f36, lv := [(0, [16, 17, 18])], jv := [], tp := [] }
noncomputable def impl_validRoutineSigs_L0 (l6 : List (List AC)) (n7 : Int) (n8 : Int) : Option AV := GL X_impl_validRoutineSigs 0 [(16, .v (.cell (.sl 5 l6))), (17, .v (.cell (.int n7))), (18, .v (.cell (.int n8)))]
theorem impl_validRoutineSigs_L0_le {l6 : List (List AC)} {n7 : Int} {n8 : Int} {r : AV} (h : (
    bif (decide (n8 < n7)) then
        atR_ l6 n8 [.sl 1 [], .sl 1 [], .int 0, .sl 5 [], .int 0] fun l9 l10 n11 l12 n13 =>
        callR (impl_validLent [.agg [.sl 1 l9, .sl 1 l10, .int n11, .sl 5 l12, .int n13]]) false [(false, [.bool false])] fun b14 =>
        bif (!b14) then
          some (.v (.cell (.bool false)))
        else
          impl_validRoutineSigs_L0 l6 n7 (wrapI (n8 + 1))
      else
        some (.v (.cell (.bool true))) : Option AV) = some r) : impl_validRoutineSigs_L0 l6 n7 n8 = some r :=
  GL_le (X := X_impl_validRoutineSigs) (n := 100000) (by kernel_rfl) (by kernel_rfl : (X_impl_validRoutineSigs.fn.body.bind fun c => locL 0 c []) = some (.loop (loopOf (X_impl_validRoutineSigs.fn.body.bind fun c => locL 0 c [])), ksOf (X_impl_validRoutineSigs.fn.body.bind fun c => locL 0 c []))) (Eq.trans (by kernel_rfl) h)
theorem impl_validRoutineSigs_le {l1 : List (List AC)} {l2 : List (List AC)} {r : AV} (h : (
    bif (decide (((l2.length : Nat) : Int) > 4)) then
        some (.v (.cell (.bool false)))
      else
        callR (impl_sigsOf [.agg [.sl 3 l1, .sl 5 l2]]) false [(true, [.sl 3 [], .sl 5 []])] fun l3 l4 =>
        callR (impl_ValidSigs [.agg [.sl 3 l3, .sl 5 l4]]) false [(false, [.bool false])] fun b5 =>
        bif (!b5) then
          some (.v (.cell (.bool false)))
        else
          impl_validRoutineSigs_L0 l2 ((l2.length : Nat) : Int) 0 : Option AV) = some r) : impl_validRoutineSigs [.agg [.sl 3 l1, .sl 5 l2]] = some r :=
  V_le (X := X_impl_validRoutineSigs) (n := 100000) (c := cOf Tryz.f36) (by kernel_rfl) Tryz.func36 (by kernel_rfl) (of_decide_eq_true (by kernel_rfl)) (Eq.trans (by kernel_rfl) h)
noncomputable def X_impl_areTypes : Ctx := { P := Tryz.prog, L := lay, F := sig.has, E := ext, fn := Tryz.f37, lv := [(0, [0, 7, 8, 9])], jv := [], tp := [] }
noncomputable def impl_areTypes_L0 (l3 : List (List AC)) (l4 : List (List AC)) (n5 : Int) (n6 : Int) : Option AV := GL X_impl_areTypes 0 [(0, .v (.cell (.sl 3 l3))), (7, .v (.cell (.sl 1 l4))), (8, .v (.cell (.int n5))), (9, .v (.cell (.int n6)))]
theorem impl_areTypes_L0_le {l3 : List (List AC)} {l4 : List (List AC)} {n5 : Int} {n6 : Int} {r : AV} (h : (
    bif (decide (n6 < n5)) then
        atR_ l4 n6 [.int 0] fun n7 =>
        callR (impl_isType [.cell (.sl 3 l3), .cell (.int n7)]) false [(false, [.bool false])] fun b8 =>
        bif (!b8) then
          some (.v (.cell (.bool false)))
        else
          impl_areTypes_L0 l3 l4 n5 (wrapI (n6 + 1))
      else
        some (.v (.cell (.bool true))) : Option AV) = some r) : impl_areTypes_L0 l3 l4 n5 n6 = some r :=
  GL_le (X := X_impl_areTypes) (n := 100000) (by kernel_rfl) (by kernel_rfl : (X_impl_areTypes.fn.body.bind fun c => locL 0 c []) = some (.loop (loopOf (X_impl_areTypes.fn.body.bind fun c => locL 0 c [])), ksOf (X_impl_areTypes.fn.body.bind fun c => locL 0 c []))) (Eq.trans (by kernel_rfl) h)
theorem impl_areTypes_le {l1 : List (List AC)} {l2 : List (List AC)} {r : AV} (h : (
    impl_areTypes_L0 l1 l2 ((l2.length : Nat) : Int) 0 : Option AV) = some r) : impl_areTypes [.cell (.sl 3 l1), .cell (.sl 1 l2)] = some r :=
  V_le (X := X_impl_areTypes) (n := 100000) (c := cOf Tryz.f37) (by kernel_rfl) Tryz.func37 (by kernel_rfl) (of_decide_eq_true (by kernel_rfl)) (Eq.trans (by kernel_rfl) h)
noncomputable def X_impl_StepsOf : Ctx := { P := Tryz.prog, L := lay, F := sig.has, E := ext, fn := Tryz.f38, lv := [], jv := [], tp := [] }
theorem impl_StepsOf_le {l1 : List (List AC)} {n2 : Int} {r : AV} (h : (
    callR (impl_stepsUpTo [.agg [.sl 5 l1, .int n2], .cell (.int 600)]) false [(false, [.int 0])] fun n3 =>
      bif (decide (n3 > 600)) then
        some (.v (.cell (.int (-1))))
      else
        some (.v (.cell (.int n3))) : Option AV) = some r) : impl_StepsOf [.agg [.sl 5 l1, .int n2]] = some r :=
  V_le (X := X_impl_StepsOf) (n := 100000) (c := cOf Tryz.f38) (by kernel_rfl) Tryz.func38 (by kernel_rfl) (of_decide_eq_true (by kernel_rfl)) (Eq.trans (by kernel_rfl) h)
noncomputable def X_impl_typeOfBlock : Ctx := { P := Tryz.prog, L := lay, F := sig.has, E := ext, fn := Tryz.f39, lv := [(0, [3, 5, 7, 13, 14, 15])], jv := [], tp := [] }
noncomputable def impl_typeOfBlock_L0 (l7 : List (List AC)) (l8 : List (List AC)) (l9 : List (List AC)) (n10 : Int) (l11 : List (List AC)) (l12 : List (List AC)) (l13 : List (List AC)) (n14 : Int) (n15 : Int) : Option AV := GL X_impl_typeOfBlock 0 [(3, .box [.sl 3 l7, .sl 5 l8]), (5, .box [.sl 5 l9, .int n10]), (7, .box [.sl 1 l11, .sl 1 l12]), (13, .v (.cell (.sl 5 l13))), (14, .v (.cell (.int n14))), (15, .v (.cell (.int n15)))]
theorem impl_typeOfBlock_L0_le {l7 : List (List AC)} {l8 : List (List AC)} {l9 : List (List AC)} {n10 : Int} {l11 : List (List AC)} {l12 : List (List AC)} {l13 : List (List AC)} {n14 : Int} {n15 : Int} {r : AV} (h : (
    bif (decide (n15 < n14)) then
        atR_ l13 n15 [.int 0, .int 0, .int 0, .sl 1 [], .sl 2 []] fun n16 n17 n18 l19 l20 =>
        callR (impl_isCounting [.cell (.int n16)]) false [(false, [.bool false])] fun b21 =>
        bif b21 then
          callR (impl_validCounting [.cell (.sl 3 l7), .agg [.sl 1 l11, .sl 1 l12], .agg [.int n16, .int n17, .int n18, .sl 1 l19, .sl 2 l20]]) false [(false, [.bool false])] fun b22 =>
          bif (!b22) then
            some (.v (.cell (.int (-1))))
          else
            impl_typeOfBlock_L0 l7 l8 l9 n10 l11 l12 l13 n14 (wrapI (n15 + 1))
        else
          callR (impl_typeOfStep [.agg [.sl 3 l7, .sl 5 l8], .agg [.sl 1 l11, .sl 1 l12], .agg [.int n16, .int n17, .int n18, .sl 1 l19, .sl 2 l20]]) false [(false, [.int 0])] fun n23 =>
          bif (decide (n23 < 0)) then
            some (.v (.cell (.int (-1))))
          else
            callR (impl_bind [.agg [.sl 1 l11, .sl 1 l12], .cell (.sl 1 [[.int n23]])]) false [(true, [.sl 1 [], .sl 1 []])] fun l24 l25 =>
            impl_typeOfBlock_L0 l7 l8 l9 n10 l24 l25 l13 n14 (wrapI (n15 + 1))
      else
        callR (impl_typeOfVar [.agg [.sl 1 l11, .sl 1 l12], .cell (.int n10)]) false [(false, [.int 0])] fun n26 =>
        some (.v (.cell (.int n26))) : Option AV) = some r) : impl_typeOfBlock_L0 l7 l8 l9 n10 l11 l12 l13 n14 n15 = some r :=
  GL_le (X := X_impl_typeOfBlock) (n := 100000) (by kernel_rfl) (by kernel_rfl : (X_impl_typeOfBlock.fn.body.bind fun c => locL 0 c []) = some (.loop (loopOf (X_impl_typeOfBlock.fn.body.bind fun c => locL 0 c [])), ksOf (X_impl_typeOfBlock.fn.body.bind fun c => locL 0 c []))) (Eq.trans (by kernel_rfl) h)
theorem impl_typeOfBlock_le {l1 : List (List AC)} {l2 : List (List AC)} {l3 : List (List AC)} {l4 : List (List AC)} {l5 : List (List AC)} {n6 : Int} {r : AV} (h : (
    impl_typeOfBlock_L0 l1 l2 l5 n6 l3 l4 l5 ((l5.length : Nat) : Int) 0 : Option AV) = some r) : impl_typeOfBlock [.agg [.sl 3 l1, .sl 5 l2], .agg [.sl 1 l3, .sl 1 l4], .agg [.sl 5 l5, .int n6]] = some r :=
  V_le (X := X_impl_typeOfBlock) (n := 100000) (c := cOf Tryz.f39) (by kernel_rfl) Tryz.func39 (by kernel_rfl) (of_decide_eq_true (by kernel_rfl)) (Eq.trans (by kernel_rfl) h)
noncomputable def X_laws_eqDeclS : Ctx := { P := Tryz.prog, L := lay, F := sig.has, E := ext, fn := Tryz.f40, lv := [(0, [0, 1, 5])], jv := [], tp := [] }
noncomputable def laws_eqDeclS_L0 (l3 : List (List AC)) (l4 : List (List AC)) (n5 : Int) : Option AV := GL X_laws_eqDeclS 0 [(0, .v (.cell (.sl 3 l3))), (1, .v (.cell (.sl 3 l4))), (5, .v (.cell (.int n5)))]
theorem laws_eqDeclS_L0_le {l3 : List (List AC)} {l4 : List (List AC)} {n5 : Int} {r : AV} (h : (
    bif (decide (n5 < ((l3.length : Nat) : Int))) then
        atR_ l3 n5 [.int 0, .int 0, .sl 1 []] fun n6 n7 l8 =>
        atR_ l4 n5 [.int 0, .int 0, .sl 1 []] fun n9 n10 l11 =>
        callR (laws_eqDecl [.agg [.int n6, .int n7, .sl 1 l8], .agg [.int n9, .int n10, .sl 1 l11]]) false [(false, [.bool false])] fun b12 =>
        bif (!b12) then
          some (.v (.cell (.bool false)))
        else
          laws_eqDeclS_L0 l3 l4 (wrapI (n5 + 1))
      else
        some (.v (.cell (.bool true))) : Option AV) = some r) : laws_eqDeclS_L0 l3 l4 n5 = some r :=
  GL_le (X := X_laws_eqDeclS) (n := 100000) (by kernel_rfl) (by kernel_rfl : (X_laws_eqDeclS.fn.body.bind fun c => locL 0 c []) = some (.loop (loopOf (X_laws_eqDeclS.fn.body.bind fun c => locL 0 c [])), ksOf (X_laws_eqDeclS.fn.body.bind fun c => locL 0 c []))) (Eq.trans (by kernel_rfl) h)
theorem laws_eqDeclS_le {l1 : List (List AC)} {l2 : List (List AC)} {r : AV} (h : (
    bif (((l1.length : Nat) : Int) != ((l2.length : Nat) : Int)) then
        some (.v (.cell (.bool false)))
      else
        laws_eqDeclS_L0 l1 l2 0 : Option AV) = some r) : laws_eqDeclS [.cell (.sl 3 l1), .cell (.sl 3 l2)] = some r :=
  V_le (X := X_laws_eqDeclS) (n := 100000) (c := cOf Tryz.f40) (by kernel_rfl) Tryz.func40 (by kernel_rfl) (of_decide_eq_true (by kernel_rfl)) (Eq.trans (by kernel_rfl) h)
noncomputable def X_laws_eqRoutineS : Ctx := { P := Tryz.prog, L := lay, F := sig.has, E := ext, fn := Tryz.f41, lv := [(0, [0, 1, 5])], jv := [], tp := [] }
noncomputable def laws_eqRoutineS_L0 (l3 : List (List AC)) (l4 : List (List AC)) (n5 : Int) : Option AV := GL X_laws_eqRoutineS 0 [(0, .v (.cell (.sl 5 l3))), (1, .v (.cell (.sl 5 l4))), (5, .v (.cell (.int n5)))]
theorem laws_eqRoutineS_L0_le {l3 : List (List AC)} {l4 : List (List AC)} {n5 : Int} {r : AV} (h : (
    bif (decide (n5 < ((l3.length : Nat) : Int))) then
        atR_ l3 n5 [.sl 1 [], .sl 1 [], .int 0, .sl 5 [], .int 0] fun l6 l7 n8 l9 n10 =>
        atR_ l4 n5 [.sl 1 [], .sl 1 [], .int 0, .sl 5 [], .int 0] fun l11 l12 n13 l14 n15 =>
        callR (laws_eqRoutine [.agg [.sl 1 l6, .sl 1 l7, .int n8, .sl 5 l9, .int n10], .agg [.sl 1 l11, .sl 1 l12, .int n13, .sl 5 l14, .int n15]]) false [(false, [.bool false])] fun b16 =>
        bif (!b16) then
          some (.v (.cell (.bool false)))
        else
          laws_eqRoutineS_L0 l3 l4 (wrapI (n5 + 1))
      else
        some (.v (.cell (.bool true))) : Option AV) = some r) : laws_eqRoutineS_L0 l3 l4 n5 = some r :=
  GL_le (X := X_laws_eqRoutineS) (n := 100000) (by kernel_rfl) (by kernel_rfl : (X_laws_eqRoutineS.fn.body.bind fun c => locL 0 c []) = some (.loop (loopOf (X_laws_eqRoutineS.fn.body.bind fun c => locL 0 c [])), ksOf (X_laws_eqRoutineS.fn.body.bind fun c => locL 0 c []))) (Eq.trans (by kernel_rfl) h)
theorem laws_eqRoutineS_le {l1 : List (List AC)} {l2 : List (List AC)} {r : AV} (h : (
    bif (((l1.length : Nat) : Int) != ((l2.length : Nat) : Int)) then
        some (.v (.cell (.bool false)))
      else
        laws_eqRoutineS_L0 l1 l2 0 : Option AV) = some r) : laws_eqRoutineS [.cell (.sl 5 l1), .cell (.sl 5 l2)] = some r :=
  V_le (X := X_laws_eqRoutineS) (n := 100000) (c := cOf Tryz.f41) (by kernel_rfl) Tryz.func41 (by kernel_rfl) (of_decide_eq_true (by kernel_rfl)) (Eq.trans (by kernel_rfl) h)
noncomputable def X_laws_eqStepS : Ctx := { P := Tryz.prog, L := lay, F := sig.has, E := ext, fn := Tryz.f42, lv := [(0, [0, 1, 5])], jv := [], tp := [] }
noncomputable def laws_eqStepS_L0 (l3 : List (List AC)) (l4 : List (List AC)) (n5 : Int) : Option AV := GL X_laws_eqStepS 0 [(0, .v (.cell (.sl 5 l3))), (1, .v (.cell (.sl 5 l4))), (5, .v (.cell (.int n5)))]
theorem laws_eqStepS_L0_le {l3 : List (List AC)} {l4 : List (List AC)} {n5 : Int} {r : AV} (h : (
    bif (decide (n5 < ((l3.length : Nat) : Int))) then
        atR_ l3 n5 [.int 0, .int 0, .int 0, .sl 1 [], .sl 2 []] fun n6 n7 n8 l9 l10 =>
        atR_ l4 n5 [.int 0, .int 0, .int 0, .sl 1 [], .sl 2 []] fun n11 n12 n13 l14 l15 =>
        callR (laws_eqStep [.agg [.int n6, .int n7, .int n8, .sl 1 l9, .sl 2 l10], .agg [.int n11, .int n12, .int n13, .sl 1 l14, .sl 2 l15]]) false [(false, [.bool false])] fun b16 =>
        bif (!b16) then
          some (.v (.cell (.bool false)))
        else
          laws_eqStepS_L0 l3 l4 (wrapI (n5 + 1))
      else
        some (.v (.cell (.bool true))) : Option AV) = some r) : laws_eqStepS_L0 l3 l4 n5 = some r :=
  GL_le (X := X_laws_eqStepS) (n := 100000) (by kernel_rfl) (by kernel_rfl : (X_laws_eqStepS.fn.body.bind fun c => locL 0 c []) = some (.loop (loopOf (X_laws_eqStepS.fn.body.bind fun c => locL 0 c [])), ksOf (X_laws_eqStepS.fn.body.bind fun c => locL 0 c []))) (Eq.trans (by kernel_rfl) h)
theorem laws_eqStepS_le {l1 : List (List AC)} {l2 : List (List AC)} {r : AV} (h : (
    bif (((l1.length : Nat) : Int) != ((l2.length : Nat) : Int)) then
        some (.v (.cell (.bool false)))
      else
        laws_eqStepS_L0 l1 l2 0 : Option AV) = some r) : laws_eqStepS [.cell (.sl 5 l1), .cell (.sl 5 l2)] = some r :=
  V_le (X := X_laws_eqStepS) (n := 100000) (c := cOf Tryz.f42) (by kernel_rfl) Tryz.func42 (by kernel_rfl) (of_decide_eq_true (by kernel_rfl)) (Eq.trans (by kernel_rfl) h)
noncomputable def X_spec_validNormal : Ctx := { P := Tryz.prog, L := lay, F := sig.has, E := ext, fn := Tryz.f43, lv := [(0, [1, 3])], jv := [], tp := [] }
noncomputable def spec_validNormal_L0 (l4 : List (List AC)) (l5 : List (List AC)) (n6 : Int) : Option AV := GL X_spec_validNormal 0 [(1, .box [.sl 3 l4, .sl 5 l5]), (3, .v (.cell (.int n6)))]
theorem spec_validNormal_L0_le {l4 : List (List AC)} {l5 : List (List AC)} {n6 : Int} {r : AV} (h : (
    bif (decide (n6 < ((l5.length : Nat) : Int))) then
        atR_ l5 n6 [.sl 1 [], .sl 1 [], .int 0, .sl 5 [], .int 0] fun l7 l8 n9 l10 n11 =>
        callR (spec_stepsOf [.agg [.sl 5 l10, .int n11]]) false [(false, [.int 0])] fun n12 =>
        bif (decide (n12 < 0)) then
          some (.v (.cell (.bool false)))
        else
          callR (spec_blockType [.agg [.sl 3 l4, .sl 5 l5], .cell (.sl 1 l7), .agg [.sl 5 l10, .int n11]]) false [(false, [.int 0])] fun n13 =>
          bif (n13 != n9) then
            some (.v (.cell (.bool false)))
          else
            spec_validNormal_L0 l4 l5 (wrapI (n6 + 1))
      else
        some (.v (.cell (.bool true))) : Option AV) = some r) : spec_validNormal_L0 l4 l5 n6 = some r :=
  GL_le (X := X_spec_validNormal) (n := 100000) (by kernel_rfl) (by kernel_rfl : (X_spec_validNormal.fn.body.bind fun c => locL 0 c []) = some (.loop (loopOf (X_spec_validNormal.fn.body.bind fun c => locL 0 c [])), ksOf (X_spec_validNormal.fn.body.bind fun c => locL 0 c []))) (Eq.trans (by kernel_rfl) h)
theorem spec_validNormal_le {l1 : List (List AC)} {l2 : List (List AC)} {r : AV} (h : (
    callR (spec_validNormalSigs [.agg [.sl 3 l1, .sl 5 l2]]) false [(false, [.bool false])] fun b3 =>
      bif (!b3) then
        some (.v (.cell (.bool false)))
      else
        spec_validNormal_L0 l1 l2 0 : Option AV) = some r) : spec_validNormal [.agg [.sl 3 l1, .sl 5 l2]] = some r :=
  V_le (X := X_spec_validNormal) (n := 100000) (c := cOf Tryz.f43) (by kernel_rfl) Tryz.func43 (by kernel_rfl) (of_decide_eq_true (by kernel_rfl)) (Eq.trans (by kernel_rfl) h)
noncomputable def X_spec_isPlain : Ctx := { P := Tryz.prog, L := lay, F := sig.has, E := ext, fn := Tryz.f44, lv := [(0, [1, 3])], jv := [], tp := [] }
noncomputable def spec_isPlain_L0 (l4 : List (List AC)) (l5 : List (List AC)) (n6 : Int) : Option AV := GL X_spec_isPlain 0 [(1, .box [.sl 3 l4, .sl 5 l5]), (3, .v (.cell (.int n6)))]
theorem spec_isPlain_L0_le {l4 : List (List AC)} {l5 : List (List AC)} {n6 : Int} {r : AV} (h : (
    bif (decide (n6 < ((l5.length : Nat) : Int))) then
        atR_ l5 n6 [.sl 1 [], .sl 1 [], .int 0, .sl 5 [], .int 0] fun l7 l8 n9 l10 n11 =>
        callR (spec_plainSteps [.agg [.sl 5 l10, .int n11]]) false [(false, [.bool false])] fun b12 =>
        bif (!b12) then
          some (.v (.cell (.bool false)))
        else
          spec_isPlain_L0 l4 l5 (wrapI (n6 + 1))
      else
        some (.v (.cell (.bool true))) : Option AV) = some r) : spec_isPlain_L0 l4 l5 n6 = some r :=
  GL_le (X := X_spec_isPlain) (n := 100000) (by kernel_rfl) (by kernel_rfl : (X_spec_isPlain.fn.body.bind fun c => locL 0 c []) = some (.loop (loopOf (X_spec_isPlain.fn.body.bind fun c => locL 0 c [])), ksOf (X_spec_isPlain.fn.body.bind fun c => locL 0 c []))) (Eq.trans (by kernel_rfl) h)
theorem spec_isPlain_le {l1 : List (List AC)} {l2 : List (List AC)} {r : AV} (h : (
    callR (spec_validNormal [.agg [.sl 3 l1, .sl 5 l2]]) false [(false, [.bool false])] fun b3 =>
      bif (!b3) then
        some (.v (.cell (.bool false)))
      else
        spec_isPlain_L0 l1 l2 0 : Option AV) = some r) : spec_isPlain [.agg [.sl 3 l1, .sl 5 l2]] = some r :=
  V_le (X := X_spec_isPlain) (n := 100000) (c := cOf Tryz.f44) (by kernel_rfl) Tryz.func44 (by kernel_rfl) (of_decide_eq_true (by kernel_rfl)) (Eq.trans (by kernel_rfl) h)
noncomputable def X_impl_isPlainBlock : Ctx := { P := Tryz.prog, L := lay, F := sig.has, E := ext, fn := Tryz.f45, lv := [(0, [8, 9, 10]), (2, [8, 9, 10, 23, 24, 25])], jv := [], tp := [] }
noncomputable def impl_isPlainBlock_L0 (l3 : List (List AC)) (n4 : Int) (n5 : Int) : Option AV := GL X_impl_isPlainBlock 0 [(8, .v (.cell (.sl 5 l3))), (9, .v (.cell (.int n4))), (10, .v (.cell (.int n5)))]
noncomputable def impl_isPlainBlock_L2 (l12 : List (List AC)) (n13 : Int) (n14 : Int) (l15 : List (List AC)) (n16 : Int) (n17 : Int) : Option AV := GL X_impl_isPlainBlock 2 [(8, .v (.cell (.sl 5 l12))), (9, .v (.cell (.int n13))), (10, .v (.cell (.int n14))), (23, .v (.cell (.sl 2 l15))), (24, .v (.cell (.int n16))), (25, .v (.cell (.int n17)))]
theorem impl_isPlainBlock_L0_le {l3 : List (List AC)} {n4 : Int} {n5 : Int} {r : AV} (h : (
    bif (decide (n5 < n4)) then
        atR_ l3 n5 [.int 0, .int 0, .int 0, .sl 1 [], .sl 2 []] fun n6 n7 n8 l9 l10 =>
        callR (impl_isCounting [.cell (.int n6)]) false [(false, [.bool false])] fun b11 =>
        bif b11 then
          some (.v (.cell (.bool false)))
        else
          bif (n8 != 0) then
            some (.v (.cell (.bool false)))
          else
            impl_isPlainBlock_L2 l3 n4 n5 l10 ((l10.length : Nat) : Int) 0
      else
        some (.v (.cell (.bool true))) : Option AV) = some r) : impl_isPlainBlock_L0 l3 n4 n5 = some r :=
  GL_le (X := X_impl_isPlainBlock) (n := 100000) (by kernel_rfl) (by kernel_rfl : (X_impl_isPlainBlock.fn.body.bind fun c => locL 0 c []) = some (.loop (loopOf (X_impl_isPlainBlock.fn.body.bind fun c => locL 0 c [])), ksOf (X_impl_isPlainBlock.fn.body.bind fun c => locL 0 c []))) (Eq.trans (by kernel_rfl) h)
theorem impl_isPlainBlock_L2_le {l12 : List (List AC)} {n13 : Int} {n14 : Int} {l15 : List (List AC)} {n16 : Int} {n17 : Int} {r : AV} (h : (
    bif (decide (n17 < n16)) then
        atR_ l15 n17 [.sl 5 [], .int 0] fun l18 n19 =>
        callR (impl_isPlainBlock [.agg [.sl 5 l18, .int n19]]) false [(false, [.bool false])] fun b20 =>
        bif (!b20) then
          some (.v (.cell (.bool false)))
        else
          impl_isPlainBlock_L2 l12 n13 n14 l15 n16 (wrapI (n17 + 1))
      else
        impl_isPlainBlock_L0 l12 n13 (wrapI (n14 + 1)) : Option AV) = some r) : impl_isPlainBlock_L2 l12 n13 n14 l15 n16 n17 = some r :=
  GL_le (X := X_impl_isPlainBlock) (n := 100000) (by kernel_rfl) (by kernel_rfl : (X_impl_isPlainBlock.fn.body.bind fun c => locL 2 c []) = some (.loop (loopOf (X_impl_isPlainBlock.fn.body.bind fun c => locL 2 c [])), ksOf (X_impl_isPlainBlock.fn.body.bind fun c => locL 2 c []))) (Eq.trans (by kernel_rfl) h)
theorem impl_isPlainBlock_le {l1 : List (List AC)} {n2 : Int} {r : AV} (h : (
    impl_isPlainBlock_L0 l1 ((l1.length : Nat) : Int) 0 : Option AV) = some r) : impl_isPlainBlock [.agg [.sl 5 l1, .int n2]] = some r :=
  V_le (X := X_impl_isPlainBlock) (n := 100000) (c := cOf Tryz.f45) (by kernel_rfl) Tryz.func45 (by kernel_rfl) (of_decide_eq_true (by kernel_rfl)) (Eq.trans (by kernel_rfl) h)
noncomputable def X_spec_countsOf : Ctx := { P := Tryz.prog, L := lay, F := sig.has, E := ext, fn := Tryz.f46, lv := [(0, [1, 3, 4])], jv := [], tp := [] }
noncomputable def spec_countsOf_L0 (l3 : List (List AC)) (l4 : List (List AC)) (l5 : List (List AC)) (n6 : Int) : Option AV := GL X_spec_countsOf 0 [(1, .box [.sl 3 l3, .sl 5 l4]), (3, .v (.cell (.sl 1 l5))), (4, .v (.cell (.int n6)))]
theorem spec_countsOf_L0_le {l3 : List (List AC)} {l4 : List (List AC)} {l5 : List (List AC)} {n6 : Int} {r : AV} (h : (
    bif (decide (n6 < ((l4.length : Nat) : Int))) then
        atR_ l4 n6 [.sl 1 [], .sl 1 [], .int 0, .sl 5 [], .int 0] fun l7 l8 n9 l10 n11 =>
        callR (spec_countsIn [.agg [.sl 5 l10, .int n11], .cell (.sl 1 l5)]) false [(false, [.sl 1 []])] fun l12 =>
        spec_countsOf_L0 l3 l4 l12 (wrapI (n6 + 1))
      else
        some (.v (.cell (.sl 1 l5))) : Option AV) = some r) : spec_countsOf_L0 l3 l4 l5 n6 = some r :=
  GL_le (X := X_spec_countsOf) (n := 100000) (by kernel_rfl) (by kernel_rfl : (X_spec_countsOf.fn.body.bind fun c => locL 0 c []) = some (.loop (loopOf (X_spec_countsOf.fn.body.bind fun c => locL 0 c [])), ksOf (X_spec_countsOf.fn.body.bind fun c => locL 0 c []))) (Eq.trans (by kernel_rfl) h)
theorem spec_countsOf_le {l1 : List (List AC)} {l2 : List (List AC)} {r : AV} (h : (
    spec_countsOf_L0 l1 l2 [[.int 0], [.int 0], [.int 0], [.int 0]] 0 : Option AV) = some r) : spec_countsOf [.agg [.sl 3 l1, .sl 5 l2]] = some r :=
  V_le (X := X_spec_countsOf) (n := 100000) (c := cOf Tryz.f46) (by kernel_rfl) Tryz.func46 (by kernel_rfl) (of_decide_eq_true (by kernel_rfl)) (Eq.trans (by kernel_rfl) h)
noncomputable def X_impl_stepsWithOp : Ctx := { P := Tryz.prog, L := lay, F := sig.has, E := ext, fn := Tryz.f47, lv := [(0, [1, 5, 11, 12, 13]), (2, [1, 5, 11, 12, 13, 24, 25, 26])], jv := [], tp := [] }
noncomputable def impl_stepsWithOp_L0 (n4 : Int) (n5 : Int) (l6 : List (List AC)) (n7 : Int) (n8 : Int) : Option AV := GL X_impl_stepsWithOp 0 [(1, .v (.cell (.int n4))), (5, .v (.cell (.int n5))), (11, .v (.cell (.sl 5 l6))), (12, .v (.cell (.int n7))), (13, .v (.cell (.int n8)))]
noncomputable def impl_stepsWithOp_L2 (n14 : Int) (n15 : Int) (l16 : List (List AC)) (n17 : Int) (n18 : Int) (l19 : List (List AC)) (n20 : Int) (n21 : Int) : Option AV := GL X_impl_stepsWithOp 2 [(1, .v (.cell (.int n14))), (5, .v (.cell (.int n15))), (11, .v (.cell (.sl 5 l16))), (12, .v (.cell (.int n17))), (13, .v (.cell (.int n18))), (24, .v (.cell (.sl 2 l19))), (25, .v (.cell (.int n20))), (26, .v (.cell (.int n21)))]
theorem impl_stepsWithOp_L0_le {n4 : Int} {n5 : Int} {l6 : List (List AC)} {n7 : Int} {n8 : Int} {r : AV} (h : (
    bif (decide (n8 < n7)) then
        atR_ l6 n8 [.int 0, .int 0, .int 0, .sl 1 [], .sl 2 []] fun n9 n10 n11 l12 l13 =>
        bif (n9 == n4) then
          impl_stepsWithOp_L2 n4 (wrapI (n5 + 1)) l6 n7 n8 l13 ((l13.length : Nat) : Int) 0
        else
          impl_stepsWithOp_L2 n4 n5 l6 n7 n8 l13 ((l13.length : Nat) : Int) 0
      else
        some (.v (.cell (.int n5))) : Option AV) = some r) : impl_stepsWithOp_L0 n4 n5 l6 n7 n8 = some r :=
  GL_le (X := X_impl_stepsWithOp) (n := 100000) (by kernel_rfl) (by kernel_rfl : (X_impl_stepsWithOp.fn.body.bind fun c => locL 0 c []) = some (.loop (loopOf (X_impl_stepsWithOp.fn.body.bind fun c => locL 0 c [])), ksOf (X_impl_stepsWithOp.fn.body.bind fun c => locL 0 c []))) (Eq.trans (by kernel_rfl) h)
theorem impl_stepsWithOp_L2_le {n14 : Int} {n15 : Int} {l16 : List (List AC)} {n17 : Int} {n18 : Int} {l19 : List (List AC)} {n20 : Int} {n21 : Int} {r : AV} (h : (
    bif (decide (n21 < n20)) then
        atR_ l19 n21 [.sl 5 [], .int 0] fun l22 n23 =>
        callR (impl_stepsWithOp [.agg [.sl 5 l22, .int n23], .cell (.int n14)]) false [(false, [.int 0])] fun n24 =>
        impl_stepsWithOp_L2 n14 (wrapI (n15 + n24)) l16 n17 n18 l19 n20 (wrapI (n21 + 1))
      else
        impl_stepsWithOp_L0 n14 n15 l16 n17 (wrapI (n18 + 1)) : Option AV) = some r) : impl_stepsWithOp_L2 n14 n15 l16 n17 n18 l19 n20 n21 = some r :=
  GL_le (X := X_impl_stepsWithOp) (n := 100000) (by kernel_rfl) (by kernel_rfl : (X_impl_stepsWithOp.fn.body.bind fun c => locL 2 c []) = some (.loop (loopOf (X_impl_stepsWithOp.fn.body.bind fun c => locL 2 c [])), ksOf (X_impl_stepsWithOp.fn.body.bind fun c => locL 2 c []))) (Eq.trans (by kernel_rfl) h)
theorem impl_stepsWithOp_le {l1 : List (List AC)} {n2 : Int} {n3 : Int} {r : AV} (h : (
    impl_stepsWithOp_L0 n3 0 l1 ((l1.length : Nat) : Int) 0 : Option AV) = some r) : impl_stepsWithOp [.agg [.sl 5 l1, .int n2], .cell (.int n3)] = some r :=
  V_le (X := X_impl_stepsWithOp) (n := 100000) (c := cOf Tryz.f47) (by kernel_rfl) Tryz.func47 (by kernel_rfl) (of_decide_eq_true (by kernel_rfl)) (Eq.trans (by kernel_rfl) h)
noncomputable def X_laws_szDecl : Ctx := { P := Tryz.prog, L := lay, F := sig.has, E := ext, fn := Tryz.f50, lv := [], jv := [], tp := [] }
theorem laws_szDecl_le {n1 : Int} {n2 : Int} {l3 : List (List AC)} {n4 : Int} {r : AV} (h : (
    callR (laws_szConS [.cell (.sl 1 l3), .cell (.int n4)]) false [(false, [.int 0])] fun n5 =>
      bif (decide (n5 < 0)) then
        some (.v (.cell (.int (-1))))
      else
        some (.v (.cell (.int n5))) : Option AV) = some r) : laws_szDecl [.agg [.int n1, .int n2, .sl 1 l3], .cell (.int n4)] = some r :=
  V_le (X := X_laws_szDecl) (n := 100000) (c := cOf Tryz.f50) (by kernel_rfl) Tryz.func50 (by kernel_rfl) (of_decide_eq_true (by kernel_rfl)) (Eq.trans (by kernel_rfl) h)
noncomputable def X_laws_szRoutine : Ctx := { P := Tryz.prog, L := lay, F := sig.has, E := ext, fn := Tryz.f51, lv := [], jv := [], tp := [] }
theorem laws_szRoutine_le {l1 : List (List AC)} {l2 : List (List AC)} {n3 : Int} {l4 : List (List AC)} {n5 : Int} {n6 : Int} {r : AV} (h : (
    callR (laws_szIntS [.cell (.sl 1 l1), .cell (.int n6)]) false [(false, [.int 0])] fun n7 =>
      bif (decide (n7 < 0)) then
        some (.v (.cell (.int (-1))))
      else
        callR (laws_szIntS [.cell (.sl 1 l2), .cell (.int n7)]) false [(false, [.int 0])] fun n8 =>
        bif (decide (n8 < 0)) then
          some (.v (.cell (.int (-1))))
        else
          callR (laws_szBlock [.agg [.sl 5 l4, .int n5], .cell (.int n8)]) false [(false, [.int 0])] fun n9 =>
          bif (decide (n9 < 0)) then
            some (.v (.cell (.int (-1))))
          else
            some (.v (.cell (.int n9))) : Option AV) = some r) : laws_szRoutine [.agg [.sl 1 l1, .sl 1 l2, .int n3, .sl 5 l4, .int n5], .cell (.int n6)] = some r :=
  V_le (X := X_laws_szRoutine) (n := 100000) (c := cOf Tryz.f51) (by kernel_rfl) Tryz.func51 (by kernel_rfl) (of_decide_eq_true (by kernel_rfl)) (Eq.trans (by kernel_rfl) h)
noncomputable def X_laws_szStep : Ctx := { P := Tryz.prog, L := lay, F := sig.has, E := ext, fn := Tryz.f52, lv := [], jv := [], tp := [] }
theorem laws_szStep_le {n1 : Int} {n2 : Int} {n3 : Int} {l4 : List (List AC)} {l5 : List (List AC)} {n6 : Int} {r : AV} (h : (
    callR (laws_szIntS [.cell (.sl 1 l4), .cell (.int n6)]) false [(false, [.int 0])] fun n7 =>
      bif (decide (n7 < 0)) then
        some (.v (.cell (.int (-1))))
      else
        callR (laws_szBlockS [.cell (.sl 2 l5), .cell (.int n7)]) false [(false, [.int 0])] fun n8 =>
        bif (decide (n8 < 0)) then
          some (.v (.cell (.int (-1))))
        else
          some (.v (.cell (.int n8))) : Option AV) = some r) : laws_szStep [.agg [.int n1, .int n2, .int n3, .sl 1 l4, .sl 2 l5], .cell (.int n6)] = some r :=
  V_le (X := X_laws_szStep) (n := 100000) (c := cOf Tryz.f52) (by kernel_rfl) Tryz.func52 (by kernel_rfl) (of_decide_eq_true (by kernel_rfl)) (Eq.trans (by kernel_rfl) h)
noncomputable def X_spec_validSigs : Ctx := { P := Tryz.prog, L := lay, F := sig.has, E := ext, fn := Tryz.f53, lv := [(0, [1, 3])], jv := [], tp := [] }
noncomputable def spec_validSigs_L0 (l5 : List (List AC)) (l6 : List (List AC)) (n7 : Int) : Option AV := GL X_spec_validSigs 0 [(1, .box [.sl 3 l5, .sl 5 l6]), (3, .v (.cell (.int n7)))]
theorem spec_validSigs_L0_le {l5 : List (List AC)} {l6 : List (List AC)} {n7 : Int} {r : AV} (h : (
    bif (decide (n7 < ((l6.length : Nat) : Int))) then
        atR_ l6 n7 [.sl 1 [], .int 0, .int 0, .int 0, .sl 3 []] fun l8 n9 n10 n11 l12 =>
        bif (decide (((l8.length : Nat) : Int) > 3)) then
          some (.v (.cell (.bool false)))
        else
          callR (spec_allTypes [.cell (.sl 3 l5), .cell (.sl 1 l8)]) false [(false, [.bool false])] fun b13 =>
          bif (!b13) then
            some (.v (.cell (.bool false)))
          else
            callR (spec_inRange [.cell (.int n9), .cell (.int 0), .cell (.int ((l5.length : Nat) : Int))]) false [(false, [.bool false])] fun b14 =>
            bif (!b14) then
              some (.v (.cell (.bool false)))
            else
              spec_validSigs_L0 l5 l6 (wrapI (n7 + 1))
      else
        atR_ l6 0 [.sl 1 [], .int 0, .int 0, .int 0, .sl 3 []] fun l15 n16 n17 n18 l19 =>
        bif (((l15.length : Nat) : Int) == 0) then
          atR_ l6 0 [.sl 1 [], .int 0, .int 0, .int 0, .sl 3 []] fun l20 n21 n22 n23 l24 =>
          some (.v (.cell (.bool (n21 == 0))))
        else
          some (.v (.cell (.bool false))) : Option AV) = some r) : spec_validSigs_L0 l5 l6 n7 = some r :=
  GL_le (X := X_spec_validSigs) (n := 100000) (by kernel_rfl) (by kernel_rfl : (X_spec_validSigs.fn.body.bind fun c => locL 0 c []) = some (.loop (loopOf (X_spec_validSigs.fn.body.bind fun c => locL 0 c [])), ksOf (X_spec_validSigs.fn.body.bind fun c => locL 0 c []))) (Eq.trans (by kernel_rfl) h)
theorem spec_validSigs_le {l1 : List (List AC)} {l2 : List (List AC)} {r : AV} (h : (
    callR (spec_validTypes [.cell (.sl 3 l1)]) false [(false, [.bool false])] fun b3 =>
      bif (!b3) then
        some (.v (.cell (.bool false)))
      else
        callR (spec_inRange [.cell (.int ((l2.length : Nat) : Int)), .cell (.int 1), .cell (.int 4)]) false [(false, [.bool false])] fun b4 =>
        bif (!b4) then
          some (.v (.cell (.bool false)))
        else
          spec_validSigs_L0 l1 l2 0 : Option AV) = some r) : spec_validSigs [.agg [.sl 3 l1, .sl 5 l2]] = some r :=
  V_le (X := X_spec_validSigs) (n := 100000) (c := cOf Tryz.f53) (by kernel_rfl) Tryz.func53 (by kernel_rfl) (of_decide_eq_true (by kernel_rfl)) (Eq.trans (by kernel_rfl) h)
noncomputable def X_spec_sigsOf : Ctx := { P := Tryz.prog, L := lay, F := sig.has, E := ext, fn := Tryz.f54, lv := [(0, [1, 2, 3, 4])], jv := [], tp := [] }
noncomputable def spec_sigsOf_L0 (l3 : List (List AC)) (l4 : List (List AC)) (l5 : List (List AC)) (l6 : List (List AC)) (l7 : List (List AC)) (l8 : List (List AC)) (n9 : Int) : Option AV := GL X_spec_sigsOf 0 [(1, .box [.sl 3 l3, .sl 5 l4]), (2, .box [.sl 3 l5, .sl 5 l6]), (3, .box [.sl 3 l7, .sl 5 l8]), (4, .v (.cell (.int n9)))]
theorem spec_sigsOf_L0_le {l3 : List (List AC)} {l4 : List (List AC)} {l5 : List (List AC)} {l6 : List (List AC)} {l7 : List (List AC)} {l8 : List (List AC)} {n9 : Int} {r : AV} (h : (
    bif (decide (n9 < ((l4.length : Nat) : Int))) then
        atR_ l4 n9 [.sl 1 [], .sl 1 [], .int 0, .sl 5 [], .int 0] fun l10 l11 n12 l13 n14 =>
        atR_ l4 n9 [.sl 1 [], .sl 1 [], .int 0, .sl 5 [], .int 0] fun l15 l16 n17 l18 n19 =>
        appR l8 [[.sl 1 l10, .int n17, .int 0, .int 0, .sl 3 []]] fun l20 =>
        spec_sigsOf_L0 l3 l4 l5 l6 l7 l20 (wrapI (n9 + 1))
      else
        some (.v (.agg [.sl 3 l7, .sl 5 l8])) : Option AV) = some r) : spec_sigsOf_L0 l3 l4 l5 l6 l7 l8 n9 = some r :=
  GL_le (X := X_spec_sigsOf) (n := 100000) (by kernel_rfl) (by kernel_rfl : (X_spec_sigsOf.fn.body.bind fun c => locL 0 c []) = some (.loop (loopOf (X_spec_sigsOf.fn.body.bind fun c => locL 0 c [])), ksOf (X_spec_sigsOf.fn.body.bind fun c => locL 0 c []))) (Eq.trans (by kernel_rfl) h)
theorem spec_sigsOf_le {l1 : List (List AC)} {l2 : List (List AC)} {r : AV} (h : (
    spec_sigsOf_L0 l1 l2 [] [] l1 [] 0 : Option AV) = some r) : spec_sigsOf [.agg [.sl 3 l1, .sl 5 l2]] = some r :=
  V_le (X := X_spec_sigsOf) (n := 100000) (c := cOf Tryz.f54) (by kernel_rfl) Tryz.func54 (by kernel_rfl) (of_decide_eq_true (by kernel_rfl)) (Eq.trans (by kernel_rfl) h)
noncomputable def X_spec_validLent : Ctx := { P := Tryz.prog, L := lay, F := sig.has, E := ext, fn := Tryz.f55, lv := [(0, [0, 1, 5])], jv := [], tp := [] }
noncomputable def spec_validLent_L0 (l3 : List (List AC)) (l4 : List (List AC)) (n5 : Int) : Option AV := GL X_spec_validLent 0 [(0, .v (.cell (.sl 1 l3))), (1, .v (.cell (.sl 1 l4))), (5, .v (.cell (.int n5)))]
theorem spec_validLent_L0_le {l3 : List (List AC)} {l4 : List (List AC)} {n5 : Int} {r : AV} (h : (
    bif (decide (n5 < ((l4.length : Nat) : Int))) then
        atR_ l4 n5 [.int 0] fun n6 =>
        callR (spec_inRange [.cell (.int n6), .cell (.int 0), .cell (.int (wrapI (((l3.length : Nat) : Int) - 1)))]) false [(false, [.bool false])] fun b7 =>
        bif (!b7) then
          some (.v (.cell (.bool false)))
        else
          atR_ l4 n5 [.int 0] fun n8 =>
          atR_ l3 n8 [.int 0] fun n9 =>
          bif (n9 == 0) then
            some (.v (.cell (.bool false)))
          else
            bif (decide (n5 > 0)) then
              atR_ l4 n5 [.int 0] fun n10 =>
              atR_ l4 (wrapI (n5 - 1)) [.int 0] fun n11 =>
              bif (decide (n10 ≤ n11)) then
                some (.v (.cell (.bool false)))
              else
                spec_validLent_L0 l3 l4 (wrapI (n5 + 1))
            else
              spec_validLent_L0 l3 l4 (wrapI (n5 + 1))
      else
        some (.v (.cell (.bool true))) : Option AV) = some r) : spec_validLent_L0 l3 l4 n5 = some r :=
  GL_le (X := X_spec_validLent) (n := 100000) (by kernel_rfl) (by kernel_rfl : (X_spec_validLent.fn.body.bind fun c => locL 0 c []) = some (.loop (loopOf (X_spec_validLent.fn.body.bind fun c => locL 0 c [])), ksOf (X_spec_validLent.fn.body.bind fun c => locL 0 c []))) (Eq.trans (by kernel_rfl) h)
theorem spec_validLent_le {l1 : List (List AC)} {l2 : List (List AC)} {r : AV} (h : (
    spec_validLent_L0 l1 l2 0 : Option AV) = some r) : spec_validLent [.cell (.sl 1 l1), .cell (.sl 1 l2)] = some r :=
  V_le (X := X_spec_validLent) (n := 100000) (c := cOf Tryz.f55) (by kernel_rfl) Tryz.func55 (by kernel_rfl) (of_decide_eq_true (by kernel_rfl)) (Eq.trans (by kernel_rfl) h)
noncomputable def X_spec_inRange : Ctx := { P := Tryz.prog, L := lay, F := sig.has, E := ext, fn := Tryz.f56, lv := [], jv := [], tp := [] }
theorem spec_inRange_le {n1 : Int} {n2 : Int} {n3 : Int} {r : AV} (h : (
    bif (decide (n2 ≤ n1)) then
        some (.v (.cell (.bool (decide (n1 ≤ n3)))))
      else
        some (.v (.cell (.bool false))) : Option AV) = some r) : spec_inRange [.cell (.int n1), .cell (.int n2), .cell (.int n3)] = some r :=
  V_le (X := X_spec_inRange) (n := 100000) (c := cOf Tryz.f56) (by kernel_rfl) Tryz.func56 (by kernel_rfl) (of_decide_eq_true (by kernel_rfl)) (Eq.trans (by kernel_rfl) h)
noncomputable def X_spec_stepsLeft : Ctx := { P := Tryz.prog, L := lay, F := sig.has, E := ext, fn := Tryz.f57, lv := [(0, [1, 2, 5]), (2, [1, 2, 5, 6])], jv := [], tp := [] }
noncomputable def spec_stepsLeft_L0 (n4 : Int) (l5 : List (List AC)) (n6 : Int) (n7 : Int) : Option AV := GL X_spec_stepsLeft 0 [(1, .v (.cell (.int n4))), (2, .box [.sl 5 l5, .int n6]), (5, .v (.cell (.int n7)))]
noncomputable def spec_stepsLeft_L2 (n8 : Int) (l9 : List (List AC)) (n10 : Int) (n11 : Int) (n12 : Int) : Option AV := GL X_spec_stepsLeft 2 [(1, .v (.cell (.int n8))), (2, .box [.sl 5 l9, .int n10]), (5, .v (.cell (.int n11))), (6, .v (.cell (.int n12)))]
theorem spec_stepsLeft_L0_le {n4 : Int} {l5 : List (List AC)} {n6 : Int} {n7 : Int} {r : AV} (h : (
    bif (decide (n7 < ((l5.length : Nat) : Int))) then
        bif (decide (n4 < 1)) then
          some (.v (.cell (.int (-1))))
        else
          spec_stepsLeft_L2 (wrapI (n4 - 1)) l5 n6 n7 0
      else
        some (.v (.cell (.int n4))) : Option AV) = some r) : spec_stepsLeft_L0 n4 l5 n6 n7 = some r :=
  GL_le (X := X_spec_stepsLeft) (n := 100000) (by kernel_rfl) (by kernel_rfl : (X_spec_stepsLeft.fn.body.bind fun c => locL 0 c []) = some (.loop (loopOf (X_spec_stepsLeft.fn.body.bind fun c => locL 0 c [])), ksOf (X_spec_stepsLeft.fn.body.bind fun c => locL 0 c []))) (Eq.trans (by kernel_rfl) h)
theorem spec_stepsLeft_L2_le {n8 : Int} {l9 : List (List AC)} {n10 : Int} {n11 : Int} {n12 : Int} {r : AV} (h : (
    atR_ l9 n11 [.int 0, .int 0, .int 0, .sl 1 [], .sl 2 []] fun n13 n14 n15 l16 l17 =>
      bif (decide (n12 < ((l17.length : Nat) : Int))) then
        atR_ l9 n11 [.int 0, .int 0, .int 0, .sl 1 [], .sl 2 []] fun n18 n19 n20 l21 l22 =>
        atR_ l22 n12 [.sl 5 [], .int 0] fun l23 n24 =>
        callR (spec_stepsLeft [.agg [.sl 5 l23, .int n24], .cell (.int n8)]) false [(false, [.int 0])] fun n25 =>
        bif (decide (n25 < 0)) then
          some (.v (.cell (.int (-1))))
        else
          spec_stepsLeft_L2 n25 l9 n10 n11 (wrapI (n12 + 1))
      else
        spec_stepsLeft_L0 n8 l9 n10 (wrapI (n11 + 1)) : Option AV) = some r) : spec_stepsLeft_L2 n8 l9 n10 n11 n12 = some r :=
  GL_le (X := X_spec_stepsLeft) (n := 100000) (by kernel_rfl) (by kernel_rfl : (X_spec_stepsLeft.fn.body.bind fun c => locL 2 c []) = some (.loop (loopOf (X_spec_stepsLeft.fn.body.bind fun c => locL 2 c [])), ksOf (X_spec_stepsLeft.fn.body.bind fun c => locL 2 c []))) (Eq.trans (by kernel_rfl) h)
theorem spec_stepsLeft_le {l1 : List (List AC)} {n2 : Int} {n3 : Int} {r : AV} (h : (
    spec_stepsLeft_L0 n3 l1 n2 0 : Option AV) = some r) : spec_stepsLeft [.agg [.sl 5 l1, .int n2], .cell (.int n3)] = some r :=
  V_le (X := X_spec_stepsLeft) (n := 100000) (c := cOf Tryz.f57) (by kernel_rfl) Tryz.func57 (by kernel_rfl) (of_decide_eq_true (by kernel_rfl)) (Eq.trans (by kernel_rfl) h)
noncomputable def X_spec_copyInts : Ctx := { P := Tryz.prog, L := lay, F := sig.has, E := ext, fn := Tryz.f58, lv := [], jv := [], tp := [] }
theorem spec_copyInts_le {l1 : List (List AC)} {r : AV} (h : (
    appR [] l1 fun l2 =>
      some (.v (.cell (.sl 1 l2))) : Option AV) = some r) : spec_copyInts [.cell (.sl 1 l1)] = some r :=
  V_le (X := X_spec_copyInts) (n := 100000) (c := cOf Tryz.f58) (by kernel_rfl) Tryz.func58 (by kernel_rfl) (of_decide_eq_true (by kernel_rfl)) (Eq.trans (by kernel_rfl) h)
noncomputable def X_spec_defines : Ctx := { P := Tryz.prog, L := lay, F := sig.has, E := ext, fn := Tryz.f60, lv := [], jv := [], tp := [] }
theorem spec_defines_le {n1 : Int} {r : AV} (h : (
    callR (spec_inRange [.cell (.int n1), .cell (.int 0), .cell (.int 11)]) false [(false, [.bool false])] fun b2 =>
      some (.v (.cell (.bool b2))) : Option AV) = some r) : spec_defines [.cell (.int n1)] = some r :=
  V_le (X := X_spec_defines) (n := 100000) (c := cOf Tryz.f60) (by kernel_rfl) Tryz.func60 (by kernel_rfl) (of_decide_eq_true (by kernel_rfl)) (Eq.trans (by kernel_rfl) h)
noncomputable def X_laws_toDecl : Ctx := { P := Tryz.prog, L := lay, F := sig.has, E := ext, fn := Tryz.f61, lv := [], jv := [], tp := [] }
theorem laws_toDecl_le {n1 : Int} {n2 : Int} {l3 : List (List AC)} {r : AV} (h : (
    callR (laws_toConS [.cell (.sl 1 l3)]) false [(false, [.sl 1 []])] fun l4 =>
      some (.v (.agg [.int n1, .int n2, .sl 1 l4])) : Option AV) = some r) : laws_toDecl [.agg [.int n1, .int n2, .sl 1 l3]] = some r :=
  V_le (X := X_laws_toDecl) (n := 100000) (c := cOf Tryz.f61) (by kernel_rfl) Tryz.func61 (by kernel_rfl) (of_decide_eq_true (by kernel_rfl)) (Eq.trans (by kernel_rfl) h)
noncomputable def X_laws_toRoutine : Ctx := { P := Tryz.prog, L := lay, F := sig.has, E := ext, fn := Tryz.f62, lv := [], jv := [], tp := [] }
theorem laws_toRoutine_le {l1 : List (List AC)} {l2 : List (List AC)} {n3 : Int} {l4 : List (List AC)} {n5 : Int} {r : AV} (h : (
    callR (laws_toIntS [.cell (.sl 1 l1)]) false [(false, [.sl 1 []])] fun l6 =>
      callR (laws_toIntS [.cell (.sl 1 l2)]) false [(false, [.sl 1 []])] fun l7 =>
      callR (laws_toBlock [.agg [.sl 5 l4, .int n5]]) false [(true, [.sl 5 [], .int 0])] fun l8 n9 =>
      some (.v (.agg [.sl 1 l6, .sl 1 l7, .int n3, .sl 5 l8, .int n9])) : Option AV) = some r) : laws_toRoutine [.agg [.sl 1 l1, .sl 1 l2, .int n3, .sl 5 l4, .int n5]] = some r :=
  V_le (X := X_laws_toRoutine) (n := 100000) (c := cOf Tryz.f62) (by kernel_rfl) Tryz.func62 (by kernel_rfl) (of_decide_eq_true (by kernel_rfl)) (Eq.trans (by kernel_rfl) h)
noncomputable def X_laws_toStep : Ctx := { P := Tryz.prog, L := lay, F := sig.has, E := ext, fn := Tryz.f63, lv := [], jv := [], tp := [] }
theorem laws_toStep_le {n1 : Int} {n2 : Int} {n3 : Int} {l4 : List (List AC)} {l5 : List (List AC)} {r : AV} (h : (
    callR (laws_toIntS [.cell (.sl 1 l4)]) false [(false, [.sl 1 []])] fun l6 =>
      callR (laws_toBlockS [.cell (.sl 2 l5)]) false [(false, [.sl 2 []])] fun l7 =>
      some (.v (.agg [.int n1, .int n2, .int n3, .sl 1 l6, .sl 2 l7])) : Option AV) = some r) : laws_toStep [.agg [.int n1, .int n2, .int n3, .sl 1 l4, .sl 2 l5]] = some r :=
  V_le (X := X_laws_toStep) (n := 100000) (c := cOf Tryz.f63) (by kernel_rfl) Tryz.func63 (by kernel_rfl) (of_decide_eq_true (by kernel_rfl)) (Eq.trans (by kernel_rfl) h)
noncomputable def X_impl_ValidSigs : Ctx := { P := Tryz.prog, L := lay, F := sig.has, E := ext, fn := Tryz.f64, lv := [(0, [1, 22, 23, 24])], jv := [], tp := [] }
noncomputable def impl_ValidSigs_L0 (l4 : List (List AC)) (l5 : List (List AC)) (l6 : List (List AC)) (n7 : Int) (n8 : Int) : Option AV := GL X_impl_ValidSigs 0 [(1, .box [.sl 3 l4, .sl 5 l5]), (22, .v (.cell (.sl 5 l6))), (23, .v (.cell (.int n7))), (24, .v (.cell (.int n8)))]
theorem impl_ValidSigs_L0_le {l4 : List (List AC)} {l5 : List (List AC)} {l6 : List (List AC)} {n7 : Int} {n8 : Int} {r : AV} (h : (
    bif (decide (n8 < n7)) then
        atR_ l6 n8 [.sl 1 [], .int 0, .int 0, .int 0, .sl 3 []] fun l9 n10 n11 n12 l13 =>
        callR (impl_validSig [.cell (.sl 3 l4), .cell (.sl 1 l9), .cell (.int n10)]) false [(false, [.bool false])] fun b14 =>
        bif (!b14) then
          some (.v (.cell (.bool false)))
        else
          impl_ValidSigs_L0 l4 l5 l6 n7 (wrapI (n8 + 1))
      else
        atR_ l5 0 [.sl 1 [], .int 0, .int 0, .int 0, .sl 3 []] fun l15 n16 n17 n18 l19 =>
        bif (((l15.length : Nat) : Int) == 0) then
          atR_ l5 0 [.sl 1 [], .int 0, .int 0, .int 0, .sl 3 []] fun l20 n21 n22 n23 l24 =>
          some (.v (.cell (.bool (n21 == 0))))
        else
          some (.v (.cell (.bool false))) : Option AV) = some r) : impl_ValidSigs_L0 l4 l5 l6 n7 n8 = some r :=
  GL_le (X := X_impl_ValidSigs) (n := 100000) (by kernel_rfl) (by kernel_rfl : (X_impl_ValidSigs.fn.body.bind fun c => locL 0 c []) = some (.loop (loopOf (X_impl_ValidSigs.fn.body.bind fun c => locL 0 c [])), ksOf (X_impl_ValidSigs.fn.body.bind fun c => locL 0 c []))) (Eq.trans (by kernel_rfl) h)
theorem impl_ValidSigs_le {l1 : List (List AC)} {l2 : List (List AC)} {r : AV} (h : (
    callR (impl_ValidTypes [.cell (.sl 3 l1)]) false [(false, [.bool false])] fun b3 =>
      bif (!b3) then
        some (.v (.cell (.bool false)))
      else
        bif (decide (((l2.length : Nat) : Int) < 1)) then
          some (.v (.cell (.bool false)))
        else
          bif (decide (((l2.length : Nat) : Int) > 4)) then
            some (.v (.cell (.bool false)))
          else
            impl_ValidSigs_L0 l1 l2 l2 ((l2.length : Nat) : Int) 0 : Option AV) = some r) : impl_ValidSigs [.agg [.sl 3 l1, .sl 5 l2]] = some r :=
  V_le (X := X_impl_ValidSigs) (n := 100000) (c := cOf Tryz.f64) (by kernel_rfl) Tryz.func64 (by kernel_rfl) (of_decide_eq_true (by kernel_rfl)) (Eq.trans (by kernel_rfl) h)
noncomputable def X_impl_sigsOf : Ctx := { P := Tryz.prog, L := lay, F := sig.has, E := ext, fn := Tryz.f65, lv := [(0, [2, 3, 10, 11, 12])], jv := [], tp := [] }
noncomputable def impl_sigsOf_L0 (l3 : List (List AC)) (l4 : List (List AC)) (l5 : List (List AC)) (l6 : List (List AC)) (l7 : List (List AC)) (n8 : Int) (n9 : Int) : Option AV := GL X_impl_sigsOf 0 [(2, .box [.sl 3 l3, .sl 5 l4]), (3, .box [.sl 3 l5, .sl 5 l6]), (10, .v (.cell (.sl 5 l7))), (11, .v (.cell (.int n8))), (12, .v (.cell (.int n9)))]
theorem impl_sigsOf_L0_le {l3 : List (List AC)} {l4 : List (List AC)} {l5 : List (List AC)} {l6 : List (List AC)} {l7 : List (List AC)} {n8 : Int} {n9 : Int} {r : AV} (h : (
    bif (decide (n9 < n8)) then
        atR_ l7 n9 [.sl 1 [], .sl 1 [], .int 0, .sl 5 [], .int 0] fun l10 l11 n12 l13 n14 =>
        appR l6 [[.sl 1 l10, .int n12, .int 0, .int 0, .sl 3 []]] fun l15 =>
        impl_sigsOf_L0 l3 l4 l5 l15 l7 n8 (wrapI (n9 + 1))
      else
        some (.v (.agg [.sl 3 l5, .sl 5 l6])) : Option AV) = some r) : impl_sigsOf_L0 l3 l4 l5 l6 l7 n8 n9 = some r :=
  GL_le (X := X_impl_sigsOf) (n := 100000) (by kernel_rfl) (by kernel_rfl : (X_impl_sigsOf.fn.body.bind fun c => locL 0 c []) = some (.loop (loopOf (X_impl_sigsOf.fn.body.bind fun c => locL 0 c [])), ksOf (X_impl_sigsOf.fn.body.bind fun c => locL 0 c []))) (Eq.trans (by kernel_rfl) h)
theorem impl_sigsOf_le {l1 : List (List AC)} {l2 : List (List AC)} {r : AV} (h : (
    impl_sigsOf_L0 [] [] l1 [] l2 ((l2.length : Nat) : Int) 0 : Option AV) = some r) : impl_sigsOf [.agg [.sl 3 l1, .sl 5 l2]] = some r :=
  V_le (X := X_impl_sigsOf) (n := 100000) (c := cOf Tryz.f65) (by kernel_rfl) Tryz.func65 (by kernel_rfl) (of_decide_eq_true (by kernel_rfl)) (Eq.trans (by kernel_rfl) h)
noncomputable def X_impl_validLent : Ctx := { P := Tryz.prog, L := lay, F := sig.has, E := ext, fn := Tryz.f66, lv := [(0, [1, 3, 7, 8, 9])], jv := [], tp := [] }
noncomputable def impl_validLent_L0 (l6 : List (List AC)) (l7 : List (List AC)) (n8 : Int) (l9 : List (List AC)) (n10 : Int) (n11 : Int) (l12 : List (List AC)) (n13 : Int) (n14 : Int) : Option AV := GL X_impl_validLent 0 [(1, .box [.sl 1 l6, .sl 1 l7, .int n8, .sl 5 l9, .int n10]), (3, .v (.cell (.int n11))), (7, .v (.cell (.sl 1 l12))), (8, .v (.cell (.int n13))), (9, .v (.cell (.int n14)))]
theorem impl_validLent_L0_le {l6 : List (List AC)} {l7 : List (List AC)} {n8 : Int} {l9 : List (List AC)} {n10 : Int} {n11 : Int} {l12 : List (List AC)} {n13 : Int} {n14 : Int} {r : AV} (h : (
    bif (decide (n14 < n13)) then
        atR_ l12 n14 [.int 0] fun n15 =>
        bif (decide (n15 ≤ n11)) then
          some (.v (.cell (.bool false)))
        else
          bif (decide (n15 ≥ ((l6.length : Nat) : Int))) then
            some (.v (.cell (.bool false)))
          else
            atR_ l6 n15 [.int 0] fun n16 =>
            bif (n16 == 0) then
              some (.v (.cell (.bool false)))
            else
              impl_validLent_L0 l6 l7 n8 l9 n10 n15 l12 n13 (wrapI (n14 + 1))
      else
        some (.v (.cell (.bool true))) : Option AV) = some r) : impl_validLent_L0 l6 l7 n8 l9 n10 n11 l12 n13 n14 = some r :=
  GL_le (X := X_impl_validLent) (n := 100000) (by kernel_rfl) (by kernel_rfl : (X_impl_validLent.fn.body.bind fun c => locL 0 c []) = some (.loop (loopOf (X_impl_validLent.fn.body.bind fun c => locL 0 c [])), ksOf (X_impl_validLent.fn.body.bind fun c => locL 0 c []))) (Eq.trans (by kernel_rfl) h)
theorem impl_validLent_le {l1 : List (List AC)} {l2 : List (List AC)} {n3 : Int} {l4 : List (List AC)} {n5 : Int} {r : AV} (h : (
    impl_validLent_L0 l1 l2 n3 l4 n5 (-1) l2 ((l2.length : Nat) : Int) 0 : Option AV) = some r) : impl_validLent [.agg [.sl 1 l1, .sl 1 l2, .int n3, .sl 5 l4, .int n5]] = some r :=
  V_le (X := X_impl_validLent) (n := 100000) (c := cOf Tryz.f66) (by kernel_rfl) Tryz.func66 (by kernel_rfl) (of_decide_eq_true (by kernel_rfl)) (Eq.trans (by kernel_rfl) h)
noncomputable def X_impl_isType : Ctx := { P := Tryz.prog, L := lay, F := sig.has, E := ext, fn := Tryz.f67, lv := [], jv := [], tp := [] }
theorem impl_isType_le {l1 : List (List AC)} {n2 : Int} {r : AV} (h : (
    bif (decide (n2 ≥ 0)) then
        some (.v (.cell (.bool (decide (n2 ≤ ((l1.length : Nat) : Int))))))
      else
        some (.v (.cell (.bool false))) : Option AV) = some r) : impl_isType [.cell (.sl 3 l1), .cell (.int n2)] = some r :=
  V_le (X := X_impl_isType) (n := 100000) (c := cOf Tryz.f67) (by kernel_rfl) Tryz.func67 (by kernel_rfl) (of_decide_eq_true (by kernel_rfl)) (Eq.trans (by kernel_rfl) h)
noncomputable def X_impl_stepsUpTo : Ctx := { P := Tryz.prog, L := lay, F := sig.has, E := ext, fn := Tryz.f68, lv := [(0, [1, 5, 11, 12, 13]), (2, [1, 5, 11, 12, 13, 24, 25, 26])], jv := [], tp := [] }
noncomputable def impl_stepsUpTo_L0 (n4 : Int) (n5 : Int) (l6 : List (List AC)) (n7 : Int) (n8 : Int) : Option AV := GL X_impl_stepsUpTo 0 [(1, .v (.cell (.int n4))), (5, .v (.cell (.int n5))), (11, .v (.cell (.sl 5 l6))), (12, .v (.cell (.int n7))), (13, .v (.cell (.int n8)))]
noncomputable def impl_stepsUpTo_L2 (n14 : Int) (n15 : Int) (l16 : List (List AC)) (n17 : Int) (n18 : Int) (l19 : List (List AC)) (n20 : Int) (n21 : Int) : Option AV := GL X_impl_stepsUpTo 2 [(1, .v (.cell (.int n14))), (5, .v (.cell (.int n15))), (11, .v (.cell (.sl 5 l16))), (12, .v (.cell (.int n17))), (13, .v (.cell (.int n18))), (24, .v (.cell (.sl 2 l19))), (25, .v (.cell (.int n20))), (26, .v (.cell (.int n21)))]
theorem impl_stepsUpTo_L0_le {n4 : Int} {n5 : Int} {l6 : List (List AC)} {n7 : Int} {n8 : Int} {r : AV} (h : (
    bif (decide (n8 < n7)) then
        atR_ l6 n8 [.int 0, .int 0, .int 0, .sl 1 [], .sl 2 []] fun n9 n10 n11 l12 l13 =>
        bif (decide (n5 > n4)) then
          some (.v (.cell (.int n5)))
        else
          impl_stepsUpTo_L2 n4 (wrapI (n5 + 1)) l6 n7 n8 l13 ((l13.length : Nat) : Int) 0
      else
        some (.v (.cell (.int n5))) : Option AV) = some r) : impl_stepsUpTo_L0 n4 n5 l6 n7 n8 = some r :=
  GL_le (X := X_impl_stepsUpTo) (n := 100000) (by kernel_rfl) (by kernel_rfl : (X_impl_stepsUpTo.fn.body.bind fun c => locL 0 c []) = some (.loop (loopOf (X_impl_stepsUpTo.fn.body.bind fun c => locL 0 c [])), ksOf (X_impl_stepsUpTo.fn.body.bind fun c => locL 0 c []))) (Eq.trans (by kernel_rfl) h)
theorem impl_stepsUpTo_L2_le {n14 : Int} {n15 : Int} {l16 : List (List AC)} {n17 : Int} {n18 : Int} {l19 : List (List AC)} {n20 : Int} {n21 : Int} {r : AV} (h : (
    bif (decide (n21 < n20)) then
        atR_ l19 n21 [.sl 5 [], .int 0] fun l22 n23 =>
        callR (impl_stepsUpTo [.agg [.sl 5 l22, .int n23], .cell (.int (wrapI (n14 - n15)))]) false [(false, [.int 0])] fun n24 =>
        impl_stepsUpTo_L2 n14 (wrapI (n15 + n24)) l16 n17 n18 l19 n20 (wrapI (n21 + 1))
      else
        impl_stepsUpTo_L0 n14 n15 l16 n17 (wrapI (n18 + 1)) : Option AV) = some r) : impl_stepsUpTo_L2 n14 n15 l16 n17 n18 l19 n20 n21 = some r :=
  GL_le (X := X_impl_stepsUpTo) (n := 100000) (by kernel_rfl) (by kernel_rfl : (X_impl_stepsUpTo.fn.body.bind fun c => locL 2 c []) = some (.loop (loopOf (X_impl_stepsUpTo.fn.body.bind fun c => locL 2 c [])), ksOf (X_impl_stepsUpTo.fn.body.bind fun c => locL 2 c []))) (Eq.trans (by kernel_rfl) h)
theorem impl_stepsUpTo_le {l1 : List (List AC)} {n2 : Int} {n3 : Int} {r : AV} (h : (
    impl_stepsUpTo_L0 n3 0 l1 ((l1.length : Nat) : Int) 0 : Option AV) = some r) : impl_stepsUpTo [.agg [.sl 5 l1, .int n2], .cell (.int n3)] = some r :=
  V_le (X := X_impl_stepsUpTo) (n := 100000) (c := cOf Tryz.f68) (by kernel_rfl) Tryz.func68 (by kernel_rfl) (of_decide_eq_true (by kernel_rfl)) (Eq.trans (by kernel_rfl) h)
noncomputable def X_impl_isCounting : Ctx := { P := Tryz.prog, L := lay, F := sig.has, E := ext, fn := Tryz.f69, lv := [], jv := [], tp := [] }
theorem impl_isCounting_le {n1 : Int} {r : AV} (h : (
    bif (decide (n1 ≥ 14)) then
        some (.v (.cell (.bool (decide (n1 ≤ 17)))))
      else
        some (.v (.cell (.bool false))) : Option AV) = some r) : impl_isCounting [.cell (.int n1)] = some r :=
  V_le (X := X_impl_isCounting) (n := 100000) (c := cOf Tryz.f69) (by kernel_rfl) Tryz.func69 (by kernel_rfl) (of_decide_eq_true (by kernel_rfl)) (Eq.trans (by kernel_rfl) h)
noncomputable def X_impl_validCounting : Ctx := { P := Tryz.prog, L := lay, F := sig.has, E := ext, fn := Tryz.f70, lv := [], jv := [], tp := [] }
theorem impl_validCounting_le {l1 : List (List AC)} {l2 : List (List AC)} {l3 : List (List AC)} {n4 : Int} {n5 : Int} {n6 : Int} {l7 : List (List AC)} {l8 : List (List AC)} {r : AV} (h : (
    bif (n5 != 0) then
        some (.v (.cell (.bool false)))
      else
        bif (n6 != 0) then
          some (.v (.cell (.bool false)))
        else
          bif (((l7.length : Nat) : Int) != 1) then
            some (.v (.cell (.bool false)))
          else
            bif (decide (((l8.length : Nat) : Int) > 0)) then
              some (.v (.cell (.bool false)))
            else
              atR_ l7 0 [.int 0] fun n9 =>
              callR (impl_typeOfVar [.agg [.sl 1 l2, .sl 1 l3], .cell (.int n9)]) false [(false, [.int 0])] fun n10 =>
              bif (n4 == 16) then
                callR (impl_isData [.cell (.sl 3 l1), .cell (.int n10)]) false [(false, [.bool false])] fun b11 =>
                some (.v (.cell (.bool b11)))
              else
                bif (n4 == 17) then
                  callR (impl_isData [.cell (.sl 3 l1), .cell (.int n10)]) false [(false, [.bool false])] fun b12 =>
                  some (.v (.cell (.bool b12)))
                else
                  some (.v (.cell (.bool (decide (n10 > 0))))) : Option AV) = some r) : impl_validCounting [.cell (.sl 3 l1), .agg [.sl 1 l2, .sl 1 l3], .agg [.int n4, .int n5, .int n6, .sl 1 l7, .sl 2 l8]] = some r :=
  V_le (X := X_impl_validCounting) (n := 100000) (c := cOf Tryz.f70) (by kernel_rfl) Tryz.func70 (by kernel_rfl) (of_decide_eq_true (by kernel_rfl)) (Eq.trans (by kernel_rfl) h)
noncomputable def X_impl_typeOfStep : Ctx := { P := Tryz.prog, L := lay, F := sig.has, E := ext, fn := Tryz.f71, lv := [], jv := [], tp := [] }
theorem impl_typeOfStep_le {l1 : List (List AC)} {l2 : List (List AC)} {l3 : List (List AC)} {l4 : List (List AC)} {n5 : Int} {n6 : Int} {n7 : Int} {l8 : List (List AC)} {l9 : List (List AC)} {r : AV} (h : (
    bif (n7 != 0) then
        bif (n5 != 6) then
          some (.v (.cell (.int (-1))))
        else
          callR (impl_typeOfVar [.agg [.sl 1 l3, .sl 1 l4], .cell (.int (wrapI (n7 - 1)))]) false [(false, [.int 0])] fun n10 =>
          bif (decide (n10 ≤ 0)) then
            some (.v (.cell (.int (-1))))
          else
            bif (n5 == 7) then
              callR (impl_typeOfChoice [.agg [.sl 3 l1, .sl 5 l2], .agg [.sl 1 l3, .sl 1 l4], .agg [.int n5, .int n6, .int n7, .sl 1 l8, .sl 2 l9]]) false [(false, [.int 0])] fun n11 =>
              some (.v (.cell (.int n11)))
            else
              bif (n5 == 8) then
                callR (impl_typeOfChoice [.agg [.sl 3 l1, .sl 5 l2], .agg [.sl 1 l3, .sl 1 l4], .agg [.int n5, .int n6, .int n7, .sl 1 l8, .sl 2 l9]]) false [(false, [.int 0])] fun n12 =>
                some (.v (.cell (.int n12)))
              else
                bif (decide (((l9.length : Nat) : Int) > 0)) then
                  some (.v (.cell (.int (-1))))
                else
                  bif (decide (((l8.length : Nat) : Int) > 3)) then
                    bif (decide (((l8.length : Nat) : Int) > 3)) then
                      some (.v (.cell (.int (-1))))
                    else
                      bif (n5 == 10) then
                        callR (impl_lends [.agg [.sl 3 l1, .sl 5 l2], .cell (.int n6)]) false [(false, [.bool false])] fun b13 =>
                        bif b13 then
                          some (.v (.cell (.int (-1))))
                        else
                          callR (impl_typeMade [.agg [.sl 3 l1, .sl 5 l2], .agg [.sl 1 l3, .sl 1 l4], .agg [.int n5, .int n6, .int n7, .sl 1 l8, .sl 2 l9]]) false [(false, [.int 0])] fun n14 =>
                          some (.v (.cell (.int n14)))
                      else
                        callR (impl_typeMade [.agg [.sl 3 l1, .sl 5 l2], .agg [.sl 1 l3, .sl 1 l4], .agg [.int n5, .int n6, .int n7, .sl 1 l8, .sl 2 l9]]) false [(false, [.int 0])] fun n15 =>
                        some (.v (.cell (.int n15)))
                  else
                    bif (n5 == 10) then
                      callR (impl_lends [.agg [.sl 3 l1, .sl 5 l2], .cell (.int n6)]) false [(false, [.bool false])] fun b16 =>
                      bif b16 then
                        some (.v (.cell (.int (-1))))
                      else
                        callR (impl_typeMade [.agg [.sl 3 l1, .sl 5 l2], .agg [.sl 1 l3, .sl 1 l4], .agg [.int n5, .int n6, .int n7, .sl 1 l8, .sl 2 l9]]) false [(false, [.int 0])] fun n17 =>
                        some (.v (.cell (.int n17)))
                    else
                      callR (impl_typeMade [.agg [.sl 3 l1, .sl 5 l2], .agg [.sl 1 l3, .sl 1 l4], .agg [.int n5, .int n6, .int n7, .sl 1 l8, .sl 2 l9]]) false [(false, [.int 0])] fun n18 =>
                      some (.v (.cell (.int n18)))
      else
        bif (n5 == 7) then
          callR (impl_typeOfChoice [.agg [.sl 3 l1, .sl 5 l2], .agg [.sl 1 l3, .sl 1 l4], .agg [.int n5, .int n6, .int n7, .sl 1 l8, .sl 2 l9]]) false [(false, [.int 0])] fun n19 =>
          some (.v (.cell (.int n19)))
        else
          bif (n5 == 8) then
            callR (impl_typeOfChoice [.agg [.sl 3 l1, .sl 5 l2], .agg [.sl 1 l3, .sl 1 l4], .agg [.int n5, .int n6, .int n7, .sl 1 l8, .sl 2 l9]]) false [(false, [.int 0])] fun n20 =>
            some (.v (.cell (.int n20)))
          else
            bif (decide (((l9.length : Nat) : Int) > 0)) then
              some (.v (.cell (.int (-1))))
            else
              bif (decide (((l8.length : Nat) : Int) > 3)) then
                bif (decide (((l8.length : Nat) : Int) > 3)) then
                  some (.v (.cell (.int (-1))))
                else
                  bif (n5 == 10) then
                    callR (impl_lends [.agg [.sl 3 l1, .sl 5 l2], .cell (.int n6)]) false [(false, [.bool false])] fun b21 =>
                    bif b21 then
                      some (.v (.cell (.int (-1))))
                    else
                      callR (impl_typeMade [.agg [.sl 3 l1, .sl 5 l2], .agg [.sl 1 l3, .sl 1 l4], .agg [.int n5, .int n6, .int n7, .sl 1 l8, .sl 2 l9]]) false [(false, [.int 0])] fun n22 =>
                      some (.v (.cell (.int n22)))
                  else
                    callR (impl_typeMade [.agg [.sl 3 l1, .sl 5 l2], .agg [.sl 1 l3, .sl 1 l4], .agg [.int n5, .int n6, .int n7, .sl 1 l8, .sl 2 l9]]) false [(false, [.int 0])] fun n23 =>
                    some (.v (.cell (.int n23)))
              else
                bif (n5 == 10) then
                  callR (impl_lends [.agg [.sl 3 l1, .sl 5 l2], .cell (.int n6)]) false [(false, [.bool false])] fun b24 =>
                  bif b24 then
                    some (.v (.cell (.int (-1))))
                  else
                    callR (impl_typeMade [.agg [.sl 3 l1, .sl 5 l2], .agg [.sl 1 l3, .sl 1 l4], .agg [.int n5, .int n6, .int n7, .sl 1 l8, .sl 2 l9]]) false [(false, [.int 0])] fun n25 =>
                    some (.v (.cell (.int n25)))
                else
                  callR (impl_typeMade [.agg [.sl 3 l1, .sl 5 l2], .agg [.sl 1 l3, .sl 1 l4], .agg [.int n5, .int n6, .int n7, .sl 1 l8, .sl 2 l9]]) false [(false, [.int 0])] fun n26 =>
                  some (.v (.cell (.int n26))) : Option AV) = some r) : impl_typeOfStep [.agg [.sl 3 l1, .sl 5 l2], .agg [.sl 1 l3, .sl 1 l4], .agg [.int n5, .int n6, .int n7, .sl 1 l8, .sl 2 l9]] = some r :=
  V_le (X := X_impl_typeOfStep) (n := 100000) (c := cOf Tryz.f71) (by kernel_rfl) Tryz.func71 (by kernel_rfl) (of_decide_eq_true (by kernel_rfl)) (Eq.trans (by kernel_rfl) h)
noncomputable def X_impl_bind : Ctx := { P := Tryz.prog, L := lay, F := sig.has, E := ext, fn := Tryz.f72, lv := [(0, [2, 4, 5, 11, 12, 13])], jv := [], tp := [] }
noncomputable def impl_bind_L0 (l5 : List (List AC)) (l6 : List (List AC)) (l7 : List (List AC)) (l8 : List (List AC)) (l9 : List (List AC)) (l10 : List (List AC)) (n11 : Int) (n12 : Int) : Option AV := GL X_impl_bind 0 [(2, .box [.sl 1 l5, .sl 1 l6]), (4, .box [.sl 1 l7, .sl 1 l8]), (5, .v (.cell (.sl 1 l9))), (11, .v (.cell (.sl 1 l10))), (12, .v (.cell (.int n11))), (13, .v (.cell (.int n12)))]
theorem impl_bind_L0_le {l5 : List (List AC)} {l6 : List (List AC)} {l7 : List (List AC)} {l8 : List (List AC)} {l9 : List (List AC)} {l10 : List (List AC)} {n11 : Int} {n12 : Int} {r : AV} (h : (
    bif (decide (n12 < n11)) then
        atR_ l10 n12 [.int 0] fun n13 =>
        appR l9 [[.int n13]] fun l14 =>
        impl_bind_L0 l5 l6 l7 l8 l14 l10 n11 (wrapI (n12 + 1))
      else
        some (.v (.agg [.sl 1 l5, .sl 1 l9])) : Option AV) = some r) : impl_bind_L0 l5 l6 l7 l8 l9 l10 n11 n12 = some r :=
  GL_le (X := X_impl_bind) (n := 100000) (by kernel_rfl) (by kernel_rfl : (X_impl_bind.fn.body.bind fun c => locL 0 c []) = some (.loop (loopOf (X_impl_bind.fn.body.bind fun c => locL 0 c [])), ksOf (X_impl_bind.fn.body.bind fun c => locL 0 c []))) (Eq.trans (by kernel_rfl) h)
theorem impl_bind_le {l1 : List (List AC)} {l2 : List (List AC)} {l3 : List (List AC)} {r : AV} (h : (
    callR (impl_copyInts [.cell (.sl 1 l2)]) false [(false, [.sl 1 []])] fun l4 =>
      impl_bind_L0 l1 l2 [] [] l4 l3 ((l3.length : Nat) : Int) 0 : Option AV) = some r) : impl_bind [.agg [.sl 1 l1, .sl 1 l2], .cell (.sl 1 l3)] = some r :=
  V_le (X := X_impl_bind) (n := 100000) (c := cOf Tryz.f72) (by kernel_rfl) Tryz.func72 (by kernel_rfl) (of_decide_eq_true (by kernel_rfl)) (Eq.trans (by kernel_rfl) h)
noncomputable def X_impl_typeOfVar : Ctx := { P := Tryz.prog, L := lay, F := sig.has, E := ext, fn := Tryz.f73, lv := [], jv := [], tp := [] }
theorem impl_typeOfVar_le {l1 : List (List AC)} {l2 : List (List AC)} {n3 : Int} {r : AV} (h : (
    bif (decide (n3 < 0)) then
        some (.v (.cell (.int (-1))))
      else
        bif (decide (n3 < ((l1.length : Nat) : Int))) then
          atR_ l1 n3 [.int 0] fun n4 =>
          some (.v (.cell (.int n4)))
        else
          bif (decide ((wrapI (n3 - ((l1.length : Nat) : Int))) < ((l2.length : Nat) : Int))) then
            atR_ l2 (wrapI (n3 - ((l1.length : Nat) : Int))) [.int 0] fun n5 =>
            some (.v (.cell (.int n5)))
          else
            some (.v (.cell (.int (-1)))) : Option AV) = some r) : impl_typeOfVar [.agg [.sl 1 l1, .sl 1 l2], .cell (.int n3)] = some r :=
  V_le (X := X_impl_typeOfVar) (n := 100000) (c := cOf Tryz.f73) (by kernel_rfl) Tryz.func73 (by kernel_rfl) (of_decide_eq_true (by kernel_rfl)) (Eq.trans (by kernel_rfl) h)
noncomputable def X_laws_eqDecl : Ctx := { P := Tryz.prog, L := lay, F := sig.has, E := ext, fn := Tryz.f74, lv := [], jv := [], tp := [] }
theorem laws_eqDecl_le {n1 : Int} {n2 : Int} {l3 : List (List AC)} {n4 : Int} {n5 : Int} {l6 : List (List AC)} {r : AV} (h : (
    bif (n1 != n4) then
        some (.v (.cell (.bool false)))
      else
        bif (n2 != n5) then
          some (.v (.cell (.bool false)))
        else
          callR (laws_eqConS [.cell (.sl 1 l3), .cell (.sl 1 l6)]) false [(false, [.bool false])] fun b7 =>
          bif (!b7) then
            some (.v (.cell (.bool false)))
          else
            some (.v (.cell (.bool true))) : Option AV) = some r) : laws_eqDecl [.agg [.int n1, .int n2, .sl 1 l3], .agg [.int n4, .int n5, .sl 1 l6]] = some r :=
  V_le (X := X_laws_eqDecl) (n := 100000) (c := cOf Tryz.f74) (by kernel_rfl) Tryz.func74 (by kernel_rfl) (of_decide_eq_true (by kernel_rfl)) (Eq.trans (by kernel_rfl) h)
noncomputable def X_laws_eqRoutine : Ctx := { P := Tryz.prog, L := lay, F := sig.has, E := ext, fn := Tryz.f75, lv := [], jv := [], tp := [] }
theorem laws_eqRoutine_le {l1 : List (List AC)} {l2 : List (List AC)} {n3 : Int} {l4 : List (List AC)} {n5 : Int} {l6 : List (List AC)} {l7 : List (List AC)} {n8 : Int} {l9 : List (List AC)} {n10 : Int} {r : AV} (h : (
    callR (laws_eqIntS [.cell (.sl 1 l1), .cell (.sl 1 l6)]) false [(false, [.bool false])] fun b11 =>
      bif (!b11) then
        some (.v (.cell (.bool false)))
      else
        callR (laws_eqIntS [.cell (.sl 1 l2), .cell (.sl 1 l7)]) false [(false, [.bool false])] fun b12 =>
        bif (!b12) then
          some (.v (.cell (.bool false)))
        else
          bif (n3 != n8) then
            some (.v (.cell (.bool false)))
          else
            callR (laws_eqBlock [.agg [.sl 5 l4, .int n5], .agg [.sl 5 l9, .int n10]]) false [(false, [.bool false])] fun b13 =>
            bif (!b13) then
              some (.v (.cell (.bool false)))
            else
              some (.v (.cell (.bool true))) : Option AV) = some r) : laws_eqRoutine [.agg [.sl 1 l1, .sl 1 l2, .int n3, .sl 5 l4, .int n5], .agg [.sl 1 l6, .sl 1 l7, .int n8, .sl 5 l9, .int n10]] = some r :=
  V_le (X := X_laws_eqRoutine) (n := 100000) (c := cOf Tryz.f75) (by kernel_rfl) Tryz.func75 (by kernel_rfl) (of_decide_eq_true (by kernel_rfl)) (Eq.trans (by kernel_rfl) h)
noncomputable def X_laws_eqStep : Ctx := { P := Tryz.prog, L := lay, F := sig.has, E := ext, fn := Tryz.f76, lv := [], jv := [], tp := [] }
theorem laws_eqStep_le {n1 : Int} {n2 : Int} {n3 : Int} {l4 : List (List AC)} {l5 : List (List AC)} {n6 : Int} {n7 : Int} {n8 : Int} {l9 : List (List AC)} {l10 : List (List AC)} {r : AV} (h : (
    bif (n1 != n6) then
        some (.v (.cell (.bool false)))
      else
        bif (n2 != n7) then
          some (.v (.cell (.bool false)))
        else
          bif (n3 != n8) then
            some (.v (.cell (.bool false)))
          else
            callR (laws_eqIntS [.cell (.sl 1 l4), .cell (.sl 1 l9)]) false [(false, [.bool false])] fun b11 =>
            bif (!b11) then
              some (.v (.cell (.bool false)))
            else
              callR (laws_eqBlockS [.cell (.sl 2 l5), .cell (.sl 2 l10)]) false [(false, [.bool false])] fun b12 =>
              bif (!b12) then
                some (.v (.cell (.bool false)))
              else
                some (.v (.cell (.bool true))) : Option AV) = some r) : laws_eqStep [.agg [.int n1, .int n2, .int n3, .sl 1 l4, .sl 2 l5], .agg [.int n6, .int n7, .int n8, .sl 1 l9, .sl 2 l10]] = some r :=
  V_le (X := X_laws_eqStep) (n := 100000) (c := cOf Tryz.f76) (by kernel_rfl) Tryz.func76 (by kernel_rfl) (of_decide_eq_true (by kernel_rfl)) (Eq.trans (by kernel_rfl) h)
noncomputable def X_spec_plainSteps : Ctx := { P := Tryz.prog, L := lay, F := sig.has, E := ext, fn := Tryz.f77, lv := [(0, [1, 3]), (2, [1, 3, 4])], jv := [], tp := [] }
noncomputable def spec_plainSteps_L0 (l3 : List (List AC)) (n4 : Int) (n5 : Int) : Option AV := GL X_spec_plainSteps 0 [(1, .box [.sl 5 l3, .int n4]), (3, .v (.cell (.int n5)))]
noncomputable def spec_plainSteps_L2 (l17 : List (List AC)) (n18 : Int) (n19 : Int) (n20 : Int) : Option AV := GL X_spec_plainSteps 2 [(1, .box [.sl 5 l17, .int n18]), (3, .v (.cell (.int n19))), (4, .v (.cell (.int n20)))]
theorem spec_plainSteps_L0_le {l3 : List (List AC)} {n4 : Int} {n5 : Int} {r : AV} (h : (
    bif (decide (n5 < ((l3.length : Nat) : Int))) then
        atR_ l3 n5 [.int 0, .int 0, .int 0, .sl 1 [], .sl 2 []] fun n6 n7 n8 l9 l10 =>
        callR (spec_isCounting [.cell (.int n6)]) false [(false, [.bool false])] fun b11 =>
        bif b11 then
          some (.v (.cell (.bool false)))
        else
          atR_ l3 n5 [.int 0, .int 0, .int 0, .sl 1 [], .sl 2 []] fun n12 n13 n14 l15 l16 =>
          bif (n14 != 0) then
            some (.v (.cell (.bool false)))
          else
            spec_plainSteps_L2 l3 n4 n5 0
      else
        some (.v (.cell (.bool true))) : Option AV) = some r) : spec_plainSteps_L0 l3 n4 n5 = some r :=
  GL_le (X := X_spec_plainSteps) (n := 100000) (by kernel_rfl) (by kernel_rfl : (X_spec_plainSteps.fn.body.bind fun c => locL 0 c []) = some (.loop (loopOf (X_spec_plainSteps.fn.body.bind fun c => locL 0 c [])), ksOf (X_spec_plainSteps.fn.body.bind fun c => locL 0 c []))) (Eq.trans (by kernel_rfl) h)
theorem spec_plainSteps_L2_le {l17 : List (List AC)} {n18 : Int} {n19 : Int} {n20 : Int} {r : AV} (h : (
    atR_ l17 n19 [.int 0, .int 0, .int 0, .sl 1 [], .sl 2 []] fun n21 n22 n23 l24 l25 =>
      bif (decide (n20 < ((l25.length : Nat) : Int))) then
        atR_ l17 n19 [.int 0, .int 0, .int 0, .sl 1 [], .sl 2 []] fun n26 n27 n28 l29 l30 =>
        atR_ l30 n20 [.sl 5 [], .int 0] fun l31 n32 =>
        callR (spec_plainSteps [.agg [.sl 5 l31, .int n32]]) false [(false, [.bool false])] fun b33 =>
        bif (!b33) then
          some (.v (.cell (.bool false)))
        else
          spec_plainSteps_L2 l17 n18 n19 (wrapI (n20 + 1))
      else
        spec_plainSteps_L0 l17 n18 (wrapI (n19 + 1)) : Option AV) = some r) : spec_plainSteps_L2 l17 n18 n19 n20 = some r :=
  GL_le (X := X_spec_plainSteps) (n := 100000) (by kernel_rfl) (by kernel_rfl : (X_spec_plainSteps.fn.body.bind fun c => locL 2 c []) = some (.loop (loopOf (X_spec_plainSteps.fn.body.bind fun c => locL 2 c [])), ksOf (X_spec_plainSteps.fn.body.bind fun c => locL 2 c []))) (Eq.trans (by kernel_rfl) h)
theorem spec_plainSteps_le {l1 : List (List AC)} {n2 : Int} {r : AV} (h : (
    spec_plainSteps_L0 l1 n2 0 : Option AV) = some r) : spec_plainSteps [.agg [.sl 5 l1, .int n2]] = some r :=
  V_le (X := X_spec_plainSteps) (n := 100000) (c := cOf Tryz.f77) (by kernel_rfl) Tryz.func77 (by kernel_rfl) (of_decide_eq_true (by kernel_rfl)) (Eq.trans (by kernel_rfl) h)
noncomputable def X_laws_markConS : Ctx := { P := Tryz.prog, L := lay, F := sig.has, E := ext, fn := Tryz.f79, lv := [(0, [0, 1, 5])], jv := [], tp := [] }
noncomputable def laws_markConS_L0 (l3 : List (List AC)) (n4 : Int) (n5 : Int) : Option AV := GL X_laws_markConS 0 [(0, .v (.cell (.sl 1 l3))), (1, .v (.cell (.int n4))), (5, .v (.cell (.int n5)))]
theorem laws_markConS_L0_le {l3 : List (List AC)} {n4 : Int} {n5 : Int} {r : AV} (h : (
    bif (decide (n5 < ((l3.length : Nat) : Int))) then
        atR_ l3 n5 [.sl 1 []] fun l6 =>
        callR (laws_markIntS [.cell (.sl 1 l6), .cell (.int n4)]) false [(false, [.int 0])] fun n7 =>
        laws_markConS_L0 l3 n7 (wrapI (n5 + 1))
      else
        some (.v (.cell (.int n4))) : Option AV) = some r) : laws_markConS_L0 l3 n4 n5 = some r :=
  GL_le (X := X_laws_markConS) (n := 100000) (by kernel_rfl) (by kernel_rfl : (X_laws_markConS.fn.body.bind fun c => locL 0 c []) = some (.loop (loopOf (X_laws_markConS.fn.body.bind fun c => locL 0 c [])), ksOf (X_laws_markConS.fn.body.bind fun c => locL 0 c []))) (Eq.trans (by kernel_rfl) h)
theorem laws_markConS_le {l1 : List (List AC)} {n2 : Int} {r : AV} (h : (
    laws_markConS_L0 l1 n2 0 : Option AV) = some r) : laws_markConS [.cell (.sl 1 l1), .cell (.int n2)] = some r :=
  V_le (X := X_laws_markConS) (n := 100000) (c := cOf Tryz.f79) (by kernel_rfl) Tryz.func79 (by kernel_rfl) (of_decide_eq_true (by kernel_rfl)) (Eq.trans (by kernel_rfl) h)
noncomputable def X_laws_szConS : Ctx := { P := Tryz.prog, L := lay, F := sig.has, E := ext, fn := Tryz.f81, lv := [(0, [0, 1, 5])], jv := [], tp := [] }
noncomputable def laws_szConS_L0 (l3 : List (List AC)) (n4 : Int) (n5 : Int) : Option AV := GL X_laws_szConS 0 [(0, .v (.cell (.sl 1 l3))), (1, .v (.cell (.int n4))), (5, .v (.cell (.int n5)))]
theorem laws_szConS_L0_le {l3 : List (List AC)} {n4 : Int} {n5 : Int} {r : AV} (h : (
    bif (decide (n5 < ((l3.length : Nat) : Int))) then
        atR_ l3 n5 [.sl 1 []] fun l6 =>
        callR (laws_szCon [.agg [.sl 1 l6], .cell (.int n4)]) false [(false, [.int 0])] fun n7 =>
        bif (decide (n7 < 0)) then
          some (.v (.cell (.int (-1))))
        else
          laws_szConS_L0 l3 n7 (wrapI (n5 + 1))
      else
        some (.v (.cell (.int n4))) : Option AV) = some r) : laws_szConS_L0 l3 n4 n5 = some r :=
  GL_le (X := X_laws_szConS) (n := 100000) (by kernel_rfl) (by kernel_rfl : (X_laws_szConS.fn.body.bind fun c => locL 0 c []) = some (.loop (loopOf (X_laws_szConS.fn.body.bind fun c => locL 0 c [])), ksOf (X_laws_szConS.fn.body.bind fun c => locL 0 c []))) (Eq.trans (by kernel_rfl) h)
theorem laws_szConS_le {l1 : List (List AC)} {n2 : Int} {r : AV} (h : (
    bif (decide ((wrapI (n2 - ((l1.length : Nat) : Int))) < 0)) then
        some (.v (.cell (.int (-1))))
      else
        laws_szConS_L0 l1 (wrapI (n2 - ((l1.length : Nat) : Int))) 0 : Option AV) = some r) : laws_szConS [.cell (.sl 1 l1), .cell (.int n2)] = some r :=
  V_le (X := X_laws_szConS) (n := 100000) (c := cOf Tryz.f81) (by kernel_rfl) Tryz.func81 (by kernel_rfl) (of_decide_eq_true (by kernel_rfl)) (Eq.trans (by kernel_rfl) h)
noncomputable def X_laws_szIntS : Ctx := { P := Tryz.prog, L := lay, F := sig.has, E := ext, fn := Tryz.f82, lv := [], jv := [], tp := [] }
theorem laws_szIntS_le {l1 : List (List AC)} {n2 : Int} {r : AV} (h : (
    bif (decide ((wrapI (n2 - ((l1.length : Nat) : Int))) < 0)) then
        some (.v (.cell (.int (-1))))
      else
        some (.v (.cell (.int (wrapI (n2 - ((l1.length : Nat) : Int)))))) : Option AV) = some r) : laws_szIntS [.cell (.sl 1 l1), .cell (.int n2)] = some r :=
  V_le (X := X_laws_szIntS) (n := 100000) (c := cOf Tryz.f82) (by kernel_rfl) Tryz.func82 (by kernel_rfl) (of_decide_eq_true (by kernel_rfl)) (Eq.trans (by kernel_rfl) h)
noncomputable def X_laws_szBlockS : Ctx := { P := Tryz.prog, L := lay, F := sig.has, E := ext, fn := Tryz.f83, lv := [(0, [0, 1, 5])], jv := [], tp := [] }
noncomputable def laws_szBlockS_L0 (l3 : List (List AC)) (n4 : Int) (n5 : Int) : Option AV := GL X_laws_szBlockS 0 [(0, .v (.cell (.sl 2 l3))), (1, .v (.cell (.int n4))), (5, .v (.cell (.int n5)))]
theorem laws_szBlockS_L0_le {l3 : List (List AC)} {n4 : Int} {n5 : Int} {r : AV} (h : (
    bif (decide (n5 < ((l3.length : Nat) : Int))) then
        atR_ l3 n5 [.sl 5 [], .int 0] fun l6 n7 =>
        callR (laws_szBlock [.agg [.sl 5 l6, .int n7], .cell (.int n4)]) false [(false, [.int 0])] fun n8 =>
        bif (decide (n8 < 0)) then
          some (.v (.cell (.int (-1))))
        else
          laws_szBlockS_L0 l3 n8 (wrapI (n5 + 1))
      else
        some (.v (.cell (.int n4))) : Option AV) = some r) : laws_szBlockS_L0 l3 n4 n5 = some r :=
  GL_le (X := X_laws_szBlockS) (n := 100000) (by kernel_rfl) (by kernel_rfl : (X_laws_szBlockS.fn.body.bind fun c => locL 0 c []) = some (.loop (loopOf (X_laws_szBlockS.fn.body.bind fun c => locL 0 c [])), ksOf (X_laws_szBlockS.fn.body.bind fun c => locL 0 c []))) (Eq.trans (by kernel_rfl) h)
theorem laws_szBlockS_le {l1 : List (List AC)} {n2 : Int} {r : AV} (h : (
    bif (decide ((wrapI (n2 - ((l1.length : Nat) : Int))) < 0)) then
        some (.v (.cell (.int (-1))))
      else
        laws_szBlockS_L0 l1 (wrapI (n2 - ((l1.length : Nat) : Int))) 0 : Option AV) = some r) : laws_szBlockS [.cell (.sl 2 l1), .cell (.int n2)] = some r :=
  V_le (X := X_laws_szBlockS) (n := 100000) (c := cOf Tryz.f83) (by kernel_rfl) Tryz.func83 (by kernel_rfl) (of_decide_eq_true (by kernel_rfl)) (Eq.trans (by kernel_rfl) h)
noncomputable def X_spec_validTypes : Ctx := { P := Tryz.prog, L := lay, F := sig.has, E := ext, fn := Tryz.f84, lv := [(0, [0, 3])], jv := [], tp := [] }
noncomputable def spec_validTypes_L0 (l2 : List (List AC)) (n3 : Int) : Option AV := GL X_spec_validTypes 0 [(0, .v (.cell (.sl 3 l2))), (3, .v (.cell (.int n3)))]
theorem spec_validTypes_L0_le {l2 : List (List AC)} {n3 : Int} {r : AV} (h : (
    bif (decide (n3 < ((l2.length : Nat) : Int))) then
        callR (spec_validDecl [.cell (.sl 3 l2), .cell (.int n3)]) false [(false, [.bool false])] fun b4 =>
        bif (!b4) then
          some (.v (.cell (.bool false)))
        else
          spec_validTypes_L0 l2 (wrapI (n3 + 1))
      else
        some (.v (.cell (.bool true))) : Option AV) = some r) : spec_validTypes_L0 l2 n3 = some r :=
  GL_le (X := X_spec_validTypes) (n := 100000) (by kernel_rfl) (by kernel_rfl : (X_spec_validTypes.fn.body.bind fun c => locL 0 c []) = some (.loop (loopOf (X_spec_validTypes.fn.body.bind fun c => locL 0 c [])), ksOf (X_spec_validTypes.fn.body.bind fun c => locL 0 c []))) (Eq.trans (by kernel_rfl) h)
theorem spec_validTypes_le {l1 : List (List AC)} {r : AV} (h : (
    bif (decide (((l1.length : Nat) : Int) > 4)) then
        some (.v (.cell (.bool false)))
      else
        spec_validTypes_L0 l1 0 : Option AV) = some r) : spec_validTypes [.cell (.sl 3 l1)] = some r :=
  V_le (X := X_spec_validTypes) (n := 100000) (c := cOf Tryz.f84) (by kernel_rfl) Tryz.func84 (by kernel_rfl) (of_decide_eq_true (by kernel_rfl)) (Eq.trans (by kernel_rfl) h)
noncomputable def X_spec_hasNum : Ctx := { P := Tryz.prog, L := lay, F := sig.has, E := ext, fn := Tryz.f85, lv := [], jv := [], tp := [] }
theorem spec_hasNum_le {n1 : Int} {r : AV} (h : (
    bif (n1 == 0) then
        some (.v (.cell (.bool true)))
      else
        bif (n1 == 6) then
          some (.v (.cell (.bool true)))
        else
          bif (n1 == 8) then
            some (.v (.cell (.bool true)))
          else
            bif (n1 == 9) then
              some (.v (.cell (.bool true)))
            else
              some (.v (.cell (.bool (n1 == 10)))) : Option AV) = some r) : spec_hasNum [.cell (.int n1)] = some r :=
  V_le (X := X_spec_hasNum) (n := 100000) (c := cOf Tryz.f85) (by kernel_rfl) Tryz.func85 (by kernel_rfl) (of_decide_eq_true (by kernel_rfl)) (Eq.trans (by kernel_rfl) h)
noncomputable def X_spec_validInto : Ctx := { P := Tryz.prog, L := lay, F := sig.has, E := ext, fn := Tryz.f86, lv := [], jv := [], tp := [] }
theorem spec_validInto_le {l1 : List (List AC)} {n2 : Int} {n3 : Int} {n4 : Int} {l5 : List (List AC)} {l6 : List (List AC)} {r : AV} (h : (
    bif (n4 == 0) then
        some (.v (.cell (.bool true)))
      else
        bif (n2 == 6) then
          callR (spec_inRange [.cell (.int n4), .cell (.int 1), .cell (.int ((l1.length : Nat) : Int))]) false [(false, [.bool false])] fun b7 =>
          bif b7 then
            atR_ l1 (wrapI (n4 - 1)) [.int 0] fun n8 =>
            some (.v (.cell (.bool (decide (n8 > 0)))))
          else
            some (.v (.cell (.bool false)))
        else
          some (.v (.cell (.bool false))) : Option AV) = some r) : spec_validInto [.cell (.sl 1 l1), .agg [.int n2, .int n3, .int n4, .sl 1 l5, .sl 2 l6]] = some r :=
  V_le (X := X_spec_validInto) (n := 100000) (c := cOf Tryz.f86) (by kernel_rfl) Tryz.func86 (by kernel_rfl) (of_decide_eq_true (by kernel_rfl)) (Eq.trans (by kernel_rfl) h)
noncomputable def X_spec_typed : Ctx := { P := Tryz.prog, L := lay, F := sig.has, E := ext, fn := Tryz.f87, lv := [(0, [0, 1, 2, 7])], jv := [], tp := [] }
noncomputable def spec_typed_L0 (l4 : List (List AC)) (l5 : List (List AC)) (l6 : List (List AC)) (n7 : Int) : Option AV := GL X_spec_typed 0 [(0, .v (.cell (.sl 1 l4))), (1, .v (.cell (.sl 1 l5))), (2, .v (.cell (.sl 1 l6))), (7, .v (.cell (.int n7)))]
theorem spec_typed_L0_le {l4 : List (List AC)} {l5 : List (List AC)} {l6 : List (List AC)} {n7 : Int} {r : AV} (h : (
    bif (decide (n7 < ((l5.length : Nat) : Int))) then
        atR_ l5 n7 [.int 0] fun n8 =>
        callR (spec_inRange [.cell (.int n8), .cell (.int 0), .cell (.int (wrapI (((l4.length : Nat) : Int) - 1)))]) false [(false, [.bool false])] fun b9 =>
        bif (!b9) then
          some (.v (.cell (.bool false)))
        else
          atR_ l5 n7 [.int 0] fun n10 =>
          atR_ l4 n10 [.int 0] fun n11 =>
          atR_ l6 n7 [.int 0] fun n12 =>
          bif (n11 != n12) then
            some (.v (.cell (.bool false)))
          else
            spec_typed_L0 l4 l5 l6 (wrapI (n7 + 1))
      else
        some (.v (.cell (.bool true))) : Option AV) = some r) : spec_typed_L0 l4 l5 l6 n7 = some r :=
  GL_le (X := X_spec_typed) (n := 100000) (by kernel_rfl) (by kernel_rfl : (X_spec_typed.fn.body.bind fun c => locL 0 c []) = some (.loop (loopOf (X_spec_typed.fn.body.bind fun c => locL 0 c [])), ksOf (X_spec_typed.fn.body.bind fun c => locL 0 c []))) (Eq.trans (by kernel_rfl) h)
theorem spec_typed_le {l1 : List (List AC)} {l2 : List (List AC)} {l3 : List (List AC)} {r : AV} (h : (
    bif (((l2.length : Nat) : Int) != ((l3.length : Nat) : Int)) then
        some (.v (.cell (.bool false)))
      else
        spec_typed_L0 l1 l2 l3 0 : Option AV) = some r) : spec_typed [.cell (.sl 1 l1), .cell (.sl 1 l2), .cell (.sl 1 l3)] = some r :=
  V_le (X := X_spec_typed) (n := 100000) (c := cOf Tryz.f87) (by kernel_rfl) Tryz.func87 (by kernel_rfl) (of_decide_eq_true (by kernel_rfl)) (Eq.trans (by kernel_rfl) h)
noncomputable def X_spec_conType : Ctx := { P := Tryz.prog, L := lay, F := sig.has, E := ext, fn := Tryz.f88, lv := [(0, [0, 1, 5])], jv := [], tp := [] }
noncomputable def spec_conType_L0 (l3 : List (List AC)) (n4 : Int) (n5 : Int) : Option AV := GL X_spec_conType 0 [(0, .v (.cell (.sl 3 l3))), (1, .v (.cell (.int n4))), (5, .v (.cell (.int n5)))]
theorem spec_conType_L0_le {l3 : List (List AC)} {n4 : Int} {n5 : Int} {r : AV} (h : (
    bif (decide (n5 < ((l3.length : Nat) : Int))) then
        callR (spec_firstCon [.cell (.sl 3 l3), .cell (.int n5)]) false [(false, [.int 0])] fun n6 =>
        atR_ l3 n5 [.int 0, .int 0, .sl 1 []] fun n7 n8 l9 =>
        callR (spec_inRange [.cell (.int n4), .cell (.int n6), .cell (.int (wrapI ((wrapI (n6 + ((l9.length : Nat) : Int))) - 1)))]) false [(false, [.bool false])] fun b10 =>
        bif b10 then
          some (.v (.cell (.int (wrapI (n5 + 1)))))
        else
          spec_conType_L0 l3 n4 (wrapI (n5 + 1))
      else
        some (.v (.cell (.int (-1)))) : Option AV) = some r) : spec_conType_L0 l3 n4 n5 = some r :=
  GL_le (X := X_spec_conType) (n := 100000) (by kernel_rfl) (by kernel_rfl : (X_spec_conType.fn.body.bind fun c => locL 0 c []) = some (.loop (loopOf (X_spec_conType.fn.body.bind fun c => locL 0 c [])), ksOf (X_spec_conType.fn.body.bind fun c => locL 0 c []))) (Eq.trans (by kernel_rfl) h)
theorem spec_conType_le {l1 : List (List AC)} {n2 : Int} {r : AV} (h : (
    spec_conType_L0 l1 n2 0 : Option AV) = some r) : spec_conType [.cell (.sl 3 l1), .cell (.int n2)] = some r :=
  V_le (X := X_spec_conType) (n := 100000) (c := cOf Tryz.f88) (by kernel_rfl) Tryz.func88 (by kernel_rfl) (of_decide_eq_true (by kernel_rfl)) (Eq.trans (by kernel_rfl) h)
noncomputable def X_spec_conFields : Ctx := { P := Tryz.prog, L := lay, F := sig.has, E := ext, fn := Tryz.f89, lv := [], jv := [], tp := [] }
theorem spec_conFields_le {l1 : List (List AC)} {n2 : Int} {r : AV} (h : (
    callR (spec_conType [.cell (.sl 3 l1), .cell (.int n2)]) false [(false, [.int 0])] fun n3 =>
      bif (decide (n3 < 1)) then
        some (.v (.cell (.sl 1 [])))
      else
        atR_ l1 (wrapI (n3 - 1)) [.int 0, .int 0, .sl 1 []] fun n4 n5 l6 =>
        callR (spec_firstCon [.cell (.sl 3 l1), .cell (.int (wrapI (n3 - 1)))]) false [(false, [.int 0])] fun n7 =>
        atR_ l6 (wrapI (n2 - n7)) [.sl 1 []] fun l8 =>
        some (.v (.cell (.sl 1 l8))) : Option AV) = some r) : spec_conFields [.cell (.sl 3 l1), .cell (.int n2)] = some r :=
  V_le (X := X_spec_conFields) (n := 100000) (c := cOf Tryz.f89) (by kernel_rfl) Tryz.func89 (by kernel_rfl) (of_decide_eq_true (by kernel_rfl)) (Eq.trans (by kernel_rfl) h)
noncomputable def X_spec_kidsType : Ctx := { P := Tryz.prog, L := lay, F := sig.has, E := ext, fn := Tryz.f90, lv := [(0, [1, 3, 5, 7, 8, 9, 10])], jv := [], tp := [] }
noncomputable def spec_kidsType_L0 (l10 : List (List AC)) (l11 : List (List AC)) (l12 : List (List AC)) (n13 : Int) (n14 : Int) (n15 : Int) (l16 : List (List AC)) (l17 : List (List AC)) (l18 : List (List AC)) (n19 : Int) (n20 : Int) (n21 : Int) : Option AV := GL X_spec_kidsType 0 [(1, .v (.cell (.sl 1 l10))), (3, .box [.sl 3 l11, .sl 5 l12]), (5, .box [.int n13, .int n14, .int n15, .sl 1 l16, .sl 2 l17]), (7, .v (.cell (.sl 1 l18))), (8, .v (.cell (.int n19))), (9, .v (.cell (.int n20))), (10, .v (.cell (.int n21)))]
theorem spec_kidsType_L0_le {l10 : List (List AC)} {l11 : List (List AC)} {l12 : List (List AC)} {n13 : Int} {n14 : Int} {n15 : Int} {l16 : List (List AC)} {l17 : List (List AC)} {l18 : List (List AC)} {n19 : Int} {n20 : Int} {n21 : Int} {r : AV} (h : (
    bif (decide (n21 < n19)) then
        bif (n13 == 8) then
          atR_ l18 n21 [.int 0] fun n22 =>
          callR (spec_conFields [.cell (.sl 3 l11), .cell (.int n22)]) false [(false, [.sl 1 []])] fun l23 =>
          callR (spec_extend [.cell (.sl 1 l10), .cell (.sl 1 l23)]) false [(false, [.sl 1 []])] fun l24 =>
          atR_ l17 n21 [.sl 5 [], .int 0] fun l25 n26 =>
          callR (spec_blockType [.agg [.sl 3 l11, .sl 5 l12], .cell (.sl 1 l24), .agg [.sl 5 l25, .int n26]]) false [(false, [.int 0])] fun n27 =>
          bif (decide (n27 < 0)) then
            some (.v (.cell (.int (-1))))
          else
            bif (decide (n21 > 0)) then
              bif (n27 != n20) then
                some (.v (.cell (.int (-1))))
              else
                spec_kidsType_L0 l10 l11 l12 n13 n14 n15 l16 l17 l18 n19 n27 (wrapI (n21 + 1))
            else
              spec_kidsType_L0 l10 l11 l12 n13 n14 n15 l16 l17 l18 n19 n27 (wrapI (n21 + 1))
        else
          atR_ l17 n21 [.sl 5 [], .int 0] fun l28 n29 =>
          callR (spec_blockType [.agg [.sl 3 l11, .sl 5 l12], .cell (.sl 1 l10), .agg [.sl 5 l28, .int n29]]) false [(false, [.int 0])] fun n30 =>
          bif (decide (n30 < 0)) then
            some (.v (.cell (.int (-1))))
          else
            bif (decide (n21 > 0)) then
              bif (n30 != n20) then
                some (.v (.cell (.int (-1))))
              else
                spec_kidsType_L0 l10 l11 l12 n13 n14 n15 l16 l17 l18 n19 n30 (wrapI (n21 + 1))
            else
              spec_kidsType_L0 l10 l11 l12 n13 n14 n15 l16 l17 l18 n19 n30 (wrapI (n21 + 1))
      else
        some (.v (.cell (.int n20))) : Option AV) = some r) : spec_kidsType_L0 l10 l11 l12 n13 n14 n15 l16 l17 l18 n19 n20 n21 = some r :=
  GL_le (X := X_spec_kidsType) (n := 100000) (by kernel_rfl) (by kernel_rfl : (X_spec_kidsType.fn.body.bind fun c => locL 0 c []) = some (.loop (loopOf (X_spec_kidsType.fn.body.bind fun c => locL 0 c [])), ksOf (X_spec_kidsType.fn.body.bind fun c => locL 0 c []))) (Eq.trans (by kernel_rfl) h)
theorem spec_kidsType_le {l1 : List (List AC)} {l2 : List (List AC)} {l3 : List (List AC)} {n4 : Int} {n5 : Int} {n6 : Int} {l7 : List (List AC)} {l8 : List (List AC)} {r : AV} (h : (
    callR (spec_consOf [.cell (.sl 3 l1), .cell (.int n5)]) false [(false, [.sl 1 []])] fun l9 =>
      bif (n4 == 7) then
        bif ((2 : Int) == 0) then
          some (.v (.cell (.int (-1))))
        else
          bif (((l8.length : Nat) : Int) != 2) then
            some (.v (.cell (.int (-1))))
          else
            spec_kidsType_L0 l3 l1 l2 n4 n5 n6 l7 l8 l9 2 0 0
      else
        bif (((l9.length : Nat) : Int) == 0) then
          some (.v (.cell (.int (-1))))
        else
          bif (((l8.length : Nat) : Int) != ((l9.length : Nat) : Int)) then
            some (.v (.cell (.int (-1))))
          else
            spec_kidsType_L0 l3 l1 l2 n4 n5 n6 l7 l8 l9 ((l9.length : Nat) : Int) 0 0 : Option AV) = some r) : spec_kidsType [.agg [.sl 3 l1, .sl 5 l2], .cell (.sl 1 l3), .agg [.int n4, .int n5, .int n6, .sl 1 l7, .sl 2 l8]] = some r :=
  V_le (X := X_spec_kidsType) (n := 100000) (c := cOf Tryz.f90) (by kernel_rfl) Tryz.func90 (by kernel_rfl) (of_decide_eq_true (by kernel_rfl)) (Eq.trans (by kernel_rfl) h)
noncomputable def X_spec_routineType : Ctx := { P := Tryz.prog, L := lay, F := sig.has, E := ext, fn := Tryz.f91, lv := [], jv := [], tp := [] }
theorem spec_routineType_le {l1 : List (List AC)} {l2 : List (List AC)} {l3 : List (List AC)} {n4 : Int} {n5 : Int} {n6 : Int} {l7 : List (List AC)} {l8 : List (List AC)} {r : AV} (h : (
    callR (spec_inRange [.cell (.int n5), .cell (.int 0), .cell (.int (wrapI (((l2.length : Nat) : Int) - 1)))]) false [(false, [.bool false])] fun b9 =>
      bif (!b9) then
        some (.v (.cell (.int (-1))))
      else
        atR_ l2 n5 [.sl 1 [], .sl 1 [], .int 0, .sl 5 [], .int 0] fun l10 l11 n12 l13 n14 =>
        bif (n4 == 9) then
          callR (spec_typed [.cell (.sl 1 l3), .cell (.sl 1 l7), .cell (.sl 1 l10)]) false [(false, [.bool false])] fun b15 =>
          bif (!b15) then
            some (.v (.cell (.int (-1))))
          else
            some (.v (.cell (.int n12)))
        else
          bif (((l10.length : Nat) : Int) == 0) then
            some (.v (.cell (.int (-1))))
          else
            bif (decide (((l11.length : Nat) : Int) > 0)) then
              some (.v (.cell (.int (-1))))
            else
              cutR l10 0 (wrapI (((l10.length : Nat) : Int) - 1)) fun l16 =>
              callR (spec_typed [.cell (.sl 1 l3), .cell (.sl 1 l7), .cell (.sl 1 l16)]) false [(false, [.bool false])] fun b17 =>
              bif (!b17) then
                some (.v (.cell (.int (-1))))
              else
                atR_ l10 (wrapI (((l10.length : Nat) : Int) - 1)) [.int 0] fun n18 =>
                callR (spec_arrowOf [.cell (.sl 3 l1), .cell (.int n18), .cell (.int n12)]) false [(false, [.int 0])] fun n19 =>
                some (.v (.cell (.int n19))) : Option AV) = some r) : spec_routineType [.agg [.sl 3 l1, .sl 5 l2], .cell (.sl 1 l3), .agg [.int n4, .int n5, .int n6, .sl 1 l7, .sl 2 l8]] = some r :=
  V_le (X := X_spec_routineType) (n := 100000) (c := cOf Tryz.f91) (by kernel_rfl) Tryz.func91 (by kernel_rfl) (of_decide_eq_true (by kernel_rfl)) (Eq.trans (by kernel_rfl) h)
noncomputable def X_spec_isArrow : Ctx := { P := Tryz.prog, L := lay, F := sig.has, E := ext, fn := Tryz.f92, lv := [], jv := [], tp := [] }
theorem spec_isArrow_le {l1 : List (List AC)} {n2 : Int} {r : AV} (h : (
    callR (spec_inRange [.cell (.int n2), .cell (.int 1), .cell (.int ((l1.length : Nat) : Int))]) false [(false, [.bool false])] fun b3 =>
      bif b3 then
        atR_ l1 (wrapI (n2 - 1)) [.int 0, .int 0, .sl 1 []] fun n4 n5 l6 =>
        some (.v (.cell (.bool (((l6.length : Nat) : Int) == 0))))
      else
        some (.v (.cell (.bool false))) : Option AV) = some r) : spec_isArrow [.cell (.sl 3 l1), .cell (.int n2)] = some r :=
  V_le (X := X_spec_isArrow) (n := 100000) (c := cOf Tryz.f92) (by kernel_rfl) Tryz.func92 (by kernel_rfl) (of_decide_eq_true (by kernel_rfl)) (Eq.trans (by kernel_rfl) h)
noncomputable def X_spec_countingType : Ctx := { P := Tryz.prog, L := lay, F := sig.has, E := ext, fn := Tryz.f93, lv := [], jv := [], tp := [] }
theorem spec_countingType_le {l1 : List (List AC)} {l2 : List (List AC)} {l3 : List (List AC)} {n4 : Int} {n5 : Int} {n6 : Int} {l7 : List (List AC)} {l8 : List (List AC)} {r : AV} (h : (
    bif (((l7.length : Nat) : Int) != 1) then
        some (.v (.cell (.int (-1))))
      else
        atR_ l7 0 [.int 0] fun n9 =>
        callR (spec_inRange [.cell (.int n9), .cell (.int 0), .cell (.int (wrapI (((l3.length : Nat) : Int) - 1)))]) false [(false, [.bool false])] fun b10 =>
        bif (!b10) then
          some (.v (.cell (.int (-1))))
        else
          atR_ l7 0 [.int 0] fun n11 =>
          atR_ l3 n11 [.int 0] fun n12 =>
          bif (n12 == 0) then
            some (.v (.cell (.int (-1))))
          else
            bif (n4 != 14) then
              bif (n4 != 15) then
                atR_ l7 0 [.int 0] fun n13 =>
                atR_ l3 n13 [.int 0] fun n14 =>
                callR (spec_isArrow [.cell (.sl 3 l1), .cell (.int n14)]) false [(false, [.bool false])] fun b15 =>
                bif b15 then
                  some (.v (.cell (.int (-1))))
                else
                  some (.v (.cell (.int 0)))
              else
                some (.v (.cell (.int 0)))
            else
              some (.v (.cell (.int 0))) : Option AV) = some r) : spec_countingType [.agg [.sl 3 l1, .sl 5 l2], .cell (.sl 1 l3), .agg [.int n4, .int n5, .int n6, .sl 1 l7, .sl 2 l8]] = some r :=
  V_le (X := X_spec_countingType) (n := 100000) (c := cOf Tryz.f93) (by kernel_rfl) Tryz.func93 (by kernel_rfl) (of_decide_eq_true (by kernel_rfl)) (Eq.trans (by kernel_rfl) h)
noncomputable def X_impl_ValidTypes : Ctx := { P := Tryz.prog, L := lay, F := sig.has, E := ext, fn := Tryz.f96, lv := [(0, [0, 8, 9])], jv := [], tp := [] }
noncomputable def impl_ValidTypes_L0 (l2 : List (List AC)) (n3 : Int) (n4 : Int) : Option AV := GL X_impl_ValidTypes 0 [(0, .v (.cell (.sl 3 l2))), (8, .v (.cell (.int n3))), (9, .v (.cell (.int n4)))]
theorem impl_ValidTypes_L0_le {l2 : List (List AC)} {n3 : Int} {n4 : Int} {r : AV} (h : (
    bif (decide (n4 < n3)) then
        callR (impl_validDecl [.cell (.sl 3 l2), .cell (.int n4)]) false [(false, [.bool false])] fun b5 =>
        bif (!b5) then
          some (.v (.cell (.bool false)))
        else
          impl_ValidTypes_L0 l2 n3 (wrapI (n4 + 1))
      else
        some (.v (.cell (.bool true))) : Option AV) = some r) : impl_ValidTypes_L0 l2 n3 n4 = some r :=
  GL_le (X := X_impl_ValidTypes) (n := 100000) (by kernel_rfl) (by kernel_rfl : (X_impl_ValidTypes.fn.body.bind fun c => locL 0 c []) = some (.loop (loopOf (X_impl_ValidTypes.fn.body.bind fun c => locL 0 c [])), ksOf (X_impl_ValidTypes.fn.body.bind fun c => locL 0 c []))) (Eq.trans (by kernel_rfl) h)
theorem impl_ValidTypes_le {l1 : List (List AC)} {r : AV} (h : (
    bif (decide (((l1.length : Nat) : Int) > 4)) then
        some (.v (.cell (.bool false)))
      else
        impl_ValidTypes_L0 l1 ((l1.length : Nat) : Int) 0 : Option AV) = some r) : impl_ValidTypes [.cell (.sl 3 l1)] = some r :=
  V_le (X := X_impl_ValidTypes) (n := 100000) (c := cOf Tryz.f96) (by kernel_rfl) Tryz.func96 (by kernel_rfl) (of_decide_eq_true (by kernel_rfl)) (Eq.trans (by kernel_rfl) h)
noncomputable def X_impl_validSig : Ctx := { P := Tryz.prog, L := lay, F := sig.has, E := ext, fn := Tryz.f97, lv := [], jv := [], tp := [] }
theorem impl_validSig_le {l1 : List (List AC)} {l2 : List (List AC)} {n3 : Int} {r : AV} (h : (
    bif (decide (((l2.length : Nat) : Int) ≤ 3)) then
        callR (impl_areTypes [.cell (.sl 3 l1), .cell (.sl 1 l2)]) false [(false, [.bool false])] fun b4 =>
        bif b4 then
          callR (impl_isType [.cell (.sl 3 l1), .cell (.int n3)]) false [(false, [.bool false])] fun b5 =>
          some (.v (.cell (.bool b5)))
        else
          some (.v (.cell (.bool false)))
      else
        some (.v (.cell (.bool false))) : Option AV) = some r) : impl_validSig [.cell (.sl 3 l1), .cell (.sl 1 l2), .cell (.int n3)] = some r :=
  V_le (X := X_impl_validSig) (n := 100000) (c := cOf Tryz.f97) (by kernel_rfl) Tryz.func97 (by kernel_rfl) (of_decide_eq_true (by kernel_rfl)) (Eq.trans (by kernel_rfl) h)
noncomputable def X_impl_isData : Ctx := { P := Tryz.prog, L := lay, F := sig.has, E := ext, fn := Tryz.f98, lv := [], jv := [], tp := [] }
theorem impl_isData_le {l1 : List (List AC)} {n2 : Int} {r : AV} (h : (
    bif (decide (n2 > 0)) then
        callR (impl_isType [.cell (.sl 3 l1), .cell (.int n2)]) false [(false, [.bool false])] fun b3 =>
        bif b3 then
          atR_ l1 (wrapI (n2 - 1)) [.int 0, .int 0, .sl 1 []] fun n4 n5 l6 =>
          some (.v (.cell (.bool (decide (((l6.length : Nat) : Int) > 0)))))
        else
          some (.v (.cell (.bool false)))
      else
        some (.v (.cell (.bool false))) : Option AV) = some r) : impl_isData [.cell (.sl 3 l1), .cell (.int n2)] = some r :=
  V_le (X := X_impl_isData) (n := 100000) (c := cOf Tryz.f98) (by kernel_rfl) Tryz.func98 (by kernel_rfl) (of_decide_eq_true (by kernel_rfl)) (Eq.trans (by kernel_rfl) h)
noncomputable def X_impl_typeOfChoice : Ctx := { P := Tryz.prog, L := lay, F := sig.has, E := ext, fn := Tryz.f99, lv := [(0, [3, 4, 5, 7, 8, 9])], jv := [], tp := [] }
noncomputable def impl_typeOfChoice_L0 (l19 : List (List AC)) (l20 : List (List AC)) (l21 : List (List AC)) (l22 : List (List AC)) (n23 : Int) (n24 : Int) (n25 : Int) (l26 : List (List AC)) (l27 : List (List AC)) (l28 : List (List AC)) (n29 : Int) (n30 : Int) : Option AV := GL X_impl_typeOfChoice 0 [(3, .box [.sl 3 l19, .sl 5 l20]), (4, .box [.sl 1 l21, .sl 1 l22]), (5, .box [.int n23, .int n24, .int n25, .sl 1 l26, .sl 2 l27]), (7, .v (.cell (.sl 1 l28))), (8, .v (.cell (.int n29))), (9, .v (.cell (.int n30)))]
theorem impl_typeOfChoice_L0_le {l19 : List (List AC)} {l20 : List (List AC)} {l21 : List (List AC)} {l22 : List (List AC)} {n23 : Int} {n24 : Int} {n25 : Int} {l26 : List (List AC)} {l27 : List (List AC)} {l28 : List (List AC)} {n29 : Int} {n30 : Int} {r : AV} (h : (
    bif (decide (n30 < ((l28.length : Nat) : Int))) then
        atR_ l28 n30 [.sl 1 []] fun l31 =>
        callR (impl_bind [.agg [.sl 1 l21, .sl 1 l22], .cell (.sl 1 l31)]) false [(true, [.sl 1 [], .sl 1 []])] fun l32 l33 =>
        atR_ l27 n30 [.sl 5 [], .int 0] fun l34 n35 =>
        callR (impl_typeOfBlock [.agg [.sl 3 l19, .sl 5 l20], .agg [.sl 1 l32, .sl 1 l33], .agg [.sl 5 l34, .int n35]]) false [(false, [.int 0])] fun n36 =>
        bif (n36 != n29) then
          some (.v (.cell (.int (-1))))
        else
          impl_typeOfChoice_L0 l19 l20 l21 l22 n23 n24 n25 l26 l27 l28 n29 (wrapI (n30 + 1))
      else
        some (.v (.cell (.int n29))) : Option AV) = some r) : impl_typeOfChoice_L0 l19 l20 l21 l22 n23 n24 n25 l26 l27 l28 n29 n30 = some r :=
  GL_le (X := X_impl_typeOfChoice) (n := 100000) (by kernel_rfl) (by kernel_rfl : (X_impl_typeOfChoice.fn.body.bind fun c => locL 0 c []) = some (.loop (loopOf (X_impl_typeOfChoice.fn.body.bind fun c => locL 0 c [])), ksOf (X_impl_typeOfChoice.fn.body.bind fun c => locL 0 c []))) (Eq.trans (by kernel_rfl) h)
theorem impl_typeOfChoice_le {l1 : List (List AC)} {l2 : List (List AC)} {l3 : List (List AC)} {l4 : List (List AC)} {n5 : Int} {n6 : Int} {n7 : Int} {l8 : List (List AC)} {l9 : List (List AC)} {r : AV} (h : (
    callR (impl_choicesOf [.cell (.sl 3 l1), .agg [.int n5, .int n6, .int n7, .sl 1 l8, .sl 2 l9]]) false [(false, [.sl 1 []])] fun l10 =>
      bif (((l10.length : Nat) : Int) == 0) then
        some (.v (.cell (.int (-1))))
      else
        bif (((l9.length : Nat) : Int) != ((l10.length : Nat) : Int)) then
          some (.v (.cell (.int (-1))))
        else
          bif (((l8.length : Nat) : Int) != 1) then
            some (.v (.cell (.int (-1))))
          else
            atR_ l8 0 [.int 0] fun n11 =>
            callR (impl_typeOfVar [.agg [.sl 1 l3, .sl 1 l4], .cell (.int n11)]) false [(false, [.int 0])] fun n12 =>
            bif (n12 != n6) then
              some (.v (.cell (.int (-1))))
            else
              atR_ l10 0 [.sl 1 []] fun l13 =>
              callR (impl_bind [.agg [.sl 1 l3, .sl 1 l4], .cell (.sl 1 l13)]) false [(true, [.sl 1 [], .sl 1 []])] fun l14 l15 =>
              atR_ l9 0 [.sl 5 [], .int 0] fun l16 n17 =>
              callR (impl_typeOfBlock [.agg [.sl 3 l1, .sl 5 l2], .agg [.sl 1 l14, .sl 1 l15], .agg [.sl 5 l16, .int n17]]) false [(false, [.int 0])] fun n18 =>
              impl_typeOfChoice_L0 l1 l2 l3 l4 n5 n6 n7 l8 l9 l10 n18 1 : Option AV) = some r) : impl_typeOfChoice [.agg [.sl 3 l1, .sl 5 l2], .agg [.sl 1 l3, .sl 1 l4], .agg [.int n5, .int n6, .int n7, .sl 1 l8, .sl 2 l9]] = some r :=
  V_le (X := X_impl_typeOfChoice) (n := 100000) (c := cOf Tryz.f99) (by kernel_rfl) Tryz.func99 (by kernel_rfl) (of_decide_eq_true (by kernel_rfl)) (Eq.trans (by kernel_rfl) h)
noncomputable def X_impl_lends : Ctx := { P := Tryz.prog, L := lay, F := sig.has, E := ext, fn := Tryz.f100, lv := [], jv := [], tp := [] }
theorem impl_lends_le {l1 : List (List AC)} {l2 : List (List AC)} {n3 : Int} {r : AV} (h : (
    callR (impl_hasRoutine [.agg [.sl 3 l1, .sl 5 l2], .cell (.int n3)]) false [(false, [.bool false])] fun b4 =>
      bif b4 then
        atR_ l2 n3 [.sl 1 [], .sl 1 [], .int 0, .sl 5 [], .int 0] fun l5 l6 n7 l8 n9 =>
        some (.v (.cell (.bool (decide (((l6.length : Nat) : Int) > 0)))))
      else
        some (.v (.cell (.bool false))) : Option AV) = some r) : impl_lends [.agg [.sl 3 l1, .sl 5 l2], .cell (.int n3)] = some r :=
  V_le (X := X_impl_lends) (n := 100000) (c := cOf Tryz.f100) (by kernel_rfl) Tryz.func100 (by kernel_rfl) (of_decide_eq_true (by kernel_rfl)) (Eq.trans (by kernel_rfl) h)
noncomputable def X_impl_typeMade : Ctx := { P := Tryz.prog, L := lay, F := sig.has, E := ext, fn := Tryz.f101, lv := [(0, [3, 4, 5, 7, 11, 12, 13])], jv := [], tp := [] }
noncomputable def impl_typeMade_L0 (l10 : List (List AC)) (l11 : List (List AC)) (l12 : List (List AC)) (l13 : List (List AC)) (n14 : Int) (n15 : Int) (n16 : Int) (l17 : List (List AC)) (l18 : List (List AC)) (l19 : List (List AC)) (l20 : List (List AC)) (n21 : Int) (n22 : Int) : Option AV := GL X_impl_typeMade 0 [(3, .box [.sl 3 l10, .sl 5 l11]), (4, .box [.sl 1 l12, .sl 1 l13]), (5, .box [.int n14, .int n15, .int n16, .sl 1 l17, .sl 2 l18]), (7, .v (.cell (.sl 1 l19))), (11, .v (.cell (.sl 1 l20))), (12, .v (.cell (.int n21))), (13, .v (.cell (.int n22)))]
theorem impl_typeMade_L0_le {l10 : List (List AC)} {l11 : List (List AC)} {l12 : List (List AC)} {l13 : List (List AC)} {n14 : Int} {n15 : Int} {n16 : Int} {l17 : List (List AC)} {l18 : List (List AC)} {l19 : List (List AC)} {l20 : List (List AC)} {n21 : Int} {n22 : Int} {r : AV} (h : (
    bif (decide (n22 < n21)) then
        atR_ l20 n22 [.int 0] fun n23 =>
        callR (impl_typeOfVar [.agg [.sl 1 l12, .sl 1 l13], .cell (.int n23)]) false [(false, [.int 0])] fun n24 =>
        appR l19 [[.int n24]] fun l25 =>
        impl_typeMade_L0 l10 l11 l12 l13 n14 n15 n16 l17 l18 l25 l20 n21 (wrapI (n22 + 1))
      else
        callR (impl_sigsOf [.agg [.sl 3 l10, .sl 5 l11]]) false [(true, [.sl 3 [], .sl 5 []])] fun l26 l27 =>
        callR (impl_resultOf [.agg [.sl 3 l26, .sl 5 l27], .cell (.int n14), .cell (.int n15), .cell (.sl 1 l19)]) false [(false, [.int 0])] fun n28 =>
        some (.v (.cell (.int n28))) : Option AV) = some r) : impl_typeMade_L0 l10 l11 l12 l13 n14 n15 n16 l17 l18 l19 l20 n21 n22 = some r :=
  GL_le (X := X_impl_typeMade) (n := 100000) (by kernel_rfl) (by kernel_rfl : (X_impl_typeMade.fn.body.bind fun c => locL 0 c []) = some (.loop (loopOf (X_impl_typeMade.fn.body.bind fun c => locL 0 c [])), ksOf (X_impl_typeMade.fn.body.bind fun c => locL 0 c []))) (Eq.trans (by kernel_rfl) h)
theorem impl_typeMade_le {l1 : List (List AC)} {l2 : List (List AC)} {l3 : List (List AC)} {l4 : List (List AC)} {n5 : Int} {n6 : Int} {n7 : Int} {l8 : List (List AC)} {l9 : List (List AC)} {r : AV} (h : (
    impl_typeMade_L0 l1 l2 l3 l4 n5 n6 n7 l8 l9 [] l8 ((l8.length : Nat) : Int) 0 : Option AV) = some r) : impl_typeMade [.agg [.sl 3 l1, .sl 5 l2], .agg [.sl 1 l3, .sl 1 l4], .agg [.int n5, .int n6, .int n7, .sl 1 l8, .sl 2 l9]] = some r :=
  V_le (X := X_impl_typeMade) (n := 100000) (c := cOf Tryz.f101) (by kernel_rfl) Tryz.func101 (by kernel_rfl) (of_decide_eq_true (by kernel_rfl)) (Eq.trans (by kernel_rfl) h)
noncomputable def X_impl_copyInts : Ctx := { P := Tryz.prog, L := lay, F := sig.has, E := ext, fn := Tryz.f102, lv := [(0, [3, 6, 7, 8])], jv := [], tp := [] }
noncomputable def impl_copyInts_L0 (l2 : List (List AC)) (l3 : List (List AC)) (n4 : Int) (n5 : Int) : Option AV := GL X_impl_copyInts 0 [(3, .v (.cell (.sl 1 l2))), (6, .v (.cell (.sl 1 l3))), (7, .v (.cell (.int n4))), (8, .v (.cell (.int n5)))]
theorem impl_copyInts_L0_le {l2 : List (List AC)} {l3 : List (List AC)} {n4 : Int} {n5 : Int} {r : AV} (h : (
    bif (decide (n5 < n4)) then
        atR_ l3 n5 [.int 0] fun n6 =>
        appR l2 [[.int n6]] fun l7 =>
        impl_copyInts_L0 l7 l3 n4 (wrapI (n5 + 1))
      else
        some (.v (.cell (.sl 1 l2))) : Option AV) = some r) : impl_copyInts_L0 l2 l3 n4 n5 = some r :=
  GL_le (X := X_impl_copyInts) (n := 100000) (by kernel_rfl) (by kernel_rfl : (X_impl_copyInts.fn.body.bind fun c => locL 0 c []) = some (.loop (loopOf (X_impl_copyInts.fn.body.bind fun c => locL 0 c [])), ksOf (X_impl_copyInts.fn.body.bind fun c => locL 0 c []))) (Eq.trans (by kernel_rfl) h)
theorem impl_copyInts_le {l1 : List (List AC)} {r : AV} (h : (
    impl_copyInts_L0 [] l1 ((l1.length : Nat) : Int) 0 : Option AV) = some r) : impl_copyInts [.cell (.sl 1 l1)] = some r :=
  V_le (X := X_impl_copyInts) (n := 100000) (c := cOf Tryz.f102) (by kernel_rfl) Tryz.func102 (by kernel_rfl) (of_decide_eq_true (by kernel_rfl)) (Eq.trans (by kernel_rfl) h)
noncomputable def X_laws_eqConS : Ctx := { P := Tryz.prog, L := lay, F := sig.has, E := ext, fn := Tryz.f103, lv := [(0, [0, 1, 5])], jv := [], tp := [] }
noncomputable def laws_eqConS_L0 (l3 : List (List AC)) (l4 : List (List AC)) (n5 : Int) : Option AV := GL X_laws_eqConS 0 [(0, .v (.cell (.sl 1 l3))), (1, .v (.cell (.sl 1 l4))), (5, .v (.cell (.int n5)))]
theorem laws_eqConS_L0_le {l3 : List (List AC)} {l4 : List (List AC)} {n5 : Int} {r : AV} (h : (
    bif (decide (n5 < ((l3.length : Nat) : Int))) then
        atR_ l3 n5 [.sl 1 []] fun l6 =>
        atR_ l4 n5 [.sl 1 []] fun l7 =>
        callR (laws_eqCon [.agg [.sl 1 l6], .agg [.sl 1 l7]]) false [(false, [.bool false])] fun b8 =>
        bif (!b8) then
          some (.v (.cell (.bool false)))
        else
          laws_eqConS_L0 l3 l4 (wrapI (n5 + 1))
      else
        some (.v (.cell (.bool true))) : Option AV) = some r) : laws_eqConS_L0 l3 l4 n5 = some r :=
  GL_le (X := X_laws_eqConS) (n := 100000) (by kernel_rfl) (by kernel_rfl : (X_laws_eqConS.fn.body.bind fun c => locL 0 c []) = some (.loop (loopOf (X_laws_eqConS.fn.body.bind fun c => locL 0 c [])), ksOf (X_laws_eqConS.fn.body.bind fun c => locL 0 c []))) (Eq.trans (by kernel_rfl) h)
theorem laws_eqConS_le {l1 : List (List AC)} {l2 : List (List AC)} {r : AV} (h : (
    bif (((l1.length : Nat) : Int) != ((l2.length : Nat) : Int)) then
        some (.v (.cell (.bool false)))
      else
        laws_eqConS_L0 l1 l2 0 : Option AV) = some r) : laws_eqConS [.cell (.sl 1 l1), .cell (.sl 1 l2)] = some r :=
  V_le (X := X_laws_eqConS) (n := 100000) (c := cOf Tryz.f103) (by kernel_rfl) Tryz.func103 (by kernel_rfl) (of_decide_eq_true (by kernel_rfl)) (Eq.trans (by kernel_rfl) h)
noncomputable def X_laws_eqBlockS : Ctx := { P := Tryz.prog, L := lay, F := sig.has, E := ext, fn := Tryz.f104, lv := [(0, [0, 1, 5])], jv := [], tp := [] }
noncomputable def laws_eqBlockS_L0 (l3 : List (List AC)) (l4 : List (List AC)) (n5 : Int) : Option AV := GL X_laws_eqBlockS 0 [(0, .v (.cell (.sl 2 l3))), (1, .v (.cell (.sl 2 l4))), (5, .v (.cell (.int n5)))]
theorem laws_eqBlockS_L0_le {l3 : List (List AC)} {l4 : List (List AC)} {n5 : Int} {r : AV} (h : (
    bif (decide (n5 < ((l3.length : Nat) : Int))) then
        atR_ l3 n5 [.sl 5 [], .int 0] fun l6 n7 =>
        atR_ l4 n5 [.sl 5 [], .int 0] fun l8 n9 =>
        callR (laws_eqBlock [.agg [.sl 5 l6, .int n7], .agg [.sl 5 l8, .int n9]]) false [(false, [.bool false])] fun b10 =>
        bif (!b10) then
          some (.v (.cell (.bool false)))
        else
          laws_eqBlockS_L0 l3 l4 (wrapI (n5 + 1))
      else
        some (.v (.cell (.bool true))) : Option AV) = some r) : laws_eqBlockS_L0 l3 l4 n5 = some r :=
  GL_le (X := X_laws_eqBlockS) (n := 100000) (by kernel_rfl) (by kernel_rfl : (X_laws_eqBlockS.fn.body.bind fun c => locL 0 c []) = some (.loop (loopOf (X_laws_eqBlockS.fn.body.bind fun c => locL 0 c [])), ksOf (X_laws_eqBlockS.fn.body.bind fun c => locL 0 c []))) (Eq.trans (by kernel_rfl) h)
theorem laws_eqBlockS_le {l1 : List (List AC)} {l2 : List (List AC)} {r : AV} (h : (
    bif (((l1.length : Nat) : Int) != ((l2.length : Nat) : Int)) then
        some (.v (.cell (.bool false)))
      else
        laws_eqBlockS_L0 l1 l2 0 : Option AV) = some r) : laws_eqBlockS [.cell (.sl 2 l1), .cell (.sl 2 l2)] = some r :=
  V_le (X := X_laws_eqBlockS) (n := 100000) (c := cOf Tryz.f104) (by kernel_rfl) Tryz.func104 (by kernel_rfl) (of_decide_eq_true (by kernel_rfl)) (Eq.trans (by kernel_rfl) h)
noncomputable def X_spec_isCounting : Ctx := { P := Tryz.prog, L := lay, F := sig.has, E := ext, fn := Tryz.f105, lv := [], jv := [], tp := [] }
theorem spec_isCounting_le {n1 : Int} {r : AV} (h : (
    callR (spec_inRange [.cell (.int n1), .cell (.int 14), .cell (.int 17)]) false [(false, [.bool false])] fun b2 =>
      some (.v (.cell (.bool b2))) : Option AV) = some r) : spec_isCounting [.cell (.int n1)] = some r :=
  V_le (X := X_spec_isCounting) (n := 100000) (c := cOf Tryz.f105) (by kernel_rfl) Tryz.func105 (by kernel_rfl) (of_decide_eq_true (by kernel_rfl)) (Eq.trans (by kernel_rfl) h)
noncomputable def X_laws_szCon : Ctx := { P := Tryz.prog, L := lay, F := sig.has, E := ext, fn := Tryz.f107, lv := [], jv := [], tp := [] }
theorem laws_szCon_le {l1 : List (List AC)} {n2 : Int} {r : AV} (h : (
    callR (laws_szIntS [.cell (.sl 1 l1), .cell (.int n2)]) false [(false, [.int 0])] fun n3 =>
      bif (decide (n3 < 0)) then
        some (.v (.cell (.int (-1))))
      else
        some (.v (.cell (.int n3))) : Option AV) = some r) : laws_szCon [.agg [.sl 1 l1], .cell (.int n2)] = some r :=
  V_le (X := X_laws_szCon) (n := 100000) (c := cOf Tryz.f107) (by kernel_rfl) Tryz.func107 (by kernel_rfl) (of_decide_eq_true (by kernel_rfl)) (Eq.trans (by kernel_rfl) h)
noncomputable def X_spec_validDecl : Ctx := { P := Tryz.prog, L := lay, F := sig.has, E := ext, fn := Tryz.f108, lv := [(0, [0, 5, 6]), (2, [0, 1, 5, 7])], jv := [], tp := [] }
noncomputable def spec_validDecl_L0 (l6 : List (List AC)) (n7 : Int) (n8 : Int) (l9 : List (List AC)) (n10 : Int) : Option AV := GL X_spec_validDecl 0 [(0, .v (.cell (.sl 3 l6))), (5, .box [.int n7, .int n8, .sl 1 l9]), (6, .v (.cell (.int n10)))]
noncomputable def spec_validDecl_L2 (l11 : List (List AC)) (n12 : Int) (n13 : Int) (n14 : Int) (l15 : List (List AC)) (n16 : Int) : Option AV := GL X_spec_validDecl 2 [(0, .v (.cell (.sl 3 l11))), (1, .v (.cell (.int n12))), (5, .box [.int n13, .int n14, .sl 1 l15]), (7, .v (.cell (.int n16)))]
theorem spec_validDecl_L0_le {l6 : List (List AC)} {n7 : Int} {n8 : Int} {l9 : List (List AC)} {n10 : Int} {r : AV} (h : (
    bif (decide (n10 < ((l9.length : Nat) : Int))) then
        atR_ l9 n10 [.sl 1 []] fun l17 =>
        bif (decide (((l17.length : Nat) : Int) > 3)) then
          some (.v (.cell (.bool false)))
        else
          atR_ l9 n10 [.sl 1 []] fun l18 =>
          callR (spec_allTypes [.cell (.sl 3 l6), .cell (.sl 1 l18)]) false [(false, [.bool false])] fun b19 =>
          bif (!b19) then
            some (.v (.cell (.bool false)))
          else
            spec_validDecl_L0 l6 n7 n8 l9 (wrapI (n10 + 1))
      else
        some (.v (.cell (.bool true))) : Option AV) = some r) : spec_validDecl_L0 l6 n7 n8 l9 n10 = some r :=
  GL_le (X := X_spec_validDecl) (n := 100000) (by kernel_rfl) (by kernel_rfl : (X_spec_validDecl.fn.body.bind fun c => locL 0 c []) = some (.loop (loopOf (X_spec_validDecl.fn.body.bind fun c => locL 0 c [])), ksOf (X_spec_validDecl.fn.body.bind fun c => locL 0 c []))) (Eq.trans (by kernel_rfl) h)
theorem spec_validDecl_L2_le {l11 : List (List AC)} {n12 : Int} {n13 : Int} {n14 : Int} {l15 : List (List AC)} {n16 : Int} {r : AV} (h : (
    bif (decide (n16 < n12)) then
        atR_ l11 n16 [.int 0, .int 0, .sl 1 []] fun n20 n21 l22 =>
        bif (((l22.length : Nat) : Int) == 0) then
          atR_ l11 n16 [.int 0, .int 0, .sl 1 []] fun n23 n24 l25 =>
          bif (n23 == n13) then
            atR_ l11 n16 [.int 0, .int 0, .sl 1 []] fun n26 n27 l28 =>
            bif (n27 == n14) then
              some (.v (.cell (.bool false)))
            else
              spec_validDecl_L2 l11 n12 n13 n14 l15 (wrapI (n16 + 1))
          else
            spec_validDecl_L2 l11 n12 n13 n14 l15 (wrapI (n16 + 1))
        else
          spec_validDecl_L2 l11 n12 n13 n14 l15 (wrapI (n16 + 1))
      else
        callR (spec_inRange [.cell (.int n13), .cell (.int 0), .cell (.int ((l11.length : Nat) : Int))]) false [(false, [.bool false])] fun b29 =>
        bif b29 then
          callR (spec_inRange [.cell (.int n14), .cell (.int 0), .cell (.int ((l11.length : Nat) : Int))]) false [(false, [.bool false])] fun b30 =>
          some (.v (.cell (.bool b30)))
        else
          some (.v (.cell (.bool false))) : Option AV) = some r) : spec_validDecl_L2 l11 n12 n13 n14 l15 n16 = some r :=
  GL_le (X := X_spec_validDecl) (n := 100000) (by kernel_rfl) (by kernel_rfl : (X_spec_validDecl.fn.body.bind fun c => locL 2 c []) = some (.loop (loopOf (X_spec_validDecl.fn.body.bind fun c => locL 2 c [])), ksOf (X_spec_validDecl.fn.body.bind fun c => locL 2 c []))) (Eq.trans (by kernel_rfl) h)
theorem spec_validDecl_le {l1 : List (List AC)} {n2 : Int} {r : AV} (h : (
    atR_ l1 n2 [.int 0, .int 0, .sl 1 []] fun n3 n4 l5 =>
      bif (decide (((l5.length : Nat) : Int) > 0)) then
        bif (decide (((l5.length : Nat) : Int) > 3)) then
          some (.v (.cell (.bool false)))
        else
          bif (n3 != 0) then
            some (.v (.cell (.bool false)))
          else
            bif (n4 != 0) then
              some (.v (.cell (.bool false)))
            else
              spec_validDecl_L0 l1 n3 n4 l5 0
      else
        spec_validDecl_L2 l1 n2 n3 n4 l5 0 : Option AV) = some r) : spec_validDecl [.cell (.sl 3 l1), .cell (.int n2)] = some r :=
  V_le (X := X_spec_validDecl) (n := 100000) (c := cOf Tryz.f108) (by kernel_rfl) Tryz.func108 (by kernel_rfl) (of_decide_eq_true (by kernel_rfl)) (Eq.trans (by kernel_rfl) h)
noncomputable def X_spec_firstCon : Ctx := { P := Tryz.prog, L := lay, F := sig.has, E := ext, fn := Tryz.f109, lv := [(0, [0, 1, 5, 6])], jv := [], tp := [] }
noncomputable def spec_firstCon_L0 (l3 : List (List AC)) (n4 : Int) (n5 : Int) (n6 : Int) : Option AV := GL X_spec_firstCon 0 [(0, .v (.cell (.sl 3 l3))), (1, .v (.cell (.int n4))), (5, .v (.cell (.int n5))), (6, .v (.cell (.int n6)))]
theorem spec_firstCon_L0_le {l3 : List (List AC)} {n4 : Int} {n5 : Int} {n6 : Int} {r : AV} (h : (
    bif (decide (n6 < n4)) then
        atR_ l3 n6 [.int 0, .int 0, .sl 1 []] fun n7 n8 l9 =>
        spec_firstCon_L0 l3 n4 (wrapI (n5 + ((l9.length : Nat) : Int))) (wrapI (n6 + 1))
      else
        some (.v (.cell (.int n5))) : Option AV) = some r) : spec_firstCon_L0 l3 n4 n5 n6 = some r :=
  GL_le (X := X_spec_firstCon) (n := 100000) (by kernel_rfl) (by kernel_rfl : (X_spec_firstCon.fn.body.bind fun c => locL 0 c []) = some (.loop (loopOf (X_spec_firstCon.fn.body.bind fun c => locL 0 c [])), ksOf (X_spec_firstCon.fn.body.bind fun c => locL 0 c []))) (Eq.trans (by kernel_rfl) h)
theorem spec_firstCon_le {l1 : List (List AC)} {n2 : Int} {r : AV} (h : (
    spec_firstCon_L0 l1 n2 0 0 : Option AV) = some r) : spec_firstCon [.cell (.sl 3 l1), .cell (.int n2)] = some r :=
  V_le (X := X_spec_firstCon) (n := 100000) (c := cOf Tryz.f109) (by kernel_rfl) Tryz.func109 (by kernel_rfl) (of_decide_eq_true (by kernel_rfl)) (Eq.trans (by kernel_rfl) h)
noncomputable def X_spec_consOf : Ctx := { P := Tryz.prog, L := lay, F := sig.has, E := ext, fn := Tryz.f110, lv := [(0, [0, 1, 5, 6])], jv := [], tp := [] }
noncomputable def spec_consOf_L0 (l4 : List (List AC)) (n5 : Int) (l6 : List (List AC)) (n7 : Int) : Option AV := GL X_spec_consOf 0 [(0, .v (.cell (.sl 3 l4))), (1, .v (.cell (.int n5))), (5, .v (.cell (.sl 1 l6))), (6, .v (.cell (.int n7)))]
theorem spec_consOf_L0_le {l4 : List (List AC)} {n5 : Int} {l6 : List (List AC)} {n7 : Int} {r : AV} (h : (
    atR_ l4 (wrapI (n5 - 1)) [.int 0, .int 0, .sl 1 []] fun n8 n9 l10 =>
      bif (decide (n7 < ((l10.length : Nat) : Int))) then
        callR (spec_firstCon [.cell (.sl 3 l4), .cell (.int (wrapI (n5 - 1)))]) false [(false, [.int 0])] fun n11 =>
        appR l6 [[.int (wrapI (n11 + n7))]] fun l12 =>
        spec_consOf_L0 l4 n5 l12 (wrapI (n7 + 1))
      else
        some (.v (.cell (.sl 1 l6))) : Option AV) = some r) : spec_consOf_L0 l4 n5 l6 n7 = some r :=
  GL_le (X := X_spec_consOf) (n := 100000) (by kernel_rfl) (by kernel_rfl : (X_spec_consOf.fn.body.bind fun c => locL 0 c []) = some (.loop (loopOf (X_spec_consOf.fn.body.bind fun c => locL 0 c [])), ksOf (X_spec_consOf.fn.body.bind fun c => locL 0 c []))) (Eq.trans (by kernel_rfl) h)
theorem spec_consOf_le {l1 : List (List AC)} {n2 : Int} {r : AV} (h : (
    callR (spec_inRange [.cell (.int n2), .cell (.int 1), .cell (.int ((l1.length : Nat) : Int))]) false [(false, [.bool false])] fun b3 =>
      bif (!b3) then
        some (.v (.cell (.sl 1 [])))
      else
        spec_consOf_L0 l1 n2 [] 0 : Option AV) = some r) : spec_consOf [.cell (.sl 3 l1), .cell (.int n2)] = some r :=
  V_le (X := X_spec_consOf) (n := 100000) (c := cOf Tryz.f110) (by kernel_rfl) Tryz.func110 (by kernel_rfl) (of_decide_eq_true (by kernel_rfl)) (Eq.trans (by kernel_rfl) h)
noncomputable def X_spec_extend : Ctx := { P := Tryz.prog, L := lay, F := sig.has, E := ext, fn := Tryz.f111, lv := [], jv := [], tp := [] }
theorem spec_extend_le {l1 : List (List AC)} {l2 : List (List AC)} {r : AV} (h : (
    callR (spec_copyInts [.cell (.sl 1 l1)]) false [(false, [.sl 1 []])] fun l3 =>
      appR l3 l2 fun l4 =>
      some (.v (.cell (.sl 1 l4))) : Option AV) = some r) : spec_extend [.cell (.sl 1 l1), .cell (.sl 1 l2)] = some r :=
  V_le (X := X_spec_extend) (n := 100000) (c := cOf Tryz.f111) (by kernel_rfl) Tryz.func111 (by kernel_rfl) (of_decide_eq_true (by kernel_rfl)) (Eq.trans (by kernel_rfl) h)
noncomputable def X_spec_arrowOf : Ctx := { P := Tryz.prog, L := lay, F := sig.has, E := ext, fn := Tryz.f112, lv := [(0, [0, 1, 2, 7])], jv := [], tp := [] }
noncomputable def spec_arrowOf_L0 (l4 : List (List AC)) (n5 : Int) (n6 : Int) (n7 : Int) : Option AV := GL X_spec_arrowOf 0 [(0, .v (.cell (.sl 3 l4))), (1, .v (.cell (.int n5))), (2, .v (.cell (.int n6))), (7, .v (.cell (.int n7)))]
theorem spec_arrowOf_L0_le {l4 : List (List AC)} {n5 : Int} {n6 : Int} {n7 : Int} {r : AV} (h : (
    bif (decide (n7 < ((l4.length : Nat) : Int))) then
        atR_ l4 n7 [.int 0, .int 0, .sl 1 []] fun n8 n9 l10 =>
        bif (((l10.length : Nat) : Int) == 0) then
          atR_ l4 n7 [.int 0, .int 0, .sl 1 []] fun n11 n12 l13 =>
          bif (n11 == n5) then
            atR_ l4 n7 [.int 0, .int 0, .sl 1 []] fun n14 n15 l16 =>
            bif (n15 == n6) then
              some (.v (.cell (.int (wrapI (n7 + 1)))))
            else
              spec_arrowOf_L0 l4 n5 n6 (wrapI (n7 + 1))
          else
            spec_arrowOf_L0 l4 n5 n6 (wrapI (n7 + 1))
        else
          spec_arrowOf_L0 l4 n5 n6 (wrapI (n7 + 1))
      else
        some (.v (.cell (.int (-1)))) : Option AV) = some r) : spec_arrowOf_L0 l4 n5 n6 n7 = some r :=
  GL_le (X := X_spec_arrowOf) (n := 100000) (by kernel_rfl) (by kernel_rfl : (X_spec_arrowOf.fn.body.bind fun c => locL 0 c []) = some (.loop (loopOf (X_spec_arrowOf.fn.body.bind fun c => locL 0 c [])), ksOf (X_spec_arrowOf.fn.body.bind fun c => locL 0 c []))) (Eq.trans (by kernel_rfl) h)
theorem spec_arrowOf_le {l1 : List (List AC)} {n2 : Int} {n3 : Int} {r : AV} (h : (
    spec_arrowOf_L0 l1 n2 n3 0 : Option AV) = some r) : spec_arrowOf [.cell (.sl 3 l1), .cell (.int n2), .cell (.int n3)] = some r :=
  V_le (X := X_spec_arrowOf) (n := 100000) (c := cOf Tryz.f112) (by kernel_rfl) Tryz.func112 (by kernel_rfl) (of_decide_eq_true (by kernel_rfl)) (Eq.trans (by kernel_rfl) h)
noncomputable def X_laws_toCon : Ctx := { P := Tryz.prog, L := lay, F := sig.has, E := ext, fn := Tryz.f113, lv := [], jv := [], tp := [] }
theorem laws_toCon_le {l1 : List (List AC)} {r : AV} (h : (
    callR (laws_toIntS [.cell (.sl 1 l1)]) false [(false, [.sl 1 []])] fun l2 =>
      some (.v (.agg [.sl 1 l2])) : Option AV) = some r) : laws_toCon [.agg [.sl 1 l1]] = some r :=
  V_le (X := X_laws_toCon) (n := 100000) (c := cOf Tryz.f113) (by kernel_rfl) Tryz.func113 (by kernel_rfl) (of_decide_eq_true (by kernel_rfl)) (Eq.trans (by kernel_rfl) h)
noncomputable def X_impl_validDecl : Ctx := { P := Tryz.prog, L := lay, F := sig.has, E := ext, fn := Tryz.f114, lv := [], jv := [], tp := [] }
theorem impl_validDecl_le {l1 : List (List AC)} {n2 : Int} {r : AV} (h : (
    atR_ l1 n2 [.int 0, .int 0, .sl 1 []] fun n3 n4 l5 =>
      bif (decide (((l5.length : Nat) : Int) > 0)) then
        bif (n3 == 0) then
          bif (n4 == 0) then
            callR (impl_validCons [.cell (.sl 3 l1), .cell (.sl 1 l5)]) false [(false, [.bool false])] fun b6 =>
            some (.v (.cell (.bool b6)))
          else
            some (.v (.cell (.bool false)))
        else
          some (.v (.cell (.bool false)))
      else
        callR (impl_isType [.cell (.sl 3 l1), .cell (.int n3)]) false [(false, [.bool false])] fun b7 =>
        bif b7 then
          callR (impl_isType [.cell (.sl 3 l1), .cell (.int n4)]) false [(false, [.bool false])] fun b8 =>
          bif b8 then
            cutR l1 0 n2 fun l9 =>
            callR (impl_arrowBetween [.cell (.sl 3 l9), .cell (.int n3), .cell (.int n4)]) false [(false, [.int 0])] fun n10 =>
            some (.v (.cell (.bool (decide (n10 < 0)))))
          else
            some (.v (.cell (.bool false)))
        else
          some (.v (.cell (.bool false))) : Option AV) = some r) : impl_validDecl [.cell (.sl 3 l1), .cell (.int n2)] = some r :=
  V_le (X := X_impl_validDecl) (n := 100000) (c := cOf Tryz.f114) (by kernel_rfl) Tryz.func114 (by kernel_rfl) (of_decide_eq_true (by kernel_rfl)) (Eq.trans (by kernel_rfl) h)
noncomputable def X_impl_choicesOf : Ctx := { P := Tryz.prog, L := lay, F := sig.has, E := ext, fn := Tryz.f115, lv := [], jv := [], tp := [] }
theorem impl_choicesOf_le {l1 : List (List AC)} {n2 : Int} {n3 : Int} {n4 : Int} {l5 : List (List AC)} {l6 : List (List AC)} {r : AV} (h : (
    bif (n2 == 7) then
        bif (n3 == 0) then
          some (.v (.cell (.sl 1 [[.sl 1 []], [.sl 1 []]])))
        else
          bif (n2 == 8) then
            callR (impl_isData [.cell (.sl 3 l1), .cell (.int n3)]) false [(false, [.bool false])] fun b7 =>
            bif b7 then
              atR_ l1 (wrapI (n3 - 1)) [.int 0, .int 0, .sl 1 []] fun n8 n9 l10 =>
              some (.v (.cell (.sl 1 l10)))
            else
              some (.v (.cell (.sl 1 [])))
          else
            some (.v (.cell (.sl 1 [])))
      else
        bif (n2 == 8) then
          callR (impl_isData [.cell (.sl 3 l1), .cell (.int n3)]) false [(false, [.bool false])] fun b11 =>
          bif b11 then
            atR_ l1 (wrapI (n3 - 1)) [.int 0, .int 0, .sl 1 []] fun n12 n13 l14 =>
            some (.v (.cell (.sl 1 l14)))
          else
            some (.v (.cell (.sl 1 [])))
        else
          some (.v (.cell (.sl 1 []))) : Option AV) = some r) : impl_choicesOf [.cell (.sl 3 l1), .agg [.int n2, .int n3, .int n4, .sl 1 l5, .sl 2 l6]] = some r :=
  V_le (X := X_impl_choicesOf) (n := 100000) (c := cOf Tryz.f115) (by kernel_rfl) Tryz.func115 (by kernel_rfl) (of_decide_eq_true (by kernel_rfl)) (Eq.trans (by kernel_rfl) h)
noncomputable def X_impl_hasRoutine : Ctx := { P := Tryz.prog, L := lay, F := sig.has, E := ext, fn := Tryz.f116, lv := [], jv := [], tp := [] }
theorem impl_hasRoutine_le {l1 : List (List AC)} {l2 : List (List AC)} {n3 : Int} {r : AV} (h : (
    bif (decide (n3 ≥ 0)) then
        some (.v (.cell (.bool (decide (n3 < ((l2.length : Nat) : Int))))))
      else
        some (.v (.cell (.bool false))) : Option AV) = some r) : impl_hasRoutine [.agg [.sl 3 l1, .sl 5 l2], .cell (.int n3)] = some r :=
  V_le (X := X_impl_hasRoutine) (n := 100000) (c := cOf Tryz.f116) (by kernel_rfl) Tryz.func116 (by kernel_rfl) (of_decide_eq_true (by kernel_rfl)) (Eq.trans (by kernel_rfl) h)
noncomputable def X_impl_resultOf : Ctx := { P := Tryz.prog, L := lay, F := sig.has, E := ext, fn := Tryz.f117, lv := [], jv := [], tp := [] }
theorem impl_resultOf_le {l1 : List (List AC)} {l2 : List (List AC)} {n3 : Int} {n4 : Int} {l5 : List (List AC)} {r : AV} (h : (
    bif (n3 == 0) then
        bif (decide (n4 ≥ (-999))) then
          bif (decide (n4 ≤ 999)) then
            callR (impl_typeWhen [.cell (.bool (((l5.length : Nat) : Int) == 0)), .cell (.int 0)]) false [(false, [.int 0])] fun n6 =>
            some (.v (.cell (.int n6)))
          else
            callR (impl_typeWhen [.cell (.bool false), .cell (.int 0)]) false [(false, [.int 0])] fun n7 =>
            some (.v (.cell (.int n7)))
        else
          callR (impl_typeWhen [.cell (.bool false), .cell (.int 0)]) false [(false, [.int 0])] fun n8 =>
          some (.v (.cell (.int n8)))
      else
        bif (n3 == 1) then
          bif (n3 == 1) then
            bif (n4 == 0) then
              callR (impl_sameInts [.cell (.sl 1 l5), .cell (.sl 1 [[.int 0], [.int 0]])]) false [(false, [.bool false])] fun b9 =>
              callR (impl_typeWhen [.cell (.bool b9), .cell (.int 0)]) false [(false, [.int 0])] fun n10 =>
              some (.v (.cell (.int n10)))
            else
              callR (impl_typeWhen [.cell (.bool false), .cell (.int 0)]) false [(false, [.int 0])] fun n11 =>
              some (.v (.cell (.int n11)))
          else
            bif (n3 == 5) then
              bif (n4 == 0) then
                callR (impl_sameInts [.cell (.sl 1 l5), .cell (.sl 1 [[.int 0]])]) false [(false, [.bool false])] fun b12 =>
                callR (impl_typeWhen [.cell (.bool b12), .cell (.int 0)]) false [(false, [.int 0])] fun n13 =>
                some (.v (.cell (.int n13)))
              else
                callR (impl_typeWhen [.cell (.bool false), .cell (.int 0)]) false [(false, [.int 0])] fun n14 =>
                some (.v (.cell (.int n14)))
            else
              bif (n3 == 6) then
                callR (impl_resultOfCon [.cell (.sl 3 l1), .cell (.int n4), .cell (.sl 1 l5)]) false [(false, [.int 0])] fun n15 =>
                some (.v (.cell (.int n15)))
              else
                bif (n3 == 9) then
                  callR (impl_resultOfCall [.agg [.sl 3 l1, .sl 5 l2], .cell (.int n4), .cell (.sl 1 l5)]) false [(false, [.int 0])] fun n16 =>
                  some (.v (.cell (.int n16)))
                else
                  bif (n3 == 10) then
                    callR (impl_resultOfClose [.agg [.sl 3 l1, .sl 5 l2], .cell (.int n4), .cell (.sl 1 l5)]) false [(false, [.int 0])] fun n17 =>
                    some (.v (.cell (.int n17)))
                  else
                    bif (n3 == 11) then
                      bif (n4 != 0) then
                        some (.v (.cell (.int (-1))))
                      else
                        callR (impl_resultOfApply [.cell (.sl 3 l1), .cell (.sl 1 l5)]) false [(false, [.int 0])] fun n18 =>
                        some (.v (.cell (.int n18)))
                    else
                      some (.v (.cell (.int (-1))))
        else
          bif (n3 == 2) then
            bif (n3 == 2) then
              bif (n4 == 0) then
                callR (impl_sameInts [.cell (.sl 1 l5), .cell (.sl 1 [[.int 0], [.int 0]])]) false [(false, [.bool false])] fun b19 =>
                callR (impl_typeWhen [.cell (.bool b19), .cell (.int 0)]) false [(false, [.int 0])] fun n20 =>
                some (.v (.cell (.int n20)))
              else
                callR (impl_typeWhen [.cell (.bool false), .cell (.int 0)]) false [(false, [.int 0])] fun n21 =>
                some (.v (.cell (.int n21)))
            else
              bif (n3 == 5) then
                bif (n4 == 0) then
                  callR (impl_sameInts [.cell (.sl 1 l5), .cell (.sl 1 [[.int 0]])]) false [(false, [.bool false])] fun b22 =>
                  callR (impl_typeWhen [.cell (.bool b22), .cell (.int 0)]) false [(false, [.int 0])] fun n23 =>
                  some (.v (.cell (.int n23)))
                else
                  callR (impl_typeWhen [.cell (.bool false), .cell (.int 0)]) false [(false, [.int 0])] fun n24 =>
                  some (.v (.cell (.int n24)))
              else
                bif (n3 == 6) then
                  callR (impl_resultOfCon [.cell (.sl 3 l1), .cell (.int n4), .cell (.sl 1 l5)]) false [(false, [.int 0])] fun n25 =>
                  some (.v (.cell (.int n25)))
                else
                  bif (n3 == 9) then
                    callR (impl_resultOfCall [.agg [.sl 3 l1, .sl 5 l2], .cell (.int n4), .cell (.sl 1 l5)]) false [(false, [.int 0])] fun n26 =>
                    some (.v (.cell (.int n26)))
                  else
                    bif (n3 == 10) then
                      callR (impl_resultOfClose [.agg [.sl 3 l1, .sl 5 l2], .cell (.int n4), .cell (.sl 1 l5)]) false [(false, [.int 0])] fun n27 =>
                      some (.v (.cell (.int n27)))
                    else
                      bif (n3 == 11) then
                        bif (n4 != 0) then
                          some (.v (.cell (.int (-1))))
                        else
                          callR (impl_resultOfApply [.cell (.sl 3 l1), .cell (.sl 1 l5)]) false [(false, [.int 0])] fun n28 =>
                          some (.v (.cell (.int n28)))
                      else
                        some (.v (.cell (.int (-1))))
          else
            bif (n3 == 3) then
              bif (n3 == 3) then
                bif (n4 == 0) then
                  callR (impl_sameInts [.cell (.sl 1 l5), .cell (.sl 1 [[.int 0], [.int 0]])]) false [(false, [.bool false])] fun b29 =>
                  callR (impl_typeWhen [.cell (.bool b29), .cell (.int 0)]) false [(false, [.int 0])] fun n30 =>
                  some (.v (.cell (.int n30)))
                else
                  callR (impl_typeWhen [.cell (.bool false), .cell (.int 0)]) false [(false, [.int 0])] fun n31 =>
                  some (.v (.cell (.int n31)))
              else
                bif (n3 == 5) then
                  bif (n4 == 0) then
                    callR (impl_sameInts [.cell (.sl 1 l5), .cell (.sl 1 [[.int 0]])]) false [(false, [.bool false])] fun b32 =>
                    callR (impl_typeWhen [.cell (.bool b32), .cell (.int 0)]) false [(false, [.int 0])] fun n33 =>
                    some (.v (.cell (.int n33)))
                  else
                    callR (impl_typeWhen [.cell (.bool false), .cell (.int 0)]) false [(false, [.int 0])] fun n34 =>
                    some (.v (.cell (.int n34)))
                else
                  bif (n3 == 6) then
                    callR (impl_resultOfCon [.cell (.sl 3 l1), .cell (.int n4), .cell (.sl 1 l5)]) false [(false, [.int 0])] fun n35 =>
                    some (.v (.cell (.int n35)))
                  else
                    bif (n3 == 9) then
                      callR (impl_resultOfCall [.agg [.sl 3 l1, .sl 5 l2], .cell (.int n4), .cell (.sl 1 l5)]) false [(false, [.int 0])] fun n36 =>
                      some (.v (.cell (.int n36)))
                    else
                      bif (n3 == 10) then
                        callR (impl_resultOfClose [.agg [.sl 3 l1, .sl 5 l2], .cell (.int n4), .cell (.sl 1 l5)]) false [(false, [.int 0])] fun n37 =>
                        some (.v (.cell (.int n37)))
                      else
                        bif (n3 == 11) then
                          bif (n4 != 0) then
                            some (.v (.cell (.int (-1))))
                          else
                            callR (impl_resultOfApply [.cell (.sl 3 l1), .cell (.sl 1 l5)]) false [(false, [.int 0])] fun n38 =>
                            some (.v (.cell (.int n38)))
                        else
                          some (.v (.cell (.int (-1))))
            else
              bif (n3 == 4) then
                bif (n4 == 0) then
                  callR (impl_sameInts [.cell (.sl 1 l5), .cell (.sl 1 [[.int 0], [.int 0]])]) false [(false, [.bool false])] fun b39 =>
                  callR (impl_typeWhen [.cell (.bool b39), .cell (.int 0)]) false [(false, [.int 0])] fun n40 =>
                  some (.v (.cell (.int n40)))
                else
                  callR (impl_typeWhen [.cell (.bool false), .cell (.int 0)]) false [(false, [.int 0])] fun n41 =>
                  some (.v (.cell (.int n41)))
              else
                bif (n3 == 5) then
                  bif (n4 == 0) then
                    callR (impl_sameInts [.cell (.sl 1 l5), .cell (.sl 1 [[.int 0]])]) false [(false, [.bool false])] fun b42 =>
                    callR (impl_typeWhen [.cell (.bool b42), .cell (.int 0)]) false [(false, [.int 0])] fun n43 =>
                    some (.v (.cell (.int n43)))
                  else
                    callR (impl_typeWhen [.cell (.bool false), .cell (.int 0)]) false [(false, [.int 0])] fun n44 =>
                    some (.v (.cell (.int n44)))
                else
                  bif (n3 == 6) then
                    callR (impl_resultOfCon [.cell (.sl 3 l1), .cell (.int n4), .cell (.sl 1 l5)]) false [(false, [.int 0])] fun n45 =>
                    some (.v (.cell (.int n45)))
                  else
                    bif (n3 == 9) then
                      callR (impl_resultOfCall [.agg [.sl 3 l1, .sl 5 l2], .cell (.int n4), .cell (.sl 1 l5)]) false [(false, [.int 0])] fun n46 =>
                      some (.v (.cell (.int n46)))
                    else
                      bif (n3 == 10) then
                        callR (impl_resultOfClose [.agg [.sl 3 l1, .sl 5 l2], .cell (.int n4), .cell (.sl 1 l5)]) false [(false, [.int 0])] fun n47 =>
                        some (.v (.cell (.int n47)))
                      else
                        bif (n3 == 11) then
                          bif (n4 != 0) then
                            some (.v (.cell (.int (-1))))
                          else
                            callR (impl_resultOfApply [.cell (.sl 3 l1), .cell (.sl 1 l5)]) false [(false, [.int 0])] fun n48 =>
                            some (.v (.cell (.int n48)))
                        else
                          some (.v (.cell (.int (-1)))) : Option AV) = some r) : impl_resultOf [.agg [.sl 3 l1, .sl 5 l2], .cell (.int n3), .cell (.int n4), .cell (.sl 1 l5)] = some r :=
  V_le (X := X_impl_resultOf) (n := 100000) (c := cOf Tryz.f117) (by kernel_rfl) Tryz.func117 (by kernel_rfl) (of_decide_eq_true (by kernel_rfl)) (Eq.trans (by kernel_rfl) h)
noncomputable def X_laws_eqCon : Ctx := { P := Tryz.prog, L := lay, F := sig.has, E := ext, fn := Tryz.f118, lv := [], jv := [], tp := [] }
theorem laws_eqCon_le {l1 : List (List AC)} {l2 : List (List AC)} {r : AV} (h : (
    callR (laws_eqIntS [.cell (.sl 1 l1), .cell (.sl 1 l2)]) false [(false, [.bool false])] fun b3 =>
      bif (!b3) then
        some (.v (.cell (.bool false)))
      else
        some (.v (.cell (.bool true))) : Option AV) = some r) : laws_eqCon [.agg [.sl 1 l1], .agg [.sl 1 l2]] = some r :=
  V_le (X := X_laws_eqCon) (n := 100000) (c := cOf Tryz.f118) (by kernel_rfl) Tryz.func118 (by kernel_rfl) (of_decide_eq_true (by kernel_rfl)) (Eq.trans (by kernel_rfl) h)
noncomputable def X_impl_validCons : Ctx := { P := Tryz.prog, L := lay, F := sig.has, E := ext, fn := Tryz.f119, lv := [(0, [0, 10, 11, 12])], jv := [], tp := [] }
noncomputable def impl_validCons_L0 (l3 : List (List AC)) (l4 : List (List AC)) (n5 : Int) (n6 : Int) : Option AV := GL X_impl_validCons 0 [(0, .v (.cell (.sl 3 l3))), (10, .v (.cell (.sl 1 l4))), (11, .v (.cell (.int n5))), (12, .v (.cell (.int n6)))]
theorem impl_validCons_L0_le {l3 : List (List AC)} {l4 : List (List AC)} {n5 : Int} {n6 : Int} {r : AV} (h : (
    bif (decide (n6 < n5)) then
        atR_ l4 n6 [.sl 1 []] fun l7 =>
        bif (decide (((l7.length : Nat) : Int) > 3)) then
          some (.v (.cell (.bool false)))
        else
          callR (impl_areTypes [.cell (.sl 3 l3), .cell (.sl 1 l7)]) false [(false, [.bool false])] fun b8 =>
          bif (!b8) then
            some (.v (.cell (.bool false)))
          else
            impl_validCons_L0 l3 l4 n5 (wrapI (n6 + 1))
      else
        some (.v (.cell (.bool true))) : Option AV) = some r) : impl_validCons_L0 l3 l4 n5 n6 = some r :=
  GL_le (X := X_impl_validCons) (n := 100000) (by kernel_rfl) (by kernel_rfl : (X_impl_validCons.fn.body.bind fun c => locL 0 c []) = some (.loop (loopOf (X_impl_validCons.fn.body.bind fun c => locL 0 c [])), ksOf (X_impl_validCons.fn.body.bind fun c => locL 0 c []))) (Eq.trans (by kernel_rfl) h)
theorem impl_validCons_le {l1 : List (List AC)} {l2 : List (List AC)} {r : AV} (h : (
    bif (decide (((l2.length : Nat) : Int) > 3)) then
        some (.v (.cell (.bool false)))
      else
        impl_validCons_L0 l1 l2 ((l2.length : Nat) : Int) 0 : Option AV) = some r) : impl_validCons [.cell (.sl 3 l1), .cell (.sl 1 l2)] = some r :=
  V_le (X := X_impl_validCons) (n := 100000) (c := cOf Tryz.f119) (by kernel_rfl) Tryz.func119 (by kernel_rfl) (of_decide_eq_true (by kernel_rfl)) (Eq.trans (by kernel_rfl) h)
noncomputable def X_impl_arrowBetween : Ctx := { P := Tryz.prog, L := lay, F := sig.has, E := ext, fn := Tryz.f120, lv := [(0, [1, 2, 9, 10, 11])], jv := [], tp := [] }
noncomputable def impl_arrowBetween_L0 (n4 : Int) (n5 : Int) (l6 : List (List AC)) (n7 : Int) (n8 : Int) : Option AV := GL X_impl_arrowBetween 0 [(1, .v (.cell (.int n4))), (2, .v (.cell (.int n5))), (9, .v (.cell (.sl 3 l6))), (10, .v (.cell (.int n7))), (11, .v (.cell (.int n8)))]
theorem impl_arrowBetween_L0_le {n4 : Int} {n5 : Int} {l6 : List (List AC)} {n7 : Int} {n8 : Int} {r : AV} (h : (
    bif (decide (n8 < n7)) then
        atR_ l6 n8 [.int 0, .int 0, .sl 1 []] fun n9 n10 l11 =>
        bif (((l11.length : Nat) : Int) == 0) then
          bif (n9 == n4) then
            bif (n10 == n5) then
              some (.v (.cell (.int (wrapI (n8 + 1)))))
            else
              impl_arrowBetween_L0 n4 n5 l6 n7 (wrapI (n8 + 1))
          else
            impl_arrowBetween_L0 n4 n5 l6 n7 (wrapI (n8 + 1))
        else
          impl_arrowBetween_L0 n4 n5 l6 n7 (wrapI (n8 + 1))
      else
        some (.v (.cell (.int (-1)))) : Option AV) = some r) : impl_arrowBetween_L0 n4 n5 l6 n7 n8 = some r :=
  GL_le (X := X_impl_arrowBetween) (n := 100000) (by kernel_rfl) (by kernel_rfl : (X_impl_arrowBetween.fn.body.bind fun c => locL 0 c []) = some (.loop (loopOf (X_impl_arrowBetween.fn.body.bind fun c => locL 0 c [])), ksOf (X_impl_arrowBetween.fn.body.bind fun c => locL 0 c []))) (Eq.trans (by kernel_rfl) h)
theorem impl_arrowBetween_le {l1 : List (List AC)} {n2 : Int} {n3 : Int} {r : AV} (h : (
    impl_arrowBetween_L0 n2 n3 l1 ((l1.length : Nat) : Int) 0 : Option AV) = some r) : impl_arrowBetween [.cell (.sl 3 l1), .cell (.int n2), .cell (.int n3)] = some r :=
  V_le (X := X_impl_arrowBetween) (n := 100000) (c := cOf Tryz.f120) (by kernel_rfl) Tryz.func120 (by kernel_rfl) (of_decide_eq_true (by kernel_rfl)) (Eq.trans (by kernel_rfl) h)
noncomputable def X_impl_typeWhen : Ctx := { P := Tryz.prog, L := lay, F := sig.has, E := ext, fn := Tryz.f121, lv := [], jv := [], tp := [] }
theorem impl_typeWhen_le {b1 : Bool} {n2 : Int} {r : AV} (h : (
    bif b1 then
        some (.v (.cell (.int n2)))
      else
        some (.v (.cell (.int (-1)))) : Option AV) = some r) : impl_typeWhen [.cell (.bool b1), .cell (.int n2)] = some r :=
  V_le (X := X_impl_typeWhen) (n := 100000) (c := cOf Tryz.f121) (by kernel_rfl) Tryz.func121 (by kernel_rfl) (of_decide_eq_true (by kernel_rfl)) (Eq.trans (by kernel_rfl) h)
noncomputable def X_impl_sameInts : Ctx := { P := Tryz.prog, L := lay, F := sig.has, E := ext, fn := Tryz.f122, lv := [(0, [0, 1, 12, 13])], jv := [], tp := [] }
noncomputable def impl_sameInts_L0 (l3 : List (List AC)) (l4 : List (List AC)) (n5 : Int) (n6 : Int) : Option AV := GL X_impl_sameInts 0 [(0, .v (.cell (.sl 1 l3))), (1, .v (.cell (.sl 1 l4))), (12, .v (.cell (.int n5))), (13, .v (.cell (.int n6)))]
theorem impl_sameInts_L0_le {l3 : List (List AC)} {l4 : List (List AC)} {n5 : Int} {n6 : Int} {r : AV} (h : (
    bif (decide (n6 < n5)) then
        atR_ l3 n6 [.int 0] fun n7 =>
        atR_ l4 n6 [.int 0] fun n8 =>
        bif (n7 != n8) then
          some (.v (.cell (.bool false)))
        else
          impl_sameInts_L0 l3 l4 n5 (wrapI (n6 + 1))
      else
        some (.v (.cell (.bool true))) : Option AV) = some r) : impl_sameInts_L0 l3 l4 n5 n6 = some r :=
  GL_le (X := X_impl_sameInts) (n := 100000) (by kernel_rfl) (by kernel_rfl : (X_impl_sameInts.fn.body.bind fun c => locL 0 c []) = some (.loop (loopOf (X_impl_sameInts.fn.body.bind fun c => locL 0 c [])), ksOf (X_impl_sameInts.fn.body.bind fun c => locL 0 c []))) (Eq.trans (by kernel_rfl) h)
theorem impl_sameInts_le {l1 : List (List AC)} {l2 : List (List AC)} {r : AV} (h : (
    bif (((l1.length : Nat) : Int) != ((l2.length : Nat) : Int)) then
        some (.v (.cell (.bool false)))
      else
        impl_sameInts_L0 l1 l2 ((l1.length : Nat) : Int) 0 : Option AV) = some r) : impl_sameInts [.cell (.sl 1 l1), .cell (.sl 1 l2)] = some r :=
  V_le (X := X_impl_sameInts) (n := 100000) (c := cOf Tryz.f122) (by kernel_rfl) Tryz.func122 (by kernel_rfl) (of_decide_eq_true (by kernel_rfl)) (Eq.trans (by kernel_rfl) h)
noncomputable def X_impl_resultOfCon : Ctx := { P := Tryz.prog, L := lay, F := sig.has, E := ext, fn := Tryz.f123, lv := [], jv := [], tp := [] }
theorem impl_resultOfCon_le {l1 : List (List AC)} {n2 : Int} {l3 : List (List AC)} {r : AV} (h : (
    callR (impl_typeOfCon [.cell (.sl 3 l1), .cell (.int n2)]) false [(false, [.int 0])] fun n4 =>
      bif (decide (n4 < 0)) then
        some (.v (.cell (.int (-1))))
      else
        callR (impl_fieldsOfCon [.cell (.sl 3 l1), .cell (.int n2)]) false [(false, [.sl 1 []])] fun l5 =>
        callR (impl_sameInts [.cell (.sl 1 l3), .cell (.sl 1 l5)]) false [(false, [.bool false])] fun b6 =>
        callR (impl_typeWhen [.cell (.bool b6), .cell (.int n4)]) false [(false, [.int 0])] fun n7 =>
        some (.v (.cell (.int n7))) : Option AV) = some r) : impl_resultOfCon [.cell (.sl 3 l1), .cell (.int n2), .cell (.sl 1 l3)] = some r :=
  V_le (X := X_impl_resultOfCon) (n := 100000) (c := cOf Tryz.f123) (by kernel_rfl) Tryz.func123 (by kernel_rfl) (of_decide_eq_true (by kernel_rfl)) (Eq.trans (by kernel_rfl) h)
noncomputable def X_impl_resultOfCall : Ctx := { P := Tryz.prog, L := lay, F := sig.has, E := ext, fn := Tryz.f124, lv := [], jv := [], tp := [] }
theorem impl_resultOfCall_le {l1 : List (List AC)} {l2 : List (List AC)} {n3 : Int} {l4 : List (List AC)} {r : AV} (h : (
    callR (impl_hasFunc [.agg [.sl 3 l1, .sl 5 l2], .cell (.int n3)]) false [(false, [.bool false])] fun b5 =>
      bif (!b5) then
        some (.v (.cell (.int (-1))))
      else
        atR_ l2 n3 [.sl 1 [], .int 0, .int 0, .int 0, .sl 3 []] fun l6 n7 n8 n9 l10 =>
        callR (impl_sameInts [.cell (.sl 1 l4), .cell (.sl 1 l6)]) false [(false, [.bool false])] fun b11 =>
        atR_ l2 n3 [.sl 1 [], .int 0, .int 0, .int 0, .sl 3 []] fun l12 n13 n14 n15 l16 =>
        callR (impl_typeWhen [.cell (.bool b11), .cell (.int n13)]) false [(false, [.int 0])] fun n17 =>
        some (.v (.cell (.int n17))) : Option AV) = some r) : impl_resultOfCall [.agg [.sl 3 l1, .sl 5 l2], .cell (.int n3), .cell (.sl 1 l4)] = some r :=
  V_le (X := X_impl_resultOfCall) (n := 100000) (c := cOf Tryz.f124) (by kernel_rfl) Tryz.func124 (by kernel_rfl) (of_decide_eq_true (by kernel_rfl)) (Eq.trans (by kernel_rfl) h)
noncomputable def X_impl_resultOfClose : Ctx := { P := Tryz.prog, L := lay, F := sig.has, E := ext, fn := Tryz.f125, lv := [], jv := [], tp := [] }
theorem impl_resultOfClose_le {l1 : List (List AC)} {l2 : List (List AC)} {n3 : Int} {l4 : List (List AC)} {r : AV} (h : (
    callR (impl_hasFunc [.agg [.sl 3 l1, .sl 5 l2], .cell (.int n3)]) false [(false, [.bool false])] fun b5 =>
      bif (!b5) then
        some (.v (.cell (.int (-1))))
      else
        atR_ l2 n3 [.sl 1 [], .int 0, .int 0, .int 0, .sl 3 []] fun l6 n7 n8 n9 l10 =>
        bif (((l6.length : Nat) : Int) == 0) then
          some (.v (.cell (.int (-1))))
        else
          atR_ l2 n3 [.sl 1 [], .int 0, .int 0, .int 0, .sl 3 []] fun l11 n12 n13 n14 l15 =>
          cutR l11 0 (wrapI (((l11.length : Nat) : Int) - 1)) fun l16 =>
          callR (impl_sameInts [.cell (.sl 1 l4), .cell (.sl 1 l16)]) false [(false, [.bool false])] fun b17 =>
          atR_ l11 (wrapI (((l11.length : Nat) : Int) - 1)) [.int 0] fun n18 =>
          atR_ l2 n3 [.sl 1 [], .int 0, .int 0, .int 0, .sl 3 []] fun l19 n20 n21 n22 l23 =>
          callR (impl_arrowBetween [.cell (.sl 3 l1), .cell (.int n18), .cell (.int n20)]) false [(false, [.int 0])] fun n24 =>
          callR (impl_typeWhen [.cell (.bool b17), .cell (.int n24)]) false [(false, [.int 0])] fun n25 =>
          some (.v (.cell (.int n25))) : Option AV) = some r) : impl_resultOfClose [.agg [.sl 3 l1, .sl 5 l2], .cell (.int n3), .cell (.sl 1 l4)] = some r :=
  V_le (X := X_impl_resultOfClose) (n := 100000) (c := cOf Tryz.f125) (by kernel_rfl) Tryz.func125 (by kernel_rfl) (of_decide_eq_true (by kernel_rfl)) (Eq.trans (by kernel_rfl) h)
noncomputable def X_impl_resultOfApply : Ctx := { P := Tryz.prog, L := lay, F := sig.has, E := ext, fn := Tryz.f126, lv := [], jv := [], tp := [] }
theorem impl_resultOfApply_le {l1 : List (List AC)} {l2 : List (List AC)} {r : AV} (h : (
    bif (((l2.length : Nat) : Int) != 2) then
        some (.v (.cell (.int (-1))))
      else
        atR_ l2 0 [.int 0] fun n3 =>
        callR (impl_isArrow [.cell (.sl 3 l1), .cell (.int n3)]) false [(false, [.bool false])] fun b4 =>
        bif (!b4) then
          some (.v (.cell (.int (-1))))
        else
          atR_ l2 0 [.int 0] fun n5 =>
          atR_ l1 (wrapI (n5 - 1)) [.int 0, .int 0, .sl 1 []] fun n6 n7 l8 =>
          atR_ l2 1 [.int 0] fun n9 =>
          callR (impl_typeWhen [.cell (.bool (n9 == n6)), .cell (.int n7)]) false [(false, [.int 0])] fun n10 =>
          some (.v (.cell (.int n10))) : Option AV) = some r) : impl_resultOfApply [.cell (.sl 3 l1), .cell (.sl 1 l2)] = some r :=
  V_le (X := X_impl_resultOfApply) (n := 100000) (c := cOf Tryz.f126) (by kernel_rfl) Tryz.func126 (by kernel_rfl) (of_decide_eq_true (by kernel_rfl)) (Eq.trans (by kernel_rfl) h)
noncomputable def X_impl_typeOfCon : Ctx := { P := Tryz.prog, L := lay, F := sig.has, E := ext, fn := Tryz.f127, lv := [(0, [1, 5, 8, 9, 10])], jv := [], tp := [] }
noncomputable def impl_typeOfCon_L0 (n3 : Int) (n4 : Int) (l5 : List (List AC)) (n6 : Int) (n7 : Int) : Option AV := GL X_impl_typeOfCon 0 [(1, .v (.cell (.int n3))), (5, .v (.cell (.int n4))), (8, .v (.cell (.sl 3 l5))), (9, .v (.cell (.int n6))), (10, .v (.cell (.int n7)))]
theorem impl_typeOfCon_L0_le {n3 : Int} {n4 : Int} {l5 : List (List AC)} {n6 : Int} {n7 : Int} {r : AV} (h : (
    bif (decide (n7 < n6)) then
        atR_ l5 n7 [.int 0, .int 0, .sl 1 []] fun n8 n9 l10 =>
        bif (decide (n3 ≥ n4)) then
          bif (decide (n3 < (wrapI (n4 + ((l10.length : Nat) : Int))))) then
            some (.v (.cell (.int (wrapI (n7 + 1)))))
          else
            impl_typeOfCon_L0 n3 (wrapI (n4 + ((l10.length : Nat) : Int))) l5 n6 (wrapI (n7 + 1))
        else
          impl_typeOfCon_L0 n3 (wrapI (n4 + ((l10.length : Nat) : Int))) l5 n6 (wrapI (n7 + 1))
      else
        some (.v (.cell (.int (-1)))) : Option AV) = some r) : impl_typeOfCon_L0 n3 n4 l5 n6 n7 = some r :=
  GL_le (X := X_impl_typeOfCon) (n := 100000) (by kernel_rfl) (by kernel_rfl : (X_impl_typeOfCon.fn.body.bind fun c => locL 0 c []) = some (.loop (loopOf (X_impl_typeOfCon.fn.body.bind fun c => locL 0 c [])), ksOf (X_impl_typeOfCon.fn.body.bind fun c => locL 0 c []))) (Eq.trans (by kernel_rfl) h)
theorem impl_typeOfCon_le {l1 : List (List AC)} {n2 : Int} {r : AV} (h : (
    impl_typeOfCon_L0 n2 0 l1 ((l1.length : Nat) : Int) 0 : Option AV) = some r) : impl_typeOfCon [.cell (.sl 3 l1), .cell (.int n2)] = some r :=
  V_le (X := X_impl_typeOfCon) (n := 100000) (c := cOf Tryz.f127) (by kernel_rfl) Tryz.func127 (by kernel_rfl) (of_decide_eq_true (by kernel_rfl)) (Eq.trans (by kernel_rfl) h)
noncomputable def X_impl_fieldsOfCon : Ctx := { P := Tryz.prog, L := lay, F := sig.has, E := ext, fn := Tryz.f128, lv := [], jv := [], tp := [] }
theorem impl_fieldsOfCon_le {l1 : List (List AC)} {n2 : Int} {r : AV} (h : (
    callR (impl_typeOfCon [.cell (.sl 3 l1), .cell (.int n2)]) false [(false, [.int 0])] fun n3 =>
      atR_ l1 (wrapI (n3 - 1)) [.int 0, .int 0, .sl 1 []] fun n4 n5 l6 =>
      callR (impl_firstCon [.cell (.sl 3 l1), .cell (.int n3)]) false [(false, [.int 0])] fun n7 =>
      atR_ l6 (wrapI (n2 - n7)) [.sl 1 []] fun l8 =>
      some (.v (.cell (.sl 1 l8))) : Option AV) = some r) : impl_fieldsOfCon [.cell (.sl 3 l1), .cell (.int n2)] = some r :=
  V_le (X := X_impl_fieldsOfCon) (n := 100000) (c := cOf Tryz.f128) (by kernel_rfl) Tryz.func128 (by kernel_rfl) (of_decide_eq_true (by kernel_rfl)) (Eq.trans (by kernel_rfl) h)
noncomputable def X_impl_hasFunc : Ctx := { P := Tryz.prog, L := lay, F := sig.has, E := ext, fn := Tryz.f129, lv := [], jv := [], tp := [] }
theorem impl_hasFunc_le {l1 : List (List AC)} {l2 : List (List AC)} {n3 : Int} {r : AV} (h : (
    bif (decide (n3 ≥ 0)) then
        some (.v (.cell (.bool (decide (n3 < ((l2.length : Nat) : Int))))))
      else
        some (.v (.cell (.bool false))) : Option AV) = some r) : impl_hasFunc [.agg [.sl 3 l1, .sl 5 l2], .cell (.int n3)] = some r :=
  V_le (X := X_impl_hasFunc) (n := 100000) (c := cOf Tryz.f129) (by kernel_rfl) Tryz.func129 (by kernel_rfl) (of_decide_eq_true (by kernel_rfl)) (Eq.trans (by kernel_rfl) h)
noncomputable def X_impl_isArrow : Ctx := { P := Tryz.prog, L := lay, F := sig.has, E := ext, fn := Tryz.f130, lv := [], jv := [], tp := [] }
theorem impl_isArrow_le {l1 : List (List AC)} {n2 : Int} {r : AV} (h : (
    bif (decide (n2 > 0)) then
        callR (impl_isType [.cell (.sl 3 l1), .cell (.int n2)]) false [(false, [.bool false])] fun b3 =>
        bif b3 then
          atR_ l1 (wrapI (n2 - 1)) [.int 0, .int 0, .sl 1 []] fun n4 n5 l6 =>
          some (.v (.cell (.bool (((l6.length : Nat) : Int) == 0))))
        else
          some (.v (.cell (.bool false)))
      else
        some (.v (.cell (.bool false))) : Option AV) = some r) : impl_isArrow [.cell (.sl 3 l1), .cell (.int n2)] = some r :=
  V_le (X := X_impl_isArrow) (n := 100000) (c := cOf Tryz.f130) (by kernel_rfl) Tryz.func130 (by kernel_rfl) (of_decide_eq_true (by kernel_rfl)) (Eq.trans (by kernel_rfl) h)
noncomputable def X_impl_firstCon : Ctx := { P := Tryz.prog, L := lay, F := sig.has, E := ext, fn := Tryz.f131, lv := [], jv := [], tp := [] }
theorem impl_firstCon_le {l1 : List (List AC)} {n2 : Int} {r : AV} (h : (
    cutR l1 0 (wrapI (n2 - 1)) fun l3 =>
      callR (impl_countCons [.cell (.sl 3 l3)]) false [(false, [.int 0])] fun n4 =>
      some (.v (.cell (.int n4))) : Option AV) = some r) : impl_firstCon [.cell (.sl 3 l1), .cell (.int n2)] = some r :=
  V_le (X := X_impl_firstCon) (n := 100000) (c := cOf Tryz.f131) (by kernel_rfl) Tryz.func131 (by kernel_rfl) (of_decide_eq_true (by kernel_rfl)) (Eq.trans (by kernel_rfl) h)
noncomputable def X_impl_countCons : Ctx := { P := Tryz.prog, L := lay, F := sig.has, E := ext, fn := Tryz.f132, lv := [(0, [3, 6, 7, 8])], jv := [], tp := [] }
noncomputable def impl_countCons_L0 (n2 : Int) (l3 : List (List AC)) (n4 : Int) (n5 : Int) : Option AV := GL X_impl_countCons 0 [(3, .v (.cell (.int n2))), (6, .v (.cell (.sl 3 l3))), (7, .v (.cell (.int n4))), (8, .v (.cell (.int n5)))]
theorem impl_countCons_L0_le {n2 : Int} {l3 : List (List AC)} {n4 : Int} {n5 : Int} {r : AV} (h : (
    bif (decide (n5 < n4)) then
        atR_ l3 n5 [.int 0, .int 0, .sl 1 []] fun n6 n7 l8 =>
        impl_countCons_L0 (wrapI (n2 + ((l8.length : Nat) : Int))) l3 n4 (wrapI (n5 + 1))
      else
        some (.v (.cell (.int n2))) : Option AV) = some r) : impl_countCons_L0 n2 l3 n4 n5 = some r :=
  GL_le (X := X_impl_countCons) (n := 100000) (by kernel_rfl) (by kernel_rfl : (X_impl_countCons.fn.body.bind fun c => locL 0 c []) = some (.loop (loopOf (X_impl_countCons.fn.body.bind fun c => locL 0 c [])), ksOf (X_impl_countCons.fn.body.bind fun c => locL 0 c []))) (Eq.trans (by kernel_rfl) h)
theorem impl_countCons_le {l1 : List (List AC)} {r : AV} (h : (
    impl_countCons_L0 0 l1 ((l1.length : Nat) : Int) 0 : Option AV) = some r) : impl_countCons [.cell (.sl 3 l1)] = some r :=
  V_le (X := X_impl_countCons) (n := 100000) (c := cOf Tryz.f132) (by kernel_rfl) Tryz.func132 (by kernel_rfl) (of_decide_eq_true (by kernel_rfl)) (Eq.trans (by kernel_rfl) h)
noncomputable def X_spec_stepType : Ctx := { P := Tryz.prog, L := lay, F := sig.has, E := ext, fn := Tryz.f59, lv := [], jv := [(3, [1, 3, 5])], tp := [] }
noncomputable def spec_stepType_J3 (l11 : List (List AC)) (l12 : List (List AC)) (l13 : List (List AC)) (n14 : Int) (n15 : Int) (n16 : Int) (l17 : List (List AC)) (l18 : List (List AC)) : Option AV := GJ X_spec_stepType 3 [(1, .v (.cell (.sl 1 l11))), (3, .box [.sl 3 l12, .sl 5 l13]), (5, .box [.int n14, .int n15, .int n16, .sl 1 l17, .sl 2 l18])]
theorem spec_stepType_J3_le {l11 : List (List AC)} {l12 : List (List AC)} {l13 : List (List AC)} {n14 : Int} {n15 : Int} {n16 : Int} {l17 : List (List AC)} {l18 : List (List AC)} {r : AV} (h : (
    bif (n14 == 0) then
        bif (((l17.length : Nat) : Int) == 0) then
          callR (spec_inRange [.cell (.int n15), .cell (.int (-999)), .cell (.int 999)]) false [(false, [.bool false])] fun b20 =>
          bif b20 then
            some (.v (.cell (.int 0)))
          else
            some (.v (.cell (.int (-1))))
        else
          some (.v (.cell (.int (-1))))
      else
        bif (n14 == 1) then
          bif (n14 == 1) then
            callR (spec_typed [.cell (.sl 1 l11), .cell (.sl 1 l17), .cell (.sl 1 [[.int 0], [.int 0]])]) false [(false, [.bool false])] fun b21 =>
            bif b21 then
              some (.v (.cell (.int 0)))
            else
              some (.v (.cell (.int (-1))))
          else
            bif (n14 == 5) then
              callR (spec_typed [.cell (.sl 1 l11), .cell (.sl 1 l17), .cell (.sl 1 [[.int 0]])]) false [(false, [.bool false])] fun b22 =>
              bif b22 then
                some (.v (.cell (.int 0)))
              else
                some (.v (.cell (.int (-1))))
            else
              bif (n14 == 6) then
                callR (spec_conType [.cell (.sl 3 l12), .cell (.int n15)]) false [(false, [.int 0])] fun n23 =>
                bif (decide (n23 > 0)) then
                  callR (spec_conFields [.cell (.sl 3 l12), .cell (.int n15)]) false [(false, [.sl 1 []])] fun l24 =>
                  callR (spec_typed [.cell (.sl 1 l11), .cell (.sl 1 l17), .cell (.sl 1 l24)]) false [(false, [.bool false])] fun b25 =>
                  bif b25 then
                    callR (spec_conType [.cell (.sl 3 l12), .cell (.int n15)]) false [(false, [.int 0])] fun n26 =>
                    some (.v (.cell (.int n26)))
                  else
                    some (.v (.cell (.int (-1))))
                else
                  some (.v (.cell (.int (-1))))
              else
                bif (n14 == 7) then
                  callR (spec_typed [.cell (.sl 1 l11), .cell (.sl 1 l17), .cell (.sl 1 [[.int 0]])]) false [(false, [.bool false])] fun b27 =>
                  bif b27 then
                    callR (spec_kidsType [.agg [.sl 3 l12, .sl 5 l13], .cell (.sl 1 l11), .agg [.int n14, .int n15, .int n16, .sl 1 l17, .sl 2 l18]]) false [(false, [.int 0])] fun n28 =>
                    some (.v (.cell (.int n28)))
                  else
                    some (.v (.cell (.int (-1))))
                else
                  bif (n14 == 8) then
                    callR (spec_typed [.cell (.sl 1 l11), .cell (.sl 1 l17), .cell (.sl 1 [[.int n15]])]) false [(false, [.bool false])] fun b29 =>
                    bif b29 then
                      callR (spec_kidsType [.agg [.sl 3 l12, .sl 5 l13], .cell (.sl 1 l11), .agg [.int n14, .int n15, .int n16, .sl 1 l17, .sl 2 l18]]) false [(false, [.int 0])] fun n30 =>
                      some (.v (.cell (.int n30)))
                    else
                      some (.v (.cell (.int (-1))))
                  else
                    bif (n14 == 9) then
                      bif (n14 == 9) then
                        callR (spec_routineType [.agg [.sl 3 l12, .sl 5 l13], .cell (.sl 1 l11), .agg [.int n14, .int n15, .int n16, .sl 1 l17, .sl 2 l18]]) false [(false, [.int 0])] fun n31 =>
                        some (.v (.cell (.int n31)))
                      else
                        bif (n14 == 11) then
                          bif (((l17.length : Nat) : Int) == 2) then
                            atR_ l17 0 [.int 0] fun n32 =>
                            callR (spec_inRange [.cell (.int n32), .cell (.int 0), .cell (.int (wrapI (((l11.length : Nat) : Int) - 1)))]) false [(false, [.bool false])] fun b33 =>
                            bif b33 then
                              atR_ l17 0 [.int 0] fun n34 =>
                              atR_ l11 n34 [.int 0] fun n35 =>
                              callR (spec_isArrow [.cell (.sl 3 l12), .cell (.int n35)]) false [(false, [.bool false])] fun b36 =>
                              bif b36 then
                                atR_ l17 0 [.int 0] fun n37 =>
                                atR_ l11 n37 [.int 0] fun n38 =>
                                atR_ l12 (wrapI (n38 - 1)) [.int 0, .int 0, .sl 1 []] fun n39 n40 l41 =>
                                cutR l17 1 ((l17.length : Nat) : Int) fun l42 =>
                                callR (spec_typed [.cell (.sl 1 l11), .cell (.sl 1 l42), .cell (.sl 1 [[.int n39]])]) false [(false, [.bool false])] fun b43 =>
                                bif b43 then
                                  some (.v (.cell (.int n40)))
                                else
                                  some (.v (.cell (.int (-1))))
                              else
                                some (.v (.cell (.int (-1))))
                            else
                              some (.v (.cell (.int (-1))))
                          else
                            some (.v (.cell (.int (-1))))
                        else
                          bif (n14 == 14) then
                            bif (n14 == 14) then
                              callR (spec_countingType [.agg [.sl 3 l12, .sl 5 l13], .cell (.sl 1 l11), .agg [.int n14, .int n15, .int n16, .sl 1 l17, .sl 2 l18]]) false [(false, [.int 0])] fun n44 =>
                              some (.v (.cell (.int n44)))
                            else
                              some (.v (.cell (.int (-1))))
                          else
                            bif (n14 == 15) then
                              bif (n14 == 15) then
                                callR (spec_countingType [.agg [.sl 3 l12, .sl 5 l13], .cell (.sl 1 l11), .agg [.int n14, .int n15, .int n16, .sl 1 l17, .sl 2 l18]]) false [(false, [.int 0])] fun n45 =>
                                some (.v (.cell (.int n45)))
                              else
                                some (.v (.cell (.int (-1))))
                            else
                              bif (n14 == 16) then
                                bif (n14 == 16) then
                                  callR (spec_countingType [.agg [.sl 3 l12, .sl 5 l13], .cell (.sl 1 l11), .agg [.int n14, .int n15, .int n16, .sl 1 l17, .sl 2 l18]]) false [(false, [.int 0])] fun n46 =>
                                  some (.v (.cell (.int n46)))
                                else
                                  some (.v (.cell (.int (-1))))
                              else
                                bif (n14 == 17) then
                                  callR (spec_countingType [.agg [.sl 3 l12, .sl 5 l13], .cell (.sl 1 l11), .agg [.int n14, .int n15, .int n16, .sl 1 l17, .sl 2 l18]]) false [(false, [.int 0])] fun n47 =>
                                  some (.v (.cell (.int n47)))
                                else
                                  some (.v (.cell (.int (-1))))
                    else
                      bif (n14 == 10) then
                        callR (spec_routineType [.agg [.sl 3 l12, .sl 5 l13], .cell (.sl 1 l11), .agg [.int n14, .int n15, .int n16, .sl 1 l17, .sl 2 l18]]) false [(false, [.int 0])] fun n48 =>
                        some (.v (.cell (.int n48)))
                      else
                        bif (n14 == 11) then
                          bif (((l17.length : Nat) : Int) == 2) then
                            atR_ l17 0 [.int 0] fun n49 =>
                            callR (spec_inRange [.cell (.int n49), .cell (.int 0), .cell (.int (wrapI (((l11.length : Nat) : Int) - 1)))]) false [(false, [.bool false])] fun b50 =>
                            bif b50 then
                              atR_ l17 0 [.int 0] fun n51 =>
                              atR_ l11 n51 [.int 0] fun n52 =>
                              callR (spec_isArrow [.cell (.sl 3 l12), .cell (.int n52)]) false [(false, [.bool false])] fun b53 =>
                              bif b53 then
                                atR_ l17 0 [.int 0] fun n54 =>
                                atR_ l11 n54 [.int 0] fun n55 =>
                                atR_ l12 (wrapI (n55 - 1)) [.int 0, .int 0, .sl 1 []] fun n56 n57 l58 =>
                                cutR l17 1 ((l17.length : Nat) : Int) fun l59 =>
                                callR (spec_typed [.cell (.sl 1 l11), .cell (.sl 1 l59), .cell (.sl 1 [[.int n56]])]) false [(false, [.bool false])] fun b60 =>
                                bif b60 then
                                  some (.v (.cell (.int n57)))
                                else
                                  some (.v (.cell (.int (-1))))
                              else
                                some (.v (.cell (.int (-1))))
                            else
                              some (.v (.cell (.int (-1))))
                          else
                            some (.v (.cell (.int (-1))))
                        else
                          bif (n14 == 14) then
                            bif (n14 == 14) then
                              callR (spec_countingType [.agg [.sl 3 l12, .sl 5 l13], .cell (.sl 1 l11), .agg [.int n14, .int n15, .int n16, .sl 1 l17, .sl 2 l18]]) false [(false, [.int 0])] fun n61 =>
                              some (.v (.cell (.int n61)))
                            else
                              some (.v (.cell (.int (-1))))
                          else
                            bif (n14 == 15) then
                              bif (n14 == 15) then
                                callR (spec_countingType [.agg [.sl 3 l12, .sl 5 l13], .cell (.sl 1 l11), .agg [.int n14, .int n15, .int n16, .sl 1 l17, .sl 2 l18]]) false [(false, [.int 0])] fun n62 =>
                                some (.v (.cell (.int n62)))
                              else
                                some (.v (.cell (.int (-1))))
                            else
                              bif (n14 == 16) then
                                bif (n14 == 16) then
                                  callR (spec_countingType [.agg [.sl 3 l12, .sl 5 l13], .cell (.sl 1 l11), .agg [.int n14, .int n15, .int n16, .sl 1 l17, .sl 2 l18]]) false [(false, [.int 0])] fun n63 =>
                                  some (.v (.cell (.int n63)))
                                else
                                  some (.v (.cell (.int (-1))))
                              else
                                bif (n14 == 17) then
                                  callR (spec_countingType [.agg [.sl 3 l12, .sl 5 l13], .cell (.sl 1 l11), .agg [.int n14, .int n15, .int n16, .sl 1 l17, .sl 2 l18]]) false [(false, [.int 0])] fun n64 =>
                                  some (.v (.cell (.int n64)))
                                else
                                  some (.v (.cell (.int (-1))))
        else
          bif (n14 == 2) then
            bif (n14 == 2) then
              callR (spec_typed [.cell (.sl 1 l11), .cell (.sl 1 l17), .cell (.sl 1 [[.int 0], [.int 0]])]) false [(false, [.bool false])] fun b65 =>
              bif b65 then
                some (.v (.cell (.int 0)))
              else
                some (.v (.cell (.int (-1))))
            else
              bif (n14 == 5) then
                callR (spec_typed [.cell (.sl 1 l11), .cell (.sl 1 l17), .cell (.sl 1 [[.int 0]])]) false [(false, [.bool false])] fun b66 =>
                bif b66 then
                  some (.v (.cell (.int 0)))
                else
                  some (.v (.cell (.int (-1))))
              else
                bif (n14 == 6) then
                  callR (spec_conType [.cell (.sl 3 l12), .cell (.int n15)]) false [(false, [.int 0])] fun n67 =>
                  bif (decide (n67 > 0)) then
                    callR (spec_conFields [.cell (.sl 3 l12), .cell (.int n15)]) false [(false, [.sl 1 []])] fun l68 =>
                    callR (spec_typed [.cell (.sl 1 l11), .cell (.sl 1 l17), .cell (.sl 1 l68)]) false [(false, [.bool false])] fun b69 =>
                    bif b69 then
                      callR (spec_conType [.cell (.sl 3 l12), .cell (.int n15)]) false [(false, [.int 0])] fun n70 =>
                      some (.v (.cell (.int n70)))
                    else
                      some (.v (.cell (.int (-1))))
                  else
                    some (.v (.cell (.int (-1))))
                else
                  bif (n14 == 7) then
                    callR (spec_typed [.cell (.sl 1 l11), .cell (.sl 1 l17), .cell (.sl 1 [[.int 0]])]) false [(false, [.bool false])] fun b71 =>
                    bif b71 then
                      callR (spec_kidsType [.agg [.sl 3 l12, .sl 5 l13], .cell (.sl 1 l11), .agg [.int n14, .int n15, .int n16, .sl 1 l17, .sl 2 l18]]) false [(false, [.int 0])] fun n72 =>
                      some (.v (.cell (.int n72)))
                    else
                      some (.v (.cell (.int (-1))))
                  else
                    bif (n14 == 8) then
                      callR (spec_typed [.cell (.sl 1 l11), .cell (.sl 1 l17), .cell (.sl 1 [[.int n15]])]) false [(false, [.bool false])] fun b73 =>
                      bif b73 then
                        callR (spec_kidsType [.agg [.sl 3 l12, .sl 5 l13], .cell (.sl 1 l11), .agg [.int n14, .int n15, .int n16, .sl 1 l17, .sl 2 l18]]) false [(false, [.int 0])] fun n74 =>
                        some (.v (.cell (.int n74)))
                      else
                        some (.v (.cell (.int (-1))))
                    else
                      bif (n14 == 9) then
                        bif (n14 == 9) then
                          callR (spec_routineType [.agg [.sl 3 l12, .sl 5 l13], .cell (.sl 1 l11), .agg [.int n14, .int n15, .int n16, .sl 1 l17, .sl 2 l18]]) false [(false, [.int 0])] fun n75 =>
                          some (.v (.cell (.int n75)))
                        else
                          bif (n14 == 11) then
                            bif (((l17.length : Nat) : Int) == 2) then
                              atR_ l17 0 [.int 0] fun n76 =>
                              callR (spec_inRange [.cell (.int n76), .cell (.int 0), .cell (.int (wrapI (((l11.length : Nat) : Int) - 1)))]) false [(false, [.bool false])] fun b77 =>
                              bif b77 then
                                atR_ l17 0 [.int 0] fun n78 =>
                                atR_ l11 n78 [.int 0] fun n79 =>
                                callR (spec_isArrow [.cell (.sl 3 l12), .cell (.int n79)]) false [(false, [.bool false])] fun b80 =>
                                bif b80 then
                                  atR_ l17 0 [.int 0] fun n81 =>
                                  atR_ l11 n81 [.int 0] fun n82 =>
                                  atR_ l12 (wrapI (n82 - 1)) [.int 0, .int 0, .sl 1 []] fun n83 n84 l85 =>
                                  cutR l17 1 ((l17.length : Nat) : Int) fun l86 =>
                                  callR (spec_typed [.cell (.sl 1 l11), .cell (.sl 1 l86), .cell (.sl 1 [[.int n83]])]) false [(false, [.bool false])] fun b87 =>
                                  bif b87 then
                                    some (.v (.cell (.int n84)))
                                  else
                                    some (.v (.cell (.int (-1))))
                                else
                                  some (.v (.cell (.int (-1))))
                              else
                                some (.v (.cell (.int (-1))))
                            else
                              some (.v (.cell (.int (-1))))
                          else
                            bif (n14 == 14) then
                              bif (n14 == 14) then
                                callR (spec_countingType [.agg [.sl 3 l12, .sl 5 l13], .cell (.sl 1 l11), .agg [.int n14, .int n15, .int n16, .sl 1 l17, .sl 2 l18]]) false [(false, [.int 0])] fun n88 =>
                                some (.v (.cell (.int n88)))
                              else
                                some (.v (.cell (.int (-1))))
                            else
                              bif (n14 == 15) then
                                bif (n14 == 15) then
                                  callR (spec_countingType [.agg [.sl 3 l12, .sl 5 l13], .cell (.sl 1 l11), .agg [.int n14, .int n15, .int n16, .sl 1 l17, .sl 2 l18]]) false [(false, [.int 0])] fun n89 =>
                                  some (.v (.cell (.int n89)))
                                else
                                  some (.v (.cell (.int (-1))))
                              else
                                bif (n14 == 16) then
                                  bif (n14 == 16) then
                                    callR (spec_countingType [.agg [.sl 3 l12, .sl 5 l13], .cell (.sl 1 l11), .agg [.int n14, .int n15, .int n16, .sl 1 l17, .sl 2 l18]]) false [(false, [.int 0])] fun n90 =>
                                    some (.v (.cell (.int n90)))
                                  else
                                    some (.v (.cell (.int (-1))))
                                else
                                  bif (n14 == 17) then
                                    callR (spec_countingType [.agg [.sl 3 l12, .sl 5 l13], .cell (.sl 1 l11), .agg [.int n14, .int n15, .int n16, .sl 1 l17, .sl 2 l18]]) false [(false, [.int 0])] fun n91 =>
                                    some (.v (.cell (.int n91)))
                                  else
                                    some (.v (.cell (.int (-1))))
                      else
                        bif (n14 == 10) then
                          callR (spec_routineType [.agg [.sl 3 l12, .sl 5 l13], .cell (.sl 1 l11), .agg [.int n14, .int n15, .int n16, .sl 1 l17, .sl 2 l18]]) false [(false, [.int 0])] fun n92 =>
                          some (.v (.cell (.int n92)))
                        else
                          bif (n14 == 11) then
                            bif (((l17.length : Nat) : Int) == 2) then
                              atR_ l17 0 [.int 0] fun n93 =>
                              callR (spec_inRange [.cell (.int n93), .cell (.int 0), .cell (.int (wrapI (((l11.length : Nat) : Int) - 1)))]) false [(false, [.bool false])] fun b94 =>
                              bif b94 then
                                atR_ l17 0 [.int 0] fun n95 =>
                                atR_ l11 n95 [.int 0] fun n96 =>
                                callR (spec_isArrow [.cell (.sl 3 l12), .cell (.int n96)]) false [(false, [.bool false])] fun b97 =>
                                bif b97 then
                                  atR_ l17 0 [.int 0] fun n98 =>
                                  atR_ l11 n98 [.int 0] fun n99 =>
                                  atR_ l12 (wrapI (n99 - 1)) [.int 0, .int 0, .sl 1 []] fun n100 n101 l102 =>
                                  cutR l17 1 ((l17.length : Nat) : Int) fun l103 =>
                                  callR (spec_typed [.cell (.sl 1 l11), .cell (.sl 1 l103), .cell (.sl 1 [[.int n100]])]) false [(false, [.bool false])] fun b104 =>
                                  bif b104 then
                                    some (.v (.cell (.int n101)))
                                  else
                                    some (.v (.cell (.int (-1))))
                                else
                                  some (.v (.cell (.int (-1))))
                              else
                                some (.v (.cell (.int (-1))))
                            else
                              some (.v (.cell (.int (-1))))
                          else
                            bif (n14 == 14) then
                              bif (n14 == 14) then
                                callR (spec_countingType [.agg [.sl 3 l12, .sl 5 l13], .cell (.sl 1 l11), .agg [.int n14, .int n15, .int n16, .sl 1 l17, .sl 2 l18]]) false [(false, [.int 0])] fun n105 =>
                                some (.v (.cell (.int n105)))
                              else
                                some (.v (.cell (.int (-1))))
                            else
                              bif (n14 == 15) then
                                bif (n14 == 15) then
                                  callR (spec_countingType [.agg [.sl 3 l12, .sl 5 l13], .cell (.sl 1 l11), .agg [.int n14, .int n15, .int n16, .sl 1 l17, .sl 2 l18]]) false [(false, [.int 0])] fun n106 =>
                                  some (.v (.cell (.int n106)))
                                else
                                  some (.v (.cell (.int (-1))))
                              else
                                bif (n14 == 16) then
                                  bif (n14 == 16) then
                                    callR (spec_countingType [.agg [.sl 3 l12, .sl 5 l13], .cell (.sl 1 l11), .agg [.int n14, .int n15, .int n16, .sl 1 l17, .sl 2 l18]]) false [(false, [.int 0])] fun n107 =>
                                    some (.v (.cell (.int n107)))
                                  else
                                    some (.v (.cell (.int (-1))))
                                else
                                  bif (n14 == 17) then
                                    callR (spec_countingType [.agg [.sl 3 l12, .sl 5 l13], .cell (.sl 1 l11), .agg [.int n14, .int n15, .int n16, .sl 1 l17, .sl 2 l18]]) false [(false, [.int 0])] fun n108 =>
                                    some (.v (.cell (.int n108)))
                                  else
                                    some (.v (.cell (.int (-1))))
          else
            bif (n14 == 3) then
              bif (n14 == 3) then
                callR (spec_typed [.cell (.sl 1 l11), .cell (.sl 1 l17), .cell (.sl 1 [[.int 0], [.int 0]])]) false [(false, [.bool false])] fun b109 =>
                bif b109 then
                  some (.v (.cell (.int 0)))
                else
                  some (.v (.cell (.int (-1))))
              else
                bif (n14 == 5) then
                  callR (spec_typed [.cell (.sl 1 l11), .cell (.sl 1 l17), .cell (.sl 1 [[.int 0]])]) false [(false, [.bool false])] fun b110 =>
                  bif b110 then
                    some (.v (.cell (.int 0)))
                  else
                    some (.v (.cell (.int (-1))))
                else
                  bif (n14 == 6) then
                    callR (spec_conType [.cell (.sl 3 l12), .cell (.int n15)]) false [(false, [.int 0])] fun n111 =>
                    bif (decide (n111 > 0)) then
                      callR (spec_conFields [.cell (.sl 3 l12), .cell (.int n15)]) false [(false, [.sl 1 []])] fun l112 =>
                      callR (spec_typed [.cell (.sl 1 l11), .cell (.sl 1 l17), .cell (.sl 1 l112)]) false [(false, [.bool false])] fun b113 =>
                      bif b113 then
                        callR (spec_conType [.cell (.sl 3 l12), .cell (.int n15)]) false [(false, [.int 0])] fun n114 =>
                        some (.v (.cell (.int n114)))
                      else
                        some (.v (.cell (.int (-1))))
                    else
                      some (.v (.cell (.int (-1))))
                  else
                    bif (n14 == 7) then
                      callR (spec_typed [.cell (.sl 1 l11), .cell (.sl 1 l17), .cell (.sl 1 [[.int 0]])]) false [(false, [.bool false])] fun b115 =>
                      bif b115 then
                        callR (spec_kidsType [.agg [.sl 3 l12, .sl 5 l13], .cell (.sl 1 l11), .agg [.int n14, .int n15, .int n16, .sl 1 l17, .sl 2 l18]]) false [(false, [.int 0])] fun n116 =>
                        some (.v (.cell (.int n116)))
                      else
                        some (.v (.cell (.int (-1))))
                    else
                      bif (n14 == 8) then
                        callR (spec_typed [.cell (.sl 1 l11), .cell (.sl 1 l17), .cell (.sl 1 [[.int n15]])]) false [(false, [.bool false])] fun b117 =>
                        bif b117 then
                          callR (spec_kidsType [.agg [.sl 3 l12, .sl 5 l13], .cell (.sl 1 l11), .agg [.int n14, .int n15, .int n16, .sl 1 l17, .sl 2 l18]]) false [(false, [.int 0])] fun n118 =>
                          some (.v (.cell (.int n118)))
                        else
                          some (.v (.cell (.int (-1))))
                      else
                        bif (n14 == 9) then
                          bif (n14 == 9) then
                            callR (spec_routineType [.agg [.sl 3 l12, .sl 5 l13], .cell (.sl 1 l11), .agg [.int n14, .int n15, .int n16, .sl 1 l17, .sl 2 l18]]) false [(false, [.int 0])] fun n119 =>
                            some (.v (.cell (.int n119)))
                          else
                            bif (n14 == 11) then
                              bif (((l17.length : Nat) : Int) == 2) then
                                atR_ l17 0 [.int 0] fun n120 =>
                                callR (spec_inRange [.cell (.int n120), .cell (.int 0), .cell (.int (wrapI (((l11.length : Nat) : Int) - 1)))]) false [(false, [.bool false])] fun b121 =>
                                bif b121 then
                                  atR_ l17 0 [.int 0] fun n122 =>
                                  atR_ l11 n122 [.int 0] fun n123 =>
                                  callR (spec_isArrow [.cell (.sl 3 l12), .cell (.int n123)]) false [(false, [.bool false])] fun b124 =>
                                  bif b124 then
                                    atR_ l17 0 [.int 0] fun n125 =>
                                    atR_ l11 n125 [.int 0] fun n126 =>
                                    atR_ l12 (wrapI (n126 - 1)) [.int 0, .int 0, .sl 1 []] fun n127 n128 l129 =>
                                    cutR l17 1 ((l17.length : Nat) : Int) fun l130 =>
                                    callR (spec_typed [.cell (.sl 1 l11), .cell (.sl 1 l130), .cell (.sl 1 [[.int n127]])]) false [(false, [.bool false])] fun b131 =>
                                    bif b131 then
                                      some (.v (.cell (.int n128)))
                                    else
                                      some (.v (.cell (.int (-1))))
                                  else
                                    some (.v (.cell (.int (-1))))
                                else
                                  some (.v (.cell (.int (-1))))
                              else
                                some (.v (.cell (.int (-1))))
                            else
                              bif (n14 == 14) then
                                bif (n14 == 14) then
                                  callR (spec_countingType [.agg [.sl 3 l12, .sl 5 l13], .cell (.sl 1 l11), .agg [.int n14, .int n15, .int n16, .sl 1 l17, .sl 2 l18]]) false [(false, [.int 0])] fun n132 =>
                                  some (.v (.cell (.int n132)))
                                else
                                  some (.v (.cell (.int (-1))))
                              else
                                bif (n14 == 15) then
                                  bif (n14 == 15) then
                                    callR (spec_countingType [.agg [.sl 3 l12, .sl 5 l13], .cell (.sl 1 l11), .agg [.int n14, .int n15, .int n16, .sl 1 l17, .sl 2 l18]]) false [(false, [.int 0])] fun n133 =>
                                    some (.v (.cell (.int n133)))
                                  else
                                    some (.v (.cell (.int (-1))))
                                else
                                  bif (n14 == 16) then
                                    bif (n14 == 16) then
                                      callR (spec_countingType [.agg [.sl 3 l12, .sl 5 l13], .cell (.sl 1 l11), .agg [.int n14, .int n15, .int n16, .sl 1 l17, .sl 2 l18]]) false [(false, [.int 0])] fun n134 =>
                                      some (.v (.cell (.int n134)))
                                    else
                                      some (.v (.cell (.int (-1))))
                                  else
                                    bif (n14 == 17) then
                                      callR (spec_countingType [.agg [.sl 3 l12, .sl 5 l13], .cell (.sl 1 l11), .agg [.int n14, .int n15, .int n16, .sl 1 l17, .sl 2 l18]]) false [(false, [.int 0])] fun n135 =>
                                      some (.v (.cell (.int n135)))
                                    else
                                      some (.v (.cell (.int (-1))))
                        else
                          bif (n14 == 10) then
                            callR (spec_routineType [.agg [.sl 3 l12, .sl 5 l13], .cell (.sl 1 l11), .agg [.int n14, .int n15, .int n16, .sl 1 l17, .sl 2 l18]]) false [(false, [.int 0])] fun n136 =>
                            some (.v (.cell (.int n136)))
                          else
                            bif (n14 == 11) then
                              bif (((l17.length : Nat) : Int) == 2) then
                                atR_ l17 0 [.int 0] fun n137 =>
                                callR (spec_inRange [.cell (.int n137), .cell (.int 0), .cell (.int (wrapI (((l11.length : Nat) : Int) - 1)))]) false [(false, [.bool false])] fun b138 =>
                                bif b138 then
                                  atR_ l17 0 [.int 0] fun n139 =>
                                  atR_ l11 n139 [.int 0] fun n140 =>
                                  callR (spec_isArrow [.cell (.sl 3 l12), .cell (.int n140)]) false [(false, [.bool false])] fun b141 =>
                                  bif b141 then
                                    atR_ l17 0 [.int 0] fun n142 =>
                                    atR_ l11 n142 [.int 0] fun n143 =>
                                    atR_ l12 (wrapI (n143 - 1)) [.int 0, .int 0, .sl 1 []] fun n144 n145 l146 =>
                                    cutR l17 1 ((l17.length : Nat) : Int) fun l147 =>
                                    callR (spec_typed [.cell (.sl 1 l11), .cell (.sl 1 l147), .cell (.sl 1 [[.int n144]])]) false [(false, [.bool false])] fun b148 =>
                                    bif b148 then
                                      some (.v (.cell (.int n145)))
                                    else
                                      some (.v (.cell (.int (-1))))
                                  else
                                    some (.v (.cell (.int (-1))))
                                else
                                  some (.v (.cell (.int (-1))))
                              else
                                some (.v (.cell (.int (-1))))
                            else
                              bif (n14 == 14) then
                                bif (n14 == 14) then
                                  callR (spec_countingType [.agg [.sl 3 l12, .sl 5 l13], .cell (.sl 1 l11), .agg [.int n14, .int n15, .int n16, .sl 1 l17, .sl 2 l18]]) false [(false, [.int 0])] fun n149 =>
                                  some (.v (.cell (.int n149)))
                                else
                                  some (.v (.cell (.int (-1))))
                              else
                                bif (n14 == 15) then
                                  bif (n14 == 15) then
                                    callR (spec_countingType [.agg [.sl 3 l12, .sl 5 l13], .cell (.sl 1 l11), .agg [.int n14, .int n15, .int n16, .sl 1 l17, .sl 2 l18]]) false [(false, [.int 0])] fun n150 =>
                                    some (.v (.cell (.int n150)))
                                  else
                                    some (.v (.cell (.int (-1))))
                                else
                                  bif (n14 == 16) then
                                    bif (n14 == 16) then
                                      callR (spec_countingType [.agg [.sl 3 l12, .sl 5 l13], .cell (.sl 1 l11), .agg [.int n14, .int n15, .int n16, .sl 1 l17, .sl 2 l18]]) false [(false, [.int 0])] fun n151 =>
                                      some (.v (.cell (.int n151)))
                                    else
                                      some (.v (.cell (.int (-1))))
                                  else
                                    bif (n14 == 17) then
                                      callR (spec_countingType [.agg [.sl 3 l12, .sl 5 l13], .cell (.sl 1 l11), .agg [.int n14, .int n15, .int n16, .sl 1 l17, .sl 2 l18]]) false [(false, [.int 0])] fun n152 =>
                                      some (.v (.cell (.int n152)))
                                    else
                                      some (.v (.cell (.int (-1))))
            else
              bif (n14 == 4) then
                callR (spec_typed [.cell (.sl 1 l11), .cell (.sl 1 l17), .cell (.sl 1 [[.int 0], [.int 0]])]) false [(false, [.bool false])] fun b153 =>
                bif b153 then
                  some (.v (.cell (.int 0)))
                else
                  some (.v (.cell (.int (-1))))
              else
                bif (n14 == 5) then
                  callR (spec_typed [.cell (.sl 1 l11), .cell (.sl 1 l17), .cell (.sl 1 [[.int 0]])]) false [(false, [.bool false])] fun b154 =>
                  bif b154 then
                    some (.v (.cell (.int 0)))
                  else
                    some (.v (.cell (.int (-1))))
                else
                  bif (n14 == 6) then
                    callR (spec_conType [.cell (.sl 3 l12), .cell (.int n15)]) false [(false, [.int 0])] fun n155 =>
                    bif (decide (n155 > 0)) then
                      callR (spec_conFields [.cell (.sl 3 l12), .cell (.int n15)]) false [(false, [.sl 1 []])] fun l156 =>
                      callR (spec_typed [.cell (.sl 1 l11), .cell (.sl 1 l17), .cell (.sl 1 l156)]) false [(false, [.bool false])] fun b157 =>
                      bif b157 then
                        callR (spec_conType [.cell (.sl 3 l12), .cell (.int n15)]) false [(false, [.int 0])] fun n158 =>
                        some (.v (.cell (.int n158)))
                      else
                        some (.v (.cell (.int (-1))))
                    else
                      some (.v (.cell (.int (-1))))
                  else
                    bif (n14 == 7) then
                      callR (spec_typed [.cell (.sl 1 l11), .cell (.sl 1 l17), .cell (.sl 1 [[.int 0]])]) false [(false, [.bool false])] fun b159 =>
                      bif b159 then
                        callR (spec_kidsType [.agg [.sl 3 l12, .sl 5 l13], .cell (.sl 1 l11), .agg [.int n14, .int n15, .int n16, .sl 1 l17, .sl 2 l18]]) false [(false, [.int 0])] fun n160 =>
                        some (.v (.cell (.int n160)))
                      else
                        some (.v (.cell (.int (-1))))
                    else
                      bif (n14 == 8) then
                        callR (spec_typed [.cell (.sl 1 l11), .cell (.sl 1 l17), .cell (.sl 1 [[.int n15]])]) false [(false, [.bool false])] fun b161 =>
                        bif b161 then
                          callR (spec_kidsType [.agg [.sl 3 l12, .sl 5 l13], .cell (.sl 1 l11), .agg [.int n14, .int n15, .int n16, .sl 1 l17, .sl 2 l18]]) false [(false, [.int 0])] fun n162 =>
                          some (.v (.cell (.int n162)))
                        else
                          some (.v (.cell (.int (-1))))
                      else
                        bif (n14 == 9) then
                          bif (n14 == 9) then
                            callR (spec_routineType [.agg [.sl 3 l12, .sl 5 l13], .cell (.sl 1 l11), .agg [.int n14, .int n15, .int n16, .sl 1 l17, .sl 2 l18]]) false [(false, [.int 0])] fun n163 =>
                            some (.v (.cell (.int n163)))
                          else
                            bif (n14 == 11) then
                              bif (((l17.length : Nat) : Int) == 2) then
                                atR_ l17 0 [.int 0] fun n164 =>
                                callR (spec_inRange [.cell (.int n164), .cell (.int 0), .cell (.int (wrapI (((l11.length : Nat) : Int) - 1)))]) false [(false, [.bool false])] fun b165 =>
                                bif b165 then
                                  atR_ l17 0 [.int 0] fun n166 =>
                                  atR_ l11 n166 [.int 0] fun n167 =>
                                  callR (spec_isArrow [.cell (.sl 3 l12), .cell (.int n167)]) false [(false, [.bool false])] fun b168 =>
                                  bif b168 then
                                    atR_ l17 0 [.int 0] fun n169 =>
                                    atR_ l11 n169 [.int 0] fun n170 =>
                                    atR_ l12 (wrapI (n170 - 1)) [.int 0, .int 0, .sl 1 []] fun n171 n172 l173 =>
                                    cutR l17 1 ((l17.length : Nat) : Int) fun l174 =>
                                    callR (spec_typed [.cell (.sl 1 l11), .cell (.sl 1 l174), .cell (.sl 1 [[.int n171]])]) false [(false, [.bool false])] fun b175 =>
                                    bif b175 then
                                      some (.v (.cell (.int n172)))
                                    else
                                      some (.v (.cell (.int (-1))))
                                  else
                                    some (.v (.cell (.int (-1))))
                                else
                                  some (.v (.cell (.int (-1))))
                              else
                                some (.v (.cell (.int (-1))))
                            else
                              bif (n14 == 14) then
                                bif (n14 == 14) then
                                  callR (spec_countingType [.agg [.sl 3 l12, .sl 5 l13], .cell (.sl 1 l11), .agg [.int n14, .int n15, .int n16, .sl 1 l17, .sl 2 l18]]) false [(false, [.int 0])] fun n176 =>
                                  some (.v (.cell (.int n176)))
                                else
                                  some (.v (.cell (.int (-1))))
                              else
                                bif (n14 == 15) then
                                  bif (n14 == 15) then
                                    callR (spec_countingType [.agg [.sl 3 l12, .sl 5 l13], .cell (.sl 1 l11), .agg [.int n14, .int n15, .int n16, .sl 1 l17, .sl 2 l18]]) false [(false, [.int 0])] fun n177 =>
                                    some (.v (.cell (.int n177)))
                                  else
                                    some (.v (.cell (.int (-1))))
                                else
                                  bif (n14 == 16) then
                                    bif (n14 == 16) then
                                      callR (spec_countingType [.agg [.sl 3 l12, .sl 5 l13], .cell (.sl 1 l11), .agg [.int n14, .int n15, .int n16, .sl 1 l17, .sl 2 l18]]) false [(false, [.int 0])] fun n178 =>
                                      some (.v (.cell (.int n178)))
                                    else
                                      some (.v (.cell (.int (-1))))
                                  else
                                    bif (n14 == 17) then
                                      callR (spec_countingType [.agg [.sl 3 l12, .sl 5 l13], .cell (.sl 1 l11), .agg [.int n14, .int n15, .int n16, .sl 1 l17, .sl 2 l18]]) false [(false, [.int 0])] fun n179 =>
                                      some (.v (.cell (.int n179)))
                                    else
                                      some (.v (.cell (.int (-1))))
                        else
                          bif (n14 == 10) then
                            callR (spec_routineType [.agg [.sl 3 l12, .sl 5 l13], .cell (.sl 1 l11), .agg [.int n14, .int n15, .int n16, .sl 1 l17, .sl 2 l18]]) false [(false, [.int 0])] fun n180 =>
                            some (.v (.cell (.int n180)))
                          else
                            bif (n14 == 11) then
                              bif (((l17.length : Nat) : Int) == 2) then
                                atR_ l17 0 [.int 0] fun n181 =>
                                callR (spec_inRange [.cell (.int n181), .cell (.int 0), .cell (.int (wrapI (((l11.length : Nat) : Int) - 1)))]) false [(false, [.bool false])] fun b182 =>
                                bif b182 then
                                  atR_ l17 0 [.int 0] fun n183 =>
                                  atR_ l11 n183 [.int 0] fun n184 =>
                                  callR (spec_isArrow [.cell (.sl 3 l12), .cell (.int n184)]) false [(false, [.bool false])] fun b185 =>
                                  bif b185 then
                                    atR_ l17 0 [.int 0] fun n186 =>
                                    atR_ l11 n186 [.int 0] fun n187 =>
                                    atR_ l12 (wrapI (n187 - 1)) [.int 0, .int 0, .sl 1 []] fun n188 n189 l190 =>
                                    cutR l17 1 ((l17.length : Nat) : Int) fun l191 =>
                                    callR (spec_typed [.cell (.sl 1 l11), .cell (.sl 1 l191), .cell (.sl 1 [[.int n188]])]) false [(false, [.bool false])] fun b192 =>
                                    bif b192 then
                                      some (.v (.cell (.int n189)))
                                    else
                                      some (.v (.cell (.int (-1))))
                                  else
                                    some (.v (.cell (.int (-1))))
                                else
                                  some (.v (.cell (.int (-1))))
                              else
                                some (.v (.cell (.int (-1))))
                            else
                              bif (n14 == 14) then
                                bif (n14 == 14) then
                                  callR (spec_countingType [.agg [.sl 3 l12, .sl 5 l13], .cell (.sl 1 l11), .agg [.int n14, .int n15, .int n16, .sl 1 l17, .sl 2 l18]]) false [(false, [.int 0])] fun n193 =>
                                  some (.v (.cell (.int n193)))
                                else
                                  some (.v (.cell (.int (-1))))
                              else
                                bif (n14 == 15) then
                                  bif (n14 == 15) then
                                    callR (spec_countingType [.agg [.sl 3 l12, .sl 5 l13], .cell (.sl 1 l11), .agg [.int n14, .int n15, .int n16, .sl 1 l17, .sl 2 l18]]) false [(false, [.int 0])] fun n194 =>
                                    some (.v (.cell (.int n194)))
                                  else
                                    some (.v (.cell (.int (-1))))
                                else
                                  bif (n14 == 16) then
                                    bif (n14 == 16) then
                                      callR (spec_countingType [.agg [.sl 3 l12, .sl 5 l13], .cell (.sl 1 l11), .agg [.int n14, .int n15, .int n16, .sl 1 l17, .sl 2 l18]]) false [(false, [.int 0])] fun n195 =>
                                      some (.v (.cell (.int n195)))
                                    else
                                      some (.v (.cell (.int (-1))))
                                  else
                                    bif (n14 == 17) then
                                      callR (spec_countingType [.agg [.sl 3 l12, .sl 5 l13], .cell (.sl 1 l11), .agg [.int n14, .int n15, .int n16, .sl 1 l17, .sl 2 l18]]) false [(false, [.int 0])] fun n196 =>
                                      some (.v (.cell (.int n196)))
                                    else
                                      some (.v (.cell (.int (-1)))) : Option AV) = some r) : spec_stepType_J3 l11 l12 l13 n14 n15 n16 l17 l18 = some r :=
  GJ_le (X := X_spec_stepType) (n := 100000) (by kernel_rfl) (by kernel_rfl : (X_spec_stepType.fn.body.bind fun c => locJ 3 c []) = some (cdOf (X_spec_stepType.fn.body.bind fun c => locJ 3 c []), ksOf (X_spec_stepType.fn.body.bind fun c => locJ 3 c []))) (Eq.trans (by kernel_rfl) h)
theorem spec_stepType_le {l1 : List (List AC)} {l2 : List (List AC)} {l3 : List (List AC)} {n4 : Int} {n5 : Int} {n6 : Int} {l7 : List (List AC)} {l8 : List (List AC)} {r : AV} (h : (
    bif (n5 != 0) then
        callR (spec_hasNum [.cell (.int n4)]) false [(false, [.bool false])] fun b9 =>
        bif (!b9) then
          some (.v (.cell (.int (-1))))
        else
          callR (spec_validInto [.cell (.sl 1 l3), .agg [.int n4, .int n5, .int n6, .sl 1 l7, .sl 2 l8]]) false [(false, [.bool false])] fun b10 =>
          bif (!b10) then
            some (.v (.cell (.int (-1))))
          else
            bif (decide (((l8.length : Nat) : Int) > 0)) then
              bif (n4 != 7) then
                bif (n4 != 8) then
                  some (.v (.cell (.int (-1))))
                else
                  spec_stepType_J3 l3 l1 l2 n4 n5 n6 l7 l8
              else
                spec_stepType_J3 l3 l1 l2 n4 n5 n6 l7 l8
            else
              spec_stepType_J3 l3 l1 l2 n4 n5 n6 l7 l8
      else
        callR (spec_validInto [.cell (.sl 1 l3), .agg [.int n4, .int n5, .int n6, .sl 1 l7, .sl 2 l8]]) false [(false, [.bool false])] fun b19 =>
        bif (!b19) then
          some (.v (.cell (.int (-1))))
        else
          bif (decide (((l8.length : Nat) : Int) > 0)) then
            bif (n4 != 7) then
              bif (n4 != 8) then
                some (.v (.cell (.int (-1))))
              else
                spec_stepType_J3 l3 l1 l2 n4 n5 n6 l7 l8
            else
              spec_stepType_J3 l3 l1 l2 n4 n5 n6 l7 l8
          else
            spec_stepType_J3 l3 l1 l2 n4 n5 n6 l7 l8 : Option AV) = some r) : spec_stepType [.agg [.sl 3 l1, .sl 5 l2], .cell (.sl 1 l3), .agg [.int n4, .int n5, .int n6, .sl 1 l7, .sl 2 l8]] = some r :=
  V_le (X := X_spec_stepType) (n := 100000) (c := cOf Tryz.f59) (by kernel_rfl) Tryz.func59 (by kernel_rfl) (of_decide_eq_true (by kernel_rfl)) (Eq.trans (by kernel_rfl) h)
end Go.Proofs.YtbdngmeoohjnoaaGreat
