/- What functions compute, place by place. MADE BY lift.py. -/
import Derived.Test.YtoljlooeiljpfaaOb
import Derived.Test.YtoljlooeiljpfaaXt
set_option maxRecDepth 100000
set_option linter.unusedVariables false
namespace Go.Proofs.Ytoljlooeiljpfaa
open Go
noncomputable def laws_FnExactMayInline (x : List SV) : Option AV := V Try.prog lay sig.has ext 3 x
noncomputable def laws_FnExactCallSites (x : List SV) : Option AV := V Try.prog lay sig.has ext 4 x
noncomputable def laws_FnExactMentionsOf (x : List SV) : Option AV := V Try.prog lay sig.has ext 5 x
noncomputable def laws_szProgram (x : List SV) : Option AV := V Try.prog lay sig.has ext 6 x
noncomputable def spec_MayInline (x : List SV) : Option AV := V Try.prog lay sig.has ext 7 x
noncomputable def laws_toProgram (x : List SV) : Option AV := V Try.prog lay sig.has ext 8 x
noncomputable def impl_MayInline (x : List SV) : Option AV := V Try.prog lay sig.has ext 9 x
noncomputable def laws_eqProgram (x : List SV) : Option AV := V Try.prog lay sig.has ext 10 x
noncomputable def spec_CallSites (x : List SV) : Option AV := V Try.prog lay sig.has ext 11 x
noncomputable def impl_CallSites (x : List SV) : Option AV := V Try.prog lay sig.has ext 12 x
noncomputable def laws_szExpr (x : List SV) : Option AV := V Try.prog lay sig.has ext 13 x
noncomputable def spec_MentionsOf (x : List SV) : Option AV := V Try.prog lay sig.has ext 14 x
noncomputable def laws_toExpr (x : List SV) : Option AV := V Try.prog lay sig.has ext 15 x
noncomputable def impl_MentionsOf (x : List SV) : Option AV := V Try.prog lay sig.has ext 16 x
noncomputable def laws_eqExpr (x : List SV) : Option AV := V Try.prog lay sig.has ext 17 x
noncomputable def laws_szDeclS (x : List SV) : Option AV := V Try.prog lay sig.has ext 18 x
noncomputable def laws_szFuncS (x : List SV) : Option AV := V Try.prog lay sig.has ext 19 x
noncomputable def spec_validProgram (x : List SV) : Option AV := V Try.prog lay sig.has ext 20 x
noncomputable def spec_mayInline (x : List SV) : Option AV := V Try.prog lay sig.has ext 21 x
noncomputable def laws_toDeclS (x : List SV) : Option AV := V Try.prog lay sig.has ext 22 x
noncomputable def laws_toFuncS (x : List SV) : Option AV := V Try.prog lay sig.has ext 23 x
noncomputable def impl_ValidProgram (x : List SV) : Option AV := V Try.prog lay sig.has ext 24 x
noncomputable def impl_hasFunc (x : List SV) : Option AV := V Try.prog lay sig.has ext 25 x
noncomputable def impl_CalleesOf (x : List SV) : Option AV := V Try.prog lay sig.has ext 26 x
noncomputable def impl_hasInt (x : List SV) : Option AV := V Try.prog lay sig.has ext 27 x
noncomputable def impl_ReachedFrom (x : List SV) : Option AV := V Try.prog lay sig.has ext 28 x
noncomputable def laws_eqDeclS (x : List SV) : Option AV := V Try.prog lay sig.has ext 29 x
noncomputable def laws_eqFuncS (x : List SV) : Option AV := V Try.prog lay sig.has ext 30 x
noncomputable def spec_inRange (x : List SV) : Option AV := V Try.prog lay sig.has ext 31 x
noncomputable def spec_callsIn (x : List SV) : Option AV := V Try.prog lay sig.has ext 32 x
noncomputable def impl_nodesWith (x : List SV) : Option AV := V Try.prog lay sig.has ext 33 x
noncomputable def laws_szExprS (x : List SV) : Option AV := V Try.prog lay sig.has ext 34 x
noncomputable def spec_nodesOf (x : List SV) : Option AV := V Try.prog lay sig.has ext 35 x
noncomputable def spec_mentionsOf (x : List SV) : Option AV := V Try.prog lay sig.has ext 36 x
noncomputable def laws_toExprS (x : List SV) : Option AV := V Try.prog lay sig.has ext 37 x
noncomputable def impl_NodesOf (x : List SV) : Option AV := V Try.prog lay sig.has ext 38 x
noncomputable def laws_eqExprS (x : List SV) : Option AV := V Try.prog lay sig.has ext 39 x
noncomputable def laws_szDecl (x : List SV) : Option AV := V Try.prog lay sig.has ext 40 x
noncomputable def laws_szFunc (x : List SV) : Option AV := V Try.prog lay sig.has ext 41 x
noncomputable def spec_validSigs (x : List SV) : Option AV := V Try.prog lay sig.has ext 42 x
noncomputable def spec_typeOf (x : List SV) : Option AV := V Try.prog lay sig.has ext 43 x
noncomputable def spec_calleesIn (x : List SV) : Option AV := V Try.prog lay sig.has ext 44 x
noncomputable def spec_isIn (x : List SV) : Option AV := V Try.prog lay sig.has ext 45 x
noncomputable def spec_reachedFrom (x : List SV) : Option AV := V Try.prog lay sig.has ext 46 x
noncomputable def laws_toDecl (x : List SV) : Option AV := V Try.prog lay sig.has ext 47 x
noncomputable def laws_toFunc (x : List SV) : Option AV := V Try.prog lay sig.has ext 48 x
noncomputable def impl_ValidSigs (x : List SV) : Option AV := V Try.prog lay sig.has ext 49 x
noncomputable def impl_TypeOf (x : List SV) : Option AV := V Try.prog lay sig.has ext 50 x
noncomputable def impl_withNamed (x : List SV) : Option AV := V Try.prog lay sig.has ext 51 x
noncomputable def impl_withCallees (x : List SV) : Option AV := V Try.prog lay sig.has ext 52 x
noncomputable def laws_eqDecl (x : List SV) : Option AV := V Try.prog lay sig.has ext 53 x
noncomputable def laws_eqFunc (x : List SV) : Option AV := V Try.prog lay sig.has ext 54 x
noncomputable def spec_nodesLeft (x : List SV) : Option AV := V Try.prog lay sig.has ext 55 x
noncomputable def impl_nodesUpTo (x : List SV) : Option AV := V Try.prog lay sig.has ext 56 x
noncomputable def laws_szConS (x : List SV) : Option AV := V Try.prog lay sig.has ext 57 x
noncomputable def laws_szIntS (x : List SV) : Option AV := V Try.prog lay sig.has ext 58 x
noncomputable def spec_validTypes (x : List SV) : Option AV := V Try.prog lay sig.has ext 59 x
noncomputable def spec_allTypes (x : List SV) : Option AV := V Try.prog lay sig.has ext 60 x
noncomputable def spec_allInts (x : List SV) : Option AV := V Try.prog lay sig.has ext 61 x
noncomputable def spec_conType (x : List SV) : Option AV := V Try.prog lay sig.has ext 62 x
noncomputable def spec_allOf (x : List SV) : Option AV := V Try.prog lay sig.has ext 63 x
noncomputable def spec_conFields (x : List SV) : Option AV := V Try.prog lay sig.has ext 64 x
noncomputable def spec_extend (x : List SV) : Option AV := V Try.prog lay sig.has ext 65 x
noncomputable def spec_matchType (x : List SV) : Option AV := V Try.prog lay sig.has ext 66 x
noncomputable def spec_callType (x : List SV) : Option AV := V Try.prog lay sig.has ext 67 x
noncomputable def spec_isArrow (x : List SV) : Option AV := V Try.prog lay sig.has ext 68 x
noncomputable def spec_insert (x : List SV) : Option AV := V Try.prog lay sig.has ext 69 x
noncomputable def laws_toConS (x : List SV) : Option AV := V Try.prog lay sig.has ext 70 x
noncomputable def laws_toIntS (x : List SV) : Option AV := V Try.prog lay sig.has ext 71 x
noncomputable def impl_ValidTypes (x : List SV) : Option AV := V Try.prog lay sig.has ext 72 x
noncomputable def impl_validSig (x : List SV) : Option AV := V Try.prog lay sig.has ext 73 x
noncomputable def impl_areTypes (x : List SV) : Option AV := V Try.prog lay sig.has ext 74 x
noncomputable def impl_typeIn (x : List SV) : Option AV := V Try.prog lay sig.has ext 75 x
noncomputable def impl_withInt (x : List SV) : Option AV := V Try.prog lay sig.has ext 76 x
noncomputable def laws_eqConS (x : List SV) : Option AV := V Try.prog lay sig.has ext 77 x
noncomputable def laws_eqIntS (x : List SV) : Option AV := V Try.prog lay sig.has ext 78 x
noncomputable def laws_szCon (x : List SV) : Option AV := V Try.prog lay sig.has ext 79 x
noncomputable def spec_validDecl (x : List SV) : Option AV := V Try.prog lay sig.has ext 80 x
noncomputable def spec_firstCon (x : List SV) : Option AV := V Try.prog lay sig.has ext 81 x
noncomputable def spec_copyInts (x : List SV) : Option AV := V Try.prog lay sig.has ext 82 x
noncomputable def spec_consOf (x : List SV) : Option AV := V Try.prog lay sig.has ext 83 x
noncomputable def spec_arrowOf (x : List SV) : Option AV := V Try.prog lay sig.has ext 84 x
noncomputable def laws_toCon (x : List SV) : Option AV := V Try.prog lay sig.has ext 85 x
noncomputable def impl_validDecl (x : List SV) : Option AV := V Try.prog lay sig.has ext 86 x
noncomputable def impl_isType (x : List SV) : Option AV := V Try.prog lay sig.has ext 87 x
noncomputable def impl_typeOfVar (x : List SV) : Option AV := V Try.prog lay sig.has ext 88 x
noncomputable def impl_typeOfLet (x : List SV) : Option AV := V Try.prog lay sig.has ext 89 x
noncomputable def impl_typeOfIf (x : List SV) : Option AV := V Try.prog lay sig.has ext 90 x
noncomputable def impl_typeOfMatch (x : List SV) : Option AV := V Try.prog lay sig.has ext 91 x
noncomputable def impl_resultOf (x : List SV) : Option AV := V Try.prog lay sig.has ext 92 x
noncomputable def impl_typesIn (x : List SV) : Option AV := V Try.prog lay sig.has ext 93 x
noncomputable def laws_eqCon (x : List SV) : Option AV := V Try.prog lay sig.has ext 94 x
noncomputable def impl_validCons (x : List SV) : Option AV := V Try.prog lay sig.has ext 95 x
noncomputable def impl_arrowBetween (x : List SV) : Option AV := V Try.prog lay sig.has ext 96 x
noncomputable def impl_bind (x : List SV) : Option AV := V Try.prog lay sig.has ext 97 x
noncomputable def impl_isData (x : List SV) : Option AV := V Try.prog lay sig.has ext 98 x
noncomputable def impl_typeWhen (x : List SV) : Option AV := V Try.prog lay sig.has ext 99 x
noncomputable def impl_sameInts (x : List SV) : Option AV := V Try.prog lay sig.has ext 100 x
noncomputable def impl_resultOfCon (x : List SV) : Option AV := V Try.prog lay sig.has ext 101 x
noncomputable def impl_resultOfCall (x : List SV) : Option AV := V Try.prog lay sig.has ext 102 x
noncomputable def impl_resultOfClose (x : List SV) : Option AV := V Try.prog lay sig.has ext 103 x
noncomputable def impl_resultOfApply (x : List SV) : Option AV := V Try.prog lay sig.has ext 104 x
noncomputable def impl_copyInts (x : List SV) : Option AV := V Try.prog lay sig.has ext 105 x
noncomputable def impl_typeOfCon (x : List SV) : Option AV := V Try.prog lay sig.has ext 106 x
noncomputable def impl_fieldsOfCon (x : List SV) : Option AV := V Try.prog lay sig.has ext 107 x
noncomputable def impl_isArrow (x : List SV) : Option AV := V Try.prog lay sig.has ext 108 x
noncomputable def impl_firstCon (x : List SV) : Option AV := V Try.prog lay sig.has ext 109 x
noncomputable def impl_countCons (x : List SV) : Option AV := V Try.prog lay sig.has ext 110 x
noncomputable def X_laws_FnExactMayInline : Ctx := { P := Try.prog, L := lay, F := sig.has, E := ext, fn := Try.f3, lv := [], jv := [], tp := [] }
theorem laws_FnExactMayInline_le {l1 : List (List AC)} {l2 : List (List AC)} {n3 : Int} {r : AV} (h : (
    callR (laws_szProgram [.agg [.sl 3 l1, .sl 5 l2], .cell (.int 1048576)]) false [(false, [.int 0])] fun n4 =>
      bif (decide (n4 < 0)) then
        some (.v (.cell (.bool true)))
      else
        callR (laws_toProgram [.agg [.sl 3 l1, .sl 5 l2]]) false [(true, [.sl 3 [], .sl 5 []])] fun l5 l6 =>
        callR (spec_MayInline [.agg [.sl 3 l5, .sl 5 l6], .cell (.int n3)]) false [(false, [.bool false])] fun b7 =>
        callR (laws_toProgram [.agg [.sl 3 l1, .sl 5 l2]]) false [(true, [.sl 3 [], .sl 5 []])] fun l8 l9 =>
        callR (impl_MayInline [.agg [.sl 3 l8, .sl 5 l9], .cell (.int n3)]) false [(false, [.bool false])] fun b10 =>
        bif (b10 != b7) then
          some (.v (.cell (.bool false)))
        else
          callR (laws_toProgram [.agg [.sl 3 l1, .sl 5 l2]]) false [(true, [.sl 3 [], .sl 5 []])] fun l11 l12 =>
          callR (laws_eqProgram [.agg [.sl 3 l8, .sl 5 l9], .agg [.sl 3 l11, .sl 5 l12]]) false [(false, [.bool false])] fun b13 =>
          bif (!b13) then
            some (.v (.cell (.bool false)))
          else
            some (.v (.cell (.bool true))) : Option AV) = some r) : laws_FnExactMayInline [.agg [.sl 3 l1, .sl 5 l2], .cell (.int n3)] = some r :=
  V_le (X := X_laws_FnExactMayInline) (n := 100000) (c := cOf Try.f3) (by kernel_rfl) Try.func3 (by kernel_rfl) (of_decide_eq_true (by kernel_rfl)) (Eq.trans (by kernel_rfl) h)
noncomputable def X_laws_FnExactCallSites : Ctx := { P := Try.prog, L := lay, F := sig.has, E := ext, fn := Try.f4, lv := [], jv := [], tp := [] }
theorem laws_FnExactCallSites_le {l1 : List (List AC)} {l2 : List (List AC)} {n3 : Int} {r : AV} (h : (
    callR (laws_szProgram [.agg [.sl 3 l1, .sl 5 l2], .cell (.int 1048576)]) false [(false, [.int 0])] fun n4 =>
      bif (decide (n4 < 0)) then
        some (.v (.cell (.bool true)))
      else
        callR (laws_toProgram [.agg [.sl 3 l1, .sl 5 l2]]) false [(true, [.sl 3 [], .sl 5 []])] fun l5 l6 =>
        callR (spec_CallSites [.agg [.sl 3 l5, .sl 5 l6], .cell (.int n3)]) false [(false, [.int 0])] fun n7 =>
        callR (laws_toProgram [.agg [.sl 3 l1, .sl 5 l2]]) false [(true, [.sl 3 [], .sl 5 []])] fun l8 l9 =>
        callR (impl_CallSites [.agg [.sl 3 l8, .sl 5 l9], .cell (.int n3)]) false [(false, [.int 0])] fun n10 =>
        bif (n10 != n7) then
          some (.v (.cell (.bool false)))
        else
          callR (laws_toProgram [.agg [.sl 3 l1, .sl 5 l2]]) false [(true, [.sl 3 [], .sl 5 []])] fun l11 l12 =>
          callR (laws_eqProgram [.agg [.sl 3 l8, .sl 5 l9], .agg [.sl 3 l11, .sl 5 l12]]) false [(false, [.bool false])] fun b13 =>
          bif (!b13) then
            some (.v (.cell (.bool false)))
          else
            some (.v (.cell (.bool true))) : Option AV) = some r) : laws_FnExactCallSites [.agg [.sl 3 l1, .sl 5 l2], .cell (.int n3)] = some r :=
  V_le (X := X_laws_FnExactCallSites) (n := 100000) (c := cOf Try.f4) (by kernel_rfl) Try.func4 (by kernel_rfl) (of_decide_eq_true (by kernel_rfl)) (Eq.trans (by kernel_rfl) h)
noncomputable def X_laws_FnExactMentionsOf : Ctx := { P := Try.prog, L := lay, F := sig.has, E := ext, fn := Try.f5, lv := [], jv := [], tp := [] }
theorem laws_FnExactMentionsOf_le {n1 : Int} {n2 : Int} {l3 : List (List AC)} {n4 : Int} {r : AV} (h : (
    callR (laws_szExpr [.agg [.int n1, .int n2, .sl 3 l3], .cell (.int 1048576)]) false [(false, [.int 0])] fun n5 =>
      bif (decide (n5 < 0)) then
        some (.v (.cell (.bool true)))
      else
        callR (laws_toExpr [.agg [.int n1, .int n2, .sl 3 l3]]) false [(true, [.int 0, .int 0, .sl 3 []])] fun n6 n7 l8 =>
        callR (spec_MentionsOf [.agg [.int n6, .int n7, .sl 3 l8], .cell (.int n4)]) false [(false, [.int 0])] fun n9 =>
        callR (laws_toExpr [.agg [.int n1, .int n2, .sl 3 l3]]) false [(true, [.int 0, .int 0, .sl 3 []])] fun n10 n11 l12 =>
        callR (impl_MentionsOf [.agg [.int n10, .int n11, .sl 3 l12], .cell (.int n4)]) false [(false, [.int 0])] fun n13 =>
        bif (n13 != n9) then
          some (.v (.cell (.bool false)))
        else
          callR (laws_toExpr [.agg [.int n1, .int n2, .sl 3 l3]]) false [(true, [.int 0, .int 0, .sl 3 []])] fun n14 n15 l16 =>
          callR (laws_eqExpr [.agg [.int n10, .int n11, .sl 3 l12], .agg [.int n14, .int n15, .sl 3 l16]]) false [(false, [.bool false])] fun b17 =>
          bif (!b17) then
            some (.v (.cell (.bool false)))
          else
            some (.v (.cell (.bool true))) : Option AV) = some r) : laws_FnExactMentionsOf [.agg [.int n1, .int n2, .sl 3 l3], .cell (.int n4)] = some r :=
  V_le (X := X_laws_FnExactMentionsOf) (n := 100000) (c := cOf Try.f5) (by kernel_rfl) Try.func5 (by kernel_rfl) (of_decide_eq_true (by kernel_rfl)) (Eq.trans (by kernel_rfl) h)
noncomputable def X_laws_szProgram : Ctx := { P := Try.prog, L := lay, F := sig.has, E := ext, fn := Try.f6, lv := [], jv := [], tp := [] }
theorem laws_szProgram_le {l1 : List (List AC)} {l2 : List (List AC)} {n3 : Int} {r : AV} (h : (
    callR (laws_szDeclS [.cell (.sl 3 l1), .cell (.int n3)]) false [(false, [.int 0])] fun n4 =>
      bif (decide (n4 < 0)) then
        some (.v (.cell (.int (-1))))
      else
        callR (laws_szFuncS [.cell (.sl 5 l2), .cell (.int n4)]) false [(false, [.int 0])] fun n5 =>
        bif (decide (n5 < 0)) then
          some (.v (.cell (.int (-1))))
        else
          some (.v (.cell (.int n5))) : Option AV) = some r) : laws_szProgram [.agg [.sl 3 l1, .sl 5 l2], .cell (.int n3)] = some r :=
  V_le (X := X_laws_szProgram) (n := 100000) (c := cOf Try.f6) (by kernel_rfl) Try.func6 (by kernel_rfl) (of_decide_eq_true (by kernel_rfl)) (Eq.trans (by kernel_rfl) h)
noncomputable def X_spec_MayInline : Ctx := { P := Try.prog, L := lay, F := sig.has, E := ext, fn := Try.f7, lv := [], jv := [], tp := [] }
theorem spec_MayInline_le {l1 : List (List AC)} {l2 : List (List AC)} {n3 : Int} {r : AV} (h : (
    callR (spec_validProgram [.agg [.sl 3 l1, .sl 5 l2]]) false [(false, [.bool false])] fun b4 =>
      bif b4 then
        callR (spec_mayInline [.agg [.sl 3 l1, .sl 5 l2], .cell (.int n3)]) false [(false, [.bool false])] fun b5 =>
        some (.v (.cell (.bool b5)))
      else
        some (.v (.cell (.bool false))) : Option AV) = some r) : spec_MayInline [.agg [.sl 3 l1, .sl 5 l2], .cell (.int n3)] = some r :=
  V_le (X := X_spec_MayInline) (n := 100000) (c := cOf Try.f7) (by kernel_rfl) Try.func7 (by kernel_rfl) (of_decide_eq_true (by kernel_rfl)) (Eq.trans (by kernel_rfl) h)
noncomputable def X_laws_toProgram : Ctx := { P := Try.prog, L := lay, F := sig.has, E := ext, fn := Try.f8, lv := [], jv := [], tp := [] }
theorem laws_toProgram_le {l1 : List (List AC)} {l2 : List (List AC)} {r : AV} (h : (
    callR (laws_toDeclS [.cell (.sl 3 l1)]) false [(false, [.sl 3 []])] fun l3 =>
      callR (laws_toFuncS [.cell (.sl 5 l2)]) false [(false, [.sl 5 []])] fun l4 =>
      some (.v (.agg [.sl 3 l3, .sl 5 l4])) : Option AV) = some r) : laws_toProgram [.agg [.sl 3 l1, .sl 5 l2]] = some r :=
  V_le (X := X_laws_toProgram) (n := 100000) (c := cOf Try.f8) (by kernel_rfl) Try.func8 (by kernel_rfl) (of_decide_eq_true (by kernel_rfl)) (Eq.trans (by kernel_rfl) h)
noncomputable def X_impl_MayInline : Ctx := { P := Try.prog, L := lay, F := sig.has, E := ext, fn := Try.f9, lv := [(0, [1, 2, 22, 23, 24])], jv := [], tp := [] }
noncomputable def impl_MayInline_L0 (n7 : Int) (l8 : List (List AC)) (l9 : List (List AC)) (l10 : List (List AC)) (n11 : Int) (n12 : Int) : Option AV := GL X_impl_MayInline 0 [(1, .v (.cell (.int n7))), (2, .box [.sl 3 l8, .sl 5 l9]), (22, .v (.cell (.sl 1 l10))), (23, .v (.cell (.int n11))), (24, .v (.cell (.int n12)))]
theorem impl_MayInline_L0_le {n7 : Int} {l8 : List (List AC)} {l9 : List (List AC)} {l10 : List (List AC)} {n11 : Int} {n12 : Int} {r : AV} (h : (
    bif (decide (n12 < n11)) then
        atR_ l10 n12 [.int 0] fun n13 =>
        callR (impl_ReachedFrom [.agg [.sl 3 l8, .sl 5 l9], .cell (.int n13)]) false [(false, [.sl 1 []])] fun l14 =>
        callR (impl_hasInt [.cell (.sl 1 l14), .cell (.int n7)]) false [(false, [.bool false])] fun b15 =>
        bif b15 then
          some (.v (.cell (.bool false)))
        else
          impl_MayInline_L0 n7 l8 l9 l10 n11 (wrapI (n12 + 1))
      else
        some (.v (.cell (.bool true))) : Option AV) = some r) : impl_MayInline_L0 n7 l8 l9 l10 n11 n12 = some r :=
  GL_le (X := X_impl_MayInline) (n := 100000) (by kernel_rfl) (by kernel_rfl : (X_impl_MayInline.fn.body.bind fun c => locL 0 c []) = some (.loop (loopOf (X_impl_MayInline.fn.body.bind fun c => locL 0 c [])), ksOf (X_impl_MayInline.fn.body.bind fun c => locL 0 c []))) (Eq.trans (by kernel_rfl) h)
theorem impl_MayInline_le {l1 : List (List AC)} {l2 : List (List AC)} {n3 : Int} {r : AV} (h : (
    callR (impl_ValidProgram [.agg [.sl 3 l1, .sl 5 l2]]) false [(false, [.bool false])] fun b4 =>
      bif (!b4) then
        some (.v (.cell (.bool false)))
      else
        callR (impl_hasFunc [.agg [.sl 3 l1, .sl 5 l2], .cell (.int n3)]) false [(false, [.bool false])] fun b5 =>
        bif (!b5) then
          some (.v (.cell (.bool false)))
        else
          bif (n3 == 0) then
            some (.v (.cell (.bool false)))
          else
            callR (impl_CalleesOf [.agg [.sl 3 l1, .sl 5 l2], .cell (.int n3)]) false [(false, [.sl 1 []])] fun l6 =>
            impl_MayInline_L0 n3 l1 l2 l6 ((l6.length : Nat) : Int) 0 : Option AV) = some r) : impl_MayInline [.agg [.sl 3 l1, .sl 5 l2], .cell (.int n3)] = some r :=
  V_le (X := X_impl_MayInline) (n := 100000) (c := cOf Try.f9) (by kernel_rfl) Try.func9 (by kernel_rfl) (of_decide_eq_true (by kernel_rfl)) (Eq.trans (by kernel_rfl) h)
noncomputable def X_laws_eqProgram : Ctx := { P := Try.prog, L := lay, F := sig.has, E := ext, fn := Try.f10, lv := [], jv := [], tp := [] }
theorem laws_eqProgram_le {l1 : List (List AC)} {l2 : List (List AC)} {l3 : List (List AC)} {l4 : List (List AC)} {r : AV} (h : (
    callR (laws_eqDeclS [.cell (.sl 3 l1), .cell (.sl 3 l3)]) false [(false, [.bool false])] fun b5 =>
      bif (!b5) then
        some (.v (.cell (.bool false)))
      else
        callR (laws_eqFuncS [.cell (.sl 5 l2), .cell (.sl 5 l4)]) false [(false, [.bool false])] fun b6 =>
        bif (!b6) then
          some (.v (.cell (.bool false)))
        else
          some (.v (.cell (.bool true))) : Option AV) = some r) : laws_eqProgram [.agg [.sl 3 l1, .sl 5 l2], .agg [.sl 3 l3, .sl 5 l4]] = some r :=
  V_le (X := X_laws_eqProgram) (n := 100000) (c := cOf Try.f10) (by kernel_rfl) Try.func10 (by kernel_rfl) (of_decide_eq_true (by kernel_rfl)) (Eq.trans (by kernel_rfl) h)
noncomputable def X_spec_CallSites : Ctx := { P := Try.prog, L := lay, F := sig.has, E := ext, fn := Try.f11, lv := [(0, [1, 2, 5, 6])], jv := [], tp := [] }
noncomputable def spec_CallSites_L0 (n6 : Int) (l7 : List (List AC)) (l8 : List (List AC)) (n9 : Int) (n10 : Int) : Option AV := GL X_spec_CallSites 0 [(1, .v (.cell (.int n6))), (2, .box [.sl 3 l7, .sl 5 l8]), (5, .v (.cell (.int n9))), (6, .v (.cell (.int n10)))]
theorem spec_CallSites_L0_le {n6 : Int} {l7 : List (List AC)} {l8 : List (List AC)} {n9 : Int} {n10 : Int} {r : AV} (h : (
    bif (decide (n10 < ((l8.length : Nat) : Int))) then
        atR_ l8 n10 [.sl 1 [], .int 0, .int 0, .int 0, .sl 3 []] fun l11 n12 n13 n14 l15 =>
        callR (spec_callsIn [.agg [.int n13, .int n14, .sl 3 l15], .cell (.int n6)]) false [(false, [.int 0])] fun n16 =>
        spec_CallSites_L0 n6 l7 l8 (wrapI (n9 + n16)) (wrapI (n10 + 1))
      else
        some (.v (.cell (.int n9))) : Option AV) = some r) : spec_CallSites_L0 n6 l7 l8 n9 n10 = some r :=
  GL_le (X := X_spec_CallSites) (n := 100000) (by kernel_rfl) (by kernel_rfl : (X_spec_CallSites.fn.body.bind fun c => locL 0 c []) = some (.loop (loopOf (X_spec_CallSites.fn.body.bind fun c => locL 0 c [])), ksOf (X_spec_CallSites.fn.body.bind fun c => locL 0 c []))) (Eq.trans (by kernel_rfl) h)
theorem spec_CallSites_le {l1 : List (List AC)} {l2 : List (List AC)} {n3 : Int} {r : AV} (h : (
    callR (spec_validProgram [.agg [.sl 3 l1, .sl 5 l2]]) false [(false, [.bool false])] fun b4 =>
      bif (!b4) then
        some (.v (.cell (.int (-1))))
      else
        callR (spec_inRange [.cell (.int n3), .cell (.int 0), .cell (.int (wrapI (((l2.length : Nat) : Int) - 1)))]) false [(false, [.bool false])] fun b5 =>
        bif (!b5) then
          some (.v (.cell (.int (-1))))
        else
          spec_CallSites_L0 n3 l1 l2 0 0 : Option AV) = some r) : spec_CallSites [.agg [.sl 3 l1, .sl 5 l2], .cell (.int n3)] = some r :=
  V_le (X := X_spec_CallSites) (n := 100000) (c := cOf Try.f11) (by kernel_rfl) Try.func11 (by kernel_rfl) (of_decide_eq_true (by kernel_rfl)) (Eq.trans (by kernel_rfl) h)
noncomputable def X_impl_CallSites : Ctx := { P := Try.prog, L := lay, F := sig.has, E := ext, fn := Try.f12, lv := [(0, [1, 5, 18, 19, 20])], jv := [], tp := [] }
noncomputable def impl_CallSites_L0 (n6 : Int) (n7 : Int) (l8 : List (List AC)) (n9 : Int) (n10 : Int) : Option AV := GL X_impl_CallSites 0 [(1, .v (.cell (.int n6))), (5, .v (.cell (.int n7))), (18, .v (.cell (.sl 5 l8))), (19, .v (.cell (.int n9))), (20, .v (.cell (.int n10)))]
theorem impl_CallSites_L0_le {n6 : Int} {n7 : Int} {l8 : List (List AC)} {n9 : Int} {n10 : Int} {r : AV} (h : (
    bif (decide (n10 < n9)) then
        atR_ l8 n10 [.sl 1 [], .int 0, .int 0, .int 0, .sl 3 []] fun l11 n12 n13 n14 l15 =>
        callR (impl_nodesWith [.agg [.int n13, .int n14, .sl 3 l15], .cell (.int 9), .cell (.int n6)]) false [(false, [.int 0])] fun n16 =>
        impl_CallSites_L0 n6 (wrapI (n7 + n16)) l8 n9 (wrapI (n10 + 1))
      else
        some (.v (.cell (.int n7))) : Option AV) = some r) : impl_CallSites_L0 n6 n7 l8 n9 n10 = some r :=
  GL_le (X := X_impl_CallSites) (n := 100000) (by kernel_rfl) (by kernel_rfl : (X_impl_CallSites.fn.body.bind fun c => locL 0 c []) = some (.loop (loopOf (X_impl_CallSites.fn.body.bind fun c => locL 0 c [])), ksOf (X_impl_CallSites.fn.body.bind fun c => locL 0 c []))) (Eq.trans (by kernel_rfl) h)
theorem impl_CallSites_le {l1 : List (List AC)} {l2 : List (List AC)} {n3 : Int} {r : AV} (h : (
    callR (impl_ValidProgram [.agg [.sl 3 l1, .sl 5 l2]]) false [(false, [.bool false])] fun b4 =>
      bif (!b4) then
        some (.v (.cell (.int (-1))))
      else
        callR (impl_hasFunc [.agg [.sl 3 l1, .sl 5 l2], .cell (.int n3)]) false [(false, [.bool false])] fun b5 =>
        bif (!b5) then
          some (.v (.cell (.int (-1))))
        else
          impl_CallSites_L0 n3 0 l2 ((l2.length : Nat) : Int) 0 : Option AV) = some r) : impl_CallSites [.agg [.sl 3 l1, .sl 5 l2], .cell (.int n3)] = some r :=
  V_le (X := X_impl_CallSites) (n := 100000) (c := cOf Try.f12) (by kernel_rfl) Try.func12 (by kernel_rfl) (of_decide_eq_true (by kernel_rfl)) (Eq.trans (by kernel_rfl) h)
noncomputable def X_laws_szExpr : Ctx := { P := Try.prog, L := lay, F := sig.has, E := ext, fn := Try.f13, lv := [], jv := [], tp := [] }
theorem laws_szExpr_le {n1 : Int} {n2 : Int} {l3 : List (List AC)} {n4 : Int} {r : AV} (h : (
    callR (laws_szExprS [.cell (.sl 3 l3), .cell (.int n4)]) false [(false, [.int 0])] fun n5 =>
      bif (decide (n5 < 0)) then
        some (.v (.cell (.int (-1))))
      else
        some (.v (.cell (.int n5))) : Option AV) = some r) : laws_szExpr [.agg [.int n1, .int n2, .sl 3 l3], .cell (.int n4)] = some r :=
  V_le (X := X_laws_szExpr) (n := 100000) (c := cOf Try.f13) (by kernel_rfl) Try.func13 (by kernel_rfl) (of_decide_eq_true (by kernel_rfl)) (Eq.trans (by kernel_rfl) h)
noncomputable def X_spec_MentionsOf : Ctx := { P := Try.prog, L := lay, F := sig.has, E := ext, fn := Try.f14, lv := [], jv := [], tp := [] }
theorem spec_MentionsOf_le {n1 : Int} {n2 : Int} {l3 : List (List AC)} {n4 : Int} {r : AV} (h : (
    callR (spec_nodesOf [.agg [.int n1, .int n2, .sl 3 l3]]) false [(false, [.int 0])] fun n5 =>
      bif (decide (n5 < 0)) then
        some (.v (.cell (.int (-1))))
      else
        callR (spec_mentionsOf [.agg [.int n1, .int n2, .sl 3 l3], .cell (.int n4)]) false [(false, [.int 0])] fun n6 =>
        some (.v (.cell (.int n6))) : Option AV) = some r) : spec_MentionsOf [.agg [.int n1, .int n2, .sl 3 l3], .cell (.int n4)] = some r :=
  V_le (X := X_spec_MentionsOf) (n := 100000) (c := cOf Try.f14) (by kernel_rfl) Try.func14 (by kernel_rfl) (of_decide_eq_true (by kernel_rfl)) (Eq.trans (by kernel_rfl) h)
noncomputable def X_laws_toExpr : Ctx := { P := Try.prog, L := lay, F := sig.has, E := ext, fn := Try.f15, lv := [], jv := [], tp := [] }
theorem laws_toExpr_le {n1 : Int} {n2 : Int} {l3 : List (List AC)} {r : AV} (h : (
    callR (laws_toExprS [.cell (.sl 3 l3)]) false [(false, [.sl 3 []])] fun l4 =>
      some (.v (.agg [.int n1, .int n2, .sl 3 l4])) : Option AV) = some r) : laws_toExpr [.agg [.int n1, .int n2, .sl 3 l3]] = some r :=
  V_le (X := X_laws_toExpr) (n := 100000) (c := cOf Try.f15) (by kernel_rfl) Try.func15 (by kernel_rfl) (of_decide_eq_true (by kernel_rfl)) (Eq.trans (by kernel_rfl) h)
noncomputable def X_impl_MentionsOf : Ctx := { P := Try.prog, L := lay, F := sig.has, E := ext, fn := Try.f16, lv := [], jv := [], tp := [] }
theorem impl_MentionsOf_le {n1 : Int} {n2 : Int} {l3 : List (List AC)} {n4 : Int} {r : AV} (h : (
    callR (impl_NodesOf [.agg [.int n1, .int n2, .sl 3 l3]]) false [(false, [.int 0])] fun n5 =>
      bif (decide (n5 < 0)) then
        some (.v (.cell (.int (-1))))
      else
        callR (impl_nodesWith [.agg [.int n1, .int n2, .sl 3 l3], .cell (.int 12), .cell (.int n4)]) false [(false, [.int 0])] fun n6 =>
        some (.v (.cell (.int n6))) : Option AV) = some r) : impl_MentionsOf [.agg [.int n1, .int n2, .sl 3 l3], .cell (.int n4)] = some r :=
  V_le (X := X_impl_MentionsOf) (n := 100000) (c := cOf Try.f16) (by kernel_rfl) Try.func16 (by kernel_rfl) (of_decide_eq_true (by kernel_rfl)) (Eq.trans (by kernel_rfl) h)
noncomputable def X_laws_eqExpr : Ctx := { P := Try.prog, L := lay, F := sig.has, E := ext, fn := Try.f17, lv := [], jv := [], tp := [] }
theorem laws_eqExpr_le {n1 : Int} {n2 : Int} {l3 : List (List AC)} {n4 : Int} {n5 : Int} {l6 : List (List AC)} {r : AV} (h : (
    bif (n1 != n4) then
        some (.v (.cell (.bool false)))
      else
        bif (n2 != n5) then
          some (.v (.cell (.bool false)))
        else
          callR (laws_eqExprS [.cell (.sl 3 l3), .cell (.sl 3 l6)]) false [(false, [.bool false])] fun b7 =>
          bif (!b7) then
            some (.v (.cell (.bool false)))
          else
            some (.v (.cell (.bool true))) : Option AV) = some r) : laws_eqExpr [.agg [.int n1, .int n2, .sl 3 l3], .agg [.int n4, .int n5, .sl 3 l6]] = some r :=
  V_le (X := X_laws_eqExpr) (n := 100000) (c := cOf Try.f17) (by kernel_rfl) Try.func17 (by kernel_rfl) (of_decide_eq_true (by kernel_rfl)) (Eq.trans (by kernel_rfl) h)
noncomputable def X_laws_szDeclS : Ctx := { P := Try.prog, L := lay, F := sig.has, E := ext, fn := Try.f18, lv := [(0, [0, 1, 5])], jv := [], tp := [] }
noncomputable def laws_szDeclS_L0 (l3 : List (List AC)) (n4 : Int) (n5 : Int) : Option AV := GL X_laws_szDeclS 0 [(0, .v (.cell (.sl 3 l3))), (1, .v (.cell (.int n4))), (5, .v (.cell (.int n5)))]
theorem laws_szDeclS_L0_le {l3 : List (List AC)} {n4 : Int} {n5 : Int} {r : AV} (h : (
    bif (decide (n5 < ((l3.length : Nat) : Int))) then
        atR_ l3 n5 [.int 0, .int 0, .sl 1 []] fun n6 n7 l8 =>
        callR (laws_szDecl [.agg [.int n6, .int n7, .sl 1 l8], .cell (.int n4)]) false [(false, [.int 0])] fun n9 =>
        bif (decide (n9 < 0)) then
          some (.v (.cell (.int (-1))))
        else
          laws_szDeclS_L0 l3 n9 (wrapI (n5 + 1))
      else
        some (.v (.cell (.int n4))) : Option AV) = some r) : laws_szDeclS_L0 l3 n4 n5 = some r :=
  GL_le (X := X_laws_szDeclS) (n := 100000) (by kernel_rfl) (by kernel_rfl : (X_laws_szDeclS.fn.body.bind fun c => locL 0 c []) = some (.loop (loopOf (X_laws_szDeclS.fn.body.bind fun c => locL 0 c [])), ksOf (X_laws_szDeclS.fn.body.bind fun c => locL 0 c []))) (Eq.trans (by kernel_rfl) h)
theorem laws_szDeclS_le {l1 : List (List AC)} {n2 : Int} {r : AV} (h : (
    bif (decide ((wrapI (n2 - ((l1.length : Nat) : Int))) < 0)) then
        some (.v (.cell (.int (-1))))
      else
        laws_szDeclS_L0 l1 (wrapI (n2 - ((l1.length : Nat) : Int))) 0 : Option AV) = some r) : laws_szDeclS [.cell (.sl 3 l1), .cell (.int n2)] = some r :=
  V_le (X := X_laws_szDeclS) (n := 100000) (c := cOf Try.f18) (by kernel_rfl) Try.func18 (by kernel_rfl) (of_decide_eq_true (by kernel_rfl)) (Eq.trans (by kernel_rfl) h)
noncomputable def X_laws_szFuncS : Ctx := { P := Try.prog, L := lay, F := sig.has, E := ext, fn := Try.f19, lv := [(0, [0, 1, 5])], jv := [], tp := [] }
noncomputable def laws_szFuncS_L0 (l3 : List (List AC)) (n4 : Int) (n5 : Int) : Option AV := GL X_laws_szFuncS 0 [(0, .v (.cell (.sl 5 l3))), (1, .v (.cell (.int n4))), (5, .v (.cell (.int n5)))]
theorem laws_szFuncS_L0_le {l3 : List (List AC)} {n4 : Int} {n5 : Int} {r : AV} (h : (
    bif (decide (n5 < ((l3.length : Nat) : Int))) then
        atR_ l3 n5 [.sl 1 [], .int 0, .int 0, .int 0, .sl 3 []] fun l6 n7 n8 n9 l10 =>
        callR (laws_szFunc [.agg [.sl 1 l6, .int n7, .int n8, .int n9, .sl 3 l10], .cell (.int n4)]) false [(false, [.int 0])] fun n11 =>
        bif (decide (n11 < 0)) then
          some (.v (.cell (.int (-1))))
        else
          laws_szFuncS_L0 l3 n11 (wrapI (n5 + 1))
      else
        some (.v (.cell (.int n4))) : Option AV) = some r) : laws_szFuncS_L0 l3 n4 n5 = some r :=
  GL_le (X := X_laws_szFuncS) (n := 100000) (by kernel_rfl) (by kernel_rfl : (X_laws_szFuncS.fn.body.bind fun c => locL 0 c []) = some (.loop (loopOf (X_laws_szFuncS.fn.body.bind fun c => locL 0 c [])), ksOf (X_laws_szFuncS.fn.body.bind fun c => locL 0 c []))) (Eq.trans (by kernel_rfl) h)
theorem laws_szFuncS_le {l1 : List (List AC)} {n2 : Int} {r : AV} (h : (
    bif (decide ((wrapI (n2 - ((l1.length : Nat) : Int))) < 0)) then
        some (.v (.cell (.int (-1))))
      else
        laws_szFuncS_L0 l1 (wrapI (n2 - ((l1.length : Nat) : Int))) 0 : Option AV) = some r) : laws_szFuncS [.cell (.sl 5 l1), .cell (.int n2)] = some r :=
  V_le (X := X_laws_szFuncS) (n := 100000) (c := cOf Try.f19) (by kernel_rfl) Try.func19 (by kernel_rfl) (of_decide_eq_true (by kernel_rfl)) (Eq.trans (by kernel_rfl) h)
noncomputable def X_spec_validProgram : Ctx := { P := Try.prog, L := lay, F := sig.has, E := ext, fn := Try.f20, lv := [(0, [1, 3])], jv := [], tp := [] }
noncomputable def spec_validProgram_L0 (l4 : List (List AC)) (l5 : List (List AC)) (n6 : Int) : Option AV := GL X_spec_validProgram 0 [(1, .box [.sl 3 l4, .sl 5 l5]), (3, .v (.cell (.int n6)))]
theorem spec_validProgram_L0_le {l4 : List (List AC)} {l5 : List (List AC)} {n6 : Int} {r : AV} (h : (
    bif (decide (n6 < ((l5.length : Nat) : Int))) then
        atR_ l5 n6 [.sl 1 [], .int 0, .int 0, .int 0, .sl 3 []] fun l7 n8 n9 n10 l11 =>
        callR (spec_nodesOf [.agg [.int n9, .int n10, .sl 3 l11]]) false [(false, [.int 0])] fun n12 =>
        bif (decide (n12 < 0)) then
          some (.v (.cell (.bool false)))
        else
          atR_ l5 n6 [.sl 1 [], .int 0, .int 0, .int 0, .sl 3 []] fun l13 n14 n15 n16 l17 =>
          atR_ l5 n6 [.sl 1 [], .int 0, .int 0, .int 0, .sl 3 []] fun l18 n19 n20 n21 l22 =>
          callR (spec_typeOf [.agg [.sl 3 l4, .sl 5 l5], .cell (.sl 1 l13), .agg [.int n20, .int n21, .sl 3 l22]]) false [(false, [.int 0])] fun n23 =>
          atR_ l5 n6 [.sl 1 [], .int 0, .int 0, .int 0, .sl 3 []] fun l24 n25 n26 n27 l28 =>
          bif (n23 != n25) then
            some (.v (.cell (.bool false)))
          else
            spec_validProgram_L0 l4 l5 (wrapI (n6 + 1))
      else
        some (.v (.cell (.bool true))) : Option AV) = some r) : spec_validProgram_L0 l4 l5 n6 = some r :=
  GL_le (X := X_spec_validProgram) (n := 100000) (by kernel_rfl) (by kernel_rfl : (X_spec_validProgram.fn.body.bind fun c => locL 0 c []) = some (.loop (loopOf (X_spec_validProgram.fn.body.bind fun c => locL 0 c [])), ksOf (X_spec_validProgram.fn.body.bind fun c => locL 0 c []))) (Eq.trans (by kernel_rfl) h)
theorem spec_validProgram_le {l1 : List (List AC)} {l2 : List (List AC)} {r : AV} (h : (
    callR (spec_validSigs [.agg [.sl 3 l1, .sl 5 l2]]) false [(false, [.bool false])] fun b3 =>
      bif (!b3) then
        some (.v (.cell (.bool false)))
      else
        spec_validProgram_L0 l1 l2 0 : Option AV) = some r) : spec_validProgram [.agg [.sl 3 l1, .sl 5 l2]] = some r :=
  V_le (X := X_spec_validProgram) (n := 100000) (c := cOf Try.f20) (by kernel_rfl) Try.func20 (by kernel_rfl) (of_decide_eq_true (by kernel_rfl)) (Eq.trans (by kernel_rfl) h)
noncomputable def X_spec_mayInline : Ctx := { P := Try.prog, L := lay, F := sig.has, E := ext, fn := Try.f21, lv := [(0, [1, 2, 5, 6])], jv := [], tp := [] }
noncomputable def spec_mayInline_L0 (n11 : Int) (l12 : List (List AC)) (l13 : List (List AC)) (l14 : List (List AC)) (n15 : Int) : Option AV := GL X_spec_mayInline 0 [(1, .v (.cell (.int n11))), (2, .box [.sl 3 l12, .sl 5 l13]), (5, .v (.cell (.sl 1 l14))), (6, .v (.cell (.int n15)))]
theorem spec_mayInline_L0_le {n11 : Int} {l12 : List (List AC)} {l13 : List (List AC)} {l14 : List (List AC)} {n15 : Int} {r : AV} (h : (
    bif (decide (n15 < ((l14.length : Nat) : Int))) then
        atR_ l14 n15 [.int 0] fun n16 =>
        callR (spec_reachedFrom [.agg [.sl 3 l12, .sl 5 l13], .cell (.int n16)]) false [(false, [.sl 1 []])] fun l17 =>
        callR (spec_isIn [.cell (.sl 1 l17), .cell (.int n11)]) false [(false, [.bool false])] fun b18 =>
        bif b18 then
          some (.v (.cell (.bool false)))
        else
          spec_mayInline_L0 n11 l12 l13 l14 (wrapI (n15 + 1))
      else
        some (.v (.cell (.bool true))) : Option AV) = some r) : spec_mayInline_L0 n11 l12 l13 l14 n15 = some r :=
  GL_le (X := X_spec_mayInline) (n := 100000) (by kernel_rfl) (by kernel_rfl : (X_spec_mayInline.fn.body.bind fun c => locL 0 c []) = some (.loop (loopOf (X_spec_mayInline.fn.body.bind fun c => locL 0 c [])), ksOf (X_spec_mayInline.fn.body.bind fun c => locL 0 c []))) (Eq.trans (by kernel_rfl) h)
theorem spec_mayInline_le {l1 : List (List AC)} {l2 : List (List AC)} {n3 : Int} {r : AV} (h : (
    callR (spec_inRange [.cell (.int n3), .cell (.int 1), .cell (.int (wrapI (((l2.length : Nat) : Int) - 1)))]) false [(false, [.bool false])] fun b4 =>
      bif (!b4) then
        some (.v (.cell (.bool false)))
      else
        atR_ l2 n3 [.sl 1 [], .int 0, .int 0, .int 0, .sl 3 []] fun l5 n6 n7 n8 l9 =>
        callR (spec_calleesIn [.agg [.int n7, .int n8, .sl 3 l9], .cell (.sl 1 [])]) false [(false, [.sl 1 []])] fun l10 =>
        spec_mayInline_L0 n3 l1 l2 l10 0 : Option AV) = some r) : spec_mayInline [.agg [.sl 3 l1, .sl 5 l2], .cell (.int n3)] = some r :=
  V_le (X := X_spec_mayInline) (n := 100000) (c := cOf Try.f21) (by kernel_rfl) Try.func21 (by kernel_rfl) (of_decide_eq_true (by kernel_rfl)) (Eq.trans (by kernel_rfl) h)
noncomputable def X_impl_ValidProgram : Ctx := { P := Try.prog, L := lay, F := sig.has, E := ext, fn := Try.f24, lv := [(0, [1, 9, 10, 11])], jv := [], tp := [] }
noncomputable def impl_ValidProgram_L0 (l4 : List (List AC)) (l5 : List (List AC)) (l6 : List (List AC)) (n7 : Int) (n8 : Int) : Option AV := GL X_impl_ValidProgram 0 [(1, .box [.sl 3 l4, .sl 5 l5]), (9, .v (.cell (.sl 5 l6))), (10, .v (.cell (.int n7))), (11, .v (.cell (.int n8)))]
theorem impl_ValidProgram_L0_le {l4 : List (List AC)} {l5 : List (List AC)} {l6 : List (List AC)} {n7 : Int} {n8 : Int} {r : AV} (h : (
    bif (decide (n8 < n7)) then
        atR_ l6 n8 [.sl 1 [], .int 0, .int 0, .int 0, .sl 3 []] fun l9 n10 n11 n12 l13 =>
        callR (impl_TypeOf [.agg [.sl 3 l4, .sl 5 l5], .cell (.sl 1 l9), .agg [.int n11, .int n12, .sl 3 l13]]) false [(false, [.int 0])] fun n14 =>
        bif (n14 != n10) then
          some (.v (.cell (.bool false)))
        else
          impl_ValidProgram_L0 l4 l5 l6 n7 (wrapI (n8 + 1))
      else
        some (.v (.cell (.bool true))) : Option AV) = some r) : impl_ValidProgram_L0 l4 l5 l6 n7 n8 = some r :=
  GL_le (X := X_impl_ValidProgram) (n := 100000) (by kernel_rfl) (by kernel_rfl : (X_impl_ValidProgram.fn.body.bind fun c => locL 0 c []) = some (.loop (loopOf (X_impl_ValidProgram.fn.body.bind fun c => locL 0 c [])), ksOf (X_impl_ValidProgram.fn.body.bind fun c => locL 0 c []))) (Eq.trans (by kernel_rfl) h)
theorem impl_ValidProgram_le {l1 : List (List AC)} {l2 : List (List AC)} {r : AV} (h : (
    callR (impl_ValidSigs [.agg [.sl 3 l1, .sl 5 l2]]) false [(false, [.bool false])] fun b3 =>
      bif (!b3) then
        some (.v (.cell (.bool false)))
      else
        impl_ValidProgram_L0 l1 l2 l2 ((l2.length : Nat) : Int) 0 : Option AV) = some r) : impl_ValidProgram [.agg [.sl 3 l1, .sl 5 l2]] = some r :=
  V_le (X := X_impl_ValidProgram) (n := 100000) (c := cOf Try.f24) (by kernel_rfl) Try.func24 (by kernel_rfl) (of_decide_eq_true (by kernel_rfl)) (Eq.trans (by kernel_rfl) h)
noncomputable def X_impl_hasFunc : Ctx := { P := Try.prog, L := lay, F := sig.has, E := ext, fn := Try.f25, lv := [], jv := [], tp := [] }
theorem impl_hasFunc_le {l1 : List (List AC)} {l2 : List (List AC)} {n3 : Int} {r : AV} (h : (
    bif (decide (n3 ≥ 0)) then
        some (.v (.cell (.bool (decide (n3 < ((l2.length : Nat) : Int))))))
      else
        some (.v (.cell (.bool false))) : Option AV) = some r) : impl_hasFunc [.agg [.sl 3 l1, .sl 5 l2], .cell (.int n3)] = some r :=
  V_le (X := X_impl_hasFunc) (n := 100000) (c := cOf Try.f25) (by kernel_rfl) Try.func25 (by kernel_rfl) (of_decide_eq_true (by kernel_rfl)) (Eq.trans (by kernel_rfl) h)
noncomputable def X_impl_CalleesOf : Ctx := { P := Try.prog, L := lay, F := sig.has, E := ext, fn := Try.f26, lv := [], jv := [], tp := [] }
theorem impl_CalleesOf_le {l1 : List (List AC)} {l2 : List (List AC)} {n3 : Int} {r : AV} (h : (
    callR (impl_ValidProgram [.agg [.sl 3 l1, .sl 5 l2]]) false [(false, [.bool false])] fun b4 =>
      bif (!b4) then
        some (.v (.cell (.sl 1 [])))
      else
        callR (impl_hasFunc [.agg [.sl 3 l1, .sl 5 l2], .cell (.int n3)]) false [(false, [.bool false])] fun b5 =>
        bif (!b5) then
          some (.v (.cell (.sl 1 [])))
        else
          atR_ l2 n3 [.sl 1 [], .int 0, .int 0, .int 0, .sl 3 []] fun l6 n7 n8 n9 l10 =>
          callR (impl_withNamed [.cell (.sl 1 []), .agg [.int n8, .int n9, .sl 3 l10]]) false [(false, [.sl 1 []])] fun l11 =>
          some (.v (.cell (.sl 1 l11))) : Option AV) = some r) : impl_CalleesOf [.agg [.sl 3 l1, .sl 5 l2], .cell (.int n3)] = some r :=
  V_le (X := X_impl_CalleesOf) (n := 100000) (c := cOf Try.f26) (by kernel_rfl) Try.func26 (by kernel_rfl) (of_decide_eq_true (by kernel_rfl)) (Eq.trans (by kernel_rfl) h)
noncomputable def X_impl_hasInt : Ctx := { P := Try.prog, L := lay, F := sig.has, E := ext, fn := Try.f27, lv := [(0, [1, 7, 8, 9])], jv := [], tp := [] }
noncomputable def impl_hasInt_L0 (n3 : Int) (l4 : List (List AC)) (n5 : Int) (n6 : Int) : Option AV := GL X_impl_hasInt 0 [(1, .v (.cell (.int n3))), (7, .v (.cell (.sl 1 l4))), (8, .v (.cell (.int n5))), (9, .v (.cell (.int n6)))]
theorem impl_hasInt_L0_le {n3 : Int} {l4 : List (List AC)} {n5 : Int} {n6 : Int} {r : AV} (h : (
    bif (decide (n6 < n5)) then
        atR_ l4 n6 [.int 0] fun n7 =>
        bif (n7 == n3) then
          some (.v (.cell (.bool true)))
        else
          impl_hasInt_L0 n3 l4 n5 (wrapI (n6 + 1))
      else
        some (.v (.cell (.bool false))) : Option AV) = some r) : impl_hasInt_L0 n3 l4 n5 n6 = some r :=
  GL_le (X := X_impl_hasInt) (n := 100000) (by kernel_rfl) (by kernel_rfl : (X_impl_hasInt.fn.body.bind fun c => locL 0 c []) = some (.loop (loopOf (X_impl_hasInt.fn.body.bind fun c => locL 0 c [])), ksOf (X_impl_hasInt.fn.body.bind fun c => locL 0 c []))) (Eq.trans (by kernel_rfl) h)
theorem impl_hasInt_le {l1 : List (List AC)} {n2 : Int} {r : AV} (h : (
    impl_hasInt_L0 n2 l1 ((l1.length : Nat) : Int) 0 : Option AV) = some r) : impl_hasInt [.cell (.sl 1 l1), .cell (.int n2)] = some r :=
  V_le (X := X_impl_hasInt) (n := 100000) (c := cOf Try.f27) (by kernel_rfl) Try.func27 (by kernel_rfl) (of_decide_eq_true (by kernel_rfl)) (Eq.trans (by kernel_rfl) h)
noncomputable def X_impl_ReachedFrom : Ctx := { P := Try.prog, L := lay, F := sig.has, E := ext, fn := Try.f28, lv := [(0, [2, 5, 6])], jv := [], tp := [] }
noncomputable def impl_ReachedFrom_L0 (l6 : List (List AC)) (l7 : List (List AC)) (l8 : List (List AC)) (n9 : Int) : Option AV := GL X_impl_ReachedFrom 0 [(2, .box [.sl 3 l6, .sl 5 l7]), (5, .v (.cell (.sl 1 l8))), (6, .v (.cell (.int n9)))]
theorem impl_ReachedFrom_L0_le {l6 : List (List AC)} {l7 : List (List AC)} {l8 : List (List AC)} {n9 : Int} {r : AV} (h : (
    bif (decide (n9 < ((l7.length : Nat) : Int))) then
        callR (impl_withCallees [.agg [.sl 3 l6, .sl 5 l7], .cell (.sl 1 l8)]) false [(false, [.sl 1 []])] fun l10 =>
        impl_ReachedFrom_L0 l6 l7 l10 (wrapI (n9 + 1))
      else
        some (.v (.cell (.sl 1 l8))) : Option AV) = some r) : impl_ReachedFrom_L0 l6 l7 l8 n9 = some r :=
  GL_le (X := X_impl_ReachedFrom) (n := 100000) (by kernel_rfl) (by kernel_rfl : (X_impl_ReachedFrom.fn.body.bind fun c => locL 0 c []) = some (.loop (loopOf (X_impl_ReachedFrom.fn.body.bind fun c => locL 0 c [])), ksOf (X_impl_ReachedFrom.fn.body.bind fun c => locL 0 c []))) (Eq.trans (by kernel_rfl) h)
theorem impl_ReachedFrom_le {l1 : List (List AC)} {l2 : List (List AC)} {n3 : Int} {r : AV} (h : (
    callR (impl_ValidProgram [.agg [.sl 3 l1, .sl 5 l2]]) false [(false, [.bool false])] fun b4 =>
      bif (!b4) then
        some (.v (.cell (.sl 1 [])))
      else
        callR (impl_hasFunc [.agg [.sl 3 l1, .sl 5 l2], .cell (.int n3)]) false [(false, [.bool false])] fun b5 =>
        bif (!b5) then
          some (.v (.cell (.sl 1 [])))
        else
          impl_ReachedFrom_L0 l1 l2 [[.int n3]] 0 : Option AV) = some r) : impl_ReachedFrom [.agg [.sl 3 l1, .sl 5 l2], .cell (.int n3)] = some r :=
  V_le (X := X_impl_ReachedFrom) (n := 100000) (c := cOf Try.f28) (by kernel_rfl) Try.func28 (by kernel_rfl) (of_decide_eq_true (by kernel_rfl)) (Eq.trans (by kernel_rfl) h)
noncomputable def X_laws_eqDeclS : Ctx := { P := Try.prog, L := lay, F := sig.has, E := ext, fn := Try.f29, lv := [(0, [0, 1, 5])], jv := [], tp := [] }
noncomputable def laws_eqDeclS_L0 (l3 : List (List AC)) (l4 : List (List AC)) (n5 : Int) : Option AV := GL X_laws_eqDeclS 0 [(0, .v (.cell (.sl 3 l3))), (1, .v (.cell (.sl 3 l4))), (5, .v (.cell (.int n5)))]
theorem laws_eqDeclS_L0_le {l3 : List (List AC)} {l4 : List (List AC)} {n5 : Int} {r : AV} (h : (
    bif (decide (n5 < ((l3.length : Nat) : Int))) then
        atR_ l3 n5 [.int 0, .int 0, .sl 1 []] fun n6 n7 l8 =>
        atR_ l4 n5 [.int 0, .int 0, .sl 1 []] fun n9 n10 l11 =>
        callR (laws_eqDecl [.agg [.int n6, .int n7, .sl 1 l8], .agg [.int n9, .int n10, .sl 1 l11]]) false [(false, [.bool false])] fun b12 =>
        bif (!b12) then
          some (.v (.cell (.bool false)))
        else
          laws_eqDeclS_L0 l3 l4 (wrapI (n5 + 1))
      else
        some (.v (.cell (.bool true))) : Option AV) = some r) : laws_eqDeclS_L0 l3 l4 n5 = some r :=
  GL_le (X := X_laws_eqDeclS) (n := 100000) (by kernel_rfl) (by kernel_rfl : (X_laws_eqDeclS.fn.body.bind fun c => locL 0 c []) = some (.loop (loopOf (X_laws_eqDeclS.fn.body.bind fun c => locL 0 c [])), ksOf (X_laws_eqDeclS.fn.body.bind fun c => locL 0 c []))) (Eq.trans (by kernel_rfl) h)
theorem laws_eqDeclS_le {l1 : List (List AC)} {l2 : List (List AC)} {r : AV} (h : (
    bif (((l1.length : Nat) : Int) != ((l2.length : Nat) : Int)) then
        some (.v (.cell (.bool false)))
      else
        laws_eqDeclS_L0 l1 l2 0 : Option AV) = some r) : laws_eqDeclS [.cell (.sl 3 l1), .cell (.sl 3 l2)] = some r :=
  V_le (X := X_laws_eqDeclS) (n := 100000) (c := cOf Try.f29) (by kernel_rfl) Try.func29 (by kernel_rfl) (of_decide_eq_true (by kernel_rfl)) (Eq.trans (by kernel_rfl) h)
noncomputable def X_laws_eqFuncS : Ctx := { P := Try.prog, L := lay, F := sig.has, E := ext, fn := Try.f30, lv := [(0, [0, 1, 5])], jv := [], tp := [] }
noncomputable def laws_eqFuncS_L0 (l3 : List (List AC)) (l4 : List (List AC)) (n5 : Int) : Option AV := GL X_laws_eqFuncS 0 [(0, .v (.cell (.sl 5 l3))), (1, .v (.cell (.sl 5 l4))), (5, .v (.cell (.int n5)))]
theorem laws_eqFuncS_L0_le {l3 : List (List AC)} {l4 : List (List AC)} {n5 : Int} {r : AV} (h : (
    bif (decide (n5 < ((l3.length : Nat) : Int))) then
        atR_ l3 n5 [.sl 1 [], .int 0, .int 0, .int 0, .sl 3 []] fun l6 n7 n8 n9 l10 =>
        atR_ l4 n5 [.sl 1 [], .int 0, .int 0, .int 0, .sl 3 []] fun l11 n12 n13 n14 l15 =>
        callR (laws_eqFunc [.agg [.sl 1 l6, .int n7, .int n8, .int n9, .sl 3 l10], .agg [.sl 1 l11, .int n12, .int n13, .int n14, .sl 3 l15]]) false [(false, [.bool false])] fun b16 =>
        bif (!b16) then
          some (.v (.cell (.bool false)))
        else
          laws_eqFuncS_L0 l3 l4 (wrapI (n5 + 1))
      else
        some (.v (.cell (.bool true))) : Option AV) = some r) : laws_eqFuncS_L0 l3 l4 n5 = some r :=
  GL_le (X := X_laws_eqFuncS) (n := 100000) (by kernel_rfl) (by kernel_rfl : (X_laws_eqFuncS.fn.body.bind fun c => locL 0 c []) = some (.loop (loopOf (X_laws_eqFuncS.fn.body.bind fun c => locL 0 c [])), ksOf (X_laws_eqFuncS.fn.body.bind fun c => locL 0 c []))) (Eq.trans (by kernel_rfl) h)
theorem laws_eqFuncS_le {l1 : List (List AC)} {l2 : List (List AC)} {r : AV} (h : (
    bif (((l1.length : Nat) : Int) != ((l2.length : Nat) : Int)) then
        some (.v (.cell (.bool false)))
      else
        laws_eqFuncS_L0 l1 l2 0 : Option AV) = some r) : laws_eqFuncS [.cell (.sl 5 l1), .cell (.sl 5 l2)] = some r :=
  V_le (X := X_laws_eqFuncS) (n := 100000) (c := cOf Try.f30) (by kernel_rfl) Try.func30 (by kernel_rfl) (of_decide_eq_true (by kernel_rfl)) (Eq.trans (by kernel_rfl) h)
noncomputable def X_spec_inRange : Ctx := { P := Try.prog, L := lay, F := sig.has, E := ext, fn := Try.f31, lv := [], jv := [], tp := [] }
theorem spec_inRange_le {n1 : Int} {n2 : Int} {n3 : Int} {r : AV} (h : (
    bif (decide (n2 ≤ n1)) then
        some (.v (.cell (.bool (decide (n1 ≤ n3)))))
      else
        some (.v (.cell (.bool false))) : Option AV) = some r) : spec_inRange [.cell (.int n1), .cell (.int n2), .cell (.int n3)] = some r :=
  V_le (X := X_spec_inRange) (n := 100000) (c := cOf Try.f31) (by kernel_rfl) Try.func31 (by kernel_rfl) (of_decide_eq_true (by kernel_rfl)) (Eq.trans (by kernel_rfl) h)
noncomputable def X_spec_callsIn : Ctx := { P := Try.prog, L := lay, F := sig.has, E := ext, fn := Try.f32, lv := [(0, [1, 2, 5, 6])], jv := [], tp := [] }
noncomputable def spec_callsIn_L0 (n5 : Int) (n6 : Int) (n7 : Int) (l8 : List (List AC)) (n9 : Int) (n10 : Int) : Option AV := GL X_spec_callsIn 0 [(1, .v (.cell (.int n5))), (2, .box [.int n6, .int n7, .sl 3 l8]), (5, .v (.cell (.int n9))), (6, .v (.cell (.int n10)))]
theorem spec_callsIn_L0_le {n5 : Int} {n6 : Int} {n7 : Int} {l8 : List (List AC)} {n9 : Int} {n10 : Int} {r : AV} (h : (
    bif (decide (n10 < ((l8.length : Nat) : Int))) then
        atR_ l8 n10 [.int 0, .int 0, .sl 3 []] fun n11 n12 l13 =>
        callR (spec_callsIn [.agg [.int n11, .int n12, .sl 3 l13], .cell (.int n5)]) false [(false, [.int 0])] fun n14 =>
        spec_callsIn_L0 n5 n6 n7 l8 (wrapI (n9 + n14)) (wrapI (n10 + 1))
      else
        some (.v (.cell (.int n9))) : Option AV) = some r) : spec_callsIn_L0 n5 n6 n7 l8 n9 n10 = some r :=
  GL_le (X := X_spec_callsIn) (n := 100000) (by kernel_rfl) (by kernel_rfl : (X_spec_callsIn.fn.body.bind fun c => locL 0 c []) = some (.loop (loopOf (X_spec_callsIn.fn.body.bind fun c => locL 0 c [])), ksOf (X_spec_callsIn.fn.body.bind fun c => locL 0 c []))) (Eq.trans (by kernel_rfl) h)
theorem spec_callsIn_le {n1 : Int} {n2 : Int} {l3 : List (List AC)} {n4 : Int} {r : AV} (h : (
    bif (n1 == 9) then
        bif (n2 == n4) then
          spec_callsIn_L0 n4 n1 n2 l3 1 0
        else
          spec_callsIn_L0 n4 n1 n2 l3 0 0
      else
        spec_callsIn_L0 n4 n1 n2 l3 0 0 : Option AV) = some r) : spec_callsIn [.agg [.int n1, .int n2, .sl 3 l3], .cell (.int n4)] = some r :=
  V_le (X := X_spec_callsIn) (n := 100000) (c := cOf Try.f32) (by kernel_rfl) Try.func32 (by kernel_rfl) (of_decide_eq_true (by kernel_rfl)) (Eq.trans (by kernel_rfl) h)
noncomputable def X_impl_nodesWith : Ctx := { P := Try.prog, L := lay, F := sig.has, E := ext, fn := Try.f33, lv := [(0, [1, 2, 7, 21, 22, 23])], jv := [], tp := [] }
noncomputable def impl_nodesWith_L0 (n6 : Int) (n7 : Int) (n8 : Int) (l9 : List (List AC)) (n10 : Int) (n11 : Int) : Option AV := GL X_impl_nodesWith 0 [(1, .v (.cell (.int n6))), (2, .v (.cell (.int n7))), (7, .v (.cell (.int n8))), (21, .v (.cell (.sl 3 l9))), (22, .v (.cell (.int n10))), (23, .v (.cell (.int n11)))]
theorem impl_nodesWith_L0_le {n6 : Int} {n7 : Int} {n8 : Int} {l9 : List (List AC)} {n10 : Int} {n11 : Int} {r : AV} (h : (
    bif (decide (n11 < n10)) then
        atR_ l9 n11 [.int 0, .int 0, .sl 3 []] fun n12 n13 l14 =>
        callR (impl_nodesWith [.agg [.int n12, .int n13, .sl 3 l14], .cell (.int n6), .cell (.int n7)]) false [(false, [.int 0])] fun n15 =>
        impl_nodesWith_L0 n6 n7 (wrapI (n8 + n15)) l9 n10 (wrapI (n11 + 1))
      else
        some (.v (.cell (.int n8))) : Option AV) = some r) : impl_nodesWith_L0 n6 n7 n8 l9 n10 n11 = some r :=
  GL_le (X := X_impl_nodesWith) (n := 100000) (by kernel_rfl) (by kernel_rfl : (X_impl_nodesWith.fn.body.bind fun c => locL 0 c []) = some (.loop (loopOf (X_impl_nodesWith.fn.body.bind fun c => locL 0 c [])), ksOf (X_impl_nodesWith.fn.body.bind fun c => locL 0 c []))) (Eq.trans (by kernel_rfl) h)
theorem impl_nodesWith_le {n1 : Int} {n2 : Int} {l3 : List (List AC)} {n4 : Int} {n5 : Int} {r : AV} (h : (
    bif (n1 == n4) then
        bif (n2 == n5) then
          impl_nodesWith_L0 n4 n5 1 l3 ((l3.length : Nat) : Int) 0
        else
          impl_nodesWith_L0 n4 n5 0 l3 ((l3.length : Nat) : Int) 0
      else
        impl_nodesWith_L0 n4 n5 0 l3 ((l3.length : Nat) : Int) 0 : Option AV) = some r) : impl_nodesWith [.agg [.int n1, .int n2, .sl 3 l3], .cell (.int n4), .cell (.int n5)] = some r :=
  V_le (X := X_impl_nodesWith) (n := 100000) (c := cOf Try.f33) (by kernel_rfl) Try.func33 (by kernel_rfl) (of_decide_eq_true (by kernel_rfl)) (Eq.trans (by kernel_rfl) h)
noncomputable def X_laws_szExprS : Ctx := { P := Try.prog, L := lay, F := sig.has, E := ext, fn := Try.f34, lv := [(0, [0, 1, 5])], jv := [], tp := [] }
noncomputable def laws_szExprS_L0 (l3 : List (List AC)) (n4 : Int) (n5 : Int) : Option AV := GL X_laws_szExprS 0 [(0, .v (.cell (.sl 3 l3))), (1, .v (.cell (.int n4))), (5, .v (.cell (.int n5)))]
theorem laws_szExprS_L0_le {l3 : List (List AC)} {n4 : Int} {n5 : Int} {r : AV} (h : (
    bif (decide (n5 < ((l3.length : Nat) : Int))) then
        atR_ l3 n5 [.int 0, .int 0, .sl 3 []] fun n6 n7 l8 =>
        callR (laws_szExpr [.agg [.int n6, .int n7, .sl 3 l8], .cell (.int n4)]) false [(false, [.int 0])] fun n9 =>
        bif (decide (n9 < 0)) then
          some (.v (.cell (.int (-1))))
        else
          laws_szExprS_L0 l3 n9 (wrapI (n5 + 1))
      else
        some (.v (.cell (.int n4))) : Option AV) = some r) : laws_szExprS_L0 l3 n4 n5 = some r :=
  GL_le (X := X_laws_szExprS) (n := 100000) (by kernel_rfl) (by kernel_rfl : (X_laws_szExprS.fn.body.bind fun c => locL 0 c []) = some (.loop (loopOf (X_laws_szExprS.fn.body.bind fun c => locL 0 c [])), ksOf (X_laws_szExprS.fn.body.bind fun c => locL 0 c []))) (Eq.trans (by kernel_rfl) h)
theorem laws_szExprS_le {l1 : List (List AC)} {n2 : Int} {r : AV} (h : (
    bif (decide ((wrapI (n2 - ((l1.length : Nat) : Int))) < 0)) then
        some (.v (.cell (.int (-1))))
      else
        laws_szExprS_L0 l1 (wrapI (n2 - ((l1.length : Nat) : Int))) 0 : Option AV) = some r) : laws_szExprS [.cell (.sl 3 l1), .cell (.int n2)] = some r :=
  V_le (X := X_laws_szExprS) (n := 100000) (c := cOf Try.f34) (by kernel_rfl) Try.func34 (by kernel_rfl) (of_decide_eq_true (by kernel_rfl)) (Eq.trans (by kernel_rfl) h)
noncomputable def X_spec_nodesOf : Ctx := { P := Try.prog, L := lay, F := sig.has, E := ext, fn := Try.f35, lv := [], jv := [], tp := [] }
theorem spec_nodesOf_le {n1 : Int} {n2 : Int} {l3 : List (List AC)} {r : AV} (h : (
    callR (spec_nodesLeft [.agg [.int n1, .int n2, .sl 3 l3], .cell (.int 30)]) false [(false, [.int 0])] fun n4 =>
      bif (decide (n4 < 0)) then
        some (.v (.cell (.int (-1))))
      else
        some (.v (.cell (.int (wrapI (30 - n4))))) : Option AV) = some r) : spec_nodesOf [.agg [.int n1, .int n2, .sl 3 l3]] = some r :=
  V_le (X := X_spec_nodesOf) (n := 100000) (c := cOf Try.f35) (by kernel_rfl) Try.func35 (by kernel_rfl) (of_decide_eq_true (by kernel_rfl)) (Eq.trans (by kernel_rfl) h)
noncomputable def X_spec_mentionsOf : Ctx := { P := Try.prog, L := lay, F := sig.has, E := ext, fn := Try.f36, lv := [(0, [1, 2, 5, 6])], jv := [], tp := [] }
noncomputable def spec_mentionsOf_L0 (n5 : Int) (n6 : Int) (n7 : Int) (l8 : List (List AC)) (n9 : Int) (n10 : Int) : Option AV := GL X_spec_mentionsOf 0 [(1, .v (.cell (.int n5))), (2, .box [.int n6, .int n7, .sl 3 l8]), (5, .v (.cell (.int n9))), (6, .v (.cell (.int n10)))]
theorem spec_mentionsOf_L0_le {n5 : Int} {n6 : Int} {n7 : Int} {l8 : List (List AC)} {n9 : Int} {n10 : Int} {r : AV} (h : (
    bif (decide (n10 < ((l8.length : Nat) : Int))) then
        atR_ l8 n10 [.int 0, .int 0, .sl 3 []] fun n11 n12 l13 =>
        callR (spec_mentionsOf [.agg [.int n11, .int n12, .sl 3 l13], .cell (.int n5)]) false [(false, [.int 0])] fun n14 =>
        spec_mentionsOf_L0 n5 n6 n7 l8 (wrapI (n9 + n14)) (wrapI (n10 + 1))
      else
        some (.v (.cell (.int n9))) : Option AV) = some r) : spec_mentionsOf_L0 n5 n6 n7 l8 n9 n10 = some r :=
  GL_le (X := X_spec_mentionsOf) (n := 100000) (by kernel_rfl) (by kernel_rfl : (X_spec_mentionsOf.fn.body.bind fun c => locL 0 c []) = some (.loop (loopOf (X_spec_mentionsOf.fn.body.bind fun c => locL 0 c [])), ksOf (X_spec_mentionsOf.fn.body.bind fun c => locL 0 c []))) (Eq.trans (by kernel_rfl) h)
theorem spec_mentionsOf_le {n1 : Int} {n2 : Int} {l3 : List (List AC)} {n4 : Int} {r : AV} (h : (
    bif (n1 == 12) then
        bif (n2 == n4) then
          spec_mentionsOf_L0 n4 n1 n2 l3 1 0
        else
          spec_mentionsOf_L0 n4 n1 n2 l3 0 0
      else
        spec_mentionsOf_L0 n4 n1 n2 l3 0 0 : Option AV) = some r) : spec_mentionsOf [.agg [.int n1, .int n2, .sl 3 l3], .cell (.int n4)] = some r :=
  V_le (X := X_spec_mentionsOf) (n := 100000) (c := cOf Try.f36) (by kernel_rfl) Try.func36 (by kernel_rfl) (of_decide_eq_true (by kernel_rfl)) (Eq.trans (by kernel_rfl) h)
noncomputable def X_impl_NodesOf : Ctx := { P := Try.prog, L := lay, F := sig.has, E := ext, fn := Try.f38, lv := [], jv := [], tp := [] }
theorem impl_NodesOf_le {n1 : Int} {n2 : Int} {l3 : List (List AC)} {r : AV} (h : (
    callR (impl_nodesUpTo [.agg [.int n1, .int n2, .sl 3 l3], .cell (.int 30)]) false [(false, [.int 0])] fun n4 =>
      bif (decide (n4 > 30)) then
        some (.v (.cell (.int (-1))))
      else
        some (.v (.cell (.int n4))) : Option AV) = some r) : impl_NodesOf [.agg [.int n1, .int n2, .sl 3 l3]] = some r :=
  V_le (X := X_impl_NodesOf) (n := 100000) (c := cOf Try.f38) (by kernel_rfl) Try.func38 (by kernel_rfl) (of_decide_eq_true (by kernel_rfl)) (Eq.trans (by kernel_rfl) h)
noncomputable def X_laws_eqExprS : Ctx := { P := Try.prog, L := lay, F := sig.has, E := ext, fn := Try.f39, lv := [(0, [0, 1, 5])], jv := [], tp := [] }
noncomputable def laws_eqExprS_L0 (l3 : List (List AC)) (l4 : List (List AC)) (n5 : Int) : Option AV := GL X_laws_eqExprS 0 [(0, .v (.cell (.sl 3 l3))), (1, .v (.cell (.sl 3 l4))), (5, .v (.cell (.int n5)))]
theorem laws_eqExprS_L0_le {l3 : List (List AC)} {l4 : List (List AC)} {n5 : Int} {r : AV} (h : (
    bif (decide (n5 < ((l3.length : Nat) : Int))) then
        atR_ l3 n5 [.int 0, .int 0, .sl 3 []] fun n6 n7 l8 =>
        atR_ l4 n5 [.int 0, .int 0, .sl 3 []] fun n9 n10 l11 =>
        callR (laws_eqExpr [.agg [.int n6, .int n7, .sl 3 l8], .agg [.int n9, .int n10, .sl 3 l11]]) false [(false, [.bool false])] fun b12 =>
        bif (!b12) then
          some (.v (.cell (.bool false)))
        else
          laws_eqExprS_L0 l3 l4 (wrapI (n5 + 1))
      else
        some (.v (.cell (.bool true))) : Option AV) = some r) : laws_eqExprS_L0 l3 l4 n5 = some r :=
  GL_le (X := X_laws_eqExprS) (n := 100000) (by kernel_rfl) (by kernel_rfl : (X_laws_eqExprS.fn.body.bind fun c => locL 0 c []) = some (.loop (loopOf (X_laws_eqExprS.fn.body.bind fun c => locL 0 c [])), ksOf (X_laws_eqExprS.fn.body.bind fun c => locL 0 c []))) (Eq.trans (by kernel_rfl) h)
theorem laws_eqExprS_le {l1 : List (List AC)} {l2 : List (List AC)} {r : AV} (h : (
    bif (((l1.length : Nat) : Int) != ((l2.length : Nat) : Int)) then
        some (.v (.cell (.bool false)))
      else
        laws_eqExprS_L0 l1 l2 0 : Option AV) = some r) : laws_eqExprS [.cell (.sl 3 l1), .cell (.sl 3 l2)] = some r :=
  V_le (X := X_laws_eqExprS) (n := 100000) (c := cOf Try.f39) (by kernel_rfl) Try.func39 (by kernel_rfl) (of_decide_eq_true (by kernel_rfl)) (Eq.trans (by kernel_rfl) h)
noncomputable def X_laws_szDecl : Ctx := { P := Try.prog, L := lay, F := sig.has, E := ext, fn := Try.f40, lv := [], jv := [], tp := [] }
theorem laws_szDecl_le {n1 : Int} {n2 : Int} {l3 : List (List AC)} {n4 : Int} {r : AV} (h : (
    callR (laws_szConS [.cell (.sl 1 l3), .cell (.int n4)]) false [(false, [.int 0])] fun n5 =>
      bif (decide (n5 < 0)) then
        some (.v (.cell (.int (-1))))
      else
        some (.v (.cell (.int n5))) : Option AV) = some r) : laws_szDecl [.agg [.int n1, .int n2, .sl 1 l3], .cell (.int n4)] = some r :=
  V_le (X := X_laws_szDecl) (n := 100000) (c := cOf Try.f40) (by kernel_rfl) Try.func40 (by kernel_rfl) (of_decide_eq_true (by kernel_rfl)) (Eq.trans (by kernel_rfl) h)
noncomputable def X_laws_szFunc : Ctx := { P := Try.prog, L := lay, F := sig.has, E := ext, fn := Try.f41, lv := [], jv := [], tp := [] }
theorem laws_szFunc_le {l1 : List (List AC)} {n2 : Int} {n3 : Int} {n4 : Int} {l5 : List (List AC)} {n6 : Int} {r : AV} (h : (
    callR (laws_szIntS [.cell (.sl 1 l1), .cell (.int n6)]) false [(false, [.int 0])] fun n7 =>
      bif (decide (n7 < 0)) then
        some (.v (.cell (.int (-1))))
      else
        callR (laws_szExpr [.agg [.int n3, .int n4, .sl 3 l5], .cell (.int n7)]) false [(false, [.int 0])] fun n8 =>
        bif (decide (n8 < 0)) then
          some (.v (.cell (.int (-1))))
        else
          some (.v (.cell (.int n8))) : Option AV) = some r) : laws_szFunc [.agg [.sl 1 l1, .int n2, .int n3, .int n4, .sl 3 l5], .cell (.int n6)] = some r :=
  V_le (X := X_laws_szFunc) (n := 100000) (c := cOf Try.f41) (by kernel_rfl) Try.func41 (by kernel_rfl) (of_decide_eq_true (by kernel_rfl)) (Eq.trans (by kernel_rfl) h)
noncomputable def X_spec_validSigs : Ctx := { P := Try.prog, L := lay, F := sig.has, E := ext, fn := Try.f42, lv := [(0, [1, 3])], jv := [], tp := [] }
noncomputable def spec_validSigs_L0 (l5 : List (List AC)) (l6 : List (List AC)) (n7 : Int) : Option AV := GL X_spec_validSigs 0 [(1, .box [.sl 3 l5, .sl 5 l6]), (3, .v (.cell (.int n7)))]
theorem spec_validSigs_L0_le {l5 : List (List AC)} {l6 : List (List AC)} {n7 : Int} {r : AV} (h : (
    bif (decide (n7 < ((l6.length : Nat) : Int))) then
        atR_ l6 n7 [.sl 1 [], .int 0, .int 0, .int 0, .sl 3 []] fun l8 n9 n10 n11 l12 =>
        bif (decide (((l8.length : Nat) : Int) > 3)) then
          some (.v (.cell (.bool false)))
        else
          callR (spec_allTypes [.cell (.sl 3 l5), .cell (.sl 1 l8)]) false [(false, [.bool false])] fun b13 =>
          bif (!b13) then
            some (.v (.cell (.bool false)))
          else
            callR (spec_inRange [.cell (.int n9), .cell (.int 0), .cell (.int ((l5.length : Nat) : Int))]) false [(false, [.bool false])] fun b14 =>
            bif (!b14) then
              some (.v (.cell (.bool false)))
            else
              spec_validSigs_L0 l5 l6 (wrapI (n7 + 1))
      else
        atR_ l6 0 [.sl 1 [], .int 0, .int 0, .int 0, .sl 3 []] fun l15 n16 n17 n18 l19 =>
        bif (((l15.length : Nat) : Int) == 0) then
          atR_ l6 0 [.sl 1 [], .int 0, .int 0, .int 0, .sl 3 []] fun l20 n21 n22 n23 l24 =>
          some (.v (.cell (.bool (n21 == 0))))
        else
          some (.v (.cell (.bool false))) : Option AV) = some r) : spec_validSigs_L0 l5 l6 n7 = some r :=
  GL_le (X := X_spec_validSigs) (n := 100000) (by kernel_rfl) (by kernel_rfl : (X_spec_validSigs.fn.body.bind fun c => locL 0 c []) = some (.loop (loopOf (X_spec_validSigs.fn.body.bind fun c => locL 0 c [])), ksOf (X_spec_validSigs.fn.body.bind fun c => locL 0 c []))) (Eq.trans (by kernel_rfl) h)
theorem spec_validSigs_le {l1 : List (List AC)} {l2 : List (List AC)} {r : AV} (h : (
    callR (spec_validTypes [.cell (.sl 3 l1)]) false [(false, [.bool false])] fun b3 =>
      bif (!b3) then
        some (.v (.cell (.bool false)))
      else
        callR (spec_inRange [.cell (.int ((l2.length : Nat) : Int)), .cell (.int 1), .cell (.int 4)]) false [(false, [.bool false])] fun b4 =>
        bif (!b4) then
          some (.v (.cell (.bool false)))
        else
          spec_validSigs_L0 l1 l2 0 : Option AV) = some r) : spec_validSigs [.agg [.sl 3 l1, .sl 5 l2]] = some r :=
  V_le (X := X_spec_validSigs) (n := 100000) (c := cOf Try.f42) (by kernel_rfl) Try.func42 (by kernel_rfl) (of_decide_eq_true (by kernel_rfl)) (Eq.trans (by kernel_rfl) h)
noncomputable def X_spec_typeOf : Ctx := { P := Try.prog, L := lay, F := sig.has, E := ext, fn := Try.f43, lv := [], jv := [(13, [1, 3, 5, 7, 15, 46]), (35, [1, 3, 5, 7, 15, 164])], tp := [] }
noncomputable def spec_typeOf_J13 (l10 : List (List AC)) (l11 : List (List AC)) (l12 : List (List AC)) (n13 : Int) (n14 : Int) (l15 : List (List AC)) (b16 : Bool) (n17 : Int) (b18 : Bool) : Option AV := GJ X_spec_typeOf 13 [(1, .v (.cell (.sl 1 l10))), (3, .box [.sl 3 l11, .sl 5 l12]), (5, .box [.int n13, .int n14, .sl 3 l15]), (7, .v (.cell (.bool b16))), (15, .v (.cell (.int n17))), (46, .v (.cell (.bool b18)))]
noncomputable def spec_typeOf_J35 (l47 : List (List AC)) (l48 : List (List AC)) (l49 : List (List AC)) (n50 : Int) (n51 : Int) (l52 : List (List AC)) (b53 : Bool) (n54 : Int) (b55 : Bool) : Option AV := GJ X_spec_typeOf 35 [(1, .v (.cell (.sl 1 l47))), (3, .box [.sl 3 l48, .sl 5 l49]), (5, .box [.int n50, .int n51, .sl 3 l52]), (7, .v (.cell (.bool b53))), (15, .v (.cell (.int n54))), (164, .v (.cell (.bool b55)))]
theorem spec_typeOf_J13_le {l10 : List (List AC)} {l11 : List (List AC)} {l12 : List (List AC)} {n13 : Int} {n14 : Int} {l15 : List (List AC)} {b16 : Bool} {n17 : Int} {b18 : Bool} {r : AV} (h : (
    bif b18 then
        bif b16 then
          callR (spec_allInts [.agg [.sl 3 l11, .sl 5 l12], .cell (.sl 1 l10), .cell (.sl 3 l15), .cell (.int 2)]) false [(false, [.bool false])] fun b19 =>
          bif b19 then
            some (.v (.cell (.int 0)))
          else
            some (.v (.cell (.int (-1))))
        else
          some (.v (.cell (.int (-1))))
      else
        bif (n17 == 5) then
          bif b16 then
            callR (spec_allInts [.agg [.sl 3 l11, .sl 5 l12], .cell (.sl 1 l10), .cell (.sl 3 l15), .cell (.int 1)]) false [(false, [.bool false])] fun b20 =>
            bif b20 then
              some (.v (.cell (.int 0)))
            else
              some (.v (.cell (.int (-1))))
          else
            some (.v (.cell (.int (-1))))
        else
          bif (n17 == 6) then
            callR (spec_conType [.cell (.sl 3 l11), .cell (.int n14)]) false [(false, [.int 0])] fun n21 =>
            bif (decide (n21 > 0)) then
              callR (spec_conFields [.cell (.sl 3 l11), .cell (.int n14)]) false [(false, [.sl 1 []])] fun l22 =>
              callR (spec_allOf [.agg [.sl 3 l11, .sl 5 l12], .cell (.sl 1 l10), .cell (.sl 3 l15), .cell (.sl 1 l22)]) false [(false, [.bool false])] fun b23 =>
              bif b23 then
                callR (spec_conType [.cell (.sl 3 l11), .cell (.int n14)]) false [(false, [.int 0])] fun n24 =>
                some (.v (.cell (.int n24)))
              else
                some (.v (.cell (.int (-1))))
            else
              some (.v (.cell (.int (-1))))
          else
            bif (n17 == 13) then
              bif b16 then
                bif (((l15.length : Nat) : Int) == 2) then
                  atR_ l15 0 [.int 0, .int 0, .sl 3 []] fun n25 n26 l27 =>
                  callR (spec_typeOf [.agg [.sl 3 l11, .sl 5 l12], .cell (.sl 1 l10), .agg [.int n25, .int n26, .sl 3 l27]]) false [(false, [.int 0])] fun n28 =>
                  bif (decide (n28 ≥ 0)) then
                    callR (spec_extend [.cell (.sl 1 l10), .cell (.sl 1 [[.int n28]])]) false [(false, [.sl 1 []])] fun l29 =>
                    atR_ l15 1 [.int 0, .int 0, .sl 3 []] fun n30 n31 l32 =>
                    callR (spec_typeOf [.agg [.sl 3 l11, .sl 5 l12], .cell (.sl 1 l29), .agg [.int n30, .int n31, .sl 3 l32]]) false [(false, [.int 0])] fun n33 =>
                    some (.v (.cell (.int n33)))
                  else
                    some (.v (.cell (.int (-1))))
                else
                  some (.v (.cell (.int (-1))))
              else
                some (.v (.cell (.int (-1))))
            else
              bif (n17 == 7) then
                bif b16 then
                  bif (((l15.length : Nat) : Int) == 3) then
                    atR_ l15 0 [.int 0, .int 0, .sl 3 []] fun n34 n35 l36 =>
                    callR (spec_typeOf [.agg [.sl 3 l11, .sl 5 l12], .cell (.sl 1 l10), .agg [.int n34, .int n35, .sl 3 l36]]) false [(false, [.int 0])] fun n37 =>
                    bif (n37 == 0) then
                      atR_ l15 1 [.int 0, .int 0, .sl 3 []] fun n38 n39 l40 =>
                      callR (spec_typeOf [.agg [.sl 3 l11, .sl 5 l12], .cell (.sl 1 l10), .agg [.int n38, .int n39, .sl 3 l40]]) false [(false, [.int 0])] fun n41 =>
                      atR_ l15 2 [.int 0, .int 0, .sl 3 []] fun n42 n43 l44 =>
                      callR (spec_typeOf [.agg [.sl 3 l11, .sl 5 l12], .cell (.sl 1 l10), .agg [.int n42, .int n43, .sl 3 l44]]) false [(false, [.int 0])] fun n45 =>
                      bif (n45 == n41) then
                        some (.v (.cell (.int n41)))
                      else
                        some (.v (.cell (.int (-1))))
                    else
                      some (.v (.cell (.int (-1))))
                  else
                    some (.v (.cell (.int (-1))))
                else
                  some (.v (.cell (.int (-1))))
              else
                bif (n17 == 8) then
                  callR (spec_matchType [.agg [.sl 3 l11, .sl 5 l12], .cell (.sl 1 l10), .agg [.int n13, .int n14, .sl 3 l15]]) false [(false, [.int 0])] fun n46 =>
                  some (.v (.cell (.int n46)))
                else
                  bif (n17 == 9) then
                    spec_typeOf_J35 l10 l11 l12 n13 n14 l15 b16 n17 (n17 == 9)
                  else
                    spec_typeOf_J35 l10 l11 l12 n13 n14 l15 b16 n17 (n17 == 10) : Option AV) = some r) : spec_typeOf_J13 l10 l11 l12 n13 n14 l15 b16 n17 b18 = some r :=
  GJ_le (X := X_spec_typeOf) (n := 100000) (by kernel_rfl) (by kernel_rfl : (X_spec_typeOf.fn.body.bind fun c => locJ 13 c []) = some (cdOf (X_spec_typeOf.fn.body.bind fun c => locJ 13 c []), ksOf (X_spec_typeOf.fn.body.bind fun c => locJ 13 c []))) (Eq.trans (by kernel_rfl) h)
theorem spec_typeOf_J35_le {l47 : List (List AC)} {l48 : List (List AC)} {l49 : List (List AC)} {n50 : Int} {n51 : Int} {l52 : List (List AC)} {b53 : Bool} {n54 : Int} {b55 : Bool} {r : AV} (h : (
    bif b55 then
        callR (spec_callType [.agg [.sl 3 l48, .sl 5 l49], .cell (.sl 1 l47), .agg [.int n50, .int n51, .sl 3 l52]]) false [(false, [.int 0])] fun n56 =>
        some (.v (.cell (.int n56)))
      else
        bif (n54 == 11) then
          bif b53 then
            bif (((l52.length : Nat) : Int) == 2) then
              atR_ l52 0 [.int 0, .int 0, .sl 3 []] fun n57 n58 l59 =>
              callR (spec_typeOf [.agg [.sl 3 l48, .sl 5 l49], .cell (.sl 1 l47), .agg [.int n57, .int n58, .sl 3 l59]]) false [(false, [.int 0])] fun n60 =>
              callR (spec_isArrow [.cell (.sl 3 l48), .cell (.int n60)]) false [(false, [.bool false])] fun b61 =>
              bif b61 then
                atR_ l52 1 [.int 0, .int 0, .sl 3 []] fun n62 n63 l64 =>
                callR (spec_typeOf [.agg [.sl 3 l48, .sl 5 l49], .cell (.sl 1 l47), .agg [.int n62, .int n63, .sl 3 l64]]) false [(false, [.int 0])] fun n65 =>
                atR_ l48 (wrapI (n60 - 1)) [.int 0, .int 0, .sl 1 []] fun n66 n67 l68 =>
                bif (n65 == n66) then
                  atR_ l48 (wrapI (n60 - 1)) [.int 0, .int 0, .sl 1 []] fun n69 n70 l71 =>
                  some (.v (.cell (.int n70)))
                else
                  some (.v (.cell (.int (-1))))
              else
                some (.v (.cell (.int (-1))))
            else
              some (.v (.cell (.int (-1))))
          else
            some (.v (.cell (.int (-1))))
        else
          some (.v (.cell (.int (-1)))) : Option AV) = some r) : spec_typeOf_J35 l47 l48 l49 n50 n51 l52 b53 n54 b55 = some r :=
  GJ_le (X := X_spec_typeOf) (n := 100000) (by kernel_rfl) (by kernel_rfl : (X_spec_typeOf.fn.body.bind fun c => locJ 35 c []) = some (cdOf (X_spec_typeOf.fn.body.bind fun c => locJ 35 c []), ksOf (X_spec_typeOf.fn.body.bind fun c => locJ 35 c []))) (Eq.trans (by kernel_rfl) h)
theorem spec_typeOf_le {l1 : List (List AC)} {l2 : List (List AC)} {l3 : List (List AC)} {n4 : Int} {n5 : Int} {l6 : List (List AC)} {r : AV} (h : (
    bif (n4 == 0) then
        bif (((l6.length : Nat) : Int) == 0) then
          callR (spec_inRange [.cell (.int n5), .cell (.int (-999)), .cell (.int 999)]) false [(false, [.bool false])] fun b7 =>
          bif b7 then
            some (.v (.cell (.int 0)))
          else
            some (.v (.cell (.int (-1))))
        else
          some (.v (.cell (.int (-1))))
      else
        bif (n4 == 12) then
          bif (((l6.length : Nat) : Int) == 0) then
            callR (spec_inRange [.cell (.int n5), .cell (.int 0), .cell (.int (wrapI (((l3.length : Nat) : Int) - 1)))]) false [(false, [.bool false])] fun b8 =>
            bif b8 then
              atR_ l3 n5 [.int 0] fun n9 =>
              some (.v (.cell (.int n9)))
            else
              some (.v (.cell (.int (-1))))
          else
            some (.v (.cell (.int (-1))))
        else
          bif (n4 == 1) then
            spec_typeOf_J13 l3 l1 l2 n4 n5 l6 (n5 == 0) n4 (n4 == 1)
          else
            bif (n4 == 2) then
              spec_typeOf_J13 l3 l1 l2 n4 n5 l6 (n5 == 0) n4 (n4 == 2)
            else
              bif (n4 == 3) then
                spec_typeOf_J13 l3 l1 l2 n4 n5 l6 (n5 == 0) n4 (n4 == 3)
              else
                spec_typeOf_J13 l3 l1 l2 n4 n5 l6 (n5 == 0) n4 (n4 == 4) : Option AV) = some r) : spec_typeOf [.agg [.sl 3 l1, .sl 5 l2], .cell (.sl 1 l3), .agg [.int n4, .int n5, .sl 3 l6]] = some r :=
  V_le (X := X_spec_typeOf) (n := 100000) (c := cOf Try.f43) (by kernel_rfl) Try.func43 (by kernel_rfl) (of_decide_eq_true (by kernel_rfl)) (Eq.trans (by kernel_rfl) h)
noncomputable def X_spec_calleesIn : Ctx := { P := Try.prog, L := lay, F := sig.has, E := ext, fn := Try.f44, lv := [(0, [1, 2, 5])], jv := [], tp := [] }
noncomputable def spec_calleesIn_L0 (l6 : List (List AC)) (n7 : Int) (n8 : Int) (l9 : List (List AC)) (n10 : Int) : Option AV := GL X_spec_calleesIn 0 [(1, .v (.cell (.sl 1 l6))), (2, .box [.int n7, .int n8, .sl 3 l9]), (5, .v (.cell (.int n10)))]
theorem spec_calleesIn_L0_le {l6 : List (List AC)} {n7 : Int} {n8 : Int} {l9 : List (List AC)} {n10 : Int} {r : AV} (h : (
    bif (decide (n10 < ((l9.length : Nat) : Int))) then
        atR_ l9 n10 [.int 0, .int 0, .sl 3 []] fun n12 n13 l14 =>
        callR (spec_calleesIn [.agg [.int n12, .int n13, .sl 3 l14], .cell (.sl 1 l6)]) false [(false, [.sl 1 []])] fun l15 =>
        spec_calleesIn_L0 l15 n7 n8 l9 (wrapI (n10 + 1))
      else
        some (.v (.cell (.sl 1 l6))) : Option AV) = some r) : spec_calleesIn_L0 l6 n7 n8 l9 n10 = some r :=
  GL_le (X := X_spec_calleesIn) (n := 100000) (by kernel_rfl) (by kernel_rfl : (X_spec_calleesIn.fn.body.bind fun c => locL 0 c []) = some (.loop (loopOf (X_spec_calleesIn.fn.body.bind fun c => locL 0 c [])), ksOf (X_spec_calleesIn.fn.body.bind fun c => locL 0 c []))) (Eq.trans (by kernel_rfl) h)
theorem spec_calleesIn_le {n1 : Int} {n2 : Int} {l3 : List (List AC)} {l4 : List (List AC)} {r : AV} (h : (
    bif (n1 == 9) then
        callR (spec_insert [.cell (.sl 1 l4), .cell (.int n2)]) false [(false, [.sl 1 []])] fun l5 =>
        spec_calleesIn_L0 l5 n1 n2 l3 0
      else
        bif (n1 == 10) then
          callR (spec_insert [.cell (.sl 1 l4), .cell (.int n2)]) false [(false, [.sl 1 []])] fun l11 =>
          spec_calleesIn_L0 l11 n1 n2 l3 0
        else
          spec_calleesIn_L0 l4 n1 n2 l3 0 : Option AV) = some r) : spec_calleesIn [.agg [.int n1, .int n2, .sl 3 l3], .cell (.sl 1 l4)] = some r :=
  V_le (X := X_spec_calleesIn) (n := 100000) (c := cOf Try.f44) (by kernel_rfl) Try.func44 (by kernel_rfl) (of_decide_eq_true (by kernel_rfl)) (Eq.trans (by kernel_rfl) h)
noncomputable def X_spec_isIn : Ctx := { P := Try.prog, L := lay, F := sig.has, E := ext, fn := Try.f45, lv := [(0, [0, 1, 5])], jv := [], tp := [] }
noncomputable def spec_isIn_L0 (l3 : List (List AC)) (n4 : Int) (n5 : Int) : Option AV := GL X_spec_isIn 0 [(0, .v (.cell (.sl 1 l3))), (1, .v (.cell (.int n4))), (5, .v (.cell (.int n5)))]
theorem spec_isIn_L0_le {l3 : List (List AC)} {n4 : Int} {n5 : Int} {r : AV} (h : (
    bif (decide (n5 < ((l3.length : Nat) : Int))) then
        atR_ l3 n5 [.int 0] fun n6 =>
        bif (n6 == n4) then
          some (.v (.cell (.bool true)))
        else
          spec_isIn_L0 l3 n4 (wrapI (n5 + 1))
      else
        some (.v (.cell (.bool false))) : Option AV) = some r) : spec_isIn_L0 l3 n4 n5 = some r :=
  GL_le (X := X_spec_isIn) (n := 100000) (by kernel_rfl) (by kernel_rfl : (X_spec_isIn.fn.body.bind fun c => locL 0 c []) = some (.loop (loopOf (X_spec_isIn.fn.body.bind fun c => locL 0 c [])), ksOf (X_spec_isIn.fn.body.bind fun c => locL 0 c []))) (Eq.trans (by kernel_rfl) h)
theorem spec_isIn_le {l1 : List (List AC)} {n2 : Int} {r : AV} (h : (
    spec_isIn_L0 l1 n2 0 : Option AV) = some r) : spec_isIn [.cell (.sl 1 l1), .cell (.int n2)] = some r :=
  V_le (X := X_spec_isIn) (n := 100000) (c := cOf Try.f45) (by kernel_rfl) Try.func45 (by kernel_rfl) (of_decide_eq_true (by kernel_rfl)) (Eq.trans (by kernel_rfl) h)
noncomputable def X_spec_reachedFrom : Ctx := { P := Try.prog, L := lay, F := sig.has, E := ext, fn := Try.f46, lv := [(0, [2, 5, 6]), (2, [2, 5, 6, 7]), (4, [2, 5, 6, 7, 8, 9])], jv := [], tp := [] }
noncomputable def spec_reachedFrom_L0 (l4 : List (List AC)) (l5 : List (List AC)) (l6 : List (List AC)) (n7 : Int) : Option AV := GL X_spec_reachedFrom 0 [(2, .box [.sl 3 l4, .sl 5 l5]), (5, .v (.cell (.sl 1 l6))), (6, .v (.cell (.int n7)))]
noncomputable def spec_reachedFrom_L2 (l8 : List (List AC)) (l9 : List (List AC)) (l10 : List (List AC)) (n11 : Int) (n12 : Int) : Option AV := GL X_spec_reachedFrom 2 [(2, .box [.sl 3 l8, .sl 5 l9]), (5, .v (.cell (.sl 1 l10))), (6, .v (.cell (.int n11))), (7, .v (.cell (.int n12)))]
noncomputable def spec_reachedFrom_L4 (l20 : List (List AC)) (l21 : List (List AC)) (l22 : List (List AC)) (n23 : Int) (n24 : Int) (l25 : List (List AC)) (n26 : Int) : Option AV := GL X_spec_reachedFrom 4 [(2, .box [.sl 3 l20, .sl 5 l21]), (5, .v (.cell (.sl 1 l22))), (6, .v (.cell (.int n23))), (7, .v (.cell (.int n24))), (8, .v (.cell (.sl 1 l25))), (9, .v (.cell (.int n26)))]
theorem spec_reachedFrom_L0_le {l4 : List (List AC)} {l5 : List (List AC)} {l6 : List (List AC)} {n7 : Int} {r : AV} (h : (
    bif (decide (n7 < ((l5.length : Nat) : Int))) then
        spec_reachedFrom_L2 l4 l5 l6 n7 0
      else
        some (.v (.cell (.sl 1 l6))) : Option AV) = some r) : spec_reachedFrom_L0 l4 l5 l6 n7 = some r :=
  GL_le (X := X_spec_reachedFrom) (n := 100000) (by kernel_rfl) (by kernel_rfl : (X_spec_reachedFrom.fn.body.bind fun c => locL 0 c []) = some (.loop (loopOf (X_spec_reachedFrom.fn.body.bind fun c => locL 0 c [])), ksOf (X_spec_reachedFrom.fn.body.bind fun c => locL 0 c []))) (Eq.trans (by kernel_rfl) h)
theorem spec_reachedFrom_L2_le {l8 : List (List AC)} {l9 : List (List AC)} {l10 : List (List AC)} {n11 : Int} {n12 : Int} {r : AV} (h : (
    bif (decide (n12 < ((l9.length : Nat) : Int))) then
        callR (spec_isIn [.cell (.sl 1 l10), .cell (.int n12)]) false [(false, [.bool false])] fun b13 =>
        bif b13 then
          atR_ l9 n12 [.sl 1 [], .int 0, .int 0, .int 0, .sl 3 []] fun l14 n15 n16 n17 l18 =>
          callR (spec_calleesIn [.agg [.int n16, .int n17, .sl 3 l18], .cell (.sl 1 [])]) false [(false, [.sl 1 []])] fun l19 =>
          spec_reachedFrom_L4 l8 l9 l10 n11 n12 l19 0
        else
          spec_reachedFrom_L2 l8 l9 l10 n11 (wrapI (n12 + 1))
      else
        spec_reachedFrom_L0 l8 l9 l10 (wrapI (n11 + 1)) : Option AV) = some r) : spec_reachedFrom_L2 l8 l9 l10 n11 n12 = some r :=
  GL_le (X := X_spec_reachedFrom) (n := 100000) (by kernel_rfl) (by kernel_rfl : (X_spec_reachedFrom.fn.body.bind fun c => locL 2 c []) = some (.loop (loopOf (X_spec_reachedFrom.fn.body.bind fun c => locL 2 c [])), ksOf (X_spec_reachedFrom.fn.body.bind fun c => locL 2 c []))) (Eq.trans (by kernel_rfl) h)
theorem spec_reachedFrom_L4_le {l20 : List (List AC)} {l21 : List (List AC)} {l22 : List (List AC)} {n23 : Int} {n24 : Int} {l25 : List (List AC)} {n26 : Int} {r : AV} (h : (
    bif (decide (n26 < ((l25.length : Nat) : Int))) then
        atR_ l25 n26 [.int 0] fun n27 =>
        callR (spec_insert [.cell (.sl 1 l22), .cell (.int n27)]) false [(false, [.sl 1 []])] fun l28 =>
        spec_reachedFrom_L4 l20 l21 l28 n23 n24 l25 (wrapI (n26 + 1))
      else
        spec_reachedFrom_L2 l20 l21 l22 n23 (wrapI (n24 + 1)) : Option AV) = some r) : spec_reachedFrom_L4 l20 l21 l22 n23 n24 l25 n26 = some r :=
  GL_le (X := X_spec_reachedFrom) (n := 100000) (by kernel_rfl) (by kernel_rfl : (X_spec_reachedFrom.fn.body.bind fun c => locL 4 c []) = some (.loop (loopOf (X_spec_reachedFrom.fn.body.bind fun c => locL 4 c [])), ksOf (X_spec_reachedFrom.fn.body.bind fun c => locL 4 c []))) (Eq.trans (by kernel_rfl) h)
theorem spec_reachedFrom_le {l1 : List (List AC)} {l2 : List (List AC)} {n3 : Int} {r : AV} (h : (
    spec_reachedFrom_L0 l1 l2 [[.int n3]] 0 : Option AV) = some r) : spec_reachedFrom [.agg [.sl 3 l1, .sl 5 l2], .cell (.int n3)] = some r :=
  V_le (X := X_spec_reachedFrom) (n := 100000) (c := cOf Try.f46) (by kernel_rfl) Try.func46 (by kernel_rfl) (of_decide_eq_true (by kernel_rfl)) (Eq.trans (by kernel_rfl) h)
noncomputable def X_laws_toDecl : Ctx := { P := Try.prog, L := lay, F := sig.has, E := ext, fn := Try.f47, lv := [], jv := [], tp := [] }
theorem laws_toDecl_le {n1 : Int} {n2 : Int} {l3 : List (List AC)} {r : AV} (h : (
    callR (laws_toConS [.cell (.sl 1 l3)]) false [(false, [.sl 1 []])] fun l4 =>
      some (.v (.agg [.int n1, .int n2, .sl 1 l4])) : Option AV) = some r) : laws_toDecl [.agg [.int n1, .int n2, .sl 1 l3]] = some r :=
  V_le (X := X_laws_toDecl) (n := 100000) (c := cOf Try.f47) (by kernel_rfl) Try.func47 (by kernel_rfl) (of_decide_eq_true (by kernel_rfl)) (Eq.trans (by kernel_rfl) h)
noncomputable def X_laws_toFunc : Ctx := { P := Try.prog, L := lay, F := sig.has, E := ext, fn := Try.f48, lv := [], jv := [], tp := [] }
theorem laws_toFunc_le {l1 : List (List AC)} {n2 : Int} {n3 : Int} {n4 : Int} {l5 : List (List AC)} {r : AV} (h : (
    callR (laws_toIntS [.cell (.sl 1 l1)]) false [(false, [.sl 1 []])] fun l6 =>
      callR (laws_toExpr [.agg [.int n3, .int n4, .sl 3 l5]]) false [(true, [.int 0, .int 0, .sl 3 []])] fun n7 n8 l9 =>
      some (.v (.agg [.sl 1 l6, .int n2, .int n7, .int n8, .sl 3 l9])) : Option AV) = some r) : laws_toFunc [.agg [.sl 1 l1, .int n2, .int n3, .int n4, .sl 3 l5]] = some r :=
  V_le (X := X_laws_toFunc) (n := 100000) (c := cOf Try.f48) (by kernel_rfl) Try.func48 (by kernel_rfl) (of_decide_eq_true (by kernel_rfl)) (Eq.trans (by kernel_rfl) h)
noncomputable def X_impl_ValidSigs : Ctx := { P := Try.prog, L := lay, F := sig.has, E := ext, fn := Try.f49, lv := [(0, [1, 22, 23, 24])], jv := [], tp := [] }
noncomputable def impl_ValidSigs_L0 (l4 : List (List AC)) (l5 : List (List AC)) (l6 : List (List AC)) (n7 : Int) (n8 : Int) : Option AV := GL X_impl_ValidSigs 0 [(1, .box [.sl 3 l4, .sl 5 l5]), (22, .v (.cell (.sl 5 l6))), (23, .v (.cell (.int n7))), (24, .v (.cell (.int n8)))]
theorem impl_ValidSigs_L0_le {l4 : List (List AC)} {l5 : List (List AC)} {l6 : List (List AC)} {n7 : Int} {n8 : Int} {r : AV} (h : (
    bif (decide (n8 < n7)) then
        atR_ l6 n8 [.sl 1 [], .int 0, .int 0, .int 0, .sl 3 []] fun l9 n10 n11 n12 l13 =>
        callR (impl_validSig [.cell (.sl 3 l4), .cell (.sl 1 l9), .cell (.int n10)]) false [(false, [.bool false])] fun b14 =>
        bif (!b14) then
          some (.v (.cell (.bool false)))
        else
          impl_ValidSigs_L0 l4 l5 l6 n7 (wrapI (n8 + 1))
      else
        atR_ l5 0 [.sl 1 [], .int 0, .int 0, .int 0, .sl 3 []] fun l15 n16 n17 n18 l19 =>
        bif (((l15.length : Nat) : Int) == 0) then
          atR_ l5 0 [.sl 1 [], .int 0, .int 0, .int 0, .sl 3 []] fun l20 n21 n22 n23 l24 =>
          some (.v (.cell (.bool (n21 == 0))))
        else
          some (.v (.cell (.bool false))) : Option AV) = some r) : impl_ValidSigs_L0 l4 l5 l6 n7 n8 = some r :=
  GL_le (X := X_impl_ValidSigs) (n := 100000) (by kernel_rfl) (by kernel_rfl : (X_impl_ValidSigs.fn.body.bind fun c => locL 0 c []) = some (.loop (loopOf (X_impl_ValidSigs.fn.body.bind fun c => locL 0 c [])), ksOf (X_impl_ValidSigs.fn.body.bind fun c => locL 0 c []))) (Eq.trans (by kernel_rfl) h)
theorem impl_ValidSigs_le {l1 : List (List AC)} {l2 : List (List AC)} {r : AV} (h : (
    callR (impl_ValidTypes [.cell (.sl 3 l1)]) false [(false, [.bool false])] fun b3 =>
      bif (!b3) then
        some (.v (.cell (.bool false)))
      else
        bif (decide (((l2.length : Nat) : Int) < 1)) then
          some (.v (.cell (.bool false)))
        else
          bif (decide (((l2.length : Nat) : Int) > 4)) then
            some (.v (.cell (.bool false)))
          else
            impl_ValidSigs_L0 l1 l2 l2 ((l2.length : Nat) : Int) 0 : Option AV) = some r) : impl_ValidSigs [.agg [.sl 3 l1, .sl 5 l2]] = some r :=
  V_le (X := X_impl_ValidSigs) (n := 100000) (c := cOf Try.f49) (by kernel_rfl) Try.func49 (by kernel_rfl) (of_decide_eq_true (by kernel_rfl)) (Eq.trans (by kernel_rfl) h)
noncomputable def X_impl_TypeOf : Ctx := { P := Try.prog, L := lay, F := sig.has, E := ext, fn := Try.f50, lv := [], jv := [], tp := [] }
theorem impl_TypeOf_le {l1 : List (List AC)} {l2 : List (List AC)} {l3 : List (List AC)} {n4 : Int} {n5 : Int} {l6 : List (List AC)} {r : AV} (h : (
    callR (impl_ValidSigs [.agg [.sl 3 l1, .sl 5 l2]]) false [(false, [.bool false])] fun b7 =>
      bif (!b7) then
        some (.v (.cell (.int (-1))))
      else
        callR (impl_areTypes [.cell (.sl 3 l1), .cell (.sl 1 l3)]) false [(false, [.bool false])] fun b8 =>
        bif (!b8) then
          some (.v (.cell (.int (-1))))
        else
          callR (impl_NodesOf [.agg [.int n4, .int n5, .sl 3 l6]]) false [(false, [.int 0])] fun n9 =>
          bif (decide (n9 < 0)) then
            some (.v (.cell (.int (-1))))
          else
            callR (impl_typeIn [.agg [.sl 3 l1, .sl 5 l2], .agg [.sl 1 l3, .sl 1 []], .agg [.int n4, .int n5, .sl 3 l6]]) false [(false, [.int 0])] fun n10 =>
            some (.v (.cell (.int n10))) : Option AV) = some r) : impl_TypeOf [.agg [.sl 3 l1, .sl 5 l2], .cell (.sl 1 l3), .agg [.int n4, .int n5, .sl 3 l6]] = some r :=
  V_le (X := X_impl_TypeOf) (n := 100000) (c := cOf Try.f50) (by kernel_rfl) Try.func50 (by kernel_rfl) (of_decide_eq_true (by kernel_rfl)) (Eq.trans (by kernel_rfl) h)
noncomputable def X_impl_withNamed : Ctx := { P := Try.prog, L := lay, F := sig.has, E := ext, fn := Try.f51, lv := [(0, [5, 22, 23, 24])], jv := [], tp := [] }
noncomputable def impl_withNamed_L0 (l6 : List (List AC)) (l7 : List (List AC)) (n8 : Int) (n9 : Int) : Option AV := GL X_impl_withNamed 0 [(5, .v (.cell (.sl 1 l6))), (22, .v (.cell (.sl 3 l7))), (23, .v (.cell (.int n8))), (24, .v (.cell (.int n9)))]
theorem impl_withNamed_L0_le {l6 : List (List AC)} {l7 : List (List AC)} {n8 : Int} {n9 : Int} {r : AV} (h : (
    bif (decide (n9 < n8)) then
        atR_ l7 n9 [.int 0, .int 0, .sl 3 []] fun n11 n12 l13 =>
        callR (impl_withNamed [.cell (.sl 1 l6), .agg [.int n11, .int n12, .sl 3 l13]]) false [(false, [.sl 1 []])] fun l14 =>
        impl_withNamed_L0 l14 l7 n8 (wrapI (n9 + 1))
      else
        some (.v (.cell (.sl 1 l6))) : Option AV) = some r) : impl_withNamed_L0 l6 l7 n8 n9 = some r :=
  GL_le (X := X_impl_withNamed) (n := 100000) (by kernel_rfl) (by kernel_rfl : (X_impl_withNamed.fn.body.bind fun c => locL 0 c []) = some (.loop (loopOf (X_impl_withNamed.fn.body.bind fun c => locL 0 c [])), ksOf (X_impl_withNamed.fn.body.bind fun c => locL 0 c []))) (Eq.trans (by kernel_rfl) h)
theorem impl_withNamed_le {l1 : List (List AC)} {n2 : Int} {n3 : Int} {l4 : List (List AC)} {r : AV} (h : (
    bif (n2 == 9) then
        callR (impl_withInt [.cell (.sl 1 l1), .cell (.int n3)]) false [(false, [.sl 1 []])] fun l5 =>
        impl_withNamed_L0 l5 l4 ((l4.length : Nat) : Int) 0
      else
        bif (n2 == 10) then
          callR (impl_withInt [.cell (.sl 1 l1), .cell (.int n3)]) false [(false, [.sl 1 []])] fun l10 =>
          impl_withNamed_L0 l10 l4 ((l4.length : Nat) : Int) 0
        else
          impl_withNamed_L0 l1 l4 ((l4.length : Nat) : Int) 0 : Option AV) = some r) : impl_withNamed [.cell (.sl 1 l1), .agg [.int n2, .int n3, .sl 3 l4]] = some r :=
  V_le (X := X_impl_withNamed) (n := 100000) (c := cOf Try.f51) (by kernel_rfl) Try.func51 (by kernel_rfl) (of_decide_eq_true (by kernel_rfl)) (Eq.trans (by kernel_rfl) h)
noncomputable def X_impl_withCallees : Ctx := { P := Try.prog, L := lay, F := sig.has, E := ext, fn := Try.f52, lv := [(0, [2, 5, 9, 10, 11])], jv := [], tp := [] }
noncomputable def impl_withCallees_L0 (l4 : List (List AC)) (l5 : List (List AC)) (l6 : List (List AC)) (l7 : List (List AC)) (n8 : Int) (n9 : Int) : Option AV := GL X_impl_withCallees 0 [(2, .box [.sl 3 l4, .sl 5 l5]), (5, .v (.cell (.sl 1 l6))), (9, .v (.cell (.sl 1 l7))), (10, .v (.cell (.int n8))), (11, .v (.cell (.int n9)))]
theorem impl_withCallees_L0_le {l4 : List (List AC)} {l5 : List (List AC)} {l6 : List (List AC)} {l7 : List (List AC)} {n8 : Int} {n9 : Int} {r : AV} (h : (
    bif (decide (n9 < n8)) then
        atR_ l7 n9 [.int 0] fun n10 =>
        atR_ l5 n10 [.sl 1 [], .int 0, .int 0, .int 0, .sl 3 []] fun l11 n12 n13 n14 l15 =>
        callR (impl_withNamed [.cell (.sl 1 l6), .agg [.int n13, .int n14, .sl 3 l15]]) false [(false, [.sl 1 []])] fun l16 =>
        impl_withCallees_L0 l4 l5 l16 l7 n8 (wrapI (n9 + 1))
      else
        some (.v (.cell (.sl 1 l6))) : Option AV) = some r) : impl_withCallees_L0 l4 l5 l6 l7 n8 n9 = some r :=
  GL_le (X := X_impl_withCallees) (n := 100000) (by kernel_rfl) (by kernel_rfl : (X_impl_withCallees.fn.body.bind fun c => locL 0 c []) = some (.loop (loopOf (X_impl_withCallees.fn.body.bind fun c => locL 0 c [])), ksOf (X_impl_withCallees.fn.body.bind fun c => locL 0 c []))) (Eq.trans (by kernel_rfl) h)
theorem impl_withCallees_le {l1 : List (List AC)} {l2 : List (List AC)} {l3 : List (List AC)} {r : AV} (h : (
    impl_withCallees_L0 l1 l2 l3 l3 ((l3.length : Nat) : Int) 0 : Option AV) = some r) : impl_withCallees [.agg [.sl 3 l1, .sl 5 l2], .cell (.sl 1 l3)] = some r :=
  V_le (X := X_impl_withCallees) (n := 100000) (c := cOf Try.f52) (by kernel_rfl) Try.func52 (by kernel_rfl) (of_decide_eq_true (by kernel_rfl)) (Eq.trans (by kernel_rfl) h)
noncomputable def X_laws_eqDecl : Ctx := { P := Try.prog, L := lay, F := sig.has, E := ext, fn := Try.f53, lv := [], jv := [], tp := [] }
theorem laws_eqDecl_le {n1 : Int} {n2 : Int} {l3 : List (List AC)} {n4 : Int} {n5 : Int} {l6 : List (List AC)} {r : AV} (h : (
    bif (n1 != n4) then
        some (.v (.cell (.bool false)))
      else
        bif (n2 != n5) then
          some (.v (.cell (.bool false)))
        else
          callR (laws_eqConS [.cell (.sl 1 l3), .cell (.sl 1 l6)]) false [(false, [.bool false])] fun b7 =>
          bif (!b7) then
            some (.v (.cell (.bool false)))
          else
            some (.v (.cell (.bool true))) : Option AV) = some r) : laws_eqDecl [.agg [.int n1, .int n2, .sl 1 l3], .agg [.int n4, .int n5, .sl 1 l6]] = some r :=
  V_le (X := X_laws_eqDecl) (n := 100000) (c := cOf Try.f53) (by kernel_rfl) Try.func53 (by kernel_rfl) (of_decide_eq_true (by kernel_rfl)) (Eq.trans (by kernel_rfl) h)
noncomputable def X_laws_eqFunc : Ctx := { P := Try.prog, L := lay, F := sig.has, E := ext, fn := Try.f54, lv := [], jv := [], tp := [] }
theorem laws_eqFunc_le {l1 : List (List AC)} {n2 : Int} {n3 : Int} {n4 : Int} {l5 : List (List AC)} {l6 : List (List AC)} {n7 : Int} {n8 : Int} {n9 : Int} {l10 : List (List AC)} {r : AV} (h : (
    callR (laws_eqIntS [.cell (.sl 1 l1), .cell (.sl 1 l6)]) false [(false, [.bool false])] fun b11 =>
      bif (!b11) then
        some (.v (.cell (.bool false)))
      else
        bif (n2 != n7) then
          some (.v (.cell (.bool false)))
        else
          callR (laws_eqExpr [.agg [.int n3, .int n4, .sl 3 l5], .agg [.int n8, .int n9, .sl 3 l10]]) false [(false, [.bool false])] fun b12 =>
          bif (!b12) then
            some (.v (.cell (.bool false)))
          else
            some (.v (.cell (.bool true))) : Option AV) = some r) : laws_eqFunc [.agg [.sl 1 l1, .int n2, .int n3, .int n4, .sl 3 l5], .agg [.sl 1 l6, .int n7, .int n8, .int n9, .sl 3 l10]] = some r :=
  V_le (X := X_laws_eqFunc) (n := 100000) (c := cOf Try.f54) (by kernel_rfl) Try.func54 (by kernel_rfl) (of_decide_eq_true (by kernel_rfl)) (Eq.trans (by kernel_rfl) h)
noncomputable def X_spec_nodesLeft : Ctx := { P := Try.prog, L := lay, F := sig.has, E := ext, fn := Try.f55, lv := [(0, [1, 2, 5])], jv := [], tp := [] }
noncomputable def spec_nodesLeft_L0 (n5 : Int) (n6 : Int) (n7 : Int) (l8 : List (List AC)) (n9 : Int) : Option AV := GL X_spec_nodesLeft 0 [(1, .v (.cell (.int n5))), (2, .box [.int n6, .int n7, .sl 3 l8]), (5, .v (.cell (.int n9)))]
theorem spec_nodesLeft_L0_le {n5 : Int} {n6 : Int} {n7 : Int} {l8 : List (List AC)} {n9 : Int} {r : AV} (h : (
    bif (decide (n9 < ((l8.length : Nat) : Int))) then
        atR_ l8 n9 [.int 0, .int 0, .sl 3 []] fun n10 n11 l12 =>
        callR (spec_nodesLeft [.agg [.int n10, .int n11, .sl 3 l12], .cell (.int n5)]) false [(false, [.int 0])] fun n13 =>
        bif (decide (n13 < 0)) then
          some (.v (.cell (.int (-1))))
        else
          spec_nodesLeft_L0 n13 n6 n7 l8 (wrapI (n9 + 1))
      else
        some (.v (.cell (.int n5))) : Option AV) = some r) : spec_nodesLeft_L0 n5 n6 n7 l8 n9 = some r :=
  GL_le (X := X_spec_nodesLeft) (n := 100000) (by kernel_rfl) (by kernel_rfl : (X_spec_nodesLeft.fn.body.bind fun c => locL 0 c []) = some (.loop (loopOf (X_spec_nodesLeft.fn.body.bind fun c => locL 0 c [])), ksOf (X_spec_nodesLeft.fn.body.bind fun c => locL 0 c []))) (Eq.trans (by kernel_rfl) h)
theorem spec_nodesLeft_le {n1 : Int} {n2 : Int} {l3 : List (List AC)} {n4 : Int} {r : AV} (h : (
    bif (decide (n4 < 1)) then
        some (.v (.cell (.int (-1))))
      else
        spec_nodesLeft_L0 (wrapI (n4 - 1)) n1 n2 l3 0 : Option AV) = some r) : spec_nodesLeft [.agg [.int n1, .int n2, .sl 3 l3], .cell (.int n4)] = some r :=
  V_le (X := X_spec_nodesLeft) (n := 100000) (c := cOf Try.f55) (by kernel_rfl) Try.func55 (by kernel_rfl) (of_decide_eq_true (by kernel_rfl)) (Eq.trans (by kernel_rfl) h)
noncomputable def X_impl_nodesUpTo : Ctx := { P := Try.prog, L := lay, F := sig.has, E := ext, fn := Try.f56, lv := [(0, [1, 5, 9, 10, 11])], jv := [], tp := [] }
noncomputable def impl_nodesUpTo_L0 (n5 : Int) (n6 : Int) (l7 : List (List AC)) (n8 : Int) (n9 : Int) : Option AV := GL X_impl_nodesUpTo 0 [(1, .v (.cell (.int n5))), (5, .v (.cell (.int n6))), (9, .v (.cell (.sl 3 l7))), (10, .v (.cell (.int n8))), (11, .v (.cell (.int n9)))]
theorem impl_nodesUpTo_L0_le {n5 : Int} {n6 : Int} {l7 : List (List AC)} {n8 : Int} {n9 : Int} {r : AV} (h : (
    bif (decide (n9 < n8)) then
        atR_ l7 n9 [.int 0, .int 0, .sl 3 []] fun n10 n11 l12 =>
        bif (decide (n6 > n5)) then
          some (.v (.cell (.int n6)))
        else
          callR (impl_nodesUpTo [.agg [.int n10, .int n11, .sl 3 l12], .cell (.int (wrapI (n5 - n6)))]) false [(false, [.int 0])] fun n13 =>
          impl_nodesUpTo_L0 n5 (wrapI (n6 + n13)) l7 n8 (wrapI (n9 + 1))
      else
        some (.v (.cell (.int n6))) : Option AV) = some r) : impl_nodesUpTo_L0 n5 n6 l7 n8 n9 = some r :=
  GL_le (X := X_impl_nodesUpTo) (n := 100000) (by kernel_rfl) (by kernel_rfl : (X_impl_nodesUpTo.fn.body.bind fun c => locL 0 c []) = some (.loop (loopOf (X_impl_nodesUpTo.fn.body.bind fun c => locL 0 c [])), ksOf (X_impl_nodesUpTo.fn.body.bind fun c => locL 0 c []))) (Eq.trans (by kernel_rfl) h)
theorem impl_nodesUpTo_le {n1 : Int} {n2 : Int} {l3 : List (List AC)} {n4 : Int} {r : AV} (h : (
    impl_nodesUpTo_L0 n4 1 l3 ((l3.length : Nat) : Int) 0 : Option AV) = some r) : impl_nodesUpTo [.agg [.int n1, .int n2, .sl 3 l3], .cell (.int n4)] = some r :=
  V_le (X := X_impl_nodesUpTo) (n := 100000) (c := cOf Try.f56) (by kernel_rfl) Try.func56 (by kernel_rfl) (of_decide_eq_true (by kernel_rfl)) (Eq.trans (by kernel_rfl) h)
noncomputable def X_laws_szConS : Ctx := { P := Try.prog, L := lay, F := sig.has, E := ext, fn := Try.f57, lv := [(0, [0, 1, 5])], jv := [], tp := [] }
noncomputable def laws_szConS_L0 (l3 : List (List AC)) (n4 : Int) (n5 : Int) : Option AV := GL X_laws_szConS 0 [(0, .v (.cell (.sl 1 l3))), (1, .v (.cell (.int n4))), (5, .v (.cell (.int n5)))]
theorem laws_szConS_L0_le {l3 : List (List AC)} {n4 : Int} {n5 : Int} {r : AV} (h : (
    bif (decide (n5 < ((l3.length : Nat) : Int))) then
        atR_ l3 n5 [.sl 1 []] fun l6 =>
        callR (laws_szCon [.agg [.sl 1 l6], .cell (.int n4)]) false [(false, [.int 0])] fun n7 =>
        bif (decide (n7 < 0)) then
          some (.v (.cell (.int (-1))))
        else
          laws_szConS_L0 l3 n7 (wrapI (n5 + 1))
      else
        some (.v (.cell (.int n4))) : Option AV) = some r) : laws_szConS_L0 l3 n4 n5 = some r :=
  GL_le (X := X_laws_szConS) (n := 100000) (by kernel_rfl) (by kernel_rfl : (X_laws_szConS.fn.body.bind fun c => locL 0 c []) = some (.loop (loopOf (X_laws_szConS.fn.body.bind fun c => locL 0 c [])), ksOf (X_laws_szConS.fn.body.bind fun c => locL 0 c []))) (Eq.trans (by kernel_rfl) h)
theorem laws_szConS_le {l1 : List (List AC)} {n2 : Int} {r : AV} (h : (
    bif (decide ((wrapI (n2 - ((l1.length : Nat) : Int))) < 0)) then
        some (.v (.cell (.int (-1))))
      else
        laws_szConS_L0 l1 (wrapI (n2 - ((l1.length : Nat) : Int))) 0 : Option AV) = some r) : laws_szConS [.cell (.sl 1 l1), .cell (.int n2)] = some r :=
  V_le (X := X_laws_szConS) (n := 100000) (c := cOf Try.f57) (by kernel_rfl) Try.func57 (by kernel_rfl) (of_decide_eq_true (by kernel_rfl)) (Eq.trans (by kernel_rfl) h)
noncomputable def X_laws_szIntS : Ctx := { P := Try.prog, L := lay, F := sig.has, E := ext, fn := Try.f58, lv := [], jv := [], tp := [] }
theorem laws_szIntS_le {l1 : List (List AC)} {n2 : Int} {r : AV} (h : (
    bif (decide ((wrapI (n2 - ((l1.length : Nat) : Int))) < 0)) then
        some (.v (.cell (.int (-1))))
      else
        some (.v (.cell (.int (wrapI (n2 - ((l1.length : Nat) : Int)))))) : Option AV) = some r) : laws_szIntS [.cell (.sl 1 l1), .cell (.int n2)] = some r :=
  V_le (X := X_laws_szIntS) (n := 100000) (c := cOf Try.f58) (by kernel_rfl) Try.func58 (by kernel_rfl) (of_decide_eq_true (by kernel_rfl)) (Eq.trans (by kernel_rfl) h)
noncomputable def X_spec_validTypes : Ctx := { P := Try.prog, L := lay, F := sig.has, E := ext, fn := Try.f59, lv := [(0, [0, 3])], jv := [], tp := [] }
noncomputable def spec_validTypes_L0 (l2 : List (List AC)) (n3 : Int) : Option AV := GL X_spec_validTypes 0 [(0, .v (.cell (.sl 3 l2))), (3, .v (.cell (.int n3)))]
theorem spec_validTypes_L0_le {l2 : List (List AC)} {n3 : Int} {r : AV} (h : (
    bif (decide (n3 < ((l2.length : Nat) : Int))) then
        callR (spec_validDecl [.cell (.sl 3 l2), .cell (.int n3)]) false [(false, [.bool false])] fun b4 =>
        bif (!b4) then
          some (.v (.cell (.bool false)))
        else
          spec_validTypes_L0 l2 (wrapI (n3 + 1))
      else
        some (.v (.cell (.bool true))) : Option AV) = some r) : spec_validTypes_L0 l2 n3 = some r :=
  GL_le (X := X_spec_validTypes) (n := 100000) (by kernel_rfl) (by kernel_rfl : (X_spec_validTypes.fn.body.bind fun c => locL 0 c []) = some (.loop (loopOf (X_spec_validTypes.fn.body.bind fun c => locL 0 c [])), ksOf (X_spec_validTypes.fn.body.bind fun c => locL 0 c []))) (Eq.trans (by kernel_rfl) h)
theorem spec_validTypes_le {l1 : List (List AC)} {r : AV} (h : (
    bif (decide (((l1.length : Nat) : Int) > 4)) then
        some (.v (.cell (.bool false)))
      else
        spec_validTypes_L0 l1 0 : Option AV) = some r) : spec_validTypes [.cell (.sl 3 l1)] = some r :=
  V_le (X := X_spec_validTypes) (n := 100000) (c := cOf Try.f59) (by kernel_rfl) Try.func59 (by kernel_rfl) (of_decide_eq_true (by kernel_rfl)) (Eq.trans (by kernel_rfl) h)
noncomputable def X_spec_allTypes : Ctx := { P := Try.prog, L := lay, F := sig.has, E := ext, fn := Try.f60, lv := [(0, [0, 1, 5])], jv := [], tp := [] }
noncomputable def spec_allTypes_L0 (l3 : List (List AC)) (l4 : List (List AC)) (n5 : Int) : Option AV := GL X_spec_allTypes 0 [(0, .v (.cell (.sl 3 l3))), (1, .v (.cell (.sl 1 l4))), (5, .v (.cell (.int n5)))]
theorem spec_allTypes_L0_le {l3 : List (List AC)} {l4 : List (List AC)} {n5 : Int} {r : AV} (h : (
    bif (decide (n5 < ((l4.length : Nat) : Int))) then
        atR_ l4 n5 [.int 0] fun n6 =>
        callR (spec_inRange [.cell (.int n6), .cell (.int 0), .cell (.int ((l3.length : Nat) : Int))]) false [(false, [.bool false])] fun b7 =>
        bif (!b7) then
          some (.v (.cell (.bool false)))
        else
          spec_allTypes_L0 l3 l4 (wrapI (n5 + 1))
      else
        some (.v (.cell (.bool true))) : Option AV) = some r) : spec_allTypes_L0 l3 l4 n5 = some r :=
  GL_le (X := X_spec_allTypes) (n := 100000) (by kernel_rfl) (by kernel_rfl : (X_spec_allTypes.fn.body.bind fun c => locL 0 c []) = some (.loop (loopOf (X_spec_allTypes.fn.body.bind fun c => locL 0 c [])), ksOf (X_spec_allTypes.fn.body.bind fun c => locL 0 c []))) (Eq.trans (by kernel_rfl) h)
theorem spec_allTypes_le {l1 : List (List AC)} {l2 : List (List AC)} {r : AV} (h : (
    spec_allTypes_L0 l1 l2 0 : Option AV) = some r) : spec_allTypes [.cell (.sl 3 l1), .cell (.sl 1 l2)] = some r :=
  V_le (X := X_spec_allTypes) (n := 100000) (c := cOf Try.f60) (by kernel_rfl) Try.func60 (by kernel_rfl) (of_decide_eq_true (by kernel_rfl)) (Eq.trans (by kernel_rfl) h)
noncomputable def X_spec_allInts : Ctx := { P := Try.prog, L := lay, F := sig.has, E := ext, fn := Try.f61, lv := [(0, [1, 2, 3, 4, 9])], jv := [], tp := [] }
noncomputable def spec_allInts_L0 (l6 : List (List AC)) (l7 : List (List AC)) (n8 : Int) (l9 : List (List AC)) (l10 : List (List AC)) (n11 : Int) : Option AV := GL X_spec_allInts 0 [(1, .v (.cell (.sl 1 l6))), (2, .v (.cell (.sl 3 l7))), (3, .v (.cell (.int n8))), (4, .box [.sl 3 l9, .sl 5 l10]), (9, .v (.cell (.int n11)))]
theorem spec_allInts_L0_le {l6 : List (List AC)} {l7 : List (List AC)} {n8 : Int} {l9 : List (List AC)} {l10 : List (List AC)} {n11 : Int} {r : AV} (h : (
    bif (decide (n11 < n8)) then
        atR_ l7 n11 [.int 0, .int 0, .sl 3 []] fun n12 n13 l14 =>
        callR (spec_typeOf [.agg [.sl 3 l9, .sl 5 l10], .cell (.sl 1 l6), .agg [.int n12, .int n13, .sl 3 l14]]) false [(false, [.int 0])] fun n15 =>
        bif (n15 != 0) then
          some (.v (.cell (.bool false)))
        else
          spec_allInts_L0 l6 l7 n8 l9 l10 (wrapI (n11 + 1))
      else
        some (.v (.cell (.bool true))) : Option AV) = some r) : spec_allInts_L0 l6 l7 n8 l9 l10 n11 = some r :=
  GL_le (X := X_spec_allInts) (n := 100000) (by kernel_rfl) (by kernel_rfl : (X_spec_allInts.fn.body.bind fun c => locL 0 c []) = some (.loop (loopOf (X_spec_allInts.fn.body.bind fun c => locL 0 c [])), ksOf (X_spec_allInts.fn.body.bind fun c => locL 0 c []))) (Eq.trans (by kernel_rfl) h)
theorem spec_allInts_le {l1 : List (List AC)} {l2 : List (List AC)} {l3 : List (List AC)} {l4 : List (List AC)} {n5 : Int} {r : AV} (h : (
    bif (((l4.length : Nat) : Int) != n5) then
        some (.v (.cell (.bool false)))
      else
        spec_allInts_L0 l3 l4 n5 l1 l2 0 : Option AV) = some r) : spec_allInts [.agg [.sl 3 l1, .sl 5 l2], .cell (.sl 1 l3), .cell (.sl 3 l4), .cell (.int n5)] = some r :=
  V_le (X := X_spec_allInts) (n := 100000) (c := cOf Try.f61) (by kernel_rfl) Try.func61 (by kernel_rfl) (of_decide_eq_true (by kernel_rfl)) (Eq.trans (by kernel_rfl) h)
noncomputable def X_spec_conType : Ctx := { P := Try.prog, L := lay, F := sig.has, E := ext, fn := Try.f62, lv := [(0, [0, 1, 5])], jv := [], tp := [] }
noncomputable def spec_conType_L0 (l3 : List (List AC)) (n4 : Int) (n5 : Int) : Option AV := GL X_spec_conType 0 [(0, .v (.cell (.sl 3 l3))), (1, .v (.cell (.int n4))), (5, .v (.cell (.int n5)))]
theorem spec_conType_L0_le {l3 : List (List AC)} {n4 : Int} {n5 : Int} {r : AV} (h : (
    bif (decide (n5 < ((l3.length : Nat) : Int))) then
        callR (spec_firstCon [.cell (.sl 3 l3), .cell (.int n5)]) false [(false, [.int 0])] fun n6 =>
        atR_ l3 n5 [.int 0, .int 0, .sl 1 []] fun n7 n8 l9 =>
        callR (spec_inRange [.cell (.int n4), .cell (.int n6), .cell (.int (wrapI ((wrapI (n6 + ((l9.length : Nat) : Int))) - 1)))]) false [(false, [.bool false])] fun b10 =>
        bif b10 then
          some (.v (.cell (.int (wrapI (n5 + 1)))))
        else
          spec_conType_L0 l3 n4 (wrapI (n5 + 1))
      else
        some (.v (.cell (.int (-1)))) : Option AV) = some r) : spec_conType_L0 l3 n4 n5 = some r :=
  GL_le (X := X_spec_conType) (n := 100000) (by kernel_rfl) (by kernel_rfl : (X_spec_conType.fn.body.bind fun c => locL 0 c []) = some (.loop (loopOf (X_spec_conType.fn.body.bind fun c => locL 0 c [])), ksOf (X_spec_conType.fn.body.bind fun c => locL 0 c []))) (Eq.trans (by kernel_rfl) h)
theorem spec_conType_le {l1 : List (List AC)} {n2 : Int} {r : AV} (h : (
    spec_conType_L0 l1 n2 0 : Option AV) = some r) : spec_conType [.cell (.sl 3 l1), .cell (.int n2)] = some r :=
  V_le (X := X_spec_conType) (n := 100000) (c := cOf Try.f62) (by kernel_rfl) Try.func62 (by kernel_rfl) (of_decide_eq_true (by kernel_rfl)) (Eq.trans (by kernel_rfl) h)
noncomputable def X_spec_allOf : Ctx := { P := Try.prog, L := lay, F := sig.has, E := ext, fn := Try.f63, lv := [(0, [1, 2, 3, 4, 9])], jv := [], tp := [] }
noncomputable def spec_allOf_L0 (l6 : List (List AC)) (l7 : List (List AC)) (l8 : List (List AC)) (l9 : List (List AC)) (l10 : List (List AC)) (n11 : Int) : Option AV := GL X_spec_allOf 0 [(1, .v (.cell (.sl 1 l6))), (2, .v (.cell (.sl 3 l7))), (3, .v (.cell (.sl 1 l8))), (4, .box [.sl 3 l9, .sl 5 l10]), (9, .v (.cell (.int n11)))]
theorem spec_allOf_L0_le {l6 : List (List AC)} {l7 : List (List AC)} {l8 : List (List AC)} {l9 : List (List AC)} {l10 : List (List AC)} {n11 : Int} {r : AV} (h : (
    bif (decide (n11 < ((l8.length : Nat) : Int))) then
        atR_ l7 n11 [.int 0, .int 0, .sl 3 []] fun n12 n13 l14 =>
        callR (spec_typeOf [.agg [.sl 3 l9, .sl 5 l10], .cell (.sl 1 l6), .agg [.int n12, .int n13, .sl 3 l14]]) false [(false, [.int 0])] fun n15 =>
        atR_ l8 n11 [.int 0] fun n16 =>
        bif (n15 != n16) then
          some (.v (.cell (.bool false)))
        else
          spec_allOf_L0 l6 l7 l8 l9 l10 (wrapI (n11 + 1))
      else
        some (.v (.cell (.bool true))) : Option AV) = some r) : spec_allOf_L0 l6 l7 l8 l9 l10 n11 = some r :=
  GL_le (X := X_spec_allOf) (n := 100000) (by kernel_rfl) (by kernel_rfl : (X_spec_allOf.fn.body.bind fun c => locL 0 c []) = some (.loop (loopOf (X_spec_allOf.fn.body.bind fun c => locL 0 c [])), ksOf (X_spec_allOf.fn.body.bind fun c => locL 0 c []))) (Eq.trans (by kernel_rfl) h)
theorem spec_allOf_le {l1 : List (List AC)} {l2 : List (List AC)} {l3 : List (List AC)} {l4 : List (List AC)} {l5 : List (List AC)} {r : AV} (h : (
    bif (((l4.length : Nat) : Int) != ((l5.length : Nat) : Int)) then
        some (.v (.cell (.bool false)))
      else
        spec_allOf_L0 l3 l4 l5 l1 l2 0 : Option AV) = some r) : spec_allOf [.agg [.sl 3 l1, .sl 5 l2], .cell (.sl 1 l3), .cell (.sl 3 l4), .cell (.sl 1 l5)] = some r :=
  V_le (X := X_spec_allOf) (n := 100000) (c := cOf Try.f63) (by kernel_rfl) Try.func63 (by kernel_rfl) (of_decide_eq_true (by kernel_rfl)) (Eq.trans (by kernel_rfl) h)
noncomputable def X_spec_conFields : Ctx := { P := Try.prog, L := lay, F := sig.has, E := ext, fn := Try.f64, lv := [], jv := [], tp := [] }
theorem spec_conFields_le {l1 : List (List AC)} {n2 : Int} {r : AV} (h : (
    callR (spec_conType [.cell (.sl 3 l1), .cell (.int n2)]) false [(false, [.int 0])] fun n3 =>
      bif (decide (n3 < 1)) then
        some (.v (.cell (.sl 1 [])))
      else
        atR_ l1 (wrapI (n3 - 1)) [.int 0, .int 0, .sl 1 []] fun n4 n5 l6 =>
        callR (spec_firstCon [.cell (.sl 3 l1), .cell (.int (wrapI (n3 - 1)))]) false [(false, [.int 0])] fun n7 =>
        atR_ l6 (wrapI (n2 - n7)) [.sl 1 []] fun l8 =>
        some (.v (.cell (.sl 1 l8))) : Option AV) = some r) : spec_conFields [.cell (.sl 3 l1), .cell (.int n2)] = some r :=
  V_le (X := X_spec_conFields) (n := 100000) (c := cOf Try.f64) (by kernel_rfl) Try.func64 (by kernel_rfl) (of_decide_eq_true (by kernel_rfl)) (Eq.trans (by kernel_rfl) h)
noncomputable def X_spec_extend : Ctx := { P := Try.prog, L := lay, F := sig.has, E := ext, fn := Try.f65, lv := [], jv := [], tp := [] }
theorem spec_extend_le {l1 : List (List AC)} {l2 : List (List AC)} {r : AV} (h : (
    callR (spec_copyInts [.cell (.sl 1 l1)]) false [(false, [.sl 1 []])] fun l3 =>
      appR l3 l2 fun l4 =>
      some (.v (.cell (.sl 1 l4))) : Option AV) = some r) : spec_extend [.cell (.sl 1 l1), .cell (.sl 1 l2)] = some r :=
  V_le (X := X_spec_extend) (n := 100000) (c := cOf Try.f65) (by kernel_rfl) Try.func65 (by kernel_rfl) (of_decide_eq_true (by kernel_rfl)) (Eq.trans (by kernel_rfl) h)
noncomputable def X_spec_matchType : Ctx := { P := Try.prog, L := lay, F := sig.has, E := ext, fn := Try.f66, lv := [(0, [1, 3, 5, 7, 8, 9])], jv := [], tp := [] }
noncomputable def spec_matchType_L0 (l19 : List (List AC)) (l20 : List (List AC)) (l21 : List (List AC)) (n22 : Int) (n23 : Int) (l24 : List (List AC)) (l25 : List (List AC)) (n26 : Int) (n27 : Int) : Option AV := GL X_spec_matchType 0 [(1, .v (.cell (.sl 1 l19))), (3, .box [.sl 3 l20, .sl 5 l21]), (5, .box [.int n22, .int n23, .sl 3 l24]), (7, .v (.cell (.sl 1 l25))), (8, .v (.cell (.int n26))), (9, .v (.cell (.int n27)))]
theorem spec_matchType_L0_le {l19 : List (List AC)} {l20 : List (List AC)} {l21 : List (List AC)} {n22 : Int} {n23 : Int} {l24 : List (List AC)} {l25 : List (List AC)} {n26 : Int} {n27 : Int} {r : AV} (h : (
    bif (decide (n27 < ((l25.length : Nat) : Int))) then
        atR_ l25 n27 [.int 0] fun n28 =>
        callR (spec_conFields [.cell (.sl 3 l20), .cell (.int n28)]) false [(false, [.sl 1 []])] fun l29 =>
        callR (spec_extend [.cell (.sl 1 l19), .cell (.sl 1 l29)]) false [(false, [.sl 1 []])] fun l30 =>
        atR_ l24 (wrapI (1 + n27)) [.int 0, .int 0, .sl 3 []] fun n31 n32 l33 =>
        callR (spec_typeOf [.agg [.sl 3 l20, .sl 5 l21], .cell (.sl 1 l30), .agg [.int n31, .int n32, .sl 3 l33]]) false [(false, [.int 0])] fun n34 =>
        bif (n34 != n26) then
          some (.v (.cell (.int (-1))))
        else
          spec_matchType_L0 l19 l20 l21 n22 n23 l24 l25 n26 (wrapI (n27 + 1))
      else
        some (.v (.cell (.int n26))) : Option AV) = some r) : spec_matchType_L0 l19 l20 l21 n22 n23 l24 l25 n26 n27 = some r :=
  GL_le (X := X_spec_matchType) (n := 100000) (by kernel_rfl) (by kernel_rfl : (X_spec_matchType.fn.body.bind fun c => locL 0 c []) = some (.loop (loopOf (X_spec_matchType.fn.body.bind fun c => locL 0 c [])), ksOf (X_spec_matchType.fn.body.bind fun c => locL 0 c []))) (Eq.trans (by kernel_rfl) h)
theorem spec_matchType_le {l1 : List (List AC)} {l2 : List (List AC)} {l3 : List (List AC)} {n4 : Int} {n5 : Int} {l6 : List (List AC)} {r : AV} (h : (
    callR (spec_consOf [.cell (.sl 3 l1), .cell (.int n5)]) false [(false, [.sl 1 []])] fun l7 =>
      bif (((l7.length : Nat) : Int) == 0) then
        some (.v (.cell (.int (-1))))
      else
        bif (((l6.length : Nat) : Int) != (wrapI (1 + ((l7.length : Nat) : Int)))) then
          some (.v (.cell (.int (-1))))
        else
          atR_ l6 0 [.int 0, .int 0, .sl 3 []] fun n8 n9 l10 =>
          callR (spec_typeOf [.agg [.sl 3 l1, .sl 5 l2], .cell (.sl 1 l3), .agg [.int n8, .int n9, .sl 3 l10]]) false [(false, [.int 0])] fun n11 =>
          bif (n11 != n5) then
            some (.v (.cell (.int (-1))))
          else
            atR_ l7 0 [.int 0] fun n12 =>
            callR (spec_conFields [.cell (.sl 3 l1), .cell (.int n12)]) false [(false, [.sl 1 []])] fun l13 =>
            callR (spec_extend [.cell (.sl 1 l3), .cell (.sl 1 l13)]) false [(false, [.sl 1 []])] fun l14 =>
            atR_ l6 1 [.int 0, .int 0, .sl 3 []] fun n15 n16 l17 =>
            callR (spec_typeOf [.agg [.sl 3 l1, .sl 5 l2], .cell (.sl 1 l14), .agg [.int n15, .int n16, .sl 3 l17]]) false [(false, [.int 0])] fun n18 =>
            spec_matchType_L0 l3 l1 l2 n4 n5 l6 l7 n18 1 : Option AV) = some r) : spec_matchType [.agg [.sl 3 l1, .sl 5 l2], .cell (.sl 1 l3), .agg [.int n4, .int n5, .sl 3 l6]] = some r :=
  V_le (X := X_spec_matchType) (n := 100000) (c := cOf Try.f66) (by kernel_rfl) Try.func66 (by kernel_rfl) (of_decide_eq_true (by kernel_rfl)) (Eq.trans (by kernel_rfl) h)
noncomputable def X_spec_callType : Ctx := { P := Try.prog, L := lay, F := sig.has, E := ext, fn := Try.f67, lv := [], jv := [], tp := [] }
theorem spec_callType_le {l1 : List (List AC)} {l2 : List (List AC)} {l3 : List (List AC)} {n4 : Int} {n5 : Int} {l6 : List (List AC)} {r : AV} (h : (
    callR (spec_inRange [.cell (.int n5), .cell (.int 0), .cell (.int (wrapI (((l2.length : Nat) : Int) - 1)))]) false [(false, [.bool false])] fun b7 =>
      bif (!b7) then
        some (.v (.cell (.int (-1))))
      else
        atR_ l2 n5 [.sl 1 [], .int 0, .int 0, .int 0, .sl 3 []] fun l8 n9 n10 n11 l12 =>
        bif (n4 == 9) then
          callR (spec_allOf [.agg [.sl 3 l1, .sl 5 l2], .cell (.sl 1 l3), .cell (.sl 3 l6), .cell (.sl 1 l8)]) false [(false, [.bool false])] fun b13 =>
          bif (!b13) then
            some (.v (.cell (.int (-1))))
          else
            some (.v (.cell (.int n9)))
        else
          bif (((l8.length : Nat) : Int) == 0) then
            some (.v (.cell (.int (-1))))
          else
            cutR l8 0 (wrapI (((l8.length : Nat) : Int) - 1)) fun l14 =>
            callR (spec_allOf [.agg [.sl 3 l1, .sl 5 l2], .cell (.sl 1 l3), .cell (.sl 3 l6), .cell (.sl 1 l14)]) false [(false, [.bool false])] fun b15 =>
            bif (!b15) then
              some (.v (.cell (.int (-1))))
            else
              atR_ l8 (wrapI (((l8.length : Nat) : Int) - 1)) [.int 0] fun n16 =>
              callR (spec_arrowOf [.cell (.sl 3 l1), .cell (.int n16), .cell (.int n9)]) false [(false, [.int 0])] fun n17 =>
              some (.v (.cell (.int n17))) : Option AV) = some r) : spec_callType [.agg [.sl 3 l1, .sl 5 l2], .cell (.sl 1 l3), .agg [.int n4, .int n5, .sl 3 l6]] = some r :=
  V_le (X := X_spec_callType) (n := 100000) (c := cOf Try.f67) (by kernel_rfl) Try.func67 (by kernel_rfl) (of_decide_eq_true (by kernel_rfl)) (Eq.trans (by kernel_rfl) h)
noncomputable def X_spec_isArrow : Ctx := { P := Try.prog, L := lay, F := sig.has, E := ext, fn := Try.f68, lv := [], jv := [], tp := [] }
theorem spec_isArrow_le {l1 : List (List AC)} {n2 : Int} {r : AV} (h : (
    callR (spec_inRange [.cell (.int n2), .cell (.int 1), .cell (.int ((l1.length : Nat) : Int))]) false [(false, [.bool false])] fun b3 =>
      bif b3 then
        atR_ l1 (wrapI (n2 - 1)) [.int 0, .int 0, .sl 1 []] fun n4 n5 l6 =>
        some (.v (.cell (.bool (((l6.length : Nat) : Int) == 0))))
      else
        some (.v (.cell (.bool false))) : Option AV) = some r) : spec_isArrow [.cell (.sl 3 l1), .cell (.int n2)] = some r :=
  V_le (X := X_spec_isArrow) (n := 100000) (c := cOf Try.f68) (by kernel_rfl) Try.func68 (by kernel_rfl) (of_decide_eq_true (by kernel_rfl)) (Eq.trans (by kernel_rfl) h)
noncomputable def X_spec_insert : Ctx := { P := Try.prog, L := lay, F := sig.has, E := ext, fn := Try.f69, lv := [(0, [0, 1, 5, 6, 7])], jv := [], tp := [] }
noncomputable def spec_insert_L0 (l3 : List (List AC)) (n4 : Int) (l5 : List (List AC)) (b6 : Bool) (n7 : Int) : Option AV := GL X_spec_insert 0 [(0, .v (.cell (.sl 1 l3))), (1, .v (.cell (.int n4))), (5, .v (.cell (.sl 1 l5))), (6, .v (.cell (.bool b6))), (7, .v (.cell (.int n7)))]
theorem spec_insert_L0_le {l3 : List (List AC)} {n4 : Int} {l5 : List (List AC)} {b6 : Bool} {n7 : Int} {r : AV} (h : (
    bif (decide (n7 < ((l3.length : Nat) : Int))) then
        bif (!b6) then
          atR_ l3 n7 [.int 0] fun n8 =>
          bif (decide (n8 ≥ n4)) then
            atR_ l3 n7 [.int 0] fun n9 =>
            bif (decide (n9 > n4)) then
              appR l5 [[.int n4]] fun l10 =>
              atR_ l3 n7 [.int 0] fun n11 =>
              appR l10 [[.int n11]] fun l12 =>
              spec_insert_L0 l3 n4 l12 true (wrapI (n7 + 1))
            else
              atR_ l3 n7 [.int 0] fun n13 =>
              appR l5 [[.int n13]] fun l14 =>
              spec_insert_L0 l3 n4 l14 true (wrapI (n7 + 1))
          else
            atR_ l3 n7 [.int 0] fun n15 =>
            appR l5 [[.int n15]] fun l16 =>
            spec_insert_L0 l3 n4 l16 b6 (wrapI (n7 + 1))
        else
          atR_ l3 n7 [.int 0] fun n17 =>
          appR l5 [[.int n17]] fun l18 =>
          spec_insert_L0 l3 n4 l18 b6 (wrapI (n7 + 1))
      else
        bif (!b6) then
          appR l5 [[.int n4]] fun l19 =>
          some (.v (.cell (.sl 1 l19)))
        else
          some (.v (.cell (.sl 1 l5))) : Option AV) = some r) : spec_insert_L0 l3 n4 l5 b6 n7 = some r :=
  GL_le (X := X_spec_insert) (n := 100000) (by kernel_rfl) (by kernel_rfl : (X_spec_insert.fn.body.bind fun c => locL 0 c []) = some (.loop (loopOf (X_spec_insert.fn.body.bind fun c => locL 0 c [])), ksOf (X_spec_insert.fn.body.bind fun c => locL 0 c []))) (Eq.trans (by kernel_rfl) h)
theorem spec_insert_le {l1 : List (List AC)} {n2 : Int} {r : AV} (h : (
    spec_insert_L0 l1 n2 [] false 0 : Option AV) = some r) : spec_insert [.cell (.sl 1 l1), .cell (.int n2)] = some r :=
  V_le (X := X_spec_insert) (n := 100000) (c := cOf Try.f69) (by kernel_rfl) Try.func69 (by kernel_rfl) (of_decide_eq_true (by kernel_rfl)) (Eq.trans (by kernel_rfl) h)
noncomputable def X_impl_ValidTypes : Ctx := { P := Try.prog, L := lay, F := sig.has, E := ext, fn := Try.f72, lv := [(0, [0, 8, 9])], jv := [], tp := [] }
noncomputable def impl_ValidTypes_L0 (l2 : List (List AC)) (n3 : Int) (n4 : Int) : Option AV := GL X_impl_ValidTypes 0 [(0, .v (.cell (.sl 3 l2))), (8, .v (.cell (.int n3))), (9, .v (.cell (.int n4)))]
theorem impl_ValidTypes_L0_le {l2 : List (List AC)} {n3 : Int} {n4 : Int} {r : AV} (h : (
    bif (decide (n4 < n3)) then
        callR (impl_validDecl [.cell (.sl 3 l2), .cell (.int n4)]) false [(false, [.bool false])] fun b5 =>
        bif (!b5) then
          some (.v (.cell (.bool false)))
        else
          impl_ValidTypes_L0 l2 n3 (wrapI (n4 + 1))
      else
        some (.v (.cell (.bool true))) : Option AV) = some r) : impl_ValidTypes_L0 l2 n3 n4 = some r :=
  GL_le (X := X_impl_ValidTypes) (n := 100000) (by kernel_rfl) (by kernel_rfl : (X_impl_ValidTypes.fn.body.bind fun c => locL 0 c []) = some (.loop (loopOf (X_impl_ValidTypes.fn.body.bind fun c => locL 0 c [])), ksOf (X_impl_ValidTypes.fn.body.bind fun c => locL 0 c []))) (Eq.trans (by kernel_rfl) h)
theorem impl_ValidTypes_le {l1 : List (List AC)} {r : AV} (h : (
    bif (decide (((l1.length : Nat) : Int) > 4)) then
        some (.v (.cell (.bool false)))
      else
        impl_ValidTypes_L0 l1 ((l1.length : Nat) : Int) 0 : Option AV) = some r) : impl_ValidTypes [.cell (.sl 3 l1)] = some r :=
  V_le (X := X_impl_ValidTypes) (n := 100000) (c := cOf Try.f72) (by kernel_rfl) Try.func72 (by kernel_rfl) (of_decide_eq_true (by kernel_rfl)) (Eq.trans (by kernel_rfl) h)
noncomputable def X_impl_validSig : Ctx := { P := Try.prog, L := lay, F := sig.has, E := ext, fn := Try.f73, lv := [], jv := [], tp := [] }
theorem impl_validSig_le {l1 : List (List AC)} {l2 : List (List AC)} {n3 : Int} {r : AV} (h : (
    bif (decide (((l2.length : Nat) : Int) ≤ 3)) then
        callR (impl_areTypes [.cell (.sl 3 l1), .cell (.sl 1 l2)]) false [(false, [.bool false])] fun b4 =>
        bif b4 then
          callR (impl_isType [.cell (.sl 3 l1), .cell (.int n3)]) false [(false, [.bool false])] fun b5 =>
          some (.v (.cell (.bool b5)))
        else
          some (.v (.cell (.bool false)))
      else
        some (.v (.cell (.bool false))) : Option AV) = some r) : impl_validSig [.cell (.sl 3 l1), .cell (.sl 1 l2), .cell (.int n3)] = some r :=
  V_le (X := X_impl_validSig) (n := 100000) (c := cOf Try.f73) (by kernel_rfl) Try.func73 (by kernel_rfl) (of_decide_eq_true (by kernel_rfl)) (Eq.trans (by kernel_rfl) h)
noncomputable def X_impl_areTypes : Ctx := { P := Try.prog, L := lay, F := sig.has, E := ext, fn := Try.f74, lv := [(0, [0, 7, 8, 9])], jv := [], tp := [] }
noncomputable def impl_areTypes_L0 (l3 : List (List AC)) (l4 : List (List AC)) (n5 : Int) (n6 : Int) : Option AV := GL X_impl_areTypes 0 [(0, .v (.cell (.sl 3 l3))), (7, .v (.cell (.sl 1 l4))), (8, .v (.cell (.int n5))), (9, .v (.cell (.int n6)))]
theorem impl_areTypes_L0_le {l3 : List (List AC)} {l4 : List (List AC)} {n5 : Int} {n6 : Int} {r : AV} (h : (
    bif (decide (n6 < n5)) then
        atR_ l4 n6 [.int 0] fun n7 =>
        callR (impl_isType [.cell (.sl 3 l3), .cell (.int n7)]) false [(false, [.bool false])] fun b8 =>
        bif (!b8) then
          some (.v (.cell (.bool false)))
        else
          impl_areTypes_L0 l3 l4 n5 (wrapI (n6 + 1))
      else
        some (.v (.cell (.bool true))) : Option AV) = some r) : impl_areTypes_L0 l3 l4 n5 n6 = some r :=
  GL_le (X := X_impl_areTypes) (n := 100000) (by kernel_rfl) (by kernel_rfl : (X_impl_areTypes.fn.body.bind fun c => locL 0 c []) = some (.loop (loopOf (X_impl_areTypes.fn.body.bind fun c => locL 0 c [])), ksOf (X_impl_areTypes.fn.body.bind fun c => locL 0 c []))) (Eq.trans (by kernel_rfl) h)
theorem impl_areTypes_le {l1 : List (List AC)} {l2 : List (List AC)} {r : AV} (h : (
    impl_areTypes_L0 l1 l2 ((l2.length : Nat) : Int) 0 : Option AV) = some r) : impl_areTypes [.cell (.sl 3 l1), .cell (.sl 1 l2)] = some r :=
  V_le (X := X_impl_areTypes) (n := 100000) (c := cOf Try.f74) (by kernel_rfl) Try.func74 (by kernel_rfl) (of_decide_eq_true (by kernel_rfl)) (Eq.trans (by kernel_rfl) h)
noncomputable def X_impl_typeIn : Ctx := { P := Try.prog, L := lay, F := sig.has, E := ext, fn := Try.f75, lv := [], jv := [], tp := [] }
theorem impl_typeIn_le {l1 : List (List AC)} {l2 : List (List AC)} {l3 : List (List AC)} {l4 : List (List AC)} {n5 : Int} {n6 : Int} {l7 : List (List AC)} {r : AV} (h : (
    bif (n5 == 12) then
        bif (decide (((l7.length : Nat) : Int) > 0)) then
          some (.v (.cell (.int (-1))))
        else
          callR (impl_typeOfVar [.agg [.sl 1 l3, .sl 1 l4], .cell (.int n6)]) false [(false, [.int 0])] fun n8 =>
          some (.v (.cell (.int n8)))
      else
        bif (n5 == 13) then
          callR (impl_typeOfLet [.agg [.sl 3 l1, .sl 5 l2], .agg [.sl 1 l3, .sl 1 l4], .agg [.int n5, .int n6, .sl 3 l7]]) false [(false, [.int 0])] fun n9 =>
          some (.v (.cell (.int n9)))
        else
          bif (n5 == 7) then
            callR (impl_typeOfIf [.agg [.sl 3 l1, .sl 5 l2], .agg [.sl 1 l3, .sl 1 l4], .agg [.int n5, .int n6, .sl 3 l7]]) false [(false, [.int 0])] fun n10 =>
            some (.v (.cell (.int n10)))
          else
            bif (n5 == 8) then
              callR (impl_typeOfMatch [.agg [.sl 3 l1, .sl 5 l2], .agg [.sl 1 l3, .sl 1 l4], .agg [.int n5, .int n6, .sl 3 l7]]) false [(false, [.int 0])] fun n11 =>
              some (.v (.cell (.int n11)))
            else
              callR (impl_typesIn [.agg [.sl 3 l1, .sl 5 l2], .agg [.sl 1 l3, .sl 1 l4], .cell (.sl 3 l7)]) false [(false, [.sl 1 []])] fun l12 =>
              callR (impl_resultOf [.agg [.sl 3 l1, .sl 5 l2], .cell (.int n5), .cell (.int n6), .cell (.sl 1 l12)]) false [(false, [.int 0])] fun n13 =>
              some (.v (.cell (.int n13))) : Option AV) = some r) : impl_typeIn [.agg [.sl 3 l1, .sl 5 l2], .agg [.sl 1 l3, .sl 1 l4], .agg [.int n5, .int n6, .sl 3 l7]] = some r :=
  V_le (X := X_impl_typeIn) (n := 100000) (c := cOf Try.f75) (by kernel_rfl) Try.func75 (by kernel_rfl) (of_decide_eq_true (by kernel_rfl)) (Eq.trans (by kernel_rfl) h)
noncomputable def X_impl_withInt : Ctx := { P := Try.prog, L := lay, F := sig.has, E := ext, fn := Try.f76, lv := [(0, [1, 5, 6, 9, 10, 11])], jv := [], tp := [] }
noncomputable def impl_withInt_L0 (n3 : Int) (l4 : List (List AC)) (b5 : Bool) (l6 : List (List AC)) (n7 : Int) (n8 : Int) : Option AV := GL X_impl_withInt 0 [(1, .v (.cell (.int n3))), (5, .v (.cell (.sl 1 l4))), (6, .v (.cell (.bool b5))), (9, .v (.cell (.sl 1 l6))), (10, .v (.cell (.int n7))), (11, .v (.cell (.int n8)))]
theorem impl_withInt_L0_le {n3 : Int} {l4 : List (List AC)} {b5 : Bool} {l6 : List (List AC)} {n7 : Int} {n8 : Int} {r : AV} (h : (
    bif (decide (n8 < n7)) then
        atR_ l6 n8 [.int 0] fun n9 =>
        bif (decide (n9 ≥ n3)) then
          bif (!b5) then
            appR l4 [[.int n3]] fun l10 =>
            bif (n9 != n3) then
              appR l10 [[.int n9]] fun l11 =>
              impl_withInt_L0 n3 l11 true l6 n7 (wrapI (n8 + 1))
            else
              impl_withInt_L0 n3 l10 true l6 n7 (wrapI (n8 + 1))
          else
            bif (n9 != n3) then
              appR l4 [[.int n9]] fun l12 =>
              impl_withInt_L0 n3 l12 b5 l6 n7 (wrapI (n8 + 1))
            else
              impl_withInt_L0 n3 l4 b5 l6 n7 (wrapI (n8 + 1))
        else
          bif (n9 != n3) then
            appR l4 [[.int n9]] fun l13 =>
            impl_withInt_L0 n3 l13 b5 l6 n7 (wrapI (n8 + 1))
          else
            impl_withInt_L0 n3 l4 b5 l6 n7 (wrapI (n8 + 1))
      else
        bif (!b5) then
          appR l4 [[.int n3]] fun l14 =>
          some (.v (.cell (.sl 1 l14)))
        else
          some (.v (.cell (.sl 1 l4))) : Option AV) = some r) : impl_withInt_L0 n3 l4 b5 l6 n7 n8 = some r :=
  GL_le (X := X_impl_withInt) (n := 100000) (by kernel_rfl) (by kernel_rfl : (X_impl_withInt.fn.body.bind fun c => locL 0 c []) = some (.loop (loopOf (X_impl_withInt.fn.body.bind fun c => locL 0 c [])), ksOf (X_impl_withInt.fn.body.bind fun c => locL 0 c []))) (Eq.trans (by kernel_rfl) h)
theorem impl_withInt_le {l1 : List (List AC)} {n2 : Int} {r : AV} (h : (
    impl_withInt_L0 n2 [] false l1 ((l1.length : Nat) : Int) 0 : Option AV) = some r) : impl_withInt [.cell (.sl 1 l1), .cell (.int n2)] = some r :=
  V_le (X := X_impl_withInt) (n := 100000) (c := cOf Try.f76) (by kernel_rfl) Try.func76 (by kernel_rfl) (of_decide_eq_true (by kernel_rfl)) (Eq.trans (by kernel_rfl) h)
noncomputable def X_laws_eqConS : Ctx := { P := Try.prog, L := lay, F := sig.has, E := ext, fn := Try.f77, lv := [(0, [0, 1, 5])], jv := [], tp := [] }
noncomputable def laws_eqConS_L0 (l3 : List (List AC)) (l4 : List (List AC)) (n5 : Int) : Option AV := GL X_laws_eqConS 0 [(0, .v (.cell (.sl 1 l3))), (1, .v (.cell (.sl 1 l4))), (5, .v (.cell (.int n5)))]
theorem laws_eqConS_L0_le {l3 : List (List AC)} {l4 : List (List AC)} {n5 : Int} {r : AV} (h : (
    bif (decide (n5 < ((l3.length : Nat) : Int))) then
        atR_ l3 n5 [.sl 1 []] fun l6 =>
        atR_ l4 n5 [.sl 1 []] fun l7 =>
        callR (laws_eqCon [.agg [.sl 1 l6], .agg [.sl 1 l7]]) false [(false, [.bool false])] fun b8 =>
        bif (!b8) then
          some (.v (.cell (.bool false)))
        else
          laws_eqConS_L0 l3 l4 (wrapI (n5 + 1))
      else
        some (.v (.cell (.bool true))) : Option AV) = some r) : laws_eqConS_L0 l3 l4 n5 = some r :=
  GL_le (X := X_laws_eqConS) (n := 100000) (by kernel_rfl) (by kernel_rfl : (X_laws_eqConS.fn.body.bind fun c => locL 0 c []) = some (.loop (loopOf (X_laws_eqConS.fn.body.bind fun c => locL 0 c [])), ksOf (X_laws_eqConS.fn.body.bind fun c => locL 0 c []))) (Eq.trans (by kernel_rfl) h)
theorem laws_eqConS_le {l1 : List (List AC)} {l2 : List (List AC)} {r : AV} (h : (
    bif (((l1.length : Nat) : Int) != ((l2.length : Nat) : Int)) then
        some (.v (.cell (.bool false)))
      else
        laws_eqConS_L0 l1 l2 0 : Option AV) = some r) : laws_eqConS [.cell (.sl 1 l1), .cell (.sl 1 l2)] = some r :=
  V_le (X := X_laws_eqConS) (n := 100000) (c := cOf Try.f77) (by kernel_rfl) Try.func77 (by kernel_rfl) (of_decide_eq_true (by kernel_rfl)) (Eq.trans (by kernel_rfl) h)
noncomputable def X_laws_eqIntS : Ctx := { P := Try.prog, L := lay, F := sig.has, E := ext, fn := Try.f78, lv := [(0, [0, 1, 5])], jv := [], tp := [] }
noncomputable def laws_eqIntS_L0 (l3 : List (List AC)) (l4 : List (List AC)) (n5 : Int) : Option AV := GL X_laws_eqIntS 0 [(0, .v (.cell (.sl 1 l3))), (1, .v (.cell (.sl 1 l4))), (5, .v (.cell (.int n5)))]
theorem laws_eqIntS_L0_le {l3 : List (List AC)} {l4 : List (List AC)} {n5 : Int} {r : AV} (h : (
    bif (decide (n5 < ((l3.length : Nat) : Int))) then
        atR_ l3 n5 [.int 0] fun n6 =>
        atR_ l4 n5 [.int 0] fun n7 =>
        bif (n6 != n7) then
          some (.v (.cell (.bool false)))
        else
          laws_eqIntS_L0 l3 l4 (wrapI (n5 + 1))
      else
        some (.v (.cell (.bool true))) : Option AV) = some r) : laws_eqIntS_L0 l3 l4 n5 = some r :=
  GL_le (X := X_laws_eqIntS) (n := 100000) (by kernel_rfl) (by kernel_rfl : (X_laws_eqIntS.fn.body.bind fun c => locL 0 c []) = some (.loop (loopOf (X_laws_eqIntS.fn.body.bind fun c => locL 0 c [])), ksOf (X_laws_eqIntS.fn.body.bind fun c => locL 0 c []))) (Eq.trans (by kernel_rfl) h)
theorem laws_eqIntS_le {l1 : List (List AC)} {l2 : List (List AC)} {r : AV} (h : (
    bif (((l1.length : Nat) : Int) != ((l2.length : Nat) : Int)) then
        some (.v (.cell (.bool false)))
      else
        laws_eqIntS_L0 l1 l2 0 : Option AV) = some r) : laws_eqIntS [.cell (.sl 1 l1), .cell (.sl 1 l2)] = some r :=
  V_le (X := X_laws_eqIntS) (n := 100000) (c := cOf Try.f78) (by kernel_rfl) Try.func78 (by kernel_rfl) (of_decide_eq_true (by kernel_rfl)) (Eq.trans (by kernel_rfl) h)
noncomputable def X_laws_szCon : Ctx := { P := Try.prog, L := lay, F := sig.has, E := ext, fn := Try.f79, lv := [], jv := [], tp := [] }
theorem laws_szCon_le {l1 : List (List AC)} {n2 : Int} {r : AV} (h : (
    callR (laws_szIntS [.cell (.sl 1 l1), .cell (.int n2)]) false [(false, [.int 0])] fun n3 =>
      bif (decide (n3 < 0)) then
        some (.v (.cell (.int (-1))))
      else
        some (.v (.cell (.int n3))) : Option AV) = some r) : laws_szCon [.agg [.sl 1 l1], .cell (.int n2)] = some r :=
  V_le (X := X_laws_szCon) (n := 100000) (c := cOf Try.f79) (by kernel_rfl) Try.func79 (by kernel_rfl) (of_decide_eq_true (by kernel_rfl)) (Eq.trans (by kernel_rfl) h)
noncomputable def X_spec_validDecl : Ctx := { P := Try.prog, L := lay, F := sig.has, E := ext, fn := Try.f80, lv := [(0, [0, 5, 6]), (2, [0, 1, 5, 7])], jv := [], tp := [] }
noncomputable def spec_validDecl_L0 (l6 : List (List AC)) (n7 : Int) (n8 : Int) (l9 : List (List AC)) (n10 : Int) : Option AV := GL X_spec_validDecl 0 [(0, .v (.cell (.sl 3 l6))), (5, .box [.int n7, .int n8, .sl 1 l9]), (6, .v (.cell (.int n10)))]
noncomputable def spec_validDecl_L2 (l11 : List (List AC)) (n12 : Int) (n13 : Int) (n14 : Int) (l15 : List (List AC)) (n16 : Int) : Option AV := GL X_spec_validDecl 2 [(0, .v (.cell (.sl 3 l11))), (1, .v (.cell (.int n12))), (5, .box [.int n13, .int n14, .sl 1 l15]), (7, .v (.cell (.int n16)))]
theorem spec_validDecl_L0_le {l6 : List (List AC)} {n7 : Int} {n8 : Int} {l9 : List (List AC)} {n10 : Int} {r : AV} (h : (
    bif (decide (n10 < ((l9.length : Nat) : Int))) then
        atR_ l9 n10 [.sl 1 []] fun l17 =>
        bif (decide (((l17.length : Nat) : Int) > 3)) then
          some (.v (.cell (.bool false)))
        else
          atR_ l9 n10 [.sl 1 []] fun l18 =>
          callR (spec_allTypes [.cell (.sl 3 l6), .cell (.sl 1 l18)]) false [(false, [.bool false])] fun b19 =>
          bif (!b19) then
            some (.v (.cell (.bool false)))
          else
            spec_validDecl_L0 l6 n7 n8 l9 (wrapI (n10 + 1))
      else
        some (.v (.cell (.bool true))) : Option AV) = some r) : spec_validDecl_L0 l6 n7 n8 l9 n10 = some r :=
  GL_le (X := X_spec_validDecl) (n := 100000) (by kernel_rfl) (by kernel_rfl : (X_spec_validDecl.fn.body.bind fun c => locL 0 c []) = some (.loop (loopOf (X_spec_validDecl.fn.body.bind fun c => locL 0 c [])), ksOf (X_spec_validDecl.fn.body.bind fun c => locL 0 c []))) (Eq.trans (by kernel_rfl) h)
theorem spec_validDecl_L2_le {l11 : List (List AC)} {n12 : Int} {n13 : Int} {n14 : Int} {l15 : List (List AC)} {n16 : Int} {r : AV} (h : (
    bif (decide (n16 < n12)) then
        atR_ l11 n16 [.int 0, .int 0, .sl 1 []] fun n20 n21 l22 =>
        bif (((l22.length : Nat) : Int) == 0) then
          atR_ l11 n16 [.int 0, .int 0, .sl 1 []] fun n23 n24 l25 =>
          bif (n23 == n13) then
            atR_ l11 n16 [.int 0, .int 0, .sl 1 []] fun n26 n27 l28 =>
            bif (n27 == n14) then
              some (.v (.cell (.bool false)))
            else
              spec_validDecl_L2 l11 n12 n13 n14 l15 (wrapI (n16 + 1))
          else
            spec_validDecl_L2 l11 n12 n13 n14 l15 (wrapI (n16 + 1))
        else
          spec_validDecl_L2 l11 n12 n13 n14 l15 (wrapI (n16 + 1))
      else
        callR (spec_inRange [.cell (.int n13), .cell (.int 0), .cell (.int ((l11.length : Nat) : Int))]) false [(false, [.bool false])] fun b29 =>
        bif b29 then
          callR (spec_inRange [.cell (.int n14), .cell (.int 0), .cell (.int ((l11.length : Nat) : Int))]) false [(false, [.bool false])] fun b30 =>
          some (.v (.cell (.bool b30)))
        else
          some (.v (.cell (.bool false))) : Option AV) = some r) : spec_validDecl_L2 l11 n12 n13 n14 l15 n16 = some r :=
  GL_le (X := X_spec_validDecl) (n := 100000) (by kernel_rfl) (by kernel_rfl : (X_spec_validDecl.fn.body.bind fun c => locL 2 c []) = some (.loop (loopOf (X_spec_validDecl.fn.body.bind fun c => locL 2 c [])), ksOf (X_spec_validDecl.fn.body.bind fun c => locL 2 c []))) (Eq.trans (by kernel_rfl) h)
theorem spec_validDecl_le {l1 : List (List AC)} {n2 : Int} {r : AV} (h : (
    atR_ l1 n2 [.int 0, .int 0, .sl 1 []] fun n3 n4 l5 =>
      bif (decide (((l5.length : Nat) : Int) > 0)) then
        bif (decide (((l5.length : Nat) : Int) > 3)) then
          some (.v (.cell (.bool false)))
        else
          bif (n3 != 0) then
            some (.v (.cell (.bool false)))
          else
            bif (n4 != 0) then
              some (.v (.cell (.bool false)))
            else
              spec_validDecl_L0 l1 n3 n4 l5 0
      else
        spec_validDecl_L2 l1 n2 n3 n4 l5 0 : Option AV) = some r) : spec_validDecl [.cell (.sl 3 l1), .cell (.int n2)] = some r :=
  V_le (X := X_spec_validDecl) (n := 100000) (c := cOf Try.f80) (by kernel_rfl) Try.func80 (by kernel_rfl) (of_decide_eq_true (by kernel_rfl)) (Eq.trans (by kernel_rfl) h)
noncomputable def X_spec_firstCon : Ctx := { P := Try.prog, L := lay, F := sig.has, E := ext, fn := Try.f81, lv := [(0, [0, 1, 5, 6])], jv := [], tp := [] }
noncomputable def spec_firstCon_L0 (l3 : List (List AC)) (n4 : Int) (n5 : Int) (n6 : Int) : Option AV := GL X_spec_firstCon 0 [(0, .v (.cell (.sl 3 l3))), (1, .v (.cell (.int n4))), (5, .v (.cell (.int n5))), (6, .v (.cell (.int n6)))]
theorem spec_firstCon_L0_le {l3 : List (List AC)} {n4 : Int} {n5 : Int} {n6 : Int} {r : AV} (h : (
    bif (decide (n6 < n4)) then
        atR_ l3 n6 [.int 0, .int 0, .sl 1 []] fun n7 n8 l9 =>
        spec_firstCon_L0 l3 n4 (wrapI (n5 + ((l9.length : Nat) : Int))) (wrapI (n6 + 1))
      else
        some (.v (.cell (.int n5))) : Option AV) = some r) : spec_firstCon_L0 l3 n4 n5 n6 = some r :=
  GL_le (X := X_spec_firstCon) (n := 100000) (by kernel_rfl) (by kernel_rfl : (X_spec_firstCon.fn.body.bind fun c => locL 0 c []) = some (.loop (loopOf (X_spec_firstCon.fn.body.bind fun c => locL 0 c [])), ksOf (X_spec_firstCon.fn.body.bind fun c => locL 0 c []))) (Eq.trans (by kernel_rfl) h)
theorem spec_firstCon_le {l1 : List (List AC)} {n2 : Int} {r : AV} (h : (
    spec_firstCon_L0 l1 n2 0 0 : Option AV) = some r) : spec_firstCon [.cell (.sl 3 l1), .cell (.int n2)] = some r :=
  V_le (X := X_spec_firstCon) (n := 100000) (c := cOf Try.f81) (by kernel_rfl) Try.func81 (by kernel_rfl) (of_decide_eq_true (by kernel_rfl)) (Eq.trans (by kernel_rfl) h)
noncomputable def X_spec_copyInts : Ctx := { P := Try.prog, L := lay, F := sig.has, E := ext, fn := Try.f82, lv := [], jv := [], tp := [] }
theorem spec_copyInts_le {l1 : List (List AC)} {r : AV} (h : (
    appR [] l1 fun l2 =>
      some (.v (.cell (.sl 1 l2))) : Option AV) = some r) : spec_copyInts [.cell (.sl 1 l1)] = some r :=
  V_le (X := X_spec_copyInts) (n := 100000) (c := cOf Try.f82) (by kernel_rfl) Try.func82 (by kernel_rfl) (of_decide_eq_true (by kernel_rfl)) (Eq.trans (by kernel_rfl) h)
noncomputable def X_spec_consOf : Ctx := { P := Try.prog, L := lay, F := sig.has, E := ext, fn := Try.f83, lv := [(0, [0, 1, 5, 6])], jv := [], tp := [] }
noncomputable def spec_consOf_L0 (l4 : List (List AC)) (n5 : Int) (l6 : List (List AC)) (n7 : Int) : Option AV := GL X_spec_consOf 0 [(0, .v (.cell (.sl 3 l4))), (1, .v (.cell (.int n5))), (5, .v (.cell (.sl 1 l6))), (6, .v (.cell (.int n7)))]
theorem spec_consOf_L0_le {l4 : List (List AC)} {n5 : Int} {l6 : List (List AC)} {n7 : Int} {r : AV} (h : (
    atR_ l4 (wrapI (n5 - 1)) [.int 0, .int 0, .sl 1 []] fun n8 n9 l10 =>
      bif (decide (n7 < ((l10.length : Nat) : Int))) then
        callR (spec_firstCon [.cell (.sl 3 l4), .cell (.int (wrapI (n5 - 1)))]) false [(false, [.int 0])] fun n11 =>
        appR l6 [[.int (wrapI (n11 + n7))]] fun l12 =>
        spec_consOf_L0 l4 n5 l12 (wrapI (n7 + 1))
      else
        some (.v (.cell (.sl 1 l6))) : Option AV) = some r) : spec_consOf_L0 l4 n5 l6 n7 = some r :=
  GL_le (X := X_spec_consOf) (n := 100000) (by kernel_rfl) (by kernel_rfl : (X_spec_consOf.fn.body.bind fun c => locL 0 c []) = some (.loop (loopOf (X_spec_consOf.fn.body.bind fun c => locL 0 c [])), ksOf (X_spec_consOf.fn.body.bind fun c => locL 0 c []))) (Eq.trans (by kernel_rfl) h)
theorem spec_consOf_le {l1 : List (List AC)} {n2 : Int} {r : AV} (h : (
    callR (spec_inRange [.cell (.int n2), .cell (.int 1), .cell (.int ((l1.length : Nat) : Int))]) false [(false, [.bool false])] fun b3 =>
      bif (!b3) then
        some (.v (.cell (.sl 1 [])))
      else
        spec_consOf_L0 l1 n2 [] 0 : Option AV) = some r) : spec_consOf [.cell (.sl 3 l1), .cell (.int n2)] = some r :=
  V_le (X := X_spec_consOf) (n := 100000) (c := cOf Try.f83) (by kernel_rfl) Try.func83 (by kernel_rfl) (of_decide_eq_true (by kernel_rfl)) (Eq.trans (by kernel_rfl) h)
noncomputable def X_spec_arrowOf : Ctx := { P := Try.prog, L := lay, F := sig.has, E := ext, fn := Try.f84, lv := [(0, [0, 1, 2, 7])], jv := [], tp := [] }
noncomputable def spec_arrowOf_L0 (l4 : List (List AC)) (n5 : Int) (n6 : Int) (n7 : Int) : Option AV := GL X_spec_arrowOf 0 [(0, .v (.cell (.sl 3 l4))), (1, .v (.cell (.int n5))), (2, .v (.cell (.int n6))), (7, .v (.cell (.int n7)))]
theorem spec_arrowOf_L0_le {l4 : List (List AC)} {n5 : Int} {n6 : Int} {n7 : Int} {r : AV} (h : (
    bif (decide (n7 < ((l4.length : Nat) : Int))) then
        atR_ l4 n7 [.int 0, .int 0, .sl 1 []] fun n8 n9 l10 =>
        bif (((l10.length : Nat) : Int) == 0) then
          atR_ l4 n7 [.int 0, .int 0, .sl 1 []] fun n11 n12 l13 =>
          bif (n11 == n5) then
            atR_ l4 n7 [.int 0, .int 0, .sl 1 []] fun n14 n15 l16 =>
            bif (n15 == n6) then
              some (.v (.cell (.int (wrapI (n7 + 1)))))
            else
              spec_arrowOf_L0 l4 n5 n6 (wrapI (n7 + 1))
          else
            spec_arrowOf_L0 l4 n5 n6 (wrapI (n7 + 1))
        else
          spec_arrowOf_L0 l4 n5 n6 (wrapI (n7 + 1))
      else
        some (.v (.cell (.int (-1)))) : Option AV) = some r) : spec_arrowOf_L0 l4 n5 n6 n7 = some r :=
  GL_le (X := X_spec_arrowOf) (n := 100000) (by kernel_rfl) (by kernel_rfl : (X_spec_arrowOf.fn.body.bind fun c => locL 0 c []) = some (.loop (loopOf (X_spec_arrowOf.fn.body.bind fun c => locL 0 c [])), ksOf (X_spec_arrowOf.fn.body.bind fun c => locL 0 c []))) (Eq.trans (by kernel_rfl) h)
theorem spec_arrowOf_le {l1 : List (List AC)} {n2 : Int} {n3 : Int} {r : AV} (h : (
    spec_arrowOf_L0 l1 n2 n3 0 : Option AV) = some r) : spec_arrowOf [.cell (.sl 3 l1), .cell (.int n2), .cell (.int n3)] = some r :=
  V_le (X := X_spec_arrowOf) (n := 100000) (c := cOf Try.f84) (by kernel_rfl) Try.func84 (by kernel_rfl) (of_decide_eq_true (by kernel_rfl)) (Eq.trans (by kernel_rfl) h)
noncomputable def X_laws_toCon : Ctx := { P := Try.prog, L := lay, F := sig.has, E := ext, fn := Try.f85, lv := [], jv := [], tp := [] }
theorem laws_toCon_le {l1 : List (List AC)} {r : AV} (h : (
    callR (laws_toIntS [.cell (.sl 1 l1)]) false [(false, [.sl 1 []])] fun l2 =>
      some (.v (.agg [.sl 1 l2])) : Option AV) = some r) : laws_toCon [.agg [.sl 1 l1]] = some r :=
  V_le (X := X_laws_toCon) (n := 100000) (c := cOf Try.f85) (by kernel_rfl) Try.func85 (by kernel_rfl) (of_decide_eq_true (by kernel_rfl)) (Eq.trans (by kernel_rfl) h)
noncomputable def X_impl_validDecl : Ctx := { P := Try.prog, L := lay, F := sig.has, E := ext, fn := Try.f86, lv := [], jv := [], tp := [] }
theorem impl_validDecl_le {l1 : List (List AC)} {n2 : Int} {r : AV} (h : (
    atR_ l1 n2 [.int 0, .int 0, .sl 1 []] fun n3 n4 l5 =>
      bif (decide (((l5.length : Nat) : Int) > 0)) then
        bif (n3 == 0) then
          bif (n4 == 0) then
            callR (impl_validCons [.cell (.sl 3 l1), .cell (.sl 1 l5)]) false [(false, [.bool false])] fun b6 =>
            some (.v (.cell (.bool b6)))
          else
            some (.v (.cell (.bool false)))
        else
          some (.v (.cell (.bool false)))
      else
        callR (impl_isType [.cell (.sl 3 l1), .cell (.int n3)]) false [(false, [.bool false])] fun b7 =>
        bif b7 then
          callR (impl_isType [.cell (.sl 3 l1), .cell (.int n4)]) false [(false, [.bool false])] fun b8 =>
          bif b8 then
            cutR l1 0 n2 fun l9 =>
            callR (impl_arrowBetween [.cell (.sl 3 l9), .cell (.int n3), .cell (.int n4)]) false [(false, [.int 0])] fun n10 =>
            some (.v (.cell (.bool (decide (n10 < 0)))))
          else
            some (.v (.cell (.bool false)))
        else
          some (.v (.cell (.bool false))) : Option AV) = some r) : impl_validDecl [.cell (.sl 3 l1), .cell (.int n2)] = some r :=
  V_le (X := X_impl_validDecl) (n := 100000) (c := cOf Try.f86) (by kernel_rfl) Try.func86 (by kernel_rfl) (of_decide_eq_true (by kernel_rfl)) (Eq.trans (by kernel_rfl) h)
noncomputable def X_impl_isType : Ctx := { P := Try.prog, L := lay, F := sig.has, E := ext, fn := Try.f87, lv := [], jv := [], tp := [] }
theorem impl_isType_le {l1 : List (List AC)} {n2 : Int} {r : AV} (h : (
    bif (decide (n2 ≥ 0)) then
        some (.v (.cell (.bool (decide (n2 ≤ ((l1.length : Nat) : Int))))))
      else
        some (.v (.cell (.bool false))) : Option AV) = some r) : impl_isType [.cell (.sl 3 l1), .cell (.int n2)] = some r :=
  V_le (X := X_impl_isType) (n := 100000) (c := cOf Try.f87) (by kernel_rfl) Try.func87 (by kernel_rfl) (of_decide_eq_true (by kernel_rfl)) (Eq.trans (by kernel_rfl) h)
noncomputable def X_impl_typeOfVar : Ctx := { P := Try.prog, L := lay, F := sig.has, E := ext, fn := Try.f88, lv := [], jv := [], tp := [] }
theorem impl_typeOfVar_le {l1 : List (List AC)} {l2 : List (List AC)} {n3 : Int} {r : AV} (h : (
    bif (decide (n3 < 0)) then
        some (.v (.cell (.int (-1))))
      else
        bif (decide (n3 < ((l1.length : Nat) : Int))) then
          atR_ l1 n3 [.int 0] fun n4 =>
          some (.v (.cell (.int n4)))
        else
          bif (decide ((wrapI (n3 - ((l1.length : Nat) : Int))) < ((l2.length : Nat) : Int))) then
            atR_ l2 (wrapI (n3 - ((l1.length : Nat) : Int))) [.int 0] fun n5 =>
            some (.v (.cell (.int n5)))
          else
            some (.v (.cell (.int (-1)))) : Option AV) = some r) : impl_typeOfVar [.agg [.sl 1 l1, .sl 1 l2], .cell (.int n3)] = some r :=
  V_le (X := X_impl_typeOfVar) (n := 100000) (c := cOf Try.f88) (by kernel_rfl) Try.func88 (by kernel_rfl) (of_decide_eq_true (by kernel_rfl)) (Eq.trans (by kernel_rfl) h)
noncomputable def X_impl_typeOfLet : Ctx := { P := Try.prog, L := lay, F := sig.has, E := ext, fn := Try.f89, lv := [], jv := [], tp := [] }
theorem impl_typeOfLet_le {l1 : List (List AC)} {l2 : List (List AC)} {l3 : List (List AC)} {l4 : List (List AC)} {n5 : Int} {n6 : Int} {l7 : List (List AC)} {r : AV} (h : (
    bif (n6 != 0) then
        some (.v (.cell (.int (-1))))
      else
        bif (((l7.length : Nat) : Int) != 2) then
          some (.v (.cell (.int (-1))))
        else
          atR_ l7 0 [.int 0, .int 0, .sl 3 []] fun n8 n9 l10 =>
          callR (impl_typeIn [.agg [.sl 3 l1, .sl 5 l2], .agg [.sl 1 l3, .sl 1 l4], .agg [.int n8, .int n9, .sl 3 l10]]) false [(false, [.int 0])] fun n11 =>
          bif (decide (n11 < 0)) then
            some (.v (.cell (.int (-1))))
          else
            callR (impl_bind [.agg [.sl 1 l3, .sl 1 l4], .cell (.sl 1 [[.int n11]])]) false [(true, [.sl 1 [], .sl 1 []])] fun l12 l13 =>
            atR_ l7 1 [.int 0, .int 0, .sl 3 []] fun n14 n15 l16 =>
            callR (impl_typeIn [.agg [.sl 3 l1, .sl 5 l2], .agg [.sl 1 l12, .sl 1 l13], .agg [.int n14, .int n15, .sl 3 l16]]) false [(false, [.int 0])] fun n17 =>
            some (.v (.cell (.int n17))) : Option AV) = some r) : impl_typeOfLet [.agg [.sl 3 l1, .sl 5 l2], .agg [.sl 1 l3, .sl 1 l4], .agg [.int n5, .int n6, .sl 3 l7]] = some r :=
  V_le (X := X_impl_typeOfLet) (n := 100000) (c := cOf Try.f89) (by kernel_rfl) Try.func89 (by kernel_rfl) (of_decide_eq_true (by kernel_rfl)) (Eq.trans (by kernel_rfl) h)
noncomputable def X_impl_typeOfIf : Ctx := { P := Try.prog, L := lay, F := sig.has, E := ext, fn := Try.f90, lv := [], jv := [], tp := [] }
theorem impl_typeOfIf_le {l1 : List (List AC)} {l2 : List (List AC)} {l3 : List (List AC)} {l4 : List (List AC)} {n5 : Int} {n6 : Int} {l7 : List (List AC)} {r : AV} (h : (
    bif (n6 != 0) then
        some (.v (.cell (.int (-1))))
      else
        bif (((l7.length : Nat) : Int) != 3) then
          some (.v (.cell (.int (-1))))
        else
          atR_ l7 1 [.int 0, .int 0, .sl 3 []] fun n8 n9 l10 =>
          callR (impl_typeIn [.agg [.sl 3 l1, .sl 5 l2], .agg [.sl 1 l3, .sl 1 l4], .agg [.int n8, .int n9, .sl 3 l10]]) false [(false, [.int 0])] fun n11 =>
          atR_ l7 0 [.int 0, .int 0, .sl 3 []] fun n12 n13 l14 =>
          callR (impl_typeIn [.agg [.sl 3 l1, .sl 5 l2], .agg [.sl 1 l3, .sl 1 l4], .agg [.int n12, .int n13, .sl 3 l14]]) false [(false, [.int 0])] fun n15 =>
          bif (n15 != 0) then
            some (.v (.cell (.int (-1))))
          else
            atR_ l7 2 [.int 0, .int 0, .sl 3 []] fun n16 n17 l18 =>
            callR (impl_typeIn [.agg [.sl 3 l1, .sl 5 l2], .agg [.sl 1 l3, .sl 1 l4], .agg [.int n16, .int n17, .sl 3 l18]]) false [(false, [.int 0])] fun n19 =>
            bif (n19 != n11) then
              some (.v (.cell (.int (-1))))
            else
              some (.v (.cell (.int n11))) : Option AV) = some r) : impl_typeOfIf [.agg [.sl 3 l1, .sl 5 l2], .agg [.sl 1 l3, .sl 1 l4], .agg [.int n5, .int n6, .sl 3 l7]] = some r :=
  V_le (X := X_impl_typeOfIf) (n := 100000) (c := cOf Try.f90) (by kernel_rfl) Try.func90 (by kernel_rfl) (of_decide_eq_true (by kernel_rfl)) (Eq.trans (by kernel_rfl) h)
noncomputable def X_impl_typeOfMatch : Ctx := { P := Try.prog, L := lay, F := sig.has, E := ext, fn := Try.f91, lv := [(0, [3, 4, 5, 7, 8, 9])], jv := [], tp := [] }
noncomputable def impl_typeOfMatch_L0 (l23 : List (List AC)) (l24 : List (List AC)) (l25 : List (List AC)) (l26 : List (List AC)) (n27 : Int) (n28 : Int) (l29 : List (List AC)) (l30 : List (List AC)) (n31 : Int) (n32 : Int) : Option AV := GL X_impl_typeOfMatch 0 [(3, .box [.sl 3 l23, .sl 5 l24]), (4, .box [.sl 1 l25, .sl 1 l26]), (5, .box [.int n27, .int n28, .sl 3 l29]), (7, .v (.cell (.sl 1 l30))), (8, .v (.cell (.int n31))), (9, .v (.cell (.int n32)))]
theorem impl_typeOfMatch_L0_le {l23 : List (List AC)} {l24 : List (List AC)} {l25 : List (List AC)} {l26 : List (List AC)} {n27 : Int} {n28 : Int} {l29 : List (List AC)} {l30 : List (List AC)} {n31 : Int} {n32 : Int} {r : AV} (h : (
    bif (decide (n32 < ((l30.length : Nat) : Int))) then
        atR_ l30 n32 [.sl 1 []] fun l33 =>
        callR (impl_bind [.agg [.sl 1 l25, .sl 1 l26], .cell (.sl 1 l33)]) false [(true, [.sl 1 [], .sl 1 []])] fun l34 l35 =>
        atR_ l29 (wrapI (1 + n32)) [.int 0, .int 0, .sl 3 []] fun n36 n37 l38 =>
        callR (impl_typeIn [.agg [.sl 3 l23, .sl 5 l24], .agg [.sl 1 l34, .sl 1 l35], .agg [.int n36, .int n37, .sl 3 l38]]) false [(false, [.int 0])] fun n39 =>
        bif (n39 != n31) then
          some (.v (.cell (.int (-1))))
        else
          impl_typeOfMatch_L0 l23 l24 l25 l26 n27 n28 l29 l30 n31 (wrapI (n32 + 1))
      else
        some (.v (.cell (.int n31))) : Option AV) = some r) : impl_typeOfMatch_L0 l23 l24 l25 l26 n27 n28 l29 l30 n31 n32 = some r :=
  GL_le (X := X_impl_typeOfMatch) (n := 100000) (by kernel_rfl) (by kernel_rfl : (X_impl_typeOfMatch.fn.body.bind fun c => locL 0 c []) = some (.loop (loopOf (X_impl_typeOfMatch.fn.body.bind fun c => locL 0 c [])), ksOf (X_impl_typeOfMatch.fn.body.bind fun c => locL 0 c []))) (Eq.trans (by kernel_rfl) h)
theorem impl_typeOfMatch_le {l1 : List (List AC)} {l2 : List (List AC)} {l3 : List (List AC)} {l4 : List (List AC)} {n5 : Int} {n6 : Int} {l7 : List (List AC)} {r : AV} (h : (
    callR (impl_isData [.cell (.sl 3 l1), .cell (.int n6)]) false [(false, [.bool false])] fun b8 =>
      bif (!b8) then
        some (.v (.cell (.int (-1))))
      else
        atR_ l1 (wrapI (n6 - 1)) [.int 0, .int 0, .sl 1 []] fun n9 n10 l11 =>
        bif (((l7.length : Nat) : Int) != (wrapI (1 + ((l11.length : Nat) : Int)))) then
          some (.v (.cell (.int (-1))))
        else
          atR_ l7 0 [.int 0, .int 0, .sl 3 []] fun n12 n13 l14 =>
          callR (impl_typeIn [.agg [.sl 3 l1, .sl 5 l2], .agg [.sl 1 l3, .sl 1 l4], .agg [.int n12, .int n13, .sl 3 l14]]) false [(false, [.int 0])] fun n15 =>
          bif (n15 != n6) then
            some (.v (.cell (.int (-1))))
          else
            atR_ l11 0 [.sl 1 []] fun l16 =>
            callR (impl_bind [.agg [.sl 1 l3, .sl 1 l4], .cell (.sl 1 l16)]) false [(true, [.sl 1 [], .sl 1 []])] fun l17 l18 =>
            atR_ l7 1 [.int 0, .int 0, .sl 3 []] fun n19 n20 l21 =>
            callR (impl_typeIn [.agg [.sl 3 l1, .sl 5 l2], .agg [.sl 1 l17, .sl 1 l18], .agg [.int n19, .int n20, .sl 3 l21]]) false [(false, [.int 0])] fun n22 =>
            impl_typeOfMatch_L0 l1 l2 l3 l4 n5 n6 l7 l11 n22 1 : Option AV) = some r) : impl_typeOfMatch [.agg [.sl 3 l1, .sl 5 l2], .agg [.sl 1 l3, .sl 1 l4], .agg [.int n5, .int n6, .sl 3 l7]] = some r :=
  V_le (X := X_impl_typeOfMatch) (n := 100000) (c := cOf Try.f91) (by kernel_rfl) Try.func91 (by kernel_rfl) (of_decide_eq_true (by kernel_rfl)) (Eq.trans (by kernel_rfl) h)
noncomputable def X_impl_resultOf : Ctx := { P := Try.prog, L := lay, F := sig.has, E := ext, fn := Try.f92, lv := [], jv := [], tp := [] }
theorem impl_resultOf_le {l1 : List (List AC)} {l2 : List (List AC)} {n3 : Int} {n4 : Int} {l5 : List (List AC)} {r : AV} (h : (
    bif (n3 == 0) then
        bif (decide (n4 ≥ (-999))) then
          bif (decide (n4 ≤ 999)) then
            callR (impl_typeWhen [.cell (.bool (((l5.length : Nat) : Int) == 0)), .cell (.int 0)]) false [(false, [.int 0])] fun n6 =>
            some (.v (.cell (.int n6)))
          else
            callR (impl_typeWhen [.cell (.bool false), .cell (.int 0)]) false [(false, [.int 0])] fun n7 =>
            some (.v (.cell (.int n7)))
        else
          callR (impl_typeWhen [.cell (.bool false), .cell (.int 0)]) false [(false, [.int 0])] fun n8 =>
          some (.v (.cell (.int n8)))
      else
        bif (n3 == 1) then
          bif (n3 == 1) then
            bif (n4 == 0) then
              callR (impl_sameInts [.cell (.sl 1 l5), .cell (.sl 1 [[.int 0], [.int 0]])]) false [(false, [.bool false])] fun b9 =>
              callR (impl_typeWhen [.cell (.bool b9), .cell (.int 0)]) false [(false, [.int 0])] fun n10 =>
              some (.v (.cell (.int n10)))
            else
              callR (impl_typeWhen [.cell (.bool false), .cell (.int 0)]) false [(false, [.int 0])] fun n11 =>
              some (.v (.cell (.int n11)))
          else
            bif (n3 == 5) then
              bif (n4 == 0) then
                callR (impl_sameInts [.cell (.sl 1 l5), .cell (.sl 1 [[.int 0]])]) false [(false, [.bool false])] fun b12 =>
                callR (impl_typeWhen [.cell (.bool b12), .cell (.int 0)]) false [(false, [.int 0])] fun n13 =>
                some (.v (.cell (.int n13)))
              else
                callR (impl_typeWhen [.cell (.bool false), .cell (.int 0)]) false [(false, [.int 0])] fun n14 =>
                some (.v (.cell (.int n14)))
            else
              bif (n3 == 6) then
                callR (impl_resultOfCon [.cell (.sl 3 l1), .cell (.int n4), .cell (.sl 1 l5)]) false [(false, [.int 0])] fun n15 =>
                some (.v (.cell (.int n15)))
              else
                bif (n3 == 9) then
                  callR (impl_resultOfCall [.agg [.sl 3 l1, .sl 5 l2], .cell (.int n4), .cell (.sl 1 l5)]) false [(false, [.int 0])] fun n16 =>
                  some (.v (.cell (.int n16)))
                else
                  bif (n3 == 10) then
                    callR (impl_resultOfClose [.agg [.sl 3 l1, .sl 5 l2], .cell (.int n4), .cell (.sl 1 l5)]) false [(false, [.int 0])] fun n17 =>
                    some (.v (.cell (.int n17)))
                  else
                    bif (n3 == 11) then
                      bif (n4 != 0) then
                        some (.v (.cell (.int (-1))))
                      else
                        callR (impl_resultOfApply [.cell (.sl 3 l1), .cell (.sl 1 l5)]) false [(false, [.int 0])] fun n18 =>
                        some (.v (.cell (.int n18)))
                    else
                      some (.v (.cell (.int (-1))))
        else
          bif (n3 == 2) then
            bif (n3 == 2) then
              bif (n4 == 0) then
                callR (impl_sameInts [.cell (.sl 1 l5), .cell (.sl 1 [[.int 0], [.int 0]])]) false [(false, [.bool false])] fun b19 =>
                callR (impl_typeWhen [.cell (.bool b19), .cell (.int 0)]) false [(false, [.int 0])] fun n20 =>
                some (.v (.cell (.int n20)))
              else
                callR (impl_typeWhen [.cell (.bool false), .cell (.int 0)]) false [(false, [.int 0])] fun n21 =>
                some (.v (.cell (.int n21)))
            else
              bif (n3 == 5) then
                bif (n4 == 0) then
                  callR (impl_sameInts [.cell (.sl 1 l5), .cell (.sl 1 [[.int 0]])]) false [(false, [.bool false])] fun b22 =>
                  callR (impl_typeWhen [.cell (.bool b22), .cell (.int 0)]) false [(false, [.int 0])] fun n23 =>
                  some (.v (.cell (.int n23)))
                else
                  callR (impl_typeWhen [.cell (.bool false), .cell (.int 0)]) false [(false, [.int 0])] fun n24 =>
                  some (.v (.cell (.int n24)))
              else
                bif (n3 == 6) then
                  callR (impl_resultOfCon [.cell (.sl 3 l1), .cell (.int n4), .cell (.sl 1 l5)]) false [(false, [.int 0])] fun n25 =>
                  some (.v (.cell (.int n25)))
                else
                  bif (n3 == 9) then
                    callR (impl_resultOfCall [.agg [.sl 3 l1, .sl 5 l2], .cell (.int n4), .cell (.sl 1 l5)]) false [(false, [.int 0])] fun n26 =>
                    some (.v (.cell (.int n26)))
                  else
                    bif (n3 == 10) then
                      callR (impl_resultOfClose [.agg [.sl 3 l1, .sl 5 l2], .cell (.int n4), .cell (.sl 1 l5)]) false [(false, [.int 0])] fun n27 =>
                      some (.v (.cell (.int n27)))
                    else
                      bif (n3 == 11) then
                        bif (n4 != 0) then
                          some (.v (.cell (.int (-1))))
                        else
                          callR (impl_resultOfApply [.cell (.sl 3 l1), .cell (.sl 1 l5)]) false [(false, [.int 0])] fun n28 =>
                          some (.v (.cell (.int n28)))
                      else
                        some (.v (.cell (.int (-1))))
          else
            bif (n3 == 3) then
              bif (n3 == 3) then
                bif (n4 == 0) then
                  callR (impl_sameInts [.cell (.sl 1 l5), .cell (.sl 1 [[.int 0], [.int 0]])]) false [(false, [.bool false])] fun b29 =>
                  callR (impl_typeWhen [.cell (.bool b29), .cell (.int 0)]) false [(false, [.int 0])] fun n30 =>
                  some (.v (.cell (.int n30)))
                else
                  callR (impl_typeWhen [.cell (.bool false), .cell (.int 0)]) false [(false, [.int 0])] fun n31 =>
                  some (.v (.cell (.int n31)))
              else
                bif (n3 == 5) then
                  bif (n4 == 0) then
                    callR (impl_sameInts [.cell (.sl 1 l5), .cell (.sl 1 [[.int 0]])]) false [(false, [.bool false])] fun b32 =>
                    callR (impl_typeWhen [.cell (.bool b32), .cell (.int 0)]) false [(false, [.int 0])] fun n33 =>
                    some (.v (.cell (.int n33)))
                  else
                    callR (impl_typeWhen [.cell (.bool false), .cell (.int 0)]) false [(false, [.int 0])] fun n34 =>
                    some (.v (.cell (.int n34)))
                else
                  bif (n3 == 6) then
                    callR (impl_resultOfCon [.cell (.sl 3 l1), .cell (.int n4), .cell (.sl 1 l5)]) false [(false, [.int 0])] fun n35 =>
                    some (.v (.cell (.int n35)))
                  else
                    bif (n3 == 9) then
                      callR (impl_resultOfCall [.agg [.sl 3 l1, .sl 5 l2], .cell (.int n4), .cell (.sl 1 l5)]) false [(false, [.int 0])] fun n36 =>
                      some (.v (.cell (.int n36)))
                    else
                      bif (n3 == 10) then
                        callR (impl_resultOfClose [.agg [.sl 3 l1, .sl 5 l2], .cell (.int n4), .cell (.sl 1 l5)]) false [(false, [.int 0])] fun n37 =>
                        some (.v (.cell (.int n37)))
                      else
                        bif (n3 == 11) then
                          bif (n4 != 0) then
                            some (.v (.cell (.int (-1))))
                          else
                            callR (impl_resultOfApply [.cell (.sl 3 l1), .cell (.sl 1 l5)]) false [(false, [.int 0])] fun n38 =>
                            some (.v (.cell (.int n38)))
                        else
                          some (.v (.cell (.int (-1))))
            else
              bif (n3 == 4) then
                bif (n4 == 0) then
                  callR (impl_sameInts [.cell (.sl 1 l5), .cell (.sl 1 [[.int 0], [.int 0]])]) false [(false, [.bool false])] fun b39 =>
                  callR (impl_typeWhen [.cell (.bool b39), .cell (.int 0)]) false [(false, [.int 0])] fun n40 =>
                  some (.v (.cell (.int n40)))
                else
                  callR (impl_typeWhen [.cell (.bool false), .cell (.int 0)]) false [(false, [.int 0])] fun n41 =>
                  some (.v (.cell (.int n41)))
              else
                bif (n3 == 5) then
                  bif (n4 == 0) then
                    callR (impl_sameInts [.cell (.sl 1 l5), .cell (.sl 1 [[.int 0]])]) false [(false, [.bool false])] fun b42 =>
                    callR (impl_typeWhen [.cell (.bool b42), .cell (.int 0)]) false [(false, [.int 0])] fun n43 =>
                    some (.v (.cell (.int n43)))
                  else
                    callR (impl_typeWhen [.cell (.bool false), .cell (.int 0)]) false [(false, [.int 0])] fun n44 =>
                    some (.v (.cell (.int n44)))
                else
                  bif (n3 == 6) then
                    callR (impl_resultOfCon [.cell (.sl 3 l1), .cell (.int n4), .cell (.sl 1 l5)]) false [(false, [.int 0])] fun n45 =>
                    some (.v (.cell (.int n45)))
                  else
                    bif (n3 == 9) then
                      callR (impl_resultOfCall [.agg [.sl 3 l1, .sl 5 l2], .cell (.int n4), .cell (.sl 1 l5)]) false [(false, [.int 0])] fun n46 =>
                      some (.v (.cell (.int n46)))
                    else
                      bif (n3 == 10) then
                        callR (impl_resultOfClose [.agg [.sl 3 l1, .sl 5 l2], .cell (.int n4), .cell (.sl 1 l5)]) false [(false, [.int 0])] fun n47 =>
                        some (.v (.cell (.int n47)))
                      else
                        bif (n3 == 11) then
                          bif (n4 != 0) then
                            some (.v (.cell (.int (-1))))
                          else
                            callR (impl_resultOfApply [.cell (.sl 3 l1), .cell (.sl 1 l5)]) false [(false, [.int 0])] fun n48 =>
                            some (.v (.cell (.int n48)))
                        else
                          some (.v (.cell (.int (-1)))) : Option AV) = some r) : impl_resultOf [.agg [.sl 3 l1, .sl 5 l2], .cell (.int n3), .cell (.int n4), .cell (.sl 1 l5)] = some r :=
  V_le (X := X_impl_resultOf) (n := 100000) (c := cOf Try.f92) (by kernel_rfl) Try.func92 (by kernel_rfl) (of_decide_eq_true (by kernel_rfl)) (Eq.trans (by kernel_rfl) h)
noncomputable def X_impl_typesIn : Ctx := { P := Try.prog, L := lay, F := sig.has, E := ext, fn := Try.f93, lv := [(0, [3, 4, 7, 10, 11, 12])], jv := [], tp := [] }
noncomputable def impl_typesIn_L0 (l6 : List (List AC)) (l7 : List (List AC)) (l8 : List (List AC)) (l9 : List (List AC)) (l10 : List (List AC)) (l11 : List (List AC)) (n12 : Int) (n13 : Int) : Option AV := GL X_impl_typesIn 0 [(3, .box [.sl 3 l6, .sl 5 l7]), (4, .box [.sl 1 l8, .sl 1 l9]), (7, .v (.cell (.sl 1 l10))), (10, .v (.cell (.sl 3 l11))), (11, .v (.cell (.int n12))), (12, .v (.cell (.int n13)))]
theorem impl_typesIn_L0_le {l6 : List (List AC)} {l7 : List (List AC)} {l8 : List (List AC)} {l9 : List (List AC)} {l10 : List (List AC)} {l11 : List (List AC)} {n12 : Int} {n13 : Int} {r : AV} (h : (
    bif (decide (n13 < n12)) then
        atR_ l11 n13 [.int 0, .int 0, .sl 3 []] fun n14 n15 l16 =>
        callR (impl_typeIn [.agg [.sl 3 l6, .sl 5 l7], .agg [.sl 1 l8, .sl 1 l9], .agg [.int n14, .int n15, .sl 3 l16]]) false [(false, [.int 0])] fun n17 =>
        appR l10 [[.int n17]] fun l18 =>
        impl_typesIn_L0 l6 l7 l8 l9 l18 l11 n12 (wrapI (n13 + 1))
      else
        some (.v (.cell (.sl 1 l10))) : Option AV) = some r) : impl_typesIn_L0 l6 l7 l8 l9 l10 l11 n12 n13 = some r :=
  GL_le (X := X_impl_typesIn) (n := 100000) (by kernel_rfl) (by kernel_rfl : (X_impl_typesIn.fn.body.bind fun c => locL 0 c []) = some (.loop (loopOf (X_impl_typesIn.fn.body.bind fun c => locL 0 c [])), ksOf (X_impl_typesIn.fn.body.bind fun c => locL 0 c []))) (Eq.trans (by kernel_rfl) h)
theorem impl_typesIn_le {l1 : List (List AC)} {l2 : List (List AC)} {l3 : List (List AC)} {l4 : List (List AC)} {l5 : List (List AC)} {r : AV} (h : (
    impl_typesIn_L0 l1 l2 l3 l4 [] l5 ((l5.length : Nat) : Int) 0 : Option AV) = some r) : impl_typesIn [.agg [.sl 3 l1, .sl 5 l2], .agg [.sl 1 l3, .sl 1 l4], .cell (.sl 3 l5)] = some r :=
  V_le (X := X_impl_typesIn) (n := 100000) (c := cOf Try.f93) (by kernel_rfl) Try.func93 (by kernel_rfl) (of_decide_eq_true (by kernel_rfl)) (Eq.trans (by kernel_rfl) h)
noncomputable def X_laws_eqCon : Ctx := { P := Try.prog, L := lay, F := sig.has, E := ext, fn := Try.f94, lv := [], jv := [], tp := [] }
theorem laws_eqCon_le {l1 : List (List AC)} {l2 : List (List AC)} {r : AV} (h : (
    callR (laws_eqIntS [.cell (.sl 1 l1), .cell (.sl 1 l2)]) false [(false, [.bool false])] fun b3 =>
      bif (!b3) then
        some (.v (.cell (.bool false)))
      else
        some (.v (.cell (.bool true))) : Option AV) = some r) : laws_eqCon [.agg [.sl 1 l1], .agg [.sl 1 l2]] = some r :=
  V_le (X := X_laws_eqCon) (n := 100000) (c := cOf Try.f94) (by kernel_rfl) Try.func94 (by kernel_rfl) (of_decide_eq_true (by kernel_rfl)) (Eq.trans (by kernel_rfl) h)
noncomputable def X_impl_validCons : Ctx := { P := Try.prog, L := lay, F := sig.has, E := ext, fn := Try.f95, lv := [(0, [0, 10, 11, 12])], jv := [], tp := [] }
noncomputable def impl_validCons_L0 (l3 : List (List AC)) (l4 : List (List AC)) (n5 : Int) (n6 : Int) : Option AV := GL X_impl_validCons 0 [(0, .v (.cell (.sl 3 l3))), (10, .v (.cell (.sl 1 l4))), (11, .v (.cell (.int n5))), (12, .v (.cell (.int n6)))]
theorem impl_validCons_L0_le {l3 : List (List AC)} {l4 : List (List AC)} {n5 : Int} {n6 : Int} {r : AV} (h : (
    bif (decide (n6 < n5)) then
        atR_ l4 n6 [.sl 1 []] fun l7 =>
        bif (decide (((l7.length : Nat) : Int) > 3)) then
          some (.v (.cell (.bool false)))
        else
          callR (impl_areTypes [.cell (.sl 3 l3), .cell (.sl 1 l7)]) false [(false, [.bool false])] fun b8 =>
          bif (!b8) then
            some (.v (.cell (.bool false)))
          else
            impl_validCons_L0 l3 l4 n5 (wrapI (n6 + 1))
      else
        some (.v (.cell (.bool true))) : Option AV) = some r) : impl_validCons_L0 l3 l4 n5 n6 = some r :=
  GL_le (X := X_impl_validCons) (n := 100000) (by kernel_rfl) (by kernel_rfl : (X_impl_validCons.fn.body.bind fun c => locL 0 c []) = some (.loop (loopOf (X_impl_validCons.fn.body.bind fun c => locL 0 c [])), ksOf (X_impl_validCons.fn.body.bind fun c => locL 0 c []))) (Eq.trans (by kernel_rfl) h)
theorem impl_validCons_le {l1 : List (List AC)} {l2 : List (List AC)} {r : AV} (h : (
    bif (decide (((l2.length : Nat) : Int) > 3)) then
        some (.v (.cell (.bool false)))
      else
        impl_validCons_L0 l1 l2 ((l2.length : Nat) : Int) 0 : Option AV) = some r) : impl_validCons [.cell (.sl 3 l1), .cell (.sl 1 l2)] = some r :=
  V_le (X := X_impl_validCons) (n := 100000) (c := cOf Try.f95) (by kernel_rfl) Try.func95 (by kernel_rfl) (of_decide_eq_true (by kernel_rfl)) (Eq.trans (by kernel_rfl) h)
noncomputable def X_impl_arrowBetween : Ctx := { P := Try.prog, L := lay, F := sig.has, E := ext, fn := Try.f96, lv := [(0, [1, 2, 9, 10, 11])], jv := [], tp := [] }
noncomputable def impl_arrowBetween_L0 (n4 : Int) (n5 : Int) (l6 : List (List AC)) (n7 : Int) (n8 : Int) : Option AV := GL X_impl_arrowBetween 0 [(1, .v (.cell (.int n4))), (2, .v (.cell (.int n5))), (9, .v (.cell (.sl 3 l6))), (10, .v (.cell (.int n7))), (11, .v (.cell (.int n8)))]
theorem impl_arrowBetween_L0_le {n4 : Int} {n5 : Int} {l6 : List (List AC)} {n7 : Int} {n8 : Int} {r : AV} (h : (
    bif (decide (n8 < n7)) then
        atR_ l6 n8 [.int 0, .int 0, .sl 1 []] fun n9 n10 l11 =>
        bif (((l11.length : Nat) : Int) == 0) then
          bif (n9 == n4) then
            bif (n10 == n5) then
              some (.v (.cell (.int (wrapI (n8 + 1)))))
            else
              impl_arrowBetween_L0 n4 n5 l6 n7 (wrapI (n8 + 1))
          else
            impl_arrowBetween_L0 n4 n5 l6 n7 (wrapI (n8 + 1))
        else
          impl_arrowBetween_L0 n4 n5 l6 n7 (wrapI (n8 + 1))
      else
        some (.v (.cell (.int (-1)))) : Option AV) = some r) : impl_arrowBetween_L0 n4 n5 l6 n7 n8 = some r :=
  GL_le (X := X_impl_arrowBetween) (n := 100000) (by kernel_rfl) (by kernel_rfl : (X_impl_arrowBetween.fn.body.bind fun c => locL 0 c []) = some (.loop (loopOf (X_impl_arrowBetween.fn.body.bind fun c => locL 0 c [])), ksOf (X_impl_arrowBetween.fn.body.bind fun c => locL 0 c []))) (Eq.trans (by kernel_rfl) h)
theorem impl_arrowBetween_le {l1 : List (List AC)} {n2 : Int} {n3 : Int} {r : AV} (h : (
    impl_arrowBetween_L0 n2 n3 l1 ((l1.length : Nat) : Int) 0 : Option AV) = some r) : impl_arrowBetween [.cell (.sl 3 l1), .cell (.int n2), .cell (.int n3)] = some r :=
  V_le (X := X_impl_arrowBetween) (n := 100000) (c := cOf Try.f96) (by kernel_rfl) Try.func96 (by kernel_rfl) (of_decide_eq_true (by kernel_rfl)) (Eq.trans (by kernel_rfl) h)
noncomputable def X_impl_bind : Ctx := { P := Try.prog, L := lay, F := sig.has, E := ext, fn := Try.f97, lv := [(0, [2, 4, 5, 11, 12, 13])], jv := [], tp := [] }
noncomputable def impl_bind_L0 (l5 : List (List AC)) (l6 : List (List AC)) (l7 : List (List AC)) (l8 : List (List AC)) (l9 : List (List AC)) (l10 : List (List AC)) (n11 : Int) (n12 : Int) : Option AV := GL X_impl_bind 0 [(2, .box [.sl 1 l5, .sl 1 l6]), (4, .box [.sl 1 l7, .sl 1 l8]), (5, .v (.cell (.sl 1 l9))), (11, .v (.cell (.sl 1 l10))), (12, .v (.cell (.int n11))), (13, .v (.cell (.int n12)))]
theorem impl_bind_L0_le {l5 : List (List AC)} {l6 : List (List AC)} {l7 : List (List AC)} {l8 : List (List AC)} {l9 : List (List AC)} {l10 : List (List AC)} {n11 : Int} {n12 : Int} {r : AV} (h : (
    bif (decide (n12 < n11)) then
        atR_ l10 n12 [.int 0] fun n13 =>
        appR l9 [[.int n13]] fun l14 =>
        impl_bind_L0 l5 l6 l7 l8 l14 l10 n11 (wrapI (n12 + 1))
      else
        some (.v (.agg [.sl 1 l5, .sl 1 l9])) : Option AV) = some r) : impl_bind_L0 l5 l6 l7 l8 l9 l10 n11 n12 = some r :=
  GL_le (X := X_impl_bind) (n := 100000) (by kernel_rfl) (by kernel_rfl : (X_impl_bind.fn.body.bind fun c => locL 0 c []) = some (.loop (loopOf (X_impl_bind.fn.body.bind fun c => locL 0 c [])), ksOf (X_impl_bind.fn.body.bind fun c => locL 0 c []))) (Eq.trans (by kernel_rfl) h)
theorem impl_bind_le {l1 : List (List AC)} {l2 : List (List AC)} {l3 : List (List AC)} {r : AV} (h : (
    callR (impl_copyInts [.cell (.sl 1 l2)]) false [(false, [.sl 1 []])] fun l4 =>
      impl_bind_L0 l1 l2 [] [] l4 l3 ((l3.length : Nat) : Int) 0 : Option AV) = some r) : impl_bind [.agg [.sl 1 l1, .sl 1 l2], .cell (.sl 1 l3)] = some r :=
  V_le (X := X_impl_bind) (n := 100000) (c := cOf Try.f97) (by kernel_rfl) Try.func97 (by kernel_rfl) (of_decide_eq_true (by kernel_rfl)) (Eq.trans (by kernel_rfl) h)
noncomputable def X_impl_isData : Ctx := { P := Try.prog, L := lay, F := sig.has, E := ext, fn := Try.f98, lv := [], jv := [], tp := [] }
theorem impl_isData_le {l1 : List (List AC)} {n2 : Int} {r : AV} (h : (
    bif (decide (n2 > 0)) then
        callR (impl_isType [.cell (.sl 3 l1), .cell (.int n2)]) false [(false, [.bool false])] fun b3 =>
        bif b3 then
          atR_ l1 (wrapI (n2 - 1)) [.int 0, .int 0, .sl 1 []] fun n4 n5 l6 =>
          some (.v (.cell (.bool (decide (((l6.length : Nat) : Int) > 0)))))
        else
          some (.v (.cell (.bool false)))
      else
        some (.v (.cell (.bool false))) : Option AV) = some r) : impl_isData [.cell (.sl 3 l1), .cell (.int n2)] = some r :=
  V_le (X := X_impl_isData) (n := 100000) (c := cOf Try.f98) (by kernel_rfl) Try.func98 (by kernel_rfl) (of_decide_eq_true (by kernel_rfl)) (Eq.trans (by kernel_rfl) h)
noncomputable def X_impl_typeWhen : Ctx := { P := Try.prog, L := lay, F := sig.has, E := ext, fn := Try.f99, lv := [], jv := [], tp := [] }
theorem impl_typeWhen_le {b1 : Bool} {n2 : Int} {r : AV} (h : (
    bif b1 then
        some (.v (.cell (.int n2)))
      else
        some (.v (.cell (.int (-1)))) : Option AV) = some r) : impl_typeWhen [.cell (.bool b1), .cell (.int n2)] = some r :=
  V_le (X := X_impl_typeWhen) (n := 100000) (c := cOf Try.f99) (by kernel_rfl) Try.func99 (by kernel_rfl) (of_decide_eq_true (by kernel_rfl)) (Eq.trans (by kernel_rfl) h)
noncomputable def X_impl_sameInts : Ctx := { P := Try.prog, L := lay, F := sig.has, E := ext, fn := Try.f100, lv := [(0, [0, 1, 12, 13])], jv := [], tp := [] }
noncomputable def impl_sameInts_L0 (l3 : List (List AC)) (l4 : List (List AC)) (n5 : Int) (n6 : Int) : Option AV := GL X_impl_sameInts 0 [(0, .v (.cell (.sl 1 l3))), (1, .v (.cell (.sl 1 l4))), (12, .v (.cell (.int n5))), (13, .v (.cell (.int n6)))]
theorem impl_sameInts_L0_le {l3 : List (List AC)} {l4 : List (List AC)} {n5 : Int} {n6 : Int} {r : AV} (h : (
    bif (decide (n6 < n5)) then
        atR_ l3 n6 [.int 0] fun n7 =>
        atR_ l4 n6 [.int 0] fun n8 =>
        bif (n7 != n8) then
          some (.v (.cell (.bool false)))
        else
          impl_sameInts_L0 l3 l4 n5 (wrapI (n6 + 1))
      else
        some (.v (.cell (.bool true))) : Option AV) = some r) : impl_sameInts_L0 l3 l4 n5 n6 = some r :=
  GL_le (X := X_impl_sameInts) (n := 100000) (by kernel_rfl) (by kernel_rfl : (X_impl_sameInts.fn.body.bind fun c => locL 0 c []) = some (.loop (loopOf (X_impl_sameInts.fn.body.bind fun c => locL 0 c [])), ksOf (X_impl_sameInts.fn.body.bind fun c => locL 0 c []))) (Eq.trans (by kernel_rfl) h)
theorem impl_sameInts_le {l1 : List (List AC)} {l2 : List (List AC)} {r : AV} (h : (
    bif (((l1.length : Nat) : Int) != ((l2.length : Nat) : Int)) then
        some (.v (.cell (.bool false)))
      else
        impl_sameInts_L0 l1 l2 ((l1.length : Nat) : Int) 0 : Option AV) = some r) : impl_sameInts [.cell (.sl 1 l1), .cell (.sl 1 l2)] = some r :=
  V_le (X := X_impl_sameInts) (n := 100000) (c := cOf Try.f100) (by kernel_rfl) Try.func100 (by kernel_rfl) (of_decide_eq_true (by kernel_rfl)) (Eq.trans (by kernel_rfl) h)
noncomputable def X_impl_resultOfCon : Ctx := { P := Try.prog, L := lay, F := sig.has, E := ext, fn := Try.f101, lv := [], jv := [], tp := [] }
theorem impl_resultOfCon_le {l1 : List (List AC)} {n2 : Int} {l3 : List (List AC)} {r : AV} (h : (
    callR (impl_typeOfCon [.cell (.sl 3 l1), .cell (.int n2)]) false [(false, [.int 0])] fun n4 =>
      bif (decide (n4 < 0)) then
        some (.v (.cell (.int (-1))))
      else
        callR (impl_fieldsOfCon [.cell (.sl 3 l1), .cell (.int n2)]) false [(false, [.sl 1 []])] fun l5 =>
        callR (impl_sameInts [.cell (.sl 1 l3), .cell (.sl 1 l5)]) false [(false, [.bool false])] fun b6 =>
        callR (impl_typeWhen [.cell (.bool b6), .cell (.int n4)]) false [(false, [.int 0])] fun n7 =>
        some (.v (.cell (.int n7))) : Option AV) = some r) : impl_resultOfCon [.cell (.sl 3 l1), .cell (.int n2), .cell (.sl 1 l3)] = some r :=
  V_le (X := X_impl_resultOfCon) (n := 100000) (c := cOf Try.f101) (by kernel_rfl) Try.func101 (by kernel_rfl) (of_decide_eq_true (by kernel_rfl)) (Eq.trans (by kernel_rfl) h)
noncomputable def X_impl_resultOfCall : Ctx := { P := Try.prog, L := lay, F := sig.has, E := ext, fn := Try.f102, lv := [], jv := [], tp := [] }
theorem impl_resultOfCall_le {l1 : List (List AC)} {l2 : List (List AC)} {n3 : Int} {l4 : List (List AC)} {r : AV} (h : (
    callR (impl_hasFunc [.agg [.sl 3 l1, .sl 5 l2], .cell (.int n3)]) false [(false, [.bool false])] fun b5 =>
      bif (!b5) then
        some (.v (.cell (.int (-1))))
      else
        atR_ l2 n3 [.sl 1 [], .int 0, .int 0, .int 0, .sl 3 []] fun l6 n7 n8 n9 l10 =>
        callR (impl_sameInts [.cell (.sl 1 l4), .cell (.sl 1 l6)]) false [(false, [.bool false])] fun b11 =>
        atR_ l2 n3 [.sl 1 [], .int 0, .int 0, .int 0, .sl 3 []] fun l12 n13 n14 n15 l16 =>
        callR (impl_typeWhen [.cell (.bool b11), .cell (.int n13)]) false [(false, [.int 0])] fun n17 =>
        some (.v (.cell (.int n17))) : Option AV) = some r) : impl_resultOfCall [.agg [.sl 3 l1, .sl 5 l2], .cell (.int n3), .cell (.sl 1 l4)] = some r :=
  V_le (X := X_impl_resultOfCall) (n := 100000) (c := cOf Try.f102) (by kernel_rfl) Try.func102 (by kernel_rfl) (of_decide_eq_true (by kernel_rfl)) (Eq.trans (by kernel_rfl) h)
noncomputable def X_impl_resultOfClose : Ctx := { P := Try.prog, L := lay, F := sig.has, E := ext, fn := Try.f103, lv := [], jv := [], tp := [] }
theorem impl_resultOfClose_le {l1 : List (List AC)} {l2 : List (List AC)} {n3 : Int} {l4 : List (List AC)} {r : AV} (h : (
    callR (impl_hasFunc [.agg [.sl 3 l1, .sl 5 l2], .cell (.int n3)]) false [(false, [.bool false])] fun b5 =>
      bif (!b5) then
        some (.v (.cell (.int (-1))))
      else
        atR_ l2 n3 [.sl 1 [], .int 0, .int 0, .int 0, .sl 3 []] fun l6 n7 n8 n9 l10 =>
        bif (((l6.length : Nat) : Int) == 0) then
          some (.v (.cell (.int (-1))))
        else
          atR_ l2 n3 [.sl 1 [], .int 0, .int 0, .int 0, .sl 3 []] fun l11 n12 n13 n14 l15 =>
          cutR l11 0 (wrapI (((l11.length : Nat) : Int) - 1)) fun l16 =>
          callR (impl_sameInts [.cell (.sl 1 l4), .cell (.sl 1 l16)]) false [(false, [.bool false])] fun b17 =>
          atR_ l11 (wrapI (((l11.length : Nat) : Int) - 1)) [.int 0] fun n18 =>
          atR_ l2 n3 [.sl 1 [], .int 0, .int 0, .int 0, .sl 3 []] fun l19 n20 n21 n22 l23 =>
          callR (impl_arrowBetween [.cell (.sl 3 l1), .cell (.int n18), .cell (.int n20)]) false [(false, [.int 0])] fun n24 =>
          callR (impl_typeWhen [.cell (.bool b17), .cell (.int n24)]) false [(false, [.int 0])] fun n25 =>
          some (.v (.cell (.int n25))) : Option AV) = some r) : impl_resultOfClose [.agg [.sl 3 l1, .sl 5 l2], .cell (.int n3), .cell (.sl 1 l4)] = some r :=
  V_le (X := X_impl_resultOfClose) (n := 100000) (c := cOf Try.f103) (by kernel_rfl) Try.func103 (by kernel_rfl) (of_decide_eq_true (by kernel_rfl)) (Eq.trans (by kernel_rfl) h)
noncomputable def X_impl_resultOfApply : Ctx := { P := Try.prog, L := lay, F := sig.has, E := ext, fn := Try.f104, lv := [], jv := [], tp := [] }
theorem impl_resultOfApply_le {l1 : List (List AC)} {l2 : List (List AC)} {r : AV} (h : (
    bif (((l2.length : Nat) : Int) != 2) then
        some (.v (.cell (.int (-1))))
      else
        atR_ l2 0 [.int 0] fun n3 =>
        callR (impl_isArrow [.cell (.sl 3 l1), .cell (.int n3)]) false [(false, [.bool false])] fun b4 =>
        bif (!b4) then
          some (.v (.cell (.int (-1))))
        else
          atR_ l2 0 [.int 0] fun n5 =>
          atR_ l1 (wrapI (n5 - 1)) [.int 0, .int 0, .sl 1 []] fun n6 n7 l8 =>
          atR_ l2 1 [.int 0] fun n9 =>
          callR (impl_typeWhen [.cell (.bool (n9 == n6)), .cell (.int n7)]) false [(false, [.int 0])] fun n10 =>
          some (.v (.cell (.int n10))) : Option AV) = some r) : impl_resultOfApply [.cell (.sl 3 l1), .cell (.sl 1 l2)] = some r :=
  V_le (X := X_impl_resultOfApply) (n := 100000) (c := cOf Try.f104) (by kernel_rfl) Try.func104 (by kernel_rfl) (of_decide_eq_true (by kernel_rfl)) (Eq.trans (by kernel_rfl) h)
noncomputable def X_impl_copyInts : Ctx := { P := Try.prog, L := lay, F := sig.has, E := ext, fn := Try.f105, lv := [(0, [3, 6, 7, 8])], jv := [], tp := [] }
noncomputable def impl_copyInts_L0 (l2 : List (List AC)) (l3 : List (List AC)) (n4 : Int) (n5 : Int) : Option AV := GL X_impl_copyInts 0 [(3, .v (.cell (.sl 1 l2))), (6, .v (.cell (.sl 1 l3))), (7, .v (.cell (.int n4))), (8, .v (.cell (.int n5)))]
theorem impl_copyInts_L0_le {l2 : List (List AC)} {l3 : List (List AC)} {n4 : Int} {n5 : Int} {r : AV} (h : (
    bif (decide (n5 < n4)) then
        atR_ l3 n5 [.int 0] fun n6 =>
        appR l2 [[.int n6]] fun l7 =>
        impl_copyInts_L0 l7 l3 n4 (wrapI (n5 + 1))
      else
        some (.v (.cell (.sl 1 l2))) : Option AV) = some r) : impl_copyInts_L0 l2 l3 n4 n5 = some r :=
  GL_le (X := X_impl_copyInts) (n := 100000) (by kernel_rfl) (by kernel_rfl : (X_impl_copyInts.fn.body.bind fun c => locL 0 c []) = some (.loop (loopOf (X_impl_copyInts.fn.body.bind fun c => locL 0 c [])), ksOf (X_impl_copyInts.fn.body.bind fun c => locL 0 c []))) (Eq.trans (by kernel_rfl) h)
theorem impl_copyInts_le {l1 : List (List AC)} {r : AV} (h : (
    impl_copyInts_L0 [] l1 ((l1.length : Nat) : Int) 0 : Option AV) = some r) : impl_copyInts [.cell (.sl 1 l1)] = some r :=
  V_le (X := X_impl_copyInts) (n := 100000) (c := cOf Try.f105) (by kernel_rfl) Try.func105 (by kernel_rfl) (of_decide_eq_true (by kernel_rfl)) (Eq.trans (by kernel_rfl) h)
noncomputable def X_impl_typeOfCon : Ctx := { P := Try.prog, L := lay, F := sig.has, E := ext, fn := Try.f106, lv := [(0, [1, 5, 8, 9, 10])], jv := [], tp := [] }
noncomputable def impl_typeOfCon_L0 (n3 : Int) (n4 : Int) (l5 : List (List AC)) (n6 : Int) (n7 : Int) : Option AV := GL X_impl_typeOfCon 0 [(1, .v (.cell (.int n3))), (5, .v (.cell (.int n4))), (8, .v (.cell (.sl 3 l5))), (9, .v (.cell (.int n6))), (10, .v (.cell (.int n7)))]
theorem impl_typeOfCon_L0_le {n3 : Int} {n4 : Int} {l5 : List (List AC)} {n6 : Int} {n7 : Int} {r : AV} (h : (
    bif (decide (n7 < n6)) then
        atR_ l5 n7 [.int 0, .int 0, .sl 1 []] fun n8 n9 l10 =>
        bif (decide (n3 ≥ n4)) then
          bif (decide (n3 < (wrapI (n4 + ((l10.length : Nat) : Int))))) then
            some (.v (.cell (.int (wrapI (n7 + 1)))))
          else
            impl_typeOfCon_L0 n3 (wrapI (n4 + ((l10.length : Nat) : Int))) l5 n6 (wrapI (n7 + 1))
        else
          impl_typeOfCon_L0 n3 (wrapI (n4 + ((l10.length : Nat) : Int))) l5 n6 (wrapI (n7 + 1))
      else
        some (.v (.cell (.int (-1)))) : Option AV) = some r) : impl_typeOfCon_L0 n3 n4 l5 n6 n7 = some r :=
  GL_le (X := X_impl_typeOfCon) (n := 100000) (by kernel_rfl) (by kernel_rfl : (X_impl_typeOfCon.fn.body.bind fun c => locL 0 c []) = some (.loop (loopOf (X_impl_typeOfCon.fn.body.bind fun c => locL 0 c [])), ksOf (X_impl_typeOfCon.fn.body.bind fun c => locL 0 c []))) (Eq.trans (by kernel_rfl) h)
theorem impl_typeOfCon_le {l1 : List (List AC)} {n2 : Int} {r : AV} (h : (
    impl_typeOfCon_L0 n2 0 l1 ((l1.length : Nat) : Int) 0 : Option AV) = some r) : impl_typeOfCon [.cell (.sl 3 l1), .cell (.int n2)] = some r :=
  V_le (X := X_impl_typeOfCon) (n := 100000) (c := cOf Try.f106) (by kernel_rfl) Try.func106 (by kernel_rfl) (of_decide_eq_true (by kernel_rfl)) (Eq.trans (by kernel_rfl) h)
noncomputable def X_impl_fieldsOfCon : Ctx := { P := Try.prog, L := lay, F := sig.has, E := ext, fn := Try.f107, lv := [], jv := [], tp := [] }
theorem impl_fieldsOfCon_le {l1 : List (List AC)} {n2 : Int} {r : AV} (h : (
    callR (impl_typeOfCon [.cell (.sl 3 l1), .cell (.int n2)]) false [(false, [.int 0])] fun n3 =>
      atR_ l1 (wrapI (n3 - 1)) [.int 0, .int 0, .sl 1 []] fun n4 n5 l6 =>
      callR (impl_firstCon [.cell (.sl 3 l1), .cell (.int n3)]) false [(false, [.int 0])] fun n7 =>
      atR_ l6 (wrapI (n2 - n7)) [.sl 1 []] fun l8 =>
      some (.v (.cell (.sl 1 l8))) : Option AV) = some r) : impl_fieldsOfCon [.cell (.sl 3 l1), .cell (.int n2)] = some r :=
  V_le (X := X_impl_fieldsOfCon) (n := 100000) (c := cOf Try.f107) (by kernel_rfl) Try.func107 (by kernel_rfl) (of_decide_eq_true (by kernel_rfl)) (Eq.trans (by kernel_rfl) h)
noncomputable def X_impl_isArrow : Ctx := { P := Try.prog, L := lay, F := sig.has, E := ext, fn := Try.f108, lv := [], jv := [], tp := [] }
theorem impl_isArrow_le {l1 : List (List AC)} {n2 : Int} {r : AV} (h : (
    bif (decide (n2 > 0)) then
        callR (impl_isType [.cell (.sl 3 l1), .cell (.int n2)]) false [(false, [.bool false])] fun b3 =>
        bif b3 then
          atR_ l1 (wrapI (n2 - 1)) [.int 0, .int 0, .sl 1 []] fun n4 n5 l6 =>
          some (.v (.cell (.bool (((l6.length : Nat) : Int) == 0))))
        else
          some (.v (.cell (.bool false)))
      else
        some (.v (.cell (.bool false))) : Option AV) = some r) : impl_isArrow [.cell (.sl 3 l1), .cell (.int n2)] = some r :=
  V_le (X := X_impl_isArrow) (n := 100000) (c := cOf Try.f108) (by kernel_rfl) Try.func108 (by kernel_rfl) (of_decide_eq_true (by kernel_rfl)) (Eq.trans (by kernel_rfl) h)
noncomputable def X_impl_firstCon : Ctx := { P := Try.prog, L := lay, F := sig.has, E := ext, fn := Try.f109, lv := [], jv := [], tp := [] }
theorem impl_firstCon_le {l1 : List (List AC)} {n2 : Int} {r : AV} (h : (
    cutR l1 0 (wrapI (n2 - 1)) fun l3 =>
      callR (impl_countCons [.cell (.sl 3 l3)]) false [(false, [.int 0])] fun n4 =>
      some (.v (.cell (.int n4))) : Option AV) = some r) : impl_firstCon [.cell (.sl 3 l1), .cell (.int n2)] = some r :=
  V_le (X := X_impl_firstCon) (n := 100000) (c := cOf Try.f109) (by kernel_rfl) Try.func109 (by kernel_rfl) (of_decide_eq_true (by kernel_rfl)) (Eq.trans (by kernel_rfl) h)
noncomputable def X_impl_countCons : Ctx := { P := Try.prog, L := lay, F := sig.has, E := ext, fn := Try.f110, lv := [(0, [3, 6, 7, 8])], jv := [], tp := [] }
noncomputable def impl_countCons_L0 (n2 : Int) (l3 : List (List AC)) (n4 : Int) (n5 : Int) : Option AV := GL X_impl_countCons 0 [(3, .v (.cell (.int n2))), (6, .v (.cell (.sl 3 l3))), (7, .v (.cell (.int n4))), (8, .v (.cell (.int n5)))]
theorem impl_countCons_L0_le {n2 : Int} {l3 : List (List AC)} {n4 : Int} {n5 : Int} {r : AV} (h : (
    bif (decide (n5 < n4)) then
        atR_ l3 n5 [.int 0, .int 0, .sl 1 []] fun n6 n7 l8 =>
        impl_countCons_L0 (wrapI (n2 + ((l8.length : Nat) : Int))) l3 n4 (wrapI (n5 + 1))
      else
        some (.v (.cell (.int n2))) : Option AV) = some r) : impl_countCons_L0 n2 l3 n4 n5 = some r :=
  GL_le (X := X_impl_countCons) (n := 100000) (by kernel_rfl) (by kernel_rfl : (X_impl_countCons.fn.body.bind fun c => locL 0 c []) = some (.loop (loopOf (X_impl_countCons.fn.body.bind fun c => locL 0 c [])), ksOf (X_impl_countCons.fn.body.bind fun c => locL 0 c []))) (Eq.trans (by kernel_rfl) h)
theorem impl_countCons_le {l1 : List (List AC)} {r : AV} (h : (
    impl_countCons_L0 0 l1 ((l1.length : Nat) : Int) 0 : Option AV) = some r) : impl_countCons [.cell (.sl 3 l1)] = some r :=
  V_le (X := X_impl_countCons) (n := 100000) (c := cOf Try.f110) (by kernel_rfl) Try.func110 (by kernel_rfl) (of_decide_eq_true (by kernel_rfl)) (Eq.trans (by kernel_rfl) h)
end Go.Proofs.Ytoljlooeiljpfaa
