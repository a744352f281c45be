/- Generic texts and models for the proofs of this seat: part 1. -/
import Derived.Says
import Derived.IntWalk
set_option linter.unusedVariables false
set_option linter.unusedSimpArgs false
namespace Go.Proofs.Ytbodfaghedolbaa
open Go
inductive AC where
  | int (n : Int)
  | bool (b : Bool)
  | sl (k : Nat) (rows : List (List AC))
  deriving Inhabited
inductive SV where
  | cell (c : AC)
  | agg (cs : List AC)
  deriving Inhabited
inductive AV where
  | und
  | v (s : SV)
  | tup (vs : List SV)
  | box (cs : List AC)
  | arr (k : Nat) (rows : List (List AC))
  | al (d : Nat)
  deriving Inhabited
def isVal : AV → Bool
  | .v _ => true
  | .tup _ => true
  | _ => false
def SV.cells : SV → List AC
  | .cell c => [c]
  | .agg cs => cs
inductive Ptr where
  | box (d off : Nat)
  | ref (cs : List AC)
  | el (d k n j : Nat)
structure TI where
  kind : Nat
  size : Nat
  zero : List AC
  fields : List (Nat × Nat)
  elem : Nat
  deriving Inhabited
structure Lay where
  tys : List (Nat × TI)
  homes : List (Nat × Nat)
  lends : List Nat
  draws : List (Nat × Nat × List Nat)
def Lay.ti (L : Lay) (t : Nat) : Option TI := L.tys.lookup t
def Lay.home (L : Lay) (c : Nat) (d : Option Nat) : Bool := match d with
  | some d => L.homes.any fun e => Nat.beq e.1 c && Nat.beq e.2 d
  | none => false
def Lay.lent (L : Lay) (f : Nat) : Bool := L.lends.any fun e => Nat.beq e f
def Lay.el (L : Lay) (t : Nat) : Option TI := (L.ti t).bind fun i => if i.kind = 2 then L.ti i.elem else none
structure VS where
  σ : List AV
  pe : List (Nat × Ptr)
abbrev Orc := FuncId → List SV → Option AV
def VS.get (s : VS) (i : Nat) : AV := s.σ.getD i .und
def Ptr.at (p : Ptr) (d : Nat) : Bool :=
  match p with
  | .box b _ => b == d
  | .ref _ => false
  | .el b _ _ _ => b == d
def Ptr.fits (p : Ptr) (n : Nat) : Bool :=
  match p with
  | .ref cs => decide (n ≤ cs.length)
  | .box _ _ => true
  | .el _ _ _ _ => false
def VS.put (s : VS) (d : Option Nat) (x : AV) : VS :=
  match d with
  | some d => { σ := s.σ.set d x, pe := s.pe.filter fun e => !(e.1 == d) && !e.2.at d }
  | none => s
def wrapI (n : Int) : Int := IntKind.i64.wrap n
def constV (L : Lay) (t : Nat) : Value → Option SV
  | .int .i64 n => some (.cell (.int n))
  | .bool b => some (.cell (.bool b))
  | .slice none 0 0 => (L.el t).map fun e => .cell (.sl e.size [])
  | _ => none
def svOf (L : Lay) (s : VS) (t : Nat) : Operand → Option SV
  | .tmp i => match s.get i with
    | .v x => some x
    | _ => none
  | .const v => constV L t v
  | _ => none
def mvOf (L : Lay) (s : VS) (t : Nat) : Operand → Option AV
  | .tmp i => match s.get i with
    | .v x => some (.v x)
    | .tup xs => some (.tup xs)
    | _ => none
  | x => (svOf L s t x).map .v
def max2I (a b : Int) : Int := if b > a then b else a
def intO (L : Lay) (s : VS) (x : Operand) : Option Int :=
  match svOf L s 0 x with
  | some (.cell (.int n)) => some n
  | _ => none
def boolO (L : Lay) (s : VS) (x : Operand) : Option Bool :=
  match svOf L s 0 x with
  | some (.cell (.bool b)) => some b
  | _ => none
def rowsO (L : Lay) (s : VS) (t : Nat) (x : Operand) : Option (Nat × List (List AC)) :=
  match svOf L s t x with
  | some (.cell (.sl k r)) => some (k, r)
  | _ => none
def ptrO (s : VS) : Operand → Option Ptr
  | .tmp i => match s.pe.lookup i with
    | some p => some p
    | none => match s.get i with
      | .box _ => some (.box i 0)
      | _ => none
  | _ => none
def mkV (i : TI) (cs : List AC) : Option SV :=
  if i.kind = 3 then some (.agg cs) else match cs with
    | [c] => some (.cell c)
    | _ => none
def binV (op : BinOp) (a b : Int) : Option AC :=
  match op with
  | .add => some (.int (wrapI (a + b)))
  | .sub => some (.int (wrapI (a - b)))
  | .mul => some (.int (wrapI (a * b)))
  | .eql => some (.bool (a == b))
  | .neq => some (.bool (a != b))
  | .lss => some (.bool (decide (a < b)))
  | .leq => some (.bool (decide (a ≤ b)))
  | .gtr => some (.bool (decide (a > b)))
  | .geq => some (.bool (decide (a ≥ b)))
  | .quo => if b = 0 then none else some (.int (wrapI (a.tdiv b)))
  | .rem => if b = 0 then none else some (.int (a.tmod b))
  | _ => none
def binB (op : BinOp) (a b : Bool) : Option AC :=
  match op with
  | .eql => some (.bool (a == b))
  | .neq => some (.bool (a != b))
  | _ => none
def fillL (cs : List AC) (off : Nat) : List AC → List AC
  | [] => cs
  | x :: xs => fillL (cs.set off x) (off + 1) xs
def buildV (L : Lay) (s : VS) (i : TI) : List (Nat × Operand) → List AC → Option (List AC)
  | [], cs => some cs
  | (f, x) :: rest, cs =>
    match i.fields[f]?, svOf L s 0 x with
    | some (off, sz), some v => if v.cells.length = sz ∧ off + sz ≤ cs.length then buildV L s i rest (fillL cs off v.cells) else none
    | _, _ => none
def partsV (L : Lay) (s : VS) (k : Nat) : Nat → List (Nat × Operand) → Option (List (List AC))
  | _, [] => some []
  | j, (i, x) :: rest =>
    match svOf L s 0 x with
    | some v => if i = j ∧ v.cells.length = k then (partsV L s k (j + 1) rest).map (v.cells :: ·) else none
    | none => none
def okArg (L : Lay) (t : Nat) (v : SV) : Bool :=
  match L.el t with
  | none => true
  | some _ => match v with
    | .cell (.sl _ _) => true
    | _ => false
def argsV (L : Lay) (s : VS) : List Operand → List Nat → Option (List SV)
  | [], [] => some []
  | x :: xs, t :: ts => (svOf L s t x).bind fun v => if okArg L t v then (argsV L s xs ts).map (v :: ·) else none
  | _, _ => none
def lim36 : Nat := 68719476736
def vopP (L : Lay) (call : Orc) (o : Oper) (s : VS) : Option VS :=
  match o.op with
  | .move x | .assign x => (mvOf L s o.type x).map fun v => s.put o.dst v
  | .pick c a b => (boolO L s c).bind fun t => (if t then svOf L s o.type a else svOf L s o.type b).map fun v => s.put o.dst (.v v)
  | .alloc t => (L.ti t).map fun i => s.put o.dst (.box i.zero)
  | .box t x => (L.ti t).bind fun i => (svOf L s t x).bind fun v => if v.cells.length = i.size then some (s.put o.dst (.box v.cells)) else none
  | .build t ps => (L.ti t).bind fun i => if i.kind = 3 then (buildV L s i ps.toList i.zero).map fun cs => s.put o.dst (.v (.agg cs)) else none
  | .buildSlice t n ps => (L.el t).bind fun e => (partsV L s e.size 0 ps.toList).bind fun r =>
      if r.length = n ∧ n ≤ 65536 ∧ 0 < e.size ∧ e.size ≤ 256 then some (s.put o.dst (.v (.cell (.sl e.size r)))) else none
  | .load t a => (L.ti t).bind fun i => (ptrO s a).bind fun p =>
      match p with
      | .ref cs => if i.size ≤ cs.length then (mkV i (cs.take i.size)).map fun v => s.put o.dst (.v v) else none
      | .box d off => match s.get d with
        | .box cs => if off + i.size ≤ cs.length then (mkV i ((cs.drop off).take i.size)).map fun v => s.put o.dst (.v v) else none
        | _ => none
      | .el _ _ _ _ => none
  | .store t a x => (L.ti t).bind fun i => (ptrO s a).bind fun p => (svOf L s t x).bind fun v =>
      match p with
      | .box d off => match s.get d with
        | .box cs => if off + i.size ≤ cs.length ∧ v.cells.length = i.size then some { s with σ := s.σ.set d (.box (fillL cs off v.cells)) } else none
        | _ => none
      | _ => none
  | .binOp op t x y _ => match boolO L s x with
    | some a => (L.ti t).bind fun i => if i.kind = 1 then (boolO L s y).bind fun b => (binB op a b).map fun c => s.put o.dst (.v (.cell c)) else none
    | none => (intO L s x).bind fun a => (intO L s y).bind fun b => (binV op a b).map fun c => s.put o.dst (.v (.cell c))
  | .unOp .not _ x => (boolO L s x).map fun b => s.put o.dst (.v (.cell (.bool (!b))))
  | .fieldAddr t x f => (L.ti t).bind fun i => (ptrO s x).bind fun p => (i.fields[f]?).bind fun f =>
      match o.dst with
      | some d => if d < s.σ.length ∧ p.at d = false ∧ i.kind = 3 ∧ p.fits f.1 = true then
          let s' := s.put (some d) .und
          some { s' with pe := (d, match p with | .box b off => .box b (off + f.1) | .ref cs => .ref (cs.drop f.1) | p => p) :: s'.pe }
        else none
      | none => none
  | .indexAddr t x ix => (L.el t).bind fun e => (rowsO L s t x).bind fun (k, r) => (intO L s ix).bind fun n =>
      if 0 ≤ n ∧ n < r.length ∧ k = e.size then
        match o.dst with
        | some d => if d < s.σ.length then
            let s' := s.put (some d) .und
            some { s' with pe := (d, .ref (r.getD n.toNat [])) :: s'.pe }
          else none
        | none => none
      else none
  | .slice t x lo hi none => (L.el t).bind fun e => (rowsO L s t x).bind fun (k, r) =>
      (match lo with | none => some 0 | some l => intO L s l).bind fun l => (match hi with | none => some (r.length : Int) | some h => intO L s h).bind fun h =>
        if 0 ≤ l ∧ l ≤ h ∧ h ≤ r.length ∧ k = e.size then some (s.put o.dst (.v (.cell (.sl k ((r.drop l.toNat).take (h.toNat - l.toNat)))))) else none
  | .extract (.tmp t) i => match s.get t with
    | .tup vs => (vs[i]?).map fun v => s.put o.dst (.v v)
    | _ => none
  | .makeSlice t l c => (L.el t).bind fun e => (intO L s l).bind fun l => (intO L s c).bind fun c =>
      if 0 ≤ l ∧ l ≤ c ∧ c ≤ lim36 ∧ 0 < e.size then some (s.put o.dst (.v (.cell (.sl e.size (List.replicate l.toNat e.zero))))) else none
  | .call { callee := .builtin .len, args, argTypes } => match args.toList with
    | [x] => if argTypes.size = 1 then (L.el (argTypes.getD 0 0)).bind fun _ => (rowsO L s (argTypes.getD 0 0) x).map fun (_, r) => s.put o.dst (.v (.cell (.int r.length))) else none
    | _ => none
  | .call { callee := .builtin .append, args, argTypes } => match args.toList with
    | [x, y] => (L.el (argTypes.getD 0 0)).bind fun e => (rowsO L s (argTypes.getD 0 0) x).bind fun (k, r) => (rowsO L s (argTypes.getD 0 0) y).bind fun (k', r') =>
        if k = e.size ∧ k' = e.size ∧ argTypes.getD 0 0 = argTypes.getD 1 0 ∧ argTypes.size = 2 ∧ 0 < e.size ∧ (r ++ r').length ≤ lim36 then some (s.put o.dst (.v (.cell (.sl k (r ++ r'))))) else none
    | _ => none
  | .call { callee := .builtin .max, args, argTypes := _ } => match args.toList with
    | [x, y] => (intO L s x).bind fun a => (intO L s y).map fun b => s.put o.dst (.v (.cell (.int (max2I a b))))
    | _ => none
  | .call { callee := .value (.func f), args, argTypes } => (argsV L s args.toList argTypes.toList).bind fun vs => (call f vs).map fun r => s.put o.dst r
  | _ => none
def arrAt (s : VS) (i : Nat) : Option (Nat × Nat × List (List AC)) :=
  match s.get i with
  | .arr k r => some (i, k, r)
  | .al d => match s.get d with
    | .arr k r => some (d, k, r)
    | _ => none
  | _ => none
def arrO (s : VS) : Operand → Option (Nat × Nat × List (List AC))
  | .tmp i => arrAt s i
  | _ => none
def isEl (s : VS) (x : Operand) : Bool := match ptrO s x with
  | some (.el _ _ _ _) => true
  | _ => false
def isArr (L : Lay) (o : Oper) (s : VS) : Bool :=
  match o.op with
  | .move x | .assign x => (arrO s x).isSome
  | .load _ x => isEl s x
  | .store _ x _ => isEl s x
  | .indexAddr _ x _ => (arrO s x).isSome
  | .makeSlice _ _ _ => L.home 0 o.dst
  | .call { callee := .builtin .len, args, .. } => args.toList.any fun x => (arrO s x).isSome
  | .call { callee := .value (.func f), args, .. } => L.home (f + 1) o.dst || args.toList.any fun x => (arrO s x).isSome
  | _ => false
def flatC : AC → Bool
  | .sl _ _ => false
  | _ => true
def flatSV (v : SV) : Bool := v.cells.all flatC
mutual
/-- No row of size k is in it. -/
def apC (k : Nat) : AC → Bool
  | .sl j rows => !(Nat.beq j k) && apR k rows
  | .int _ => true
  | .bool _ => true
def apR (k : Nat) : List (List AC) → Bool
  | [] => true
  | r :: rs => apL k r && apR k rs
def apL (k : Nat) : List AC → Bool
  | [] => true
  | c :: cs => apC k c && apL k cs
end
def flatAV : AV → Bool
  | .v x => flatSV x
  | .tup xs => xs.all flatSV
  | _ => false
def svA (L : Lay) (s : VS) (t : Nat) (x : Operand) : Option SV :=
  match arrO s x with
  | some (_, k, r) => some (.cell (.sl k r))
  | none => svOf L s t x
def argsA (L : Lay) (s : VS) : List Operand → List Nat → Option (List SV)
  | [], [] => some []
  | x :: xs, t :: ts => (svA L s t x).bind fun v => if okArg L t v then (argsA L s xs ts).map (v :: ·) else none
  | _, _ => none
def vopA (L : Lay) (call : Orc) (o : Oper) (s : VS) : Option VS :=
  match o.op with
  | .move x | .assign x => (arrO s x).bind fun (d0, _, _) => match o.dst with
    | some d => if d ≠ d0 then some (s.put (some d) (.al d0)) else none
    | none => none
  | .load t a => (L.ti t).bind fun i => (ptrO s a).bind fun p =>
      match p with
      | .el d0 k n j => match s.get d0 with
        | .arr k' r => if k = k' ∧ n < r.length ∧ j + i.size ≤ k then (mkV i (((r.getD n []).drop j).take i.size)).map fun v => s.put o.dst (.v v) else none
        | _ => none
      | _ => none
  | .store t a x => (L.ti t).bind fun i => (ptrO s a).bind fun p => (svOf L s t x).bind fun v =>
      match p with
      | .el d0 k n j => match s.get d0 with
        | .arr k' r => if k = k' ∧ n < r.length ∧ j + i.size ≤ k ∧ v.cells.length = i.size then some { s with σ := s.σ.set d0 (.arr k (r.set n (fillL (r.getD n []) j v.cells))) } else none
        | _ => none
      | _ => none
  | .indexAddr t x ix => (L.el t).bind fun e => (arrO s x).bind fun (d0, k, r) => (intO L s ix).bind fun n =>
      if 0 ≤ n ∧ n < r.length ∧ k = e.size then
        match o.dst with
        | some d => if d < s.σ.length ∧ d ≠ d0 then
            let s' := s.put (some d) .und
            some { s' with pe := (d, .el d0 k n.toNat 0) :: s'.pe }
          else none
        | none => none
      else none
  | .makeSlice t l c => (L.el t).bind fun e => (intO L s l).bind fun l => (intO L s c).bind fun c =>
      match o.dst with
      | some d => if 0 ≤ l ∧ l ≤ c ∧ c ≤ lim36 ∧ 0 < e.size ∧ apL e.size e.zero = true then some (s.put (some d) (.arr e.size (List.replicate l.toNat e.zero))) else none
      | none => none
  | .call { callee := .builtin .len, args, argTypes } => match args.toList with
    | [x] => if argTypes.size = 1 then (L.el (argTypes.getD 0 0)).bind fun _ => (arrO s x).map fun (_, _, r) => s.put o.dst (.v (.cell (.int r.length))) else none
    | _ => none
  | .call { callee := .value (.func f), args, argTypes } =>
      if L.home (f + 1) o.dst then (argsV L s args.toList argTypes.toList).bind fun vs => (call f vs).bind fun r => (L.el o.type).bind fun e =>
        match r with
        | .v (.cell (.sl k rows)) => match o.dst with
          | some d => if k = e.size ∧ apR k rows = true ∧ 0 < e.size then some (s.put (some d) (.arr k rows)) else none
          | none => none
        | _ => none
      else if L.lent f then (argsA L s args.toList argTypes.toList).bind fun vs => (call f vs).bind fun r => if flatAV r then some (s.put o.dst r) else none else none
  | _ => none
def vop (L : Lay) (call : Orc) (o : Oper) (s : VS) : Option VS := if isArr L o s then vopA L call o s else vopP L call o s
def guardV (ops : List Oper) (s : VS) (g : Nat × Bool) : Option Bool :=
  match ops[g.1]? with
  | some o => match o.dst with
    | some d => match s.get d with
      | .v (.cell (.bool b)) => some (b == g.2)
      | .und => some false
      | _ => none
    | none => none
  | none => none
def vops (L : Lay) (call : Orc) (all : List Oper) : List Oper → VS → Option VS
  | [], s => some s
  | o :: rest, s =>
    match o.guard with
    | none => (vop L call o s).bind (vops L call all rest)
    | some g => (guardV all s g).bind fun t => (if t then vop L call o s else some (s.put o.dst .und)).bind (vops L call all rest)
def vopsP (L : Lay) (call : Orc) (all : List Oper) : List Oper → VS → Option VS
  | [], s => some s
  | o :: rest, s =>
    match o.guard with
    | none => (vopP L call o s).bind (vopsP L call all rest)
    | some g => (guardV all s g).bind fun t => (if t then vopP L call o s else some (s.put o.dst .und)).bind (vopsP L call all rest)
def isRow : AV → Bool
  | .arr _ _ => true
  | .al _ => true
  | _ => false
def noHome : Nat := 4294967296
def mask (s : List AV) : List AV := s.map fun x => if isRow x then .al noHome else x
def viewAV (s : List AV) : AV → AV
  | .arr k r => .v (.cell (.sl k r))
  | .al d => match s.getD d .und with
    | .arr k r => .v (.cell (.sl k r))
    | _ => .al noHome
  | x => x
def view (s : List AV) : List AV := s.map (viewAV s)
def Lay.rows (L : Lay) (ops : List Oper) : List Nat :=
  match ops with
  | { dst := some d, .. } :: _ => match L.draws.find? fun e => Nat.beq e.1 d && Nat.beq e.2.1 ops.length with
    | some e => e.2.2
    | none => []
  | _ => []
def rowMove (H : List Nat) (o : Oper) : Option (Nat × Nat) :=
  match o.op, o.dst with
  | .move (.tmp z), some d => if H.any (fun e => Nat.beq e z) then some (d, z) else none
  | _, _ => none
def tailOf : List Oper → Bool
  | [o, o'] => (match o.op, o.dst, o'.op, o'.dst with
    | .indexAddr _ _ _, some d, .store _ (.tmp x) _, none => Nat.beq d x && o.guard.isNone && o'.guard.isNone
    | _, _, _, _ => false)
  | _ => false
def coreN (ops : List Oper) : Nat := if tailOf (ops.drop (ops.length - 2)) then ops.length - 2 else ops.length
def stores (o : Oper) : Bool := match o.op with | .store _ _ _ => true | _ => false
def rowy (L : Lay) (ops : List Oper) : Bool := ops.any (fun o => (rowMove (L.rows ops) o).isSome) && !(ops.take (coreN ops)).any stores
def dstIs (t : Nat) (o : Oper) : Bool := match o.dst with
  | some d => Nat.beq d t
  | none => false
def backAV (H : List Nat) (core : List Oper) (s : List AV) (s1 : VS) (t : Nat) (x : AV) : Option AV :=
  match core.find? (dstIs t) with
  | none => some x
  | some o => match rowMove H o, o.guard with
    | some (_, z), none => (match arrAt { σ := s, pe := [] } z, s1.get t with
      | some (d, _, _), .v (.cell (.sl _ _)) => some (.al d)
      | _, _ => none)
    | _, _ => match s1.get t with
      | .v (.cell c) => if flatC c then some (.v (.cell c)) else some (.al noHome)
      | .und => some .und
      | _ => none
def backL (f : Nat → AV → Option AV) : Nat → List AV → Option (List AV)
  | _, [] => some []
  | t, x :: xs => (f t x).bind fun y => (backL f (t + 1) xs).map (y :: ·)
def vdraw (L : Lay) (call : Orc) (ops : List Oper) (s : List AV) : Option (List AV) :=
  if rowy L ops then
    (vopsP L call ops (ops.take (coreN ops)) { σ := view s, pe := [] }).bind fun s1 =>
    (backL (backAV (L.rows ops) (ops.take (coreN ops)) s s1) 0 s).bind fun s2 => (vops L call ops (ops.drop (coreN ops)) { σ := s2, pe := [] }).map (·.σ)
  else (vopsP L call ops ops { σ := mask s, pe := [] }).map (·.σ)
inductive Xt where
  | norm
  | exit (id : Nat)
  | ret
  deriving DecidableEq
def vcode (L : Lay) (call : Orc) : Nat → Code → List AV → Option (Xt × List AV)
  | 0, _, _ => none
  | n + 1, c, s =>
    match c with
    | .skip => some (.norm, s)
    | .region _ ops d => if d then (vdraw L call ops.toList s).map fun s => (.norm, s)
      else (vops L call ops.toList ops.toList { σ := s, pe := [] }).map fun s => (.norm, s.σ)
    | .seq a b => (vcode L call n a s).bind fun r => match r with
      | (.norm, s') => vcode L call n b s'
      | r => some r
    | .cond x a b => (boolO L { σ := s, pe := [] } x).bind fun t => if t then vcode L call n a s else vcode L call n b s
    | .block id b => (vcode L call n b s).map fun r => match r with
      | (.exit i, s') => if i = id then (.norm, s') else (.exit i, s')
      | r => r
    | .loop b => (vcode L call n b s).bind fun r => match r with
      | (.norm, s') => vcode L call n (.loop b) s'
      | r => some r
    | .exit id => some (.exit id, s)
    | .ret => some (.ret, s)
    | _ => none
def resVal1 (L : Lay) (s : List AV) : ResultVar → Option SV
  | .tmp t => match s.getD t .und with
    | .v x => some x
    | _ => (arrAt { σ := s, pe := [] } t).map fun a => .cell (.sl a.2.1 a.2.2)
  | .cell t ty => match s.getD t .und with
    | .box cs => (L.ti ty).bind fun i => if i.size = cs.length then mkV i cs else none
    | _ => none
def resVs (L : Lay) (s : List AV) : List ResultVar → Option (List SV)
  | [] => some []
  | r :: rs => (resVal1 L s r).bind fun v => (resVs L s rs).map (v :: ·)
def vbody (L : Lay) (call : Orc) (n : Nat) (fn : Func) (args : List SV) : Option AV :=
  match fn.body with
  | none => none
  | some c => if args.length ≤ fn.ntmps then (vcode L call n c (args.map .v ++ List.replicate (fn.ntmps - args.length) .und)).bind fun r => match r with
    | (.exit _, _) => none
    | (_, s) => (resVs L s fn.results.toList).map fun vs => match vs with
      | [v] => .v v
      | vs => .tup vs
    else none
structure MapE where
  g : Option Nat
  agg : Bool
  sh : List AC
  agg' : Bool
  sh' : List AC
inductive Ext where
  | map (m : MapE)
  | fn (run : List SV → Option AV)
abbrev ExtT := List (Nat × Ext)
def shOk : List AC → List AC → Bool
  | [], [] => true
  | .int _ :: s, .int _ :: c => shOk s c
  | .bool _ :: s, .bool _ :: c => shOk s c
  | .sl k _ :: s, .sl k' _ :: c => Nat.beq k k' && shOk s c
  | _, _ => false
def mkS (agg : Bool) (r : List AC) : SV := if agg then .agg r else .cell (r.headD default)
def aggS : SV → Bool
  | .agg _ => true
  | .cell _ => false
def rowE (call : Orc) (m : MapE) (r : List AC) : Option (List AC) :=
  match m.g with
  | none => some r
  | some g => (call g [mkS m.agg r]).bind fun a => match a with
    | .v y => if shOk m.sh' y.cells = true ∧ aggS y = m.agg' then some y.cells else none
    | _ => none
def rowsE (call : Orc) (m : MapE) : List (List AC) → Option (List (List AC))
  | [] => some []
  | r :: rs => (rowE call m r).bind fun x => (rowsE call m rs).map (x :: ·)
def extRun (call : Orc) : Ext → List SV → Option AV
  | .fn run, args => run args
  | .map m, args => match args with
    | [.cell (.sl k rows)] => if k = m.sh.length ∧ rows.length ≤ 1048576 ∧ rows.all (shOk m.sh) = true then (rowsE call m rows).map fun rs => .v (.cell (.sl m.sh'.length rs)) else none
    | _ => none
def vfun (P : Program) (L : Lay) (F : Nat → Bool) (E : ExtT) : Nat → Orc
  | 0, _, _ => none
  | n + 1, f, args => if F f then match P.funcs[f]? with
    | some fn => vbody L (vfun P L F E n) n fn args
    | none => none else match E.lookup f with
      | some e => extRun (vfun P L F E n) e args
      | none => none
end Go.Proofs.Ytbodfaghedolbaa
