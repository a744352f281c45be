/- Generic texts and models for the proofs of this seat: part 1. -/
import Derived.Says
import Derived.IntWalk
set_option linter.unusedVariables false
set_option linter.unusedSimpArgs false
namespace Go.Proofs.Ytbodfaghedolbaa
open Go
inductive AC where
 | int (n:Int)
 | bool (b:Bool)
 | sl (k:Nat) (rows:List (List AC))
 deriving Inhabited
inductive SV where
 | cell (c:AC)
 | agg (cs:List AC)
 deriving Inhabited
inductive AV where
 | und
 | v (s:SV)
 | tup (vs:List SV)
 | box (cs:List AC)
 | arr (k:Nat) (rows:List (List AC))
 | al (d:Nat)
 deriving Inhabited
def zht:AV → Bool
 | .v _ => true
 | .tup _ => true
 | _ => false
def SV.cells:SV → List AC
 | .cell c => [c]
 | .agg cs => cs
inductive Ptr where
 | box (d off:Nat)
 | ref (cs:List AC)
 | el (d k n j:Nat)
structure TI where
 kind:Nat
 size:Nat
 zero:List AC
 fields:List (Nat × Nat)
 elem:Nat
 deriving Inhabited
structure Lay where
 tys:List (Nat × TI)
 homes:List (Nat × Nat)
 lends:List Nat
 draws:List (Nat × Nat × List Nat)
def Lay.ti (L:Lay) (t:Nat):Option TI:=L.tys.lookup t
def Lay.home (L:Lay) (c:Nat) (d:Option Nat):Bool:=match d with
 | some d => L.homes.any fun e => Nat.beq e.1 c && Nat.beq e.2 d
 | none => false
def Lay.lent (L:Lay) (f:Nat):Bool:=L.lends.any fun e => Nat.beq e f
def Lay.el (L:Lay) (t:Nat):Option TI:=(L.ti t).bind fun i => if i.kind = 2 then L.ti i.elem else none
structure VS where
 σ:List AV
 pe:List (Nat × Ptr)
abbrev Orc:=FuncId → List SV → Option AV
def VS.get (s:VS) (i:Nat):AV:=s.σ.getD i .und
def Ptr.at (p:Ptr) (d:Nat):Bool :=
 match p with
 | .box b _ => b == d
 | .ref _ => false
 | .el b _ _ _ => b == d
def Ptr.fits (p:Ptr) (n:Nat):Bool :=
 match p with
 | .ref cs => decide (n ≤ cs.length)
 | .box _ _ => true
 | .el _ _ _ _ => false
def VS.put (s:VS) (d:Option Nat) (x:AV):VS :=
 match d with
 | some d => { σ:=s.σ.set d x,pe:=s.pe.filter fun e => !(e.1 == d) && !e.2.at d }
 | none => s
def zai (n:Int):Int:=IntKind.i64.wrap n
def zpL (L:Lay) (t:Nat):Value → Option SV
 | .int .i64 n => some (.cell (.int n))
 | .bool b => some (.cell (.bool b))
 | .slice none 0 0 => (L.el t).map fun e => .cell (.sl e.size [])
 | _ => none
def zgA (L:Lay) (s:VS) (t:Nat):Operand → Option SV
 | .tmp i => match s.get i with
  | .v x => some x
  | _ => none
 | .const v => zpL L t v
 | _ => none
def zkB (L:Lay) (s:VS) (t:Nat):Operand → Option AV
 | .tmp i => match s.get i with
  | .v x => some (.v x)
  | .tup xs => some (.tup xs)
  | _ => none
 | x => (zgA L s t x).map .v
def zpB (a b:Int):Int:=if b > a then b else a
def zeL (L:Lay) (s:VS) (x:Operand):Option Int :=
 match zgA L s 0 x with
 | some (.cell (.int n)) => some n
 | _ => none
def zeO (L:Lay) (s:VS) (x:Operand):Option Bool :=
 match zgA L s 0 x with
 | some (.cell (.bool b)) => some b
 | _ => none
def zgQ (L:Lay) (s:VS) (t:Nat) (x:Operand):Option (Nat × List (List AC)) :=
 match zgA L s t x with
 | some (.cell (.sl k r)) => some (k,r)
 | _ => none
def zfW (s:VS):Operand → Option Ptr
 | .tmp i => match s.pe.lookup i with
  | some p => some p
  | none => match s.get i with
   | .box _ => some (.box i 0)
   | _ => none
 | _ => none
def mkV (i:TI) (cs:List AC):Option SV :=
 if i.kind = 3 then some (.agg cs) else match cs with
  | [c] => some (.cell c)
  | _ => none
def zsJ (op:BinOp) (a b:Int):Option AC :=
 match op with
 | .add => some (.int (zai (a + b)))
 | .sub => some (.int (zai (a - b)))
 | .mul => some (.int (zai (a * b)))
 | .eql => some (.bool (a == b))
 | .neq => some (.bool (a != b))
 | .lss => some (.bool (decide (a < b)))
 | .leq => some (.bool (decide (a ≤ b)))
 | .gtr => some (.bool (decide (a > b)))
 | .geq => some (.bool (decide (a ≥ b)))
 | .quo => if b = 0 then none else some (.int (zai (a.tdiv b)))
 | .rem => if b = 0 then none else some (.int (a.tmod b))
 | _ => none
def zwI (op:BinOp) (a b:Bool):Option AC :=
 match op with
 | .eql => some (.bool (a == b))
 | .neq => some (.bool (a != b))
 | _ => none
def zbV (cs:List AC) (off:Nat):List AC → List AC
 | [] => cs
 | x :: xs => zbV (cs.set off x) (off + 1) xs
def zha (L:Lay) (s:VS) (i:TI):List (Nat × Operand) → List AC → Option (List AC)
 | [],cs => some cs
 | (f,x) :: rest,cs =>
  match i.fields[f]?,zgA L s 0 x with
  | some (off,sz),some v => if v.cells.length = sz ∧ off + sz ≤ cs.length then zha L s i rest (zbV cs off v.cells) else none
  | _,_ => none
def zkg (L:Lay) (s:VS) (k:Nat):Nat → List (Nat × Operand) → Option (List (List AC))
 | _,[] => some []
 | j,(i,x) :: rest =>
  match zgA L s 0 x with
  | some v => if i = j ∧ v.cells.length = k then (zkg L s k (j + 1) rest).map (v.cells :: ·) else none
  | none => none
def zqW (L:Lay) (t:Nat) (v:SV):Bool :=
 match L.el t with
 | none => true
 | some _ => match v with
  | .cell (.sl _ _) => true
  | _ => false
def zeG (L:Lay) (s:VS):List Operand → List Nat → Option (List SV)
 | [],[] => some []
 | x :: xs,t :: ts => (zgA L s t x).bind fun v => if zqW L t v then (zeG L s xs ts).map (v :: ·) else none
 | _,_ => none
def zhr:Nat:=68719476736
def zaJ (L:Lay) (call:Orc) (o:Oper) (s:VS):Option VS :=
 match o.op with
 | .move x | .assign x => (zkB L s o.type x).map fun v => s.put o.dst v
 | .pick c a b => (zeO L s c).bind fun t => (if t then zgA L s o.type a else zgA L s o.type b).map fun v => s.put o.dst (.v v)
 | .alloc t => (L.ti t).map fun i => s.put o.dst (.box i.zero)
 | .box t x => (L.ti t).bind fun i => (zgA L s t x).bind fun v => if v.cells.length = i.size then some (s.put o.dst (.box v.cells)) else none
 | .build t ps => (L.ti t).bind fun i => if i.kind = 3 then (zha L s i ps.toList i.zero).map fun cs => s.put o.dst (.v (.agg cs)) else none
 | .buildSlice t n ps => (L.el t).bind fun e => (zkg L s e.size 0 ps.toList).bind fun r =>
   if r.length = n ∧ n ≤ 65536 ∧ 0 < e.size ∧ e.size ≤ 256 then some (s.put o.dst (.v (.cell (.sl e.size r)))) else none
 | .load t a => (L.ti t).bind fun i => (zfW s a).bind fun p =>
   match p with
   | .ref cs => if i.size ≤ cs.length then (mkV i (cs.take i.size)).map fun v => s.put o.dst (.v v) else none
   | .box d off => match s.get d with
    | .box cs => if off + i.size ≤ cs.length then (mkV i ((cs.drop off).take i.size)).map fun v => s.put o.dst (.v v) else none
    | _ => none
   | .el _ _ _ _ => none
 | .store t a x => (L.ti t).bind fun i => (zfW s a).bind fun p => (zgA L s t x).bind fun v =>
   match p with
   | .box d off => match s.get d with
    | .box cs => if off + i.size ≤ cs.length ∧ v.cells.length = i.size then some { s with σ:=s.σ.set d (.box (zbV cs off v.cells)) } else none
    | _ => none
   | _ => none
 | .binOp op t x y _ => match zeO L s x with
  | some a => (L.ti t).bind fun i => if i.kind = 1 then (zeO L s y).bind fun b => (zwI op a b).map fun c => s.put o.dst (.v (.cell c)) else none
  | none => (zeL L s x).bind fun a => (zeL L s y).bind fun b => (zsJ op a b).map fun c => s.put o.dst (.v (.cell c))
 | .unOp .not _ x => (zeO L s x).map fun b => s.put o.dst (.v (.cell (.bool (!b))))
 | .fieldAddr t x f => (L.ti t).bind fun i => (zfW s x).bind fun p => (i.fields[f]?).bind fun f =>
   match o.dst with
   | some d => if d < s.σ.length ∧ p.at d = false ∧ i.kind = 3 ∧ p.fits f.1 = true then
     let s':=s.put (some d) .und
     some { s' with pe:=(d,match p with | .box b off => .box b (off + f.1) | .ref cs => .ref (cs.drop f.1) | p => p) :: s'.pe }
    else none
   | none => none
 | .indexAddr t x ix => (L.el t).bind fun e => (zgQ L s t x).bind fun (k,r) => (zeL L s ix).bind fun n =>
   if 0 ≤ n ∧ n < r.length ∧ k = e.size then
    match o.dst with
    | some d => if d < s.σ.length then
      let s':=s.put (some d) .und
      some { s' with pe:=(d,.ref (r.getD n.toNat [])) :: s'.pe }
     else none
    | none => none
   else none
 | .slice t x lo hi none => (L.el t).bind fun e => (zgQ L s t x).bind fun (k,r) =>
   (match lo with | none => some 0 | some l => zeL L s l).bind fun l => (match hi with | none => some (r.length:Int) | some h => zeL L s h).bind fun h =>
    if 0 ≤ l ∧ l ≤ h ∧ h ≤ r.length ∧ k = e.size then some (s.put o.dst (.v (.cell (.sl k ((r.drop l.toNat).take (h.toNat - l.toNat)))))) else none
 | .extract (.tmp t) i => match s.get t with
  | .tup vs => (vs[i]?).map fun v => s.put o.dst (.v v)
  | _ => none
 | .makeSlice t l c => (L.el t).bind fun e => (zeL L s l).bind fun l => (zeL L s c).bind fun c =>
   if 0 ≤ l ∧ l ≤ c ∧ c ≤ zhr ∧ 0 < e.size then some (s.put o.dst (.v (.cell (.sl e.size (List.replicate l.toNat e.zero))))) else none
 | .call { callee:=.builtin .len,args,argTypes } => match args.toList with
  | [x] => if argTypes.size = 1 then (L.el (argTypes.getD 0 0)).bind fun _ => (zgQ L s (argTypes.getD 0 0) x).map fun (_,r) => s.put o.dst (.v (.cell (.int r.length))) else none
  | _ => none
 | .call { callee:=.builtin .append,args,argTypes } => match args.toList with
  | [x,y] => (L.el (argTypes.getD 0 0)).bind fun e => (zgQ L s (argTypes.getD 0 0) x).bind fun (k,r) => (zgQ L s (argTypes.getD 0 0) y).bind fun (k',r') =>
    if k = e.size ∧ k' = e.size ∧ argTypes.getD 0 0 = argTypes.getD 1 0 ∧ argTypes.size = 2 ∧ 0 < e.size ∧ (r ++ r').length ≤ zhr then some (s.put o.dst (.v (.cell (.sl k (r ++ r'))))) else none
  | _ => none
 | .call { callee:=.builtin .max,args,argTypes:=_ } => match args.toList with
  | [x,y] => (zeL L s x).bind fun a => (zeL L s y).map fun b => s.put o.dst (.v (.cell (.int (zpB a b))))
  | _ => none
 | .call { callee:=.value (.func f),args,argTypes } => (zeG L s args.toList argTypes.toList).bind fun vs => (call f vs).map fun r => s.put o.dst r
 | _ => none
def zfE (s:VS) (i:Nat):Option (Nat × Nat × List (List AC)) :=
 match s.get i with
 | .arr k r => some (i,k,r)
 | .al d => match s.get d with
  | .arr k r => some (d,k,r)
  | _ => none
 | _ => none
def zgj (s:VS):Operand → Option (Nat × Nat × List (List AC))
 | .tmp i => zfE s i
 | _ => none
def ztC (s:VS) (x:Operand):Bool:=match zfW s x with
 | some (.el _ _ _ _) => true
 | _ => false
def zeB (L:Lay) (o:Oper) (s:VS):Bool :=
 match o.op with
 | .move x | .assign x => (zgj s x).isSome
 | .load _ x => ztC s x
 | .store _ x _ => ztC s x
 | .indexAddr _ x _ => (zgj s x).isSome
 | .makeSlice _ _ _ => L.home 0 o.dst
 | .call { callee:=.builtin .len,args,.. } => args.toList.any fun x => (zgj s x).isSome
 | .call { callee:=.value (.func f),args,.. } => L.home (f + 1) o.dst || args.toList.any fun x => (zgj s x).isSome
 | _ => false
def zk3:AC → Bool
 | .sl _ _ => false
 | _ => true
def znk (v:SV):Bool:=v.cells.all zk3
mutual
/-- No row of size k is in it. -/
def apC (k:Nat):AC → Bool
 | .sl j rows => !(Nat.beq j k) && apR k rows
 | .int _ => true
 | .bool _ => true
def apR (k:Nat):List (List AC) → Bool
 | [] => true
 | r :: rs => apL k r && apR k rs
def apL (k:Nat):List AC → Bool
 | [] => true
 | c :: cs => apC k c && apL k cs
end
def zoq:AV → Bool
 | .v x => znk x
 | .tup xs => xs.all znk
 | _ => false
def svA (L:Lay) (s:VS) (t:Nat) (x:Operand):Option SV :=
 match zgj s x with
 | some (_,k,r) => some (.cell (.sl k r))
 | none => zgA L s t x
def zn2 (L:Lay) (s:VS):List Operand → List Nat → Option (List SV)
 | [],[] => some []
 | x :: xs,t :: ts => (svA L s t x).bind fun v => if zqW L t v then (zn2 L s xs ts).map (v :: ·) else none
 | _,_ => none
def zfd (L:Lay) (call:Orc) (o:Oper) (s:VS):Option VS :=
 match o.op with
 | .move x | .assign x => (zgj s x).bind fun (d0,_,_) => match o.dst with
  | some d => if d ≠ d0 then some (s.put (some d) (.al d0)) else none
  | none => none
 | .load t a => (L.ti t).bind fun i => (zfW s a).bind fun p =>
   match p with
   | .el d0 k n j => match s.get d0 with
    | .arr k' r => if k = k' ∧ n < r.length ∧ j + i.size ≤ k then (mkV i (((r.getD n []).drop j).take i.size)).map fun v => s.put o.dst (.v v) else none
    | _ => none
   | _ => none
 | .store t a x => (L.ti t).bind fun i => (zfW s a).bind fun p => (zgA L s t x).bind fun v =>
   match p with
   | .el d0 k n j => match s.get d0 with
    | .arr k' r => if k = k' ∧ n < r.length ∧ j + i.size ≤ k ∧ v.cells.length = i.size then some { s with σ:=s.σ.set d0 (.arr k (r.set n (zbV (r.getD n []) j v.cells))) } else none
    | _ => none
   | _ => none
 | .indexAddr t x ix => (L.el t).bind fun e => (zgj s x).bind fun (d0,k,r) => (zeL L s ix).bind fun n =>
   if 0 ≤ n ∧ n < r.length ∧ k = e.size then
    match o.dst with
    | some d => if d < s.σ.length ∧ d ≠ d0 then
      let s':=s.put (some d) .und
      some { s' with pe:=(d,.el d0 k n.toNat 0) :: s'.pe }
     else none
    | none => none
   else none
 | .makeSlice t l c => (L.el t).bind fun e => (zeL L s l).bind fun l => (zeL L s c).bind fun c =>
   match o.dst with
   | some d => if 0 ≤ l ∧ l ≤ c ∧ c ≤ zhr ∧ 0 < e.size ∧ apL e.size e.zero = true then some (s.put (some d) (.arr e.size (List.replicate l.toNat e.zero))) else none
   | none => none
 | .call { callee:=.builtin .len,args,argTypes } => match args.toList with
  | [x] => if argTypes.size = 1 then (L.el (argTypes.getD 0 0)).bind fun _ => (zgj s x).map fun (_,_,r) => s.put o.dst (.v (.cell (.int r.length))) else none
  | _ => none
 | .call { callee:=.value (.func f),args,argTypes } =>
   if L.home (f + 1) o.dst then (zeG L s args.toList argTypes.toList).bind fun vs => (call f vs).bind fun r => (L.el o.type).bind fun e =>
    match r with
    | .v (.cell (.sl k rows)) => match o.dst with
     | some d => if k = e.size ∧ apR k rows = true ∧ 0 < e.size then some (s.put (some d) (.arr k rows)) else none
     | none => none
    | _ => none
   else if L.lent f then (zn2 L s args.toList argTypes.toList).bind fun vs => (call f vs).bind fun r => if zoq r then some (s.put o.dst r) else none else none
 | _ => none
def vop (L:Lay) (call:Orc) (o:Oper) (s:VS):Option VS:=if zeB L o s then zfd L call o s else zaJ L call o s
def zcb (ops:List Oper) (s:VS) (g:Nat × Bool):Option Bool :=
 match ops[g.1]? with
 | some o => match o.dst with
  | some d => match s.get d with
   | .v (.cell (.bool b)) => some (b == g.2)
   | .und => some false
   | _ => none
  | none => none
 | none => none
def zhC (L:Lay) (call:Orc) (all:List Oper):List Oper → VS → Option VS
 | [],s => some s
 | o :: rest,s =>
  match o.guard with
  | none => (vop L call o s).bind (zhC L call all rest)
  | some g => (zcb all s g).bind fun t => (if t then vop L call o s else some (s.put o.dst .und)).bind (zhC L call all rest)
def zdi (L:Lay) (call:Orc) (all:List Oper):List Oper → VS → Option VS
 | [],s => some s
 | o :: rest,s =>
  match o.guard with
  | none => (zaJ L call o s).bind (zdi L call all rest)
  | some g => (zcb all s g).bind fun t => (if t then zaJ L call o s else some (s.put o.dst .und)).bind (zdi L call all rest)
def zbB:AV → Bool
 | .arr _ _ => true
 | .al _ => true
 | _ => false
def zbF:Nat:=4294967296
def zhm (s:List AV):List AV:=s.map fun x => if zbB x then .al zbF else x
def zd3 (s:List AV):AV → AV
 | .arr k r => .v (.cell (.sl k r))
 | .al d => match s.getD d .und with
  | .arr k r => .v (.cell (.sl k r))
  | _ => .al zbF
 | x => x
def zh2 (s:List AV):List AV:=s.map (zd3 s)
def Lay.rows (L:Lay) (ops:List Oper):List Nat :=
 match ops with
 | { dst:=some d,.. } :: _ => match L.draws.find? fun e => Nat.beq e.1 d && Nat.beq e.2.1 ops.length with
  | some e => e.2.2
  | none => []
 | _ => []
def zgh (H:List Nat) (o:Oper):Option (Nat × Nat) :=
 match o.op,o.dst with
 | .move (.tmp z),some d => if H.any (fun e => Nat.beq e z) then some (d,z) else none
 | _,_ => none
def zzC:List Oper → Bool
 | [o,o'] => (match o.op,o.dst,o'.op,o'.dst with
  | .indexAddr _ _ _,some d,.store _ (.tmp x) _,none => Nat.beq d x && o.guard.isNone && o'.guard.isNone
  | _,_,_,_ => false)
 | _ => false
def zdA (ops:List Oper):Nat:=if zzC (ops.drop (ops.length - 2)) then ops.length - 2 else ops.length
def zy7 (o:Oper):Bool:=match o.op with | .store _ _ _ => true | _ => false
def zxN (L:Lay) (ops:List Oper):Bool:=ops.any (fun o => (zgh (L.rows ops) o).isSome) && !(ops.take (zdA ops)).any zy7
def ziR (t:Nat) (o:Oper):Bool:=match o.dst with
 | some d => Nat.beq d t
 | none => false
def zdL (H:List Nat) (core:List Oper) (s:List AV) (s1:VS) (t:Nat) (x:AV):Option AV :=
 match core.find? (ziR t) with
 | none => some x
 | some o => match zgh H o,o.guard with
  | some (_,z),none => (match zfE { σ:=s,pe:=[] } z,s1.get t with
   | some (d,_,_),.v (.cell (.sl _ _)) => some (.al d)
   | _,_ => none)
  | _,_ => match s1.get t with
   | .v (.cell c) => if zk3 c then some (.v (.cell c)) else some (.al zbF)
   | .und => some .und
   | _ => none
def ziT (f:Nat → AV → Option AV):Nat → List AV → Option (List AV)
 | _,[] => some []
 | t,x :: xs => (f t x).bind fun y => (ziT f (t + 1) xs).map (y :: ·)
def zjo (L:Lay) (call:Orc) (ops:List Oper) (s:List AV):Option (List AV) :=
 if zxN L ops then
  (zdi L call ops (ops.take (zdA ops)) { σ:=zh2 s,pe:=[] }).bind fun s1 =>
  (ziT (zdL (L.rows ops) (ops.take (zdA ops)) s s1) 0 s).bind fun s2 => (zhC L call ops (ops.drop (zdA ops)) { σ:=s2,pe:=[] }).map (·.σ)
 else (zdi L call ops ops { σ:=zhm s,pe:=[] }).map (·.σ)
inductive Xt where
 | norm
 | exit (id:Nat)
 | ret
 deriving DecidableEq
def zbe (L:Lay) (call:Orc):Nat → Code → List AV → Option (Xt × List AV)
 | 0,_,_ => none
 | n + 1,c,s =>
  match c with
  | .skip => some (.norm,s)
  | .region _ ops d => if d then (zjo L call ops.toList s).map fun s => (.norm,s)
   else (zhC L call ops.toList ops.toList { σ:=s,pe:=[] }).map fun s => (.norm,s.σ)
  | .seq a b => (zbe L call n a s).bind fun r => match r with
   | (.norm,s') => zbe L call n b s'
   | r => some r
  | .cond x a b => (zeO L { σ:=s,pe:=[] } x).bind fun t => if t then zbe L call n a s else zbe L call n b s
  | .block id b => (zbe L call n b s).map fun r => match r with
   | (.exit i,s') => if i = id then (.norm,s') else (.exit i,s')
   | r => r
  | .loop b => (zbe L call n b s).bind fun r => match r with
   | (.norm,s') => zbe L call n (.loop b) s'
   | r => some r
  | .exit id => some (.exit id,s)
  | .ret => some (.ret,s)
  | _ => none
def zgo (L:Lay) (s:List AV):ResultVar → Option SV
 | .tmp t => match s.getD t .und with
  | .v x => some x
  | _ => (zfE { σ:=s,pe:=[] } t).map fun a => .cell (.sl a.2.1 a.2.2)
 | .cell t ty => match s.getD t .und with
  | .box cs => (L.ti ty).bind fun i => if i.size = cs.length then mkV i cs else none
  | _ => none
def zd1 (L:Lay) (s:List AV):List ResultVar → Option (List SV)
 | [] => some []
 | r :: rs => (zgo L s r).bind fun v => (zd1 L s rs).map (v :: ·)
def zjl (L:Lay) (call:Orc) (n:Nat) (fn:Func) (args:List SV):Option AV :=
 match fn.body with
 | none => none
 | some c => if args.length ≤ fn.ntmps then (zbe L call n c (args.map .v ++ List.replicate (fn.ntmps - args.length) .und)).bind fun r => match r with
  | (.exit _,_) => none
  | (_,s) => (zd1 L s fn.results.toList).map fun vs => match vs with
   | [v] => .v v
   | vs => .tup vs
  else none
structure zu9 where
 g:Option Nat
 agg:Bool
 sh:List AC
 agg':Bool
 sh':List AC
inductive Ext where
 | map (m:zu9)
 | fn (run:List SV → Option AV)
abbrev znO:=List (Nat × Ext)
def zua:List AC → List AC → Bool
 | [],[] => true
 | .int _ :: s,.int _ :: c => zua s c
 | .bool _ :: s,.bool _ :: c => zua s c
 | .sl k _ :: s,.sl k' _ :: c => Nat.beq k k' && zua s c
 | _,_ => false
def mkS (agg:Bool) (r:List AC):SV:=if agg then .agg r else .cell (r.headD default)
def zAE:SV → Bool
 | .agg _ => true
 | .cell _ => false
def zwg (call:Orc) (m:zu9) (r:List AC):Option (List AC) :=
 match m.g with
 | none => some r
 | some g => (call g [mkS m.agg r]).bind fun a => match a with
  | .v y => if zua m.sh' y.cells = true ∧ zAE y = m.agg' then some y.cells else none
  | _ => none
def zqE (call:Orc) (m:zu9):List (List AC) → Option (List (List AC))
 | [] => some []
 | r :: rs => (zwg call m r).bind fun x => (zqE call m rs).map (x :: ·)
def zig (call:Orc):Ext → List SV → Option AV
 | .fn run,args => run args
 | .map m,args => match args with
  | [.cell (.sl k rows)] => if k = m.sh.length ∧ rows.length ≤ 1048576 ∧ rows.all (zua m.sh) = true then (zqE call m rows).map fun rs => .v (.cell (.sl m.sh'.length rs)) else none
  | _ => none
def zeK (P:Program) (L:Lay) (F:Nat → Bool) (E:znO):Nat → Orc
 | 0,_,_ => none
 | n + 1,f,args => if F f then match P.funcs[f]? with
  | some fn => zjl L (zeK P L F E n) n fn args
  | none => none else match E.lookup f with
   | some e => zig (zeK P L F E n) e args
   | none => none
end Go.Proofs.Ytbodfaghedolbaa
namespace Go.Proofs.Ytbodfaghedolbaa
open Go
def Orc.le (a b:Orc):Prop:=∀ f x r,a f x = some r → b f x = some r
theorem zk9 {L:Lay} {c c':Orc} (h:c.le c') {o:Oper} {s s':VS} (hs:zaJ L c o s = some s'):zaJ L c' o s = some s':=by
 unfold zaJ at hs ⊢
 split <;> simp_all only [Option.bind_eq_some_iff,Option.map_eq_some_iff]
 obtain ⟨vs,h1,r,h2,h3⟩:=hs
 exact ⟨vs,h1,r,h _ _ _ h2,h3⟩
theorem zxA {L:Lay} {c c':Orc} (h:c.le c') {o:Oper} {s s':VS} (hs:zfd L c o s = some s'):zfd L c' o s = some s':=by
 unfold zfd at hs ⊢
 split at hs
 case h_8 =>
  split at hs
  ·rename_i hh
   rw [if_pos hh]
   simp only [Option.bind_eq_some_iff] at hs ⊢
   obtain ⟨vs,h1,r,h2,h3⟩:=hs
   exact ⟨vs,h1,r,h _ _ _ h2,h3⟩
  ·rename_i hh
   rw [if_neg hh]
   split at hs
   ·rename_i hl
    rw [if_pos hl]
    simp only [Option.bind_eq_some_iff] at hs ⊢
    obtain ⟨vs,h1,r,h2,h3⟩:=hs
    exact ⟨vs,h1,r,h _ _ _ h2,h3⟩
   ·cases hs
 all_goals exact hs
theorem zpZ {L:Lay} {c c':Orc} (h:c.le c') {o:Oper} {s s':VS} (hs:vop L c o s = some s'):vop L c' o s = some s':=by
 unfold vop at hs ⊢
 split at hs
 ·rename_i hi
  rw [if_pos hi]
  exact zxA h hs
 ·rename_i hi
  rw [if_neg hi]
  exact zk9 h hs
theorem zhg {L:Lay} {c c':Orc} (h:c.le c') {all:List Oper}:∀ {ops:List Oper} {s s':VS},zdi L c all ops s = some s' → zdi L c' all ops s = some s'
 | [],_,_,hs => hs
 | o :: rest,s,s',hs => by
  unfold zdi at hs ⊢
  split at hs
  ·rename_i hg
   simp only [Option.bind_eq_some_iff] at hs ⊢
   obtain ⟨s1,h1,h2⟩:=hs
   exact ⟨s1,zk9 h h1,zhg h h2⟩
  ·rename_i g hg
   simp only [Option.bind_eq_some_iff] at hs ⊢
   obtain ⟨t,h0,s1,h1,h2⟩:=hs
   refine ⟨t,h0,s1,?_,zhg h h2⟩
   cases t
   ·exact h1
   ·exact zk9 h h1
theorem zgi {L:Lay} {c c':Orc} (h:c.le c') {all:List Oper}:∀ {ops:List Oper} {s s':VS},zhC L c all ops s = some s' → zhC L c' all ops s = some s'
 | [],_,_,hs => hs
 | o :: rest,s,s',hs => by
  unfold zhC at hs ⊢
  split at hs
  ·rename_i hg
   simp only [Option.bind_eq_some_iff] at hs ⊢
   obtain ⟨s1,h1,h2⟩:=hs
   exact ⟨s1,zpZ h h1,zgi h h2⟩
  ·rename_i g hg
   simp only [Option.bind_eq_some_iff] at hs ⊢
   obtain ⟨t,h0,s1,h1,h2⟩:=hs
   refine ⟨t,h0,s1,?_,zgi h h2⟩
   cases t
   ·exact h1
   ·exact zpZ h h1
theorem znl {L:Lay} {c c':Orc} (h:c.le c') {ops:List Oper} {s s':List AV} (hs:zjo L c ops s = some s'):zjo L c' ops s = some s':=by
 unfold zjo at hs ⊢
 split at hs
 ·rename_i hr
  rw [if_pos hr]
  simp only [Option.bind_eq_some_iff,Option.map_eq_some_iff] at hs ⊢
  obtain ⟨s1,h1,s2,h2,s3,h3,h4⟩:=hs
  exact ⟨s1,zhg h h1,s2,h2,s3,zgi h h3,h4⟩
 ·rename_i hr
  rw [if_neg hr]
  simp only [Option.map_eq_some_iff] at hs ⊢
  obtain ⟨s1,h1,h2⟩:=hs
  exact ⟨s1,zhg h h1,h2⟩
theorem zct {L:Lay} {c c':Orc} (h:c.le c'):∀ {n m:Nat} {k:Code} {s:List AV} {r:Xt × List AV},n ≤ m → zbe L c n k s = some r → zbe L c' m k s = some r
 | 0,_,_,_,_,_,hs => by simp [zbe] at hs
 | n + 1,0,_,_,_,hm,_ => by omega
 | n + 1,m + 1,k,s,r,hm,hs => by
  have hm':n ≤ m:=by omega
  cases k <;> simp only [zbe] at hs ⊢ <;> try exact hs
  case region id ops d =>
   cases d
   ·simp only [Bool.false_eq_true,if_false,Option.map_eq_some_iff] at hs ⊢
    obtain ⟨s1,h1,h2⟩:=hs
    exact ⟨s1,zgi h h1,h2⟩
   ·simp only [if_true,Option.map_eq_some_iff] at hs ⊢
    obtain ⟨s1,h1,h2⟩:=hs
    exact ⟨s1,znl h h1,h2⟩
  case seq a b =>
   simp only [Option.bind_eq_some_iff] at hs ⊢
   obtain ⟨⟨e,s1⟩,h1,h2⟩:=hs
   refine ⟨_,zct h hm' h1,?_⟩
   cases e with
   | norm => exact zct h hm' h2
   | exit i => exact h2
   | ret => exact h2
  case cond x a b =>
   simp only [Option.bind_eq_some_iff] at hs ⊢
   obtain ⟨t,h1,h2⟩:=hs
   refine ⟨t,h1,?_⟩
   cases t
   ·exact zct h hm' h2
   ·exact zct h hm' h2
  case block id b =>
   simp only [Option.map_eq_some_iff] at hs ⊢
   obtain ⟨r1,h1,h2⟩:=hs
   exact ⟨r1,zct h hm' h1,h2⟩
  case loop b =>
   simp only [Option.bind_eq_some_iff] at hs ⊢
   obtain ⟨⟨e,s1⟩,h1,h2⟩:=hs
   refine ⟨_,zct h hm' h1,?_⟩
   cases e with
   | norm => exact zct h hm' h2
   | exit i => exact h2
   | ret => exact h2
theorem zvn {L:Lay} {c c':Orc} (h:c.le c') {n m:Nat} {fn:Func} {args:List SV} {r:AV} (hm:n ≤ m) (hs:zjl L c n fn args = some r):zjl L c' m fn args = some r:=by
 unfold zjl at hs ⊢
 split at hs
 ·exact hs
 ·rename_i k hk
  split at hs
  ·rename_i hlen
   rw [if_pos hlen]
   simp only [Option.bind_eq_some_iff] at hs ⊢
   obtain ⟨r1,h1,h2⟩:=hs
   exact ⟨r1,zct h hm h1,h2⟩
  ·cases hs
theorem zyf {c c':Orc} (h:c.le c') {m:zu9} {r x:List AC} (hs:zwg c m r = some x):zwg c' m r = some x:=by
 unfold zwg at hs ⊢
 split at hs
 ·exact hs
 ·simp only [Option.bind_eq_some_iff] at hs ⊢
  obtain ⟨a,h1,h2⟩:=hs
  exact ⟨a,h _ _ _ h1,h2⟩
theorem zrA {c c':Orc} (h:c.le c') {m:zu9}:∀ {rs xs:List (List AC)},zqE c m rs = some xs → zqE c' m rs = some xs
 | [],_,hs => hs
 | r :: rs,xs,hs => by
  simp only [zqE,Option.bind_eq_some_iff,Option.map_eq_some_iff] at hs ⊢
  obtain ⟨x,h1,ys,h2,h3⟩:=hs
  exact ⟨x,zyf h h1,ys,zrA h h2,h3⟩
theorem ztl {c c':Orc} (h:c.le c') {e:Ext} {args:List SV} {r:AV} (hs:zig c e args = some r):zig c' e args = some r:=by
 cases e with
 | fn run => exact hs
 | map m =>
  unfold zig at hs ⊢
  simp only at hs ⊢
  split at hs
  ·split at hs
   ·rename_i hc
    rw [if_pos hc]
    simp only [Option.map_eq_some_iff] at hs ⊢
    obtain ⟨rs,h1,h2⟩:=hs
    exact ⟨rs,zrA h h1,h2⟩
   ·cases hs
  ·cases hs
theorem zb1 {P:Program} {L:Lay} {F:Nat → Bool} {E:znO}:∀ {n m:Nat},n ≤ m → Orc.le (zeK P L F E n) (zeK P L F E m)
 | 0,_,_ => fun _ _ _ h => by simp [zeK] at h
 | n + 1,0,hm => by omega
 | n + 1,m + 1,hm => fun f x r h => by
  have hm':n ≤ m:=by omega
  simp only [zeK] at h ⊢
  split at h
  ·rename_i hF
   rw [if_pos hF]
   split at h
   ·exact zvn (zb1 hm') hm' h
   ·exact h
  ·rename_i hF
   rw [if_neg hF]
   split at h
   ·exact ztl (zb1 hm') h
   ·cases h
noncomputable def lim {α:Type} (g:Nat → Option α):Option α :=
 open Classical in if h:∃ n,(g n).isSome then g h.choose else none
def zvT {α:Type} (g:Nat → Option α):Prop:=∀ n m r,n ≤ m → g n = some r → g m = some r
theorem zna {α:Type} {g:Nat → Option α} (hg:zvT g) {r:α}:lim g = some r ↔ ∃ n,g n = some r:=by
 unfold lim
 constructor
 ·intro h
  split at h
  ·exact ⟨_,h⟩
  ·cases h
 ·rintro ⟨n,hn⟩
  have h:∃ n,(g n).isSome:=⟨n,by rw [hn]; rfl⟩
  rw [dif_pos h]
  obtain ⟨r',hr'⟩:=Option.isSome_iff_exists.1 h.choose_spec
  rw [hr']
  rcases Nat.le_total n h.choose with hle | hle
  ·rw [hg _ _ _ hle hn] at hr'; exact hr'.symm
  ·rw [hg _ _ _ hle hr'] at hn; exact hn
noncomputable def V (P:Program) (L:Lay) (F:Nat → Bool) (E:znO):Orc:=fun f x => lim fun n => zeK P L F E n f x
noncomputable def VC (P:Program) (L:Lay) (F:Nat → Bool) (E:znO) (k:Code) (s:List AV):Option (Xt × List AV):=lim fun n => zbe L (zeK P L F E n) n k s
section
variable {P:Program} {L:Lay} {F:Nat → Bool} {E:znO}
theorem zzD (f:FuncId) (x:List SV):zvT fun n => zeK P L F E n f x:=fun _ _ _ h hs => zb1 h _ _ _ hs
theorem zxJ (k:Code) (s:List AV):zvT fun n => zbe L (zeK P L F E n) n k s:=fun _ _ _ h hs => zct (zb1 h) h hs
theorem V_iff {f:FuncId} {x:List SV} {r:AV}:V P L F E f x = some r ↔ ∃ n,zeK P L F E n f x = some r:=zna (zzD f x)
theorem VC_iff {k:Code} {s:List AV} {r:Xt × List AV}:VC P L F E k s = some r ↔ ∃ n,zbe L (zeK P L F E n) n k s = some r:=zna (zxJ k s)
theorem zzl (n:Nat):Orc.le (zeK P L F E n) (V P L F E):=fun _ _ _ h => V_iff.2 ⟨n,h⟩
theorem zlE {o:Oper} {s s':VS} (h:zaJ L (V P L F E) o s = some s'):∃ n,zaJ L (zeK P L F E n) o s = some s':=by
 unfold zaJ at h ⊢
 split <;> simp_all only [Option.bind_eq_some_iff,Option.map_eq_some_iff,exists_const]
 obtain ⟨vs,h1,r,h2,h3⟩:=h
 obtain ⟨n,hn⟩:=V_iff.1 h2
 exact ⟨n,vs,h1,r,hn,h3⟩
theorem ztr {o:Oper} {s s':VS} (h:zfd L (V P L F E) o s = some s'):∃ n,zfd L (zeK P L F E n) o s = some s':=by
 unfold zfd at h ⊢
 split at h
 case h_8 =>
  split at h
  ·rename_i hh
   simp only [if_pos hh]
   simp only [Option.bind_eq_some_iff] at h ⊢
   obtain ⟨vs,h1,r,h2,h3⟩:=h
   obtain ⟨n,hn⟩:=V_iff.1 h2
   exact ⟨n,vs,h1,r,hn,h3⟩
  ·rename_i hh
   simp only [if_neg hh]
   split at h
   ·rename_i hl
    simp only [if_pos hl]
    simp only [Option.bind_eq_some_iff] at h ⊢
    obtain ⟨vs,h1,r,h2,h3⟩:=h
    obtain ⟨n,hn⟩:=V_iff.1 h2
    exact ⟨n,vs,h1,r,hn,h3⟩
   ·cases h
 all_goals exact ⟨0,h⟩
theorem zqA {o:Oper} {s s':VS} (h:vop L (V P L F E) o s = some s'):∃ n,vop L (zeK P L F E n) o s = some s':=by
 unfold vop at h ⊢
 split at h
 ·rename_i hi
  simp only [if_pos hi]
  exact ztr h
 ·rename_i hi
  simp only [if_neg hi]
  exact zlE h
theorem ziK {all:List Oper}:∀ {ops:List Oper} {s s':VS},zdi L (V P L F E) all ops s = some s' → ∃ n,zdi L (zeK P L F E n) all ops s = some s'
 | [],_,_,h => ⟨0,h⟩
 | o :: rest,s,s',h => by
  unfold zdi at h ⊢
  split at h
  ·simp only [Option.bind_eq_some_iff] at h ⊢
   obtain ⟨s1,h1,h2⟩:=h
   obtain ⟨n1,h1⟩:=zlE h1
   obtain ⟨n2,h2⟩:=ziK h2
   exact ⟨max n1 n2,s1,zk9 (zb1 (Nat.le_max_left _ _)) h1,zhg (zb1 (Nat.le_max_right _ _)) h2⟩
  ·simp only [Option.bind_eq_some_iff] at h ⊢
   obtain ⟨t,h0,s1,h1,h2⟩:=h
   obtain ⟨n2,h2⟩:=ziK h2
   cases t
   ·exact ⟨n2,false,h0,s1,h1,h2⟩
   ·obtain ⟨n1,h1⟩:=zlE h1
    exact ⟨max n1 n2,true,h0,s1,zk9 (zb1 (Nat.le_max_left _ _)) h1,zhg (zb1 (Nat.le_max_right _ _)) h2⟩
theorem zjB {all:List Oper}:∀ {ops:List Oper} {s s':VS},zhC L (V P L F E) all ops s = some s' → ∃ n,zhC L (zeK P L F E n) all ops s = some s'
 | [],_,_,h => ⟨0,h⟩
 | o :: rest,s,s',h => by
  unfold zhC at h ⊢
  split at h
  ·simp only [Option.bind_eq_some_iff] at h ⊢
   obtain ⟨s1,h1,h2⟩:=h
   obtain ⟨n1,h1⟩:=zqA h1
   obtain ⟨n2,h2⟩:=zjB h2
   exact ⟨max n1 n2,s1,zpZ (zb1 (Nat.le_max_left _ _)) h1,zgi (zb1 (Nat.le_max_right _ _)) h2⟩
  ·simp only [Option.bind_eq_some_iff] at h ⊢
   obtain ⟨t,h0,s1,h1,h2⟩:=h
   obtain ⟨n2,h2⟩:=zjB h2
   cases t
   ·exact ⟨n2,false,h0,s1,h1,h2⟩
   ·obtain ⟨n1,h1⟩:=zqA h1
    exact ⟨max n1 n2,true,h0,s1,zpZ (zb1 (Nat.le_max_left _ _)) h1,zgi (zb1 (Nat.le_max_right _ _)) h2⟩
theorem zr4 {ops:List Oper} {s s':List AV} (hs:zjo L (V P L F E) ops s = some s'):∃ n,zjo L (zeK P L F E n) ops s = some s':=by
 unfold zjo at hs ⊢
 split at hs
 ·rename_i hr
  simp only [if_pos hr]
  simp only [Option.bind_eq_some_iff,Option.map_eq_some_iff] at hs ⊢
  obtain ⟨s1,h1,s2,h2,s3,h3,h4⟩:=hs
  obtain ⟨n1,h1⟩:=ziK h1
  obtain ⟨n2,h3⟩:=zjB h3
  exact ⟨max n1 n2,s1,zhg (zb1 (Nat.le_max_left _ _)) h1,s2,h2,s3,zgi (zb1 (Nat.le_max_right _ _)) h3,h4⟩
 ·rename_i hr
  simp only [if_neg hr]
  simp only [Option.map_eq_some_iff] at hs ⊢
  obtain ⟨s1,h1,h2⟩:=hs
  obtain ⟨n,hn⟩:=ziK h1
  exact ⟨n,s1,hn,h2⟩
theorem ze0 {α:Type} {a b:Option α} (h:∀ r,a = some r ↔ b = some r):a = b:=Option.ext (by simpa using h)
theorem zwY (s:List AV):VC P L F E .skip s = some (.norm,s):=VC_iff.2 ⟨1,rfl⟩
theorem zw4 (id:Nat) (s:List AV):VC P L F E (.exit id) s = some (.exit id,s):=VC_iff.2 ⟨1,rfl⟩
theorem zyX (s:List AV):VC P L F E .ret s = some (.ret,s):=VC_iff.2 ⟨1,rfl⟩
theorem zt1 (id:Nat) (ops:Array Oper) (s:List AV) :
  VC P L F E (.region id ops false) s = (zhC L (V P L F E) ops.toList ops.toList { σ:=s,pe:=[] }).map fun s => (.norm,s.σ):=by
 refine ze0 fun r => ?_
 rw [VC_iff]
 constructor
 ·rintro ⟨n,hn⟩
  cases n with
  | zero => simp [zbe] at hn
  | succ n =>
   simp only [zbe,Bool.false_eq_true,if_false,Option.map_eq_some_iff] at hn ⊢
   obtain ⟨s1,h1,h2⟩:=hn
   exact ⟨s1,zgi (zzl _) h1,h2⟩
 ·intro h
  simp only [Option.map_eq_some_iff] at h
  obtain ⟨s1,h1,h2⟩:=h
  obtain ⟨n,hn⟩:=zjB h1
  refine ⟨n + 1,?_⟩
  simp only [zbe,Bool.false_eq_true,if_false,Option.map_eq_some_iff]
  exact ⟨s1,zgi (zb1 (Nat.le_succ n)) hn,h2⟩
theorem zuj (id:Nat) (ops:Array Oper) (s:List AV) :
  VC P L F E (.region id ops true) s = (zjo L (V P L F E) ops.toList s).map fun s => (.norm,s):=by
 refine ze0 fun r => ?_
 rw [VC_iff]
 constructor
 ·rintro ⟨n,hn⟩
  cases n with
  | zero => simp [zbe] at hn
  | succ n =>
   simp only [zbe,if_true,Option.map_eq_some_iff] at hn ⊢
   obtain ⟨s1,h1,h2⟩:=hn
   exact ⟨s1,znl (zzl _) h1,h2⟩
 ·intro h
  simp only [Option.map_eq_some_iff] at h
  obtain ⟨s1,h1,h2⟩:=h
  obtain ⟨n,hn⟩:=zr4 h1
  refine ⟨n + 1,?_⟩
  simp only [zbe,if_true,Option.map_eq_some_iff]
  exact ⟨s1,znl (zb1 (Nat.le_succ n)) hn,h2⟩
noncomputable def andThen (P:Program) (L:Lay) (F:Nat → Bool) (E:znO) (k:Code):Xt × List AV → Option (Xt × List AV)
 | (.norm,s) => VC P L F E k s
 | r => some r
theorem zjf {n:Nat} {k:Code} {s:List AV} {r:Xt × List AV} (h:zbe L (zeK P L F E (n + 1)) n k s = some r):VC P L F E k s = some r :=
 VC_iff.2 ⟨n + 1,zct (fun _ _ _ h => h) (Nat.le_succ n) h⟩
theorem zjw {k:Code} {s:List AV} {r:Xt × List AV} (h:VC P L F E k s = some r):∃ n,∀ m,n ≤ m → zbe L (zeK P L F E (m + 1)) m k s = some r:=by
 obtain ⟨n,hn⟩:=VC_iff.1 h
 exact ⟨n,fun m hm => zct (zb1 (by omega)) hm hn⟩
theorem zvu {a b:Code} {s:List AV} {c:Code} (hc:∀ n,zbe L (zeK P L F E (n + 1)) (n + 1) c s = (zbe L (zeK P L F E (n + 1)) n a s).bind fun r => match r with
   | (.norm,s') => zbe L (zeK P L F E (n + 1)) n b s'
   | r => some r):VC P L F E c s = (VC P L F E a s).bind (andThen P L F E b):=by
 refine ze0 fun r => ?_
 simp only [Option.bind_eq_some_iff]
 constructor
 ·intro h
  obtain ⟨n,hn⟩:=VC_iff.1 h
  have hn:=zct (L:=L) (zb1 (P:=P) (Nat.le_succ n)) (Nat.le_succ n) hn
  rw [hc] at hn
  simp only [Option.bind_eq_some_iff] at hn
  obtain ⟨⟨e,s1⟩,h1,h2⟩:=hn
  refine ⟨_,zjf h1,?_⟩
  cases e with
  | norm => exact zjf h2
  | exit i => exact h2
  | ret => exact h2
 ·rintro ⟨⟨e,s1⟩,h1,h2⟩
  obtain ⟨n1,h1⟩:=zjw h1
  cases e with
  | norm =>
   obtain ⟨n2,h2⟩:=zjw (P:=P) (L:=L) (k:=b) h2
   refine VC_iff.2 ⟨max n1 n2 + 1,?_⟩
   rw [hc]
   simp only [Option.bind_eq_some_iff]
   exact ⟨_,h1 _ (Nat.le_max_left _ _),h2 _ (Nat.le_max_right _ _)⟩
  | exit i =>
   refine VC_iff.2 ⟨n1 + 1,?_⟩
   rw [hc]
   simp only [Option.bind_eq_some_iff]
   exact ⟨_,h1 _ (Nat.le_refl _),h2⟩
  | ret =>
   refine VC_iff.2 ⟨n1 + 1,?_⟩
   rw [hc]
   simp only [Option.bind_eq_some_iff]
   exact ⟨_,h1 _ (Nat.le_refl _),h2⟩
theorem zy5 (a b:Code) (s:List AV):VC P L F E (.seq a b) s = (VC P L F E a s).bind (andThen P L F E b):=zvu fun _ => rfl
theorem zxn (b:Code) (s:List AV):VC P L F E (.loop b) s = (VC P L F E b s).bind (andThen P L F E (.loop b)):=zvu fun _ => rfl
theorem zxW (x:Operand) (a b:Code) (s:List AV) :
  VC P L F E (.cond x a b) s = (zeO L { σ:=s,pe:=[] } x).bind fun t => if t then VC P L F E a s else VC P L F E b s:=by
 refine ze0 fun r => ?_
 simp only [Option.bind_eq_some_iff]
 constructor
 ·intro h
  obtain ⟨n,hn⟩:=VC_iff.1 h
  have hn:=zct (L:=L) (zb1 (P:=P) (Nat.le_succ n)) (Nat.le_succ n) hn
  simp only [zbe,Option.bind_eq_some_iff] at hn
  obtain ⟨t,h1,h2⟩:=hn
  refine ⟨t,h1,?_⟩
  cases t
  ·exact zjf h2
  ·exact zjf h2
 ·rintro ⟨t,h1,h2⟩
  cases t
  ·obtain ⟨n,h2⟩:=zjw (P:=P) (L:=L) (k:=b) h2
   refine VC_iff.2 ⟨n + 1,?_⟩
   simp only [zbe,Option.bind_eq_some_iff]
   exact ⟨false,h1,h2 _ (Nat.le_refl _)⟩
  ·obtain ⟨n,h2⟩:=zjw (P:=P) (L:=L) (k:=a) h2
   refine VC_iff.2 ⟨n + 1,?_⟩
   simp only [zbe,Option.bind_eq_some_iff]
   exact ⟨true,h1,h2 _ (Nat.le_refl _)⟩
def zq4 (id:Nat):Xt × List AV → Xt × List AV
 | (.exit i,s) => if i = id then (.norm,s) else (.exit i,s)
 | r => r
theorem zuT (id:Nat) (b:Code) (s:List AV):VC P L F E (.block id b) s = (VC P L F E b s).map (zq4 id):=by
 refine ze0 fun r => ?_
 simp only [Option.map_eq_some_iff]
 constructor
 ·intro h
  obtain ⟨n,hn⟩:=VC_iff.1 h
  have hn:=zct (L:=L) (zb1 (P:=P) (Nat.le_succ n)) (Nat.le_succ n) hn
  simp only [zbe,Option.map_eq_some_iff] at hn
  obtain ⟨t,h1,h2⟩:=hn
  exact ⟨t,zjf h1,h2⟩
 ·rintro ⟨t,h1,h2⟩
  obtain ⟨n,h1⟩:=zjw h1
  refine VC_iff.2 ⟨n + 1,?_⟩
  simp only [zbe,Option.map_eq_some_iff]
  exact ⟨t,h1 _ (Nat.le_refl _),h2⟩
def zuy (L:Lay) (fn:Func):Xt × List AV → Option AV
 | (.exit _,_) => none
 | (_,s) => (zd1 L s fn.results.toList).map fun vs => match vs with
   | [v] => .v v
   | vs => .tup vs
theorem zAG {f:FuncId} {fn:Func} {c:Code} (hF:F f = true) (hf:P.funcs[f]? = some fn) (hb:fn.body = some c) (x:List SV) (hx:x.length ≤ fn.ntmps) :
  V P L F E f x = (VC P L F E c (x.map .v ++ List.replicate (fn.ntmps - x.length) .und)).bind (zuy L fn):=by
 refine ze0 fun r => ?_
 simp only [Option.bind_eq_some_iff]
 constructor
 ·intro h
  obtain ⟨n,hn⟩:=V_iff.1 h
  cases n with
  | zero => simp [zeK] at hn
  | succ n =>
   simp only [zeK,hF,if_true,hf,zjl,hb,if_pos hx,Option.bind_eq_some_iff] at hn
   obtain ⟨⟨e,s1⟩,h1,h2⟩:=hn
   exact ⟨_,VC_iff.2 ⟨n,h1⟩,by cases e <;> exact h2⟩
 ·rintro ⟨⟨e,s1⟩,h1,h2⟩
  obtain ⟨n,hn⟩:=VC_iff.1 h1
  refine V_iff.2 ⟨n + 1,?_⟩
  simp only [zeK,hF,if_true,hf,zjl,hb,if_pos hx,Option.bind_eq_some_iff]
  exact ⟨_,hn,by cases e <;> exact h2⟩
end
end Go.Proofs.Ytbodfaghedolbaa
namespace Go.Proofs.Ytbodfaghedolbaa
open Go
section
variable {P:Program} {L:Lay} {F:Nat → Bool} {E:znO}
end
theorem zwq {n:Int} (h1:-9223372036854775808 ≤ n) (h2:n ≤ 9223372036854775807):zai n = n:=by
 unfold zai
 rw [IntKind.wrap_i64]
 omega
end Go.Proofs.Ytbodfaghedolbaa
