/- Generic texts and models for the proofs of this seat: part 1. -/
import Derived.Says
import Derived.IntWalk
set_option linter.unusedVariables false
set_option linter.unusedSimpArgs false
namespace Go.Proofs.YtkgbadeobdbinaaGreat
theorem zzOb {α β:Type _}{o:Option α}{f:α→Option β}{b:β}:o.bind f=some b↔∃a,o=some a∧f a=some b:=Option.bind_eq_some_iff
theorem zzOm {α β:Type _}{o:Option α}{f:α→β}{b:β}:o.map f=some b↔∃a,o=some a∧f a=b:=Option.map_eq_some_iff
section
open Go
inductive AC where
 | int (n:Int)
 | bool (b:Bool)
 | sl (k:Nat) (rows:List (List AC))
 deriving Inhabited
inductive SV where
 | cell (c:AC)
 | agg (cs:List AC)
 deriving Inhabited
inductive AV where
 | und
 | v (s:SV)
 | tup (vs:List SV)
 | box (cs:List AC)
 | arr (k:Nat) (rows:List (List AC))
 | al (d:Nat)
 deriving Inhabited
def zkS:AV→Bool
 | .v _=>true
 | .tup _=>true
 | _=>false
def SV.cells:SV→List AC
 | .cell c=>[c]
 | .agg cs=>cs
inductive Ptr where
 | box (d off:Nat)
 | ref (cs:List AC)
 | el (d k n j:Nat)
structure TI where
 kind:Nat
 size:Nat
 zero:List AC
 fields:List (Nat×Nat)
 elem:Nat
 deriving Inhabited
structure Lay where
 tys:List (Nat×TI)
 homes:List (Nat×Nat)
 lends:List Nat
 draws:List (Nat×Nat×List Nat)
def Lay.ti (L:Lay) (t:Nat):Option TI:=L.tys.lookup t
def Lay.home (L:Lay) (c:Nat) (d:Option Nat):Bool:=match d with
 | some d=>L.homes.any fun e=>Nat.beq e.1 c&&Nat.beq e.2 d
 | none=>false
def Lay.lent (L:Lay) (f:Nat):Bool:=L.lends.any fun e=>Nat.beq e f
def Lay.el (L:Lay) (t:Nat):Option TI:=(L.ti t).bind fun i=>if i.kind=2 then L.ti i.elem else none
structure VS where
 σ:List AV
 pe:List (Nat×Ptr)
abbrev Orc:=FuncId→List SV→Option AV
def VS.get (s:VS) (i:Nat):AV:=s.σ.getD i .und
def Ptr.at (p:Ptr) (d:Nat):Bool :=
 match p with
 | .box b _=>b==d
 | .ref _=>false
 | .el b _ _ _=>b==d
def Ptr.fits (p:Ptr) (n:Nat):Bool :=
 match p with
 | .ref cs=>decide (n≤cs.length)
 | .box _ _=>true
 | .el _ _ _ _=>false
def VS.put (s:VS) (d:Option Nat) (x:AV):VS :=
 match d with
 | some d=>{σ:=s.σ.set d x,pe:=s.pe.filter fun e=>!(e.1==d)&&!e.2.at d}
 | none=>s
def zae (n:Int):Int:=IntKind.i64.wrap n
def zvz (L:Lay) (t:Nat):Value→Option SV
 | .int .i64 n=>some (.cell (.int n))
 | .bool b=>some (.cell (.bool b))
 | .slice none 0 0=>(L.el t).map fun e=>.cell (.sl e.size [])
 | _=>none
def zjq (L:Lay) (s:VS) (t:Nat):Operand→Option SV
 | .tmp i=>match s.get i with
  | .v x=>some x
  | _=>none
 | .const v=>zvz L t v
 | _=>none
def zoM (L:Lay) (s:VS) (t:Nat):Operand→Option AV
 | .tmp i=>match s.get i with
  | .v x=>some (.v x)
  | .tup xs=>some (.tup xs)
  | _=>none
 | x=>(zjq L s t x).map .v
def zuo (a b:Int):Int:=if b>a then b else a
def zgk (L:Lay) (s:VS) (x:Operand):Option Int :=
 match zjq L s 0 x with
 | some (.cell (.int n))=>some n
 | _=>none
def zg9 (L:Lay) (s:VS) (x:Operand):Option Bool :=
 match zjq L s 0 x with
 | some (.cell (.bool b))=>some b
 | _=>none
def zj7 (L:Lay) (s:VS) (t:Nat) (x:Operand):Option (Nat×List (List AC)) :=
 match zjq L s t x with
 | some (.cell (.sl k r))=>some (k,r)
 | _=>none
def ziS (s:VS):Operand→Option Ptr
 | .tmp i=>match s.pe.lookup i with
  | some p=>some p
  | none=>match s.get i with
   | .box _=>some (.box i 0)
   | _=>none
 | _=>none
def mkV (i:TI) (cs:List AC):Option SV :=
 if i.kind=3 then some (.agg cs) else match cs with
  | [c]=>some (.cell c)
  | _=>none
def zxB (op:BinOp) (a b:Int):Option AC :=
 match op with
 | .add=>some (.int (zae (a+b)))
 | .sub=>some (.int (zae (a-b)))
 | .mul=>some (.int (zae (a*b)))
 | .eql=>some (.bool (a==b))
 | .neq=>some (.bool (a != b))
 | .lss=>some (.bool (decide (a<b)))
 | .leq=>some (.bool (decide (a≤b)))
 | .gtr=>some (.bool (decide (a>b)))
 | .geq=>some (.bool (decide (a≥b)))
 | .quo=>if b=0 then none else some (.int (zae (a.tdiv b)))
 | .rem=>if b=0 then none else some (.int (a.tmod b))
 | _=>none
def zEp (op:BinOp) (a b:Bool):Option AC :=
 match op with
 | .eql=>some (.bool (a==b))
 | .neq=>some (.bool (a != b))
 | _=>none
def zce (cs:List AC) (off:Nat):List AC→List AC
 | []=>cs
 | x::xs=>zce (cs.set off x) (off+1) xs
def zjQ (L:Lay) (s:VS) (i:TI):List (Nat×Operand)→List AC→Option (List AC)
 | [],cs=>some cs
 | (f,x)::rest,cs =>
  match i.fields[f]?,zjq L s 0 x with
  | some (off,sz),some v=>if v.cells.length=sz∧off+sz≤cs.length then zjQ L s i rest (zce cs off v.cells) else none
  | _,_=>none
def zn8 (L:Lay) (s:VS) (k:Nat):Nat→List (Nat×Operand)→Option (List (List AC))
 | _,[]=>some []
 | j,(i,x)::rest =>
  match zjq L s 0 x with
  | some v=>if i=j∧v.cells.length=k then(zn8 L s k (j+1) rest).map (v.cells::·) else none
  | none=>none
def zv4 (L:Lay) (t:Nat) (v:SV):Bool :=
 match L.el t with
 | none=>true
 | some _=>match v with
  | .cell (.sl _ _)=>true
  | _=>false
def zgd (L:Lay) (s:VS):List Operand→List Nat→Option (List SV)
 | [],[]=>some []
 | x::xs,t::ts=>(zjq L s t x).bind fun v=>if zv4 L t v then(zgd L s xs ts).map (v::·) else none
 | _,_=>none
def zkQ:Nat:=68719476736
def zaS (L:Lay) (call:Orc) (o:Oper) (s:VS):Option VS :=
 match o.op with
 | .move x|.assign x=>(zoM L s o.type x).map fun v=>s.put o.dst v
 | .pick c a b=>(zg9 L s c).bind fun t=>(if t then zjq L s o.type a else zjq L s o.type b).map fun v=>s.put o.dst (.v v)
 | .alloc t=>(L.ti t).map fun i=>s.put o.dst (.box i.zero)
 | .box t x=>(L.ti t).bind fun i=>(zjq L s t x).bind fun v=>if v.cells.length=i.size then some (s.put o.dst (.box v.cells)) else none
 | .build t ps=>(L.ti t).bind fun i=>if i.kind=3 then(zjQ L s i ps.toList i.zero).map fun cs=>s.put o.dst (.v (.agg cs)) else none
 | .buildSlice t n ps=>(L.el t).bind fun e=>(zn8 L s e.size 0 ps.toList).bind fun r =>
   if r.length=n∧n≤65536∧0<e.size∧e.size≤256 then some (s.put o.dst (.v (.cell (.sl e.size r)))) else none
 | .load t a=>(L.ti t).bind fun i=>(ziS s a).bind fun p =>
   match p with
   | .ref cs=>if i.size≤cs.length then(mkV i (cs.take i.size)).map fun v=>s.put o.dst (.v v) else none
   | .box d off=>match s.get d with
    | .box cs=>if off+i.size≤cs.length then(mkV i ((cs.drop off).take i.size)).map fun v=>s.put o.dst (.v v) else none
    | _=>none
   | .el _ _ _ _=>none
 | .store t a x=>(L.ti t).bind fun i=>(ziS s a).bind fun p=>(zjq L s t x).bind fun v =>
   match p with
   | .box d off=>match s.get d with
    | .box cs=>if off+i.size≤cs.length∧v.cells.length=i.size then some {s with σ:=s.σ.set d (.box (zce cs off v.cells))} else none
    | _=>none
   | _=>none
 | .binOp op t x y _=>match zg9 L s x with
  | some a=>(L.ti t).bind fun i=>if i.kind=1 then(zg9 L s y).bind fun b=>(zEp op a b).map fun c=>s.put o.dst (.v (.cell c)) else none
  | none=>(zgk L s x).bind fun a=>(zgk L s y).bind fun b=>(zxB op a b).map fun c=>s.put o.dst (.v (.cell c))
 | .unOp .not _ x=>(zg9 L s x).map fun b=>s.put o.dst (.v (.cell (.bool (!b))))
 | .fieldAddr t x f=>(L.ti t).bind fun i=>(ziS s x).bind fun p=>(i.fields[f]?).bind fun f =>
   match o.dst with
   | some d=>if d<s.σ.length∧p.at d=false∧i.kind=3∧p.fits f.1=true then
     let s':=s.put (some d) .und
     some {s' with pe:=(d,match p with|.box b off=>.box b (off+f.1)|.ref cs=>.ref (cs.drop f.1)|p=>p)::s'.pe}
    else none
   | none=>none
 | .indexAddr t x ix=>(L.el t).bind fun e=>(zj7 L s t x).bind fun(k,r)=>(zgk L s ix).bind fun n =>
   if 0≤n∧n<r.length∧k=e.size then
    match o.dst with
    | some d=>if d<s.σ.length then
      let s':=s.put (some d) .und
      some {s' with pe:=(d,.ref (r.getD n.toNat []))::s'.pe}
     else none
    | none=>none
   else none
 | .slice t x lo hi none=>(L.el t).bind fun e=>(zj7 L s t x).bind fun(k,r) =>
   (match lo with|none=>some 0|some l=>zgk L s l).bind fun l=>(match hi with|none=>some (r.length:Int)|some h=>zgk L s h).bind fun h =>
    if 0≤l∧l≤h∧h≤r.length∧k=e.size then some (s.put o.dst (.v (.cell (.sl k ((r.drop l.toNat).take (h.toNat-l.toNat)))))) else none
 | .extract (.tmp t) i=>match s.get t with
  | .tup vs=>(vs[i]?).map fun v=>s.put o.dst (.v v)
  | _=>none
 | .makeSlice t l c=>(L.el t).bind fun e=>(zgk L s l).bind fun l=>(zgk L s c).bind fun c =>
   if 0≤l∧l≤c∧c≤zkQ∧0<e.size then some (s.put o.dst (.v (.cell (.sl e.size (List.replicate l.toNat e.zero))))) else none
 | .call {callee:=.builtin .len,args,argTypes}=>match args.toList with
  | [x]=>if argTypes.size=1 then(L.el (argTypes.getD 0 0)).bind fun _=>(zj7 L s (argTypes.getD 0 0) x).map fun(_,r)=>s.put o.dst (.v (.cell (.int r.length))) else none
  | _=>none
 | .call {callee:=.builtin .append,args,argTypes}=>match args.toList with
  | [x,y]=>(L.el (argTypes.getD 0 0)).bind fun e=>(zj7 L s (argTypes.getD 0 0) x).bind fun(k,r)=>(zj7 L s (argTypes.getD 0 0) y).bind fun(k',r') =>
    if k=e.size∧k'=e.size∧argTypes.getD 0 0=argTypes.getD 1 0∧argTypes.size=2∧0<e.size∧(r++r').length≤zkQ then some (s.put o.dst (.v (.cell (.sl k (r++r'))))) else none
  | _=>none
 | .call {callee:=.builtin .max,args,argTypes:=_}=>match args.toList with
  | [x,y]=>(zgk L s x).bind fun a=>(zgk L s y).map fun b=>s.put o.dst (.v (.cell (.int (zuo a b))))
  | _=>none
 | .call {callee:=.value (.func f),args,argTypes}=>(zgd L s args.toList argTypes.toList).bind fun vs=>(call f vs).map fun r=>s.put o.dst r
 | _=>none
def zic (s:VS) (i:Nat):Option (Nat×Nat×List (List AC)) :=
 match s.get i with
 | .arr k r=>some (i,k,r)
 | .al d=>match s.get d with
  | .arr k r=>some (d,k,r)
  | _=>none
 | _=>none
def zjz (s:VS):Operand→Option (Nat×Nat×List (List AC))
 | .tmp i=>zic s i
 | _=>none
def zzB (s:VS) (x:Operand):Bool:=match ziS s x with
 | some (.el _ _ _ _)=>true
 | _=>false
def zf7 (L:Lay) (o:Oper) (s:VS):Bool :=
 match o.op with
 | .move x|.assign x=>(zjz s x).isSome
 | .load _ x=>zzB s x
 | .store _ x _=>zzB s x
 | .indexAddr _ x _=>(zjz s x).isSome
 | .makeSlice _ _ _=>L.home 0 o.dst
 | .call {callee:=.builtin .len,args,..}=>args.toList.any fun x=>(zjz s x).isSome
 | .call {callee:=.value (.func f),args,..}=>L.home (f+1) o.dst||args.toList.any fun x=>(zjz s x).isSome
 | _=>false
def zo9:AC→Bool
 | .sl _ _=>false
 | _=>true
def zsx (v:SV):Bool:=v.cells.all zo9
mutual
/-- No row of size k is in it. -/
def apC (k:Nat):AC→Bool
 | .sl j rows=>!(Nat.beq j k)&&apR k rows
 | .int _=>true
 | .bool _=>true
def apR (k:Nat):List (List AC)→Bool
 | []=>true
 | r::rs=>apL k r&&apR k rs
def apL (k:Nat):List AC→Bool
 | []=>true
 | c::cs=>apC k c&&apL k cs
end
def zs0:AV→Bool
 | .v x=>zsx x
 | .tup xs=>xs.all zsx
 | _=>false
def svA (L:Lay) (s:VS) (t:Nat) (x:Operand):Option SV :=
 match zjz s x with
 | some (_,k,r)=>some (.cell (.sl k r))
 | none=>zjq L s t x
def ztq (L:Lay) (s:VS):List Operand→List Nat→Option (List SV)
 | [],[]=>some []
 | x::xs,t::ts=>(svA L s t x).bind fun v=>if zv4 L t v then(ztq L s xs ts).map (v::·) else none
 | _,_=>none
def zhb (L:Lay) (call:Orc) (o:Oper) (s:VS):Option VS :=
 match o.op with
 | .move x|.assign x=>(zjz s x).bind fun(d0,_,_)=>match o.dst with
  | some d=>if d≠d0 then some (s.put (some d) (.al d0)) else none
  | none=>none
 | .load t a=>(L.ti t).bind fun i=>(ziS s a).bind fun p =>
   match p with
   | .el d0 k n j=>match s.get d0 with
    | .arr k' r=>if k=k'∧n<r.length∧j+i.size≤k then(mkV i (((r.getD n []).drop j).take i.size)).map fun v=>s.put o.dst (.v v) else none
    | _=>none
   | _=>none
 | .store t a x=>(L.ti t).bind fun i=>(ziS s a).bind fun p=>(zjq L s t x).bind fun v =>
   match p with
   | .el d0 k n j=>match s.get d0 with
    | .arr k' r=>if k=k'∧n<r.length∧j+i.size≤k∧v.cells.length=i.size then some {s with σ:=s.σ.set d0 (.arr k (r.set n (zce (r.getD n []) j v.cells)))} else none
    | _=>none
   | _=>none
 | .indexAddr t x ix=>(L.el t).bind fun e=>(zjz s x).bind fun(d0,k,r)=>(zgk L s ix).bind fun n =>
   if 0≤n∧n<r.length∧k=e.size then
    match o.dst with
    | some d=>if d<s.σ.length∧d≠d0 then
      let s':=s.put (some d) .und
      some {s' with pe:=(d,.el d0 k n.toNat 0)::s'.pe}
     else none
    | none=>none
   else none
 | .makeSlice t l c=>(L.el t).bind fun e=>(zgk L s l).bind fun l=>(zgk L s c).bind fun c =>
   match o.dst with
   | some d=>if 0≤l∧l≤c∧c≤zkQ∧0<e.size∧apL e.size e.zero=true then some (s.put (some d) (.arr e.size (List.replicate l.toNat e.zero))) else none
   | none=>none
 | .call {callee:=.builtin .len,args,argTypes}=>match args.toList with
  | [x]=>if argTypes.size=1 then(L.el (argTypes.getD 0 0)).bind fun _=>(zjz s x).map fun(_,_,r)=>s.put o.dst (.v (.cell (.int r.length))) else none
  | _=>none
 | .call {callee:=.value (.func f),args,argTypes} =>
   if L.home (f+1) o.dst then(zgd L s args.toList argTypes.toList).bind fun vs=>(call f vs).bind fun r=>(L.el o.type).bind fun e =>
    match r with
    | .v (.cell (.sl k rows))=>match o.dst with
     | some d=>if k=e.size∧apR k rows=true∧0<e.size then some (s.put (some d) (.arr k rows)) else none
     | none=>none
    | _=>none
   else if L.lent f then(ztq L s args.toList argTypes.toList).bind fun vs=>(call f vs).bind fun r=>if zs0 r then some (s.put o.dst r) else none else none
 | _=>none
def vop (L:Lay) (call:Orc) (o:Oper) (s:VS):Option VS:=if zf7 L o s then zhb L call o s else zaS L call o s
def zcD (ops:List Oper) (s:VS) (g:Nat×Bool):Option Bool :=
 match ops[g.1]? with
 | some o=>match o.dst with
  | some d=>match s.get d with
   | .v (.cell (.bool b))=>some (b==g.2)
   | .und=>some false
   | _=>none
  | none=>none
 | none=>none
def zkZ (L:Lay) (call:Orc) (all:List Oper):List Oper→VS→Option VS
 | [],s=>some s
 | o::rest,s =>
  match o.guard with
  | none=>(vop L call o s).bind (zkZ L call all rest)
  | some g=>(zcD all s g).bind fun t=>(if t then vop L call o s else some (s.put o.dst .und)).bind (zkZ L call all rest)
def zd8 (L:Lay) (call:Orc) (all:List Oper):List Oper→VS→Option VS
 | [],s=>some s
 | o::rest,s =>
  match o.guard with
  | none=>(zaS L call o s).bind (zd8 L call all rest)
  | some g=>(zcD all s g).bind fun t=>(if t then zaS L call o s else some (s.put o.dst .und)).bind (zd8 L call all rest)
def zbS:AV→Bool
 | .arr _ _=>true
 | .al _=>true
 | _=>false
def zbV:Nat:=4294967296
def zkD (s:List AV):List AV:=s.map fun x=>if zbS x then .al zbV else x
def zfl (s:List AV):AV→AV
 | .arr k r=>.v (.cell (.sl k r))
 | .al d=>match s.getD d .und with
  | .arr k r=>.v (.cell (.sl k r))
  | _=>.al zbV
 | x=>x
def zlx (s:List AV):List AV:=s.map (zfl s)
def Lay.rows (L:Lay) (ops:List Oper):List Nat :=
 match ops with
 | {dst:=some d,..}::_=>match L.draws.find? fun e=>Nat.beq e.1 d&&Nat.beq e.2.1 ops.length with
  | some e=>e.2.2
  | none=>[]
 | _=>[]
def zju (H:List Nat) (o:Oper):Option (Nat×Nat) :=
 match o.op,o.dst with
 | .move (.tmp z),some d=>if H.any (fun e=>Nat.beq e z) then some (d,z) else none
 | _,_=>none
def zGl:List Oper→Bool
 | [o,o']=>(match o.op,o.dst,o'.op,o'.dst with
  | .indexAddr _ _ _,some d,.store _ (.tmp x) _,none=>Nat.beq d x&&o.guard.isNone&&o'.guard.isNone
  | _,_,_,_=>false)
 | _=>false
def zej (ops:List Oper):Nat:=if zGl (ops.drop (ops.length-2)) then ops.length-2 else ops.length
def zFY (o:Oper):Bool:=match o.op with|.store _ _ _=>true|_=>false
def zDq (L:Lay) (ops:List Oper):Bool:=ops.any (fun o=>(zju (L.rows ops) o).isSome)&&!(ops.take (zej ops)).any zFY
def zmg (t:Nat) (o:Oper):Bool:=match o.dst with
 | some d=>Nat.beq d t
 | none=>false
def zeW (H:List Nat) (core:List Oper) (s:List AV) (s1:VS) (t:Nat) (x:AV):Option AV :=
 match core.find? (zmg t) with
 | none=>some x
 | some o=>match zju H o,o.guard with
  | some (_,z),none=>(match zic {σ:=s,pe:=[]} z,s1.get t with
   | some (d,_,_),.v (.cell (.sl _ _))=>some (.al d)
   | _,_=>none)
  | _,_=>match s1.get t with
   | .v (.cell c)=>if zo9 c then some (.v (.cell c)) else some (.al zbV)
   | .und=>some .und
   | _=>none
def zmh (f:Nat→AV→Option AV):Nat→List AV→Option (List AV)
 | _,[]=>some []
 | t,x::xs=>(f t x).bind fun y=>(zmh f (t+1) xs).map (y::·)
def zmO (L:Lay) (call:Orc) (ops:List Oper) (s:List AV):Option (List AV) :=
 if zDq L ops then
  (zd8 L call ops (ops.take (zej ops)) {σ:=zlx s,pe:=[]}).bind fun s1 =>
  (zmh (zeW (L.rows ops) (ops.take (zej ops)) s s1) 0 s).bind fun s2=>(zkZ L call ops (ops.drop (zej ops)) {σ:=s2,pe:=[]}).map (·.σ)
 else(zd8 L call ops ops {σ:=zkD s,pe:=[]}).map (·.σ)
inductive Xt where
 | norm
 | exit (id:Nat)
 | ret
 deriving DecidableEq
def zbt (L:Lay) (call:Orc):Nat→Code→List AV→Option (Xt×List AV)
 | 0,_,_=>none
 | n+1,c,s =>
  match c with
  | .skip=>some (.norm,s)
  | .region _ ops d=>if d then(zmO L call ops.toList s).map fun s=>(.norm,s)
   else(zkZ L call ops.toList ops.toList {σ:=s,pe:=[]}).map fun s=>(.norm,s.σ)
  | .seq a b=>(zbt L call n a s).bind fun r=>match r with
   | (.norm,s')=>zbt L call n b s'
   | r=>some r
  | .cond x a b=>(zg9 L {σ:=s,pe:=[]} x).bind fun t=>if t then zbt L call n a s else zbt L call n b s
  | .block id b=>(zbt L call n b s).map fun r=>match r with
   | (.exit i,s')=>if i=id then(.norm,s') else(.exit i,s')
   | r=>r
  | .loop b=>(zbt L call n b s).bind fun r=>match r with
   | (.norm,s')=>zbt L call n (.loop b) s'
   | r=>some r
  | .exit id=>some (.exit id,s)
  | .ret=>some (.ret,s)
  | _=>none
def zjv (L:Lay) (s:List AV):ResultVar→Option SV
 | .tmp t=>match s.getD t .und with
  | .v x=>some x
  | _=>(zic {σ:=s,pe:=[]} t).map fun a=>.cell (.sl a.2.1 a.2.2)
 | .cell t ty=>match s.getD t .und with
  | .box cs=>(L.ti ty).bind fun i=>if i.size=cs.length then mkV i cs else none
  | _=>none
def zfi (L:Lay) (s:List AV):List ResultVar→Option (List SV)
 | []=>some []
 | r::rs=>(zjv L s r).bind fun v=>(zfi L s rs).map (v::·)
def zne (L:Lay) (call:Orc) (n:Nat) (fn:Func) (args:List SV):Option AV :=
 match fn.body with
 | none=>none
 | some c=>if args.length≤fn.ntmps then(zbt L call n c (args.map .v++List.replicate (fn.ntmps-args.length) .und)).bind fun r=>match r with
  | (.exit _,_)=>none
  | (_,s)=>(zfi L s fn.results.toList).map fun vs=>match vs with
   | [v]=>.v v
   | vs=>.tup vs
  else none
structure zAi where
 g:Option Nat
 agg:Bool
 sh:List AC
 agg':Bool
 sh':List AC
inductive Ext where
 | map (m:zAi)
 | fn (run:List SV→Option AV)
abbrev zrW:=List (Nat×Ext)
def zCE:List AC→List AC→Bool
 | [],[]=>true
 | .int _::s,.int _::c=>zCE s c
 | .bool _::s,.bool _::c=>zCE s c
 | .sl k _::s,.sl k' _::c=>Nat.beq k k'&&zCE s c
 | _,_=>false
def mkS (agg:Bool) (r:List AC):SV:=if agg then .agg r else .cell (r.headD default)
def zHR:SV→Bool
 | .agg _=>true
 | .cell _=>false
def zDI (call:Orc) (m:zAi) (r:List AC):Option (List AC) :=
 match m.g with
 | none=>some r
 | some g=>(call g [mkS m.agg r]).bind fun a=>match a with
  | .v y=>if zCE m.sh' y.cells=true∧zHR y=m.agg' then some y.cells else none
  | _=>none
def zwW (call:Orc) (m:zAi):List (List AC)→Option (List (List AC))
 | []=>some []
 | r::rs=>(zDI call m r).bind fun x=>(zwW call m rs).map (x::·)
def zlj (call:Orc):Ext→List SV→Option AV
 | .fn run,args=>run args
 | .map m,args=>match args with
  | [.cell (.sl k rows)]=>if k=m.sh.length∧rows.length≤1048576∧rows.all (zCE m.sh)=true then(zwW call m rows).map fun rs=>.v (.cell (.sl m.sh'.length rs)) else none
  | _=>none
def zgj (P:Program) (L:Lay) (F:Nat→Bool) (E:zrW):Nat→Orc
 | 0,_,_=>none
 | n+1,f,args=>if F f then match P.funcs[f]? with
  | some fn=>zne L (zgj P L F E n) n fn args
  | none=>none else match E.lookup f with
   | some e=>zlj (zgj P L F E n) e args
   | none=>none
end
section
open Go
def Orc.le (a b:Orc):Prop:=∀f x r,a f x=some r→b f x=some r
theorem zoL {L:Lay}{c c':Orc} (h:c.le c') {o:Oper}{s s':VS} (hs:zaS L c o s=some s'):zaS L c' o s=some s':=by
 unfold zaS at hs ⊢;split <;> simp_all only [zzOb,zzOm]
 obtain⟨vs,h1,r,h2,h3⟩:=hs;exact⟨vs,h1,r,h _ _ _ h2,h3⟩
theorem zDw {L:Lay}{c c':Orc} (h:c.le c') {o:Oper}{s s':VS} (hs:zhb L c o s=some s'):zhb L c' o s=some s':=by
 unfold zhb at hs ⊢;split at hs
 case h_8 =>
  split at hs
  ·rename_i hh
   rw[if_pos hh];simp only[zzOb] at hs ⊢;obtain⟨vs,h1,r,h2,h3⟩:=hs;exact⟨vs,h1,r,h _ _ _ h2,h3⟩
  ·rename_i hh
   rw[if_neg hh];split at hs
   ·rename_i hl
    rw[if_pos hl];simp only[zzOb] at hs ⊢;obtain⟨vs,h1,r,h2,h3⟩:=hs;exact⟨vs,h1,r,h _ _ _ h2,h3⟩
   ·cases hs
 all_goals exact hs
theorem zvI {L:Lay}{c c':Orc} (h:c.le c') {o:Oper}{s s':VS} (hs:vop L c o s=some s'):vop L c' o s=some s':=by
 unfold vop at hs ⊢;split at hs
 ·rename_i hi
  rw[if_pos hi];exact zDw h hs
 ·rename_i hi
  rw[if_neg hi];exact zoL h hs
theorem zkh {L:Lay}{c c':Orc} (h:c.le c') {all:List Oper}:∀{ops:List Oper}{s s':VS},zd8 L c all ops s=some s'→zd8 L c' all ops s=some s'
 | [],_,_,hs=>hs
 | o::rest,s,s',hs=>by
  unfold zd8 at hs ⊢;split at hs
  ·rename_i hg
   simp only[zzOb] at hs ⊢;obtain⟨s1,h1,h2⟩:=hs;exact⟨s1,zoL h h1,zkh h h2⟩
  ·rename_i g hg
   simp only[zzOb] at hs ⊢;obtain⟨t,h0,s1,h1,h2⟩:=hs;refine⟨t,h0,s1,?_,zkh h h2⟩
   cases t
   ·exact h1
   ·exact zoL h h1
theorem zjs {L:Lay}{c c':Orc} (h:c.le c') {all:List Oper}:∀{ops:List Oper}{s s':VS},zkZ L c all ops s=some s'→zkZ L c' all ops s=some s'
 | [],_,_,hs=>hs
 | o::rest,s,s',hs=>by
  unfold zkZ at hs ⊢;split at hs
  ·rename_i hg
   simp only[zzOb] at hs ⊢;obtain⟨s1,h1,h2⟩:=hs;exact⟨s1,zvI h h1,zjs h h2⟩
  ·rename_i g hg
   simp only[zzOb] at hs ⊢;obtain⟨t,h0,s1,h1,h2⟩:=hs;refine⟨t,h0,s1,?_,zjs h h2⟩
   cases t
   ·exact h1
   ·exact zvI h h1
theorem ztn {L:Lay}{c c':Orc} (h:c.le c') {ops:List Oper}{s s':List AV} (hs:zmO L c ops s=some s'):zmO L c' ops s=some s':=by
 unfold zmO at hs ⊢;split at hs
 ·rename_i hr
  rw[if_pos hr];simp only[zzOb,zzOm] at hs ⊢;obtain⟨s1,h1,s2,h2,s3,h3,h4⟩:=hs;exact⟨s1,zkh h h1,s2,h2,s3,zjs h h3,h4⟩
 ·rename_i hr
  rw[if_neg hr];simp only[zzOm] at hs ⊢;obtain⟨s1,h1,h2⟩:=hs;exact⟨s1,zkh h h1,h2⟩
theorem zcT {L:Lay}{c c':Orc} (h:c.le c'):∀{n m:Nat}{k:Code}{s:List AV}{r:Xt×List AV},n≤m→zbt L c n k s=some r→zbt L c' m k s=some r
 | 0,_,_,_,_,_,hs=>by simp[zbt] at hs
 | n+1,0,_,_,_,hm,_=>by omega
 | n+1,m+1,k,s,r,hm,hs=>by
  have hm':n≤m:=by omega
  cases k <;> simp only[zbt] at hs ⊢ <;> try exact hs
  case region id ops d =>
   cases d
   ·simp only[Bool.false_eq_true,if_false,zzOm] at hs ⊢
    obtain⟨s1,h1,h2⟩:=hs;exact⟨s1,zjs h h1,h2⟩
   ·simp only[if_true,zzOm] at hs ⊢
    obtain⟨s1,h1,h2⟩:=hs;exact⟨s1,ztn h h1,h2⟩
  case seq a b =>
   simp only[zzOb] at hs ⊢;obtain⟨⟨e,s1⟩,h1,h2⟩:=hs;refine⟨_,zcT h hm' h1,?_⟩
   cases e with
   | norm=>exact zcT h hm' h2
   | exit i=>exact h2
   | ret=>exact h2
  case cond x a b =>
   simp only[zzOb] at hs ⊢;obtain⟨t,h1,h2⟩:=hs;refine⟨t,h1,?_⟩
   cases t
   ·exact zcT h hm' h2
   ·exact zcT h hm' h2
  case block id b =>
   simp only[zzOm] at hs ⊢;obtain⟨r1,h1,h2⟩:=hs;exact⟨r1,zcT h hm' h1,h2⟩
  case loop b =>
   simp only[zzOb] at hs ⊢;obtain⟨⟨e,s1⟩,h1,h2⟩:=hs;refine⟨_,zcT h hm' h1,?_⟩
   cases e with
   | norm=>exact zcT h hm' h2
   | exit i=>exact h2
   | ret=>exact h2
theorem zBs {L:Lay}{c c':Orc} (h:c.le c') {n m:Nat}{fn:Func}{args:List SV}{r:AV} (hm:n≤m) (hs:zne L c n fn args=some r):zne L c' m fn args=some r:=by
 unfold zne at hs ⊢;split at hs
 ·exact hs
 ·rename_i k hk
  split at hs
  ·rename_i hlen
   rw[if_pos hlen];simp only[zzOb] at hs ⊢;obtain⟨r1,h1,h2⟩:=hs;exact⟨r1,zcT h hm h1,h2⟩
  ·cases hs
theorem zDk {c c':Orc} (h:c.le c') {m:zAi}{r x:List AC} (hs:zDI c m r=some x):zDI c' m r=some x:=by
 unfold zDI at hs ⊢;split at hs
 ·exact hs
 ·simp only[zzOb] at hs ⊢
  obtain⟨a,h1,h2⟩:=hs;exact⟨a,h _ _ _ h1,h2⟩
theorem zw5 {c c':Orc} (h:c.le c') {m:zAi}:∀{rs xs:List (List AC)},zwW c m rs=some xs→zwW c' m rs=some xs
 | [],_,hs=>hs
 | r::rs,xs,hs=>by
  simp only[zwW,zzOb,zzOm] at hs ⊢;obtain⟨x,h1,ys,h2,h3⟩:=hs;exact⟨x,zDk h h1,ys,zw5 h h2,h3⟩
theorem zzj {c c':Orc} (h:c.le c') {e:Ext}{args:List SV}{r:AV} (hs:zlj c e args=some r):zlj c' e args=some r:=by
 cases e with
 | fn run=>exact hs
 | map m =>
  unfold zlj at hs ⊢;simp only at hs ⊢;split at hs
  ·split at hs
   ·rename_i hc
    rw[if_pos hc];simp only[zzOm] at hs ⊢;obtain⟨rs,h1,h2⟩:=hs;exact⟨rs,zw5 h h1,h2⟩
   ·cases hs
  ·cases hs
theorem zcs {P:Program}{L:Lay}{F:Nat→Bool}{E:zrW}:∀{n m:Nat},n≤m→Orc.le (zgj P L F E n) (zgj P L F E m)
 | 0,_,_=>fun _ _ _ h=>by simp[zgj] at h
 | n+1,0,hm=>by omega
 | n+1,m+1,hm=>fun f x r h=>by
  have hm':n≤m:=by omega
  simp only[zgj] at h ⊢;split at h
  ·rename_i hF
   rw[if_pos hF];split at h
   ·exact zBs (zcs hm') hm' h
   ·exact h
  ·rename_i hF
   rw[if_neg hF];split at h
   ·exact zzj (zcs hm') h
   ·cases h
noncomputable def lim {α:Type} (g:Nat→Option α):Option α :=
 open Classical in if h:∃n,(g n).isSome then g h.choose else none
def zCC {α:Type} (g:Nat→Option α):Prop:=∀n m r,n≤m→g n=some r→g m=some r
theorem zrs {α:Type}{g:Nat→Option α} (hg:zCC g) {r:α}:lim g=some r↔∃n,g n=some r:=by
 unfold lim;constructor
 ·intro h
  split at h
  ·exact⟨_,h⟩
  ·cases h
 ·rintro⟨n,hn⟩
  have h:∃n,(g n).isSome:=⟨n,by rw[hn];rfl⟩
  rw[dif_pos h];obtain⟨r',hr'⟩:=Option.isSome_iff_exists.1 h.choose_spec;rw[hr'];rcases Nat.le_total n h.choose with hle|hle
  ·rw[hg _ _ _ hle hn] at hr';exact hr'.symm
  ·rw[hg _ _ _ hle hr'] at hn;exact hn
noncomputable def V (P:Program) (L:Lay) (F:Nat→Bool) (E:zrW):Orc:=fun f x=>lim fun n=>zgj P L F E n f x
noncomputable def VC (P:Program) (L:Lay) (F:Nat→Bool) (E:zrW) (k:Code) (s:List AV):Option (Xt×List AV):=lim fun n=>zbt L (zgj P L F E n) n k s
section
variable {P:Program}{L:Lay}{F:Nat→Bool}{E:zrW}
theorem zFR (f:FuncId) (x:List SV):zCC fun n=>zgj P L F E n f x:=fun _ _ _ h hs=>zcs h _ _ _ hs
theorem zEX (k:Code) (s:List AV):zCC fun n=>zbt L (zgj P L F E n) n k s:=fun _ _ _ h hs=>zcT (zcs h) h hs
theorem V_iff {f:FuncId}{x:List SV}{r:AV}:V P L F E f x=some r↔∃n,zgj P L F E n f x=some r:=zrs (zFR f x)
theorem VC_iff {k:Code}{s:List AV}{r:Xt×List AV}:VC P L F E k s=some r↔∃n,zbt L (zgj P L F E n) n k s=some r:=zrs (zEX k s)
theorem zFD (n:Nat):Orc.le (zgj P L F E n) (V P L F E):=fun _ _ _ h=>V_iff.2 ⟨n,h⟩
theorem zp9 {o:Oper}{s s':VS} (h:zaS L (V P L F E) o s=some s'):∃n,zaS L (zgj P L F E n) o s=some s':=by
 unfold zaS at h ⊢;split <;> simp_all only [zzOb,zzOm,exists_const]
 obtain⟨vs,h1,r,h2,h3⟩:=h;obtain⟨n,hn⟩:=V_iff.1 h2;exact⟨n,vs,h1,r,hn,h3⟩
theorem zzG {o:Oper}{s s':VS} (h:zhb L (V P L F E) o s=some s'):∃n,zhb L (zgj P L F E n) o s=some s':=by
 unfold zhb at h ⊢;split at h
 case h_8 =>
  split at h
  ·rename_i hh
   simp only[if_pos hh];simp only[zzOb] at h ⊢;obtain⟨vs,h1,r,h2,h3⟩:=h;obtain⟨n,hn⟩:=V_iff.1 h2;exact⟨n,vs,h1,r,hn,h3⟩
  ·rename_i hh
   simp only[if_neg hh];split at h
   ·rename_i hl
    simp only[if_pos hl];simp only[zzOb] at h ⊢;obtain⟨vs,h1,r,h2,h3⟩:=h;obtain⟨n,hn⟩:=V_iff.1 h2;exact⟨n,vs,h1,r,hn,h3⟩
   ·cases h
 all_goals exact⟨0,h⟩
theorem zw6 {o:Oper}{s s':VS} (h:vop L (V P L F E) o s=some s'):∃n,vop L (zgj P L F E n) o s=some s':=by
 unfold vop at h ⊢;split at h
 ·rename_i hi
  simp only[if_pos hi];exact zzG h
 ·rename_i hi
  simp only[if_neg hi];exact zp9 h
theorem zlS {all:List Oper}:∀{ops:List Oper}{s s':VS},zd8 L (V P L F E) all ops s=some s'→∃n,zd8 L (zgj P L F E n) all ops s=some s'
 | [],_,_,h=>⟨0,h⟩
 | o::rest,s,s',h=>by
  unfold zd8 at h ⊢;split at h
  ·simp only[zzOb] at h ⊢
   obtain⟨s1,h1,h2⟩:=h;obtain⟨n1,h1⟩:=zp9 h1;obtain⟨n2,h2⟩:=zlS h2;exact⟨max n1 n2,s1,zoL (zcs (Nat.le_max_left _ _)) h1,zkh (zcs (Nat.le_max_right _ _)) h2⟩
  ·simp only[zzOb] at h ⊢
   obtain⟨t,h0,s1,h1,h2⟩:=h;obtain⟨n2,h2⟩:=zlS h2;cases t
   ·exact⟨n2,false,h0,s1,h1,h2⟩
   ·obtain⟨n1,h1⟩:=zp9 h1
    exact⟨max n1 n2,true,h0,s1,zoL (zcs (Nat.le_max_left _ _)) h1,zkh (zcs (Nat.le_max_right _ _)) h2⟩
theorem znn {all:List Oper}:∀{ops:List Oper}{s s':VS},zkZ L (V P L F E) all ops s=some s'→∃n,zkZ L (zgj P L F E n) all ops s=some s'
 | [],_,_,h=>⟨0,h⟩
 | o::rest,s,s',h=>by
  unfold zkZ at h ⊢;split at h
  ·simp only[zzOb] at h ⊢
   obtain⟨s1,h1,h2⟩:=h;obtain⟨n1,h1⟩:=zw6 h1;obtain⟨n2,h2⟩:=znn h2;exact⟨max n1 n2,s1,zvI (zcs (Nat.le_max_left _ _)) h1,zjs (zcs (Nat.le_max_right _ _)) h2⟩
  ·simp only[zzOb] at h ⊢
   obtain⟨t,h0,s1,h1,h2⟩:=h;obtain⟨n2,h2⟩:=znn h2;cases t
   ·exact⟨n2,false,h0,s1,h1,h2⟩
   ·obtain⟨n1,h1⟩:=zw6 h1
    exact⟨max n1 n2,true,h0,s1,zvI (zcs (Nat.le_max_left _ _)) h1,zjs (zcs (Nat.le_max_right _ _)) h2⟩
theorem zxl {ops:List Oper}{s s':List AV} (hs:zmO L (V P L F E) ops s=some s'):∃n,zmO L (zgj P L F E n) ops s=some s':=by
 unfold zmO at hs ⊢;split at hs
 ·rename_i hr
  simp only[if_pos hr];simp only[zzOb,zzOm] at hs ⊢;obtain⟨s1,h1,s2,h2,s3,h3,h4⟩:=hs;obtain⟨n1,h1⟩:=zlS h1;obtain⟨n2,h3⟩:=znn h3;exact⟨max n1 n2,s1,zkh (zcs (Nat.le_max_left _ _)) h1,s2,h2,s3,zjs (zcs (Nat.le_max_right _ _)) h3,h4⟩
 ·rename_i hr
  simp only[if_neg hr];simp only[zzOm] at hs ⊢;obtain⟨s1,h1,h2⟩:=hs;obtain⟨n,hn⟩:=zlS h1;exact⟨n,s1,hn,h2⟩
theorem zg3 {α:Type}{a b:Option α} (h:∀r,a=some r↔b=some r):a=b:=Option.ext (by simpa using h)
theorem zEV (s:List AV):VC P L F E .skip s=some (.norm,s):=VC_iff.2 ⟨1,rfl⟩
theorem zD7 (id:Nat) (s:List AV):VC P L F E (.exit id) s=some (.exit id,s):=VC_iff.2 ⟨1,rfl⟩
theorem zGj (s:List AV):VC P L F E .ret s=some (.ret,s):=VC_iff.2 ⟨1,rfl⟩
theorem zzH (id:Nat) (ops:Array Oper) (s:List AV) :
  VC P L F E (.region id ops false) s=(zkZ L (V P L F E) ops.toList ops.toList {σ:=s,pe:=[]}).map fun s=>(.norm,s.σ):=by
 refine zg3 fun r=>?_
 rw[VC_iff];constructor
 ·rintro⟨n,hn⟩
  cases n with
  | zero=>simp[zbt] at hn
  | succ n =>
   simp only[zbt,Bool.false_eq_true,if_false,zzOm] at hn ⊢;obtain⟨s1,h1,h2⟩:=hn;exact⟨s1,zjs (zFD _) h1,h2⟩
 ·intro h
  simp only[zzOm] at h;obtain⟨s1,h1,h2⟩:=h;obtain⟨n,hn⟩:=znn h1;refine⟨n+1,?_⟩
  simp only[zbt,Bool.false_eq_true,if_false,zzOm];exact⟨s1,zjs (zcs (Nat.le_succ n)) hn,h2⟩
theorem zBK (id:Nat) (ops:Array Oper) (s:List AV) :
  VC P L F E (.region id ops true) s=(zmO L (V P L F E) ops.toList s).map fun s=>(.norm,s):=by
 refine zg3 fun r=>?_
 rw[VC_iff];constructor
 ·rintro⟨n,hn⟩
  cases n with
  | zero=>simp[zbt] at hn
  | succ n =>
   simp only[zbt,if_true,zzOm] at hn ⊢;obtain⟨s1,h1,h2⟩:=hn;exact⟨s1,ztn (zFD _) h1,h2⟩
 ·intro h
  simp only[zzOm] at h;obtain⟨s1,h1,h2⟩:=h;obtain⟨n,hn⟩:=zxl h1;refine⟨n+1,?_⟩
  simp only[zbt,if_true,zzOm];exact⟨s1,ztn (zcs (Nat.le_succ n)) hn,h2⟩
noncomputable def andThen (P:Program) (L:Lay) (F:Nat→Bool) (E:zrW) (k:Code):Xt×List AV→Option (Xt×List AV)
 | (.norm,s)=>VC P L F E k s
 | r=>some r
theorem zmW {n:Nat}{k:Code}{s:List AV}{r:Xt×List AV} (h:zbt L (zgj P L F E (n+1)) n k s=some r):VC P L F E k s=some r :=
 VC_iff.2 ⟨n+1,zcT (fun _ _ _ h=>h) (Nat.le_succ n) h⟩
theorem zmw {k:Code}{s:List AV}{r:Xt×List AV} (h:VC P L F E k s=some r):∃n,∀m,n≤m→zbt L (zgj P L F E (m+1)) m k s=some r:=by
 obtain⟨n,hn⟩:=VC_iff.1 h;exact⟨n,fun m hm=>zcT (zcs (by omega)) hm hn⟩
theorem zAN {a b:Code}{s:List AV}{c:Code} (hc:∀n,zbt L (zgj P L F E (n+1)) (n+1) c s=(zbt L (zgj P L F E (n+1)) n a s).bind fun r=>match r with
   | (.norm,s')=>zbt L (zgj P L F E (n+1)) n b s'
   | r=>some r):VC P L F E c s=(VC P L F E a s).bind (andThen P L F E b):=by
 refine zg3 fun r=>?_
 simp only[zzOb];constructor
 ·intro h
  obtain⟨n,hn⟩:=VC_iff.1 h;have hn:=zcT (L:=L) (zcs (P:=P) (Nat.le_succ n)) (Nat.le_succ n) hn
  rw[hc] at hn;simp only[zzOb] at hn;obtain⟨⟨e,s1⟩,h1,h2⟩:=hn;refine⟨_,zmW h1,?_⟩
  cases e with
  | norm=>exact zmW h2
  | exit i=>exact h2
  | ret=>exact h2
 ·rintro⟨⟨e,s1⟩,h1,h2⟩
  obtain⟨n1,h1⟩:=zmw h1;cases e with
  | norm =>
   obtain⟨n2,h2⟩:=zmw (P:=P) (L:=L) (k:=b) h2;refine VC_iff.2 ⟨max n1 n2+1,?_⟩
   rw[hc];simp only[zzOb];exact⟨_,h1 _ (Nat.le_max_left _ _),h2 _ (Nat.le_max_right _ _)⟩
  | exit i =>
   refine VC_iff.2 ⟨n1+1,?_⟩
   rw[hc];simp only[zzOb];exact⟨_,h1 _ (Nat.le_refl _),h2⟩
  | ret =>
   refine VC_iff.2 ⟨n1+1,?_⟩
   rw[hc];simp only[zzOb];exact⟨_,h1 _ (Nat.le_refl _),h2⟩
theorem zGR (a b:Code) (s:List AV):VC P L F E (.seq a b) s=(VC P L F E a s).bind (andThen P L F E b):=zAN fun _=>rfl
theorem zFr (b:Code) (s:List AV):VC P L F E (.loop b) s=(VC P L F E b s).bind (andThen P L F E (.loop b)):=zAN fun _=>rfl
theorem zDR (x:Operand) (a b:Code) (s:List AV) :
  VC P L F E (.cond x a b) s=(zg9 L {σ:=s,pe:=[]} x).bind fun t=>if t then VC P L F E a s else VC P L F E b s:=by
 refine zg3 fun r=>?_
 simp only[zzOb];constructor
 ·intro h
  obtain⟨n,hn⟩:=VC_iff.1 h;have hn:=zcT (L:=L) (zcs (P:=P) (Nat.le_succ n)) (Nat.le_succ n) hn
  simp only[zbt,zzOb] at hn;obtain⟨t,h1,h2⟩:=hn;refine⟨t,h1,?_⟩
  cases t
  ·exact zmW h2
  ·exact zmW h2
 ·rintro⟨t,h1,h2⟩
  cases t
  ·obtain⟨n,h2⟩:=zmw (P:=P) (L:=L) (k:=b) h2
   refine VC_iff.2 ⟨n+1,?_⟩
   simp only[zbt,zzOb];exact⟨false,h1,h2 _ (Nat.le_refl _)⟩
  ·obtain⟨n,h2⟩:=zmw (P:=P) (L:=L) (k:=a) h2
   refine VC_iff.2 ⟨n+1,?_⟩
   simp only[zbt,zzOb];exact⟨true,h1,h2 _ (Nat.le_refl _)⟩
def zwK (id:Nat):Xt×List AV→Xt×List AV
 | (.exit i,s)=>if i=id then(.norm,s) else(.exit i,s)
 | r=>r
theorem zBX (id:Nat) (b:Code) (s:List AV):VC P L F E (.block id b) s=(VC P L F E b s).map (zwK id):=by
 refine zg3 fun r=>?_
 simp only[zzOm];constructor
 ·intro h
  obtain⟨n,hn⟩:=VC_iff.1 h;have hn:=zcT (L:=L) (zcs (P:=P) (Nat.le_succ n)) (Nat.le_succ n) hn
  simp only[zbt,zzOm] at hn;obtain⟨t,h1,h2⟩:=hn;exact⟨t,zmW h1,h2⟩
 ·rintro⟨t,h1,h2⟩
  obtain⟨n,h1⟩:=zmw h1;refine VC_iff.2 ⟨n+1,?_⟩
  simp only[zbt,zzOm];exact⟨t,h1 _ (Nat.le_refl _),h2⟩
def zAK (L:Lay) (fn:Func):Xt×List AV→Option AV
 | (.exit _,_)=>none
 | (_,s)=>(zfi L s fn.results.toList).map fun vs=>match vs with
   | [v]=>.v v
   | vs=>.tup vs
theorem zHU {f:FuncId}{fn:Func}{c:Code} (hF:F f=true) (hf:P.funcs[f]?=some fn) (hb:fn.body=some c) (x:List SV) (hx:x.length≤fn.ntmps) :
  V P L F E f x=(VC P L F E c (x.map .v++List.replicate (fn.ntmps-x.length) .und)).bind (zAK L fn):=by
 refine zg3 fun r=>?_
 simp only[zzOb];constructor
 ·intro h
  obtain⟨n,hn⟩:=V_iff.1 h;cases n with
  | zero=>simp[zgj] at hn
  | succ n =>
   simp only[zgj,hF,if_true,hf,zne,hb,if_pos hx,zzOb] at hn;obtain⟨⟨e,s1⟩,h1,h2⟩:=hn;exact⟨_,VC_iff.2 ⟨n,h1⟩,by cases e <;> exact h2⟩
 ·rintro⟨⟨e,s1⟩,h1,h2⟩
  obtain⟨n,hn⟩:=VC_iff.1 h1;refine V_iff.2 ⟨n+1,?_⟩
  simp only[zgj,hF,if_true,hf,zne,hb,if_pos hx,zzOb];exact⟨_,hn,by cases e <;> exact h2⟩
end
end
section
open Go
section
variable {P:Program}{L:Lay}{F:Nat→Bool}{E:zrW}
end
theorem zFe {n:Int} (h1:-9223372036854775808≤n) (h2:n≤9223372036854775807):zae n=n:=by
 unfold zae;rw[IntKind.wrap_i64];omega
end
end Go.Proofs.YtkgbadeobdbinaaGreat
