/- Generic texts and models for the proofs of this seat: part 1. -/
import Derived.Says
import Derived.IntWalk
set_option linter.unusedVariables false
set_option linter.unusedSimpArgs false
namespace Go.Proofs.Ytcpcagdialnbeaa
theorem zzOb {α β:Type _}{o:Option α}{f:α→Option β}{b:β}:o.bind f=some b↔∃a,o=some a∧f a=some b:=Option.bind_eq_some_iff
theorem zzOm {α β:Type _}{o:Option α}{f:α→β}{b:β}:o.map f=some b↔∃a,o=some a∧f a=b:=Option.map_eq_some_iff
section
open Go
inductive AC where
 | int (n:Int)
 | bool (b:Bool)
 | sl (k:Nat) (rows:List (List AC))
 deriving Inhabited
inductive SV where
 | cell (c:AC)
 | agg (cs:List AC)
 deriving Inhabited
inductive AV where
 | und
 | v (s:SV)
 | tup (vs:List SV)
 | box (cs:List AC)
 | arr (k:Nat) (rows:List (List AC))
 | al (d:Nat)
 deriving Inhabited
def zix:AV→Bool
 | .v _=>true
 | .tup _=>true
 | _=>false
def SV.cells:SV→List AC
 | .cell c=>[c]
 | .agg cs=>cs
inductive Ptr where
 | box (d off:Nat)
 | ref (cs:List AC)
 | el (d k n j:Nat)
structure TI where
 kind:Nat
 size:Nat
 zero:List AC
 fields:List (Nat×Nat)
 elem:Nat
 deriving Inhabited
structure Lay where
 tys:List (Nat×TI)
 homes:List (Nat×Nat)
 lends:List Nat
 draws:List (Nat×Nat×List Nat)
def Lay.ti (L:Lay) (t:Nat):Option TI:=L.tys.lookup t
def Lay.home (L:Lay) (c:Nat) (d:Option Nat):Bool:=match d with
 | some d=>L.homes.any fun e=>Nat.beq e.1 c&&Nat.beq e.2 d
 | none=>false
def Lay.lent (L:Lay) (f:Nat):Bool:=L.lends.any fun e=>Nat.beq e f
def Lay.el (L:Lay) (t:Nat):Option TI:=(L.ti t).bind fun i=>if i.kind=2 then L.ti i.elem else none
structure VS where
 σ:List AV
 pe:List (Nat×Ptr)
abbrev Orc:=FuncId→List SV→Option AV
def VS.get (s:VS) (i:Nat):AV:=s.σ.getD i .und
def Ptr.at (p:Ptr) (d:Nat):Bool :=
 match p with
 | .box b _=>b==d
 | .ref _=>false
 | .el b _ _ _=>b==d
def Ptr.fits (p:Ptr) (n:Nat):Bool :=
 match p with
 | .ref cs=>decide (n≤cs.length)
 | .box _ _=>true
 | .el _ _ _ _=>false
def VS.put (s:VS) (d:Option Nat) (x:AV):VS :=
 match d with
 | some d=>{σ:=s.σ.set d x,pe:=s.pe.filter fun e=>!(e.1==d)&&!e.2.at d}
 | none=>s
def zaf (n:Int):Int:=IntKind.i64.wrap n
def zsj (L:Lay) (t:Nat):Value→Option SV
 | .int .i64 n=>some (.cell (.int n))
 | .bool b=>some (.cell (.bool b))
 | .slice none 0 0=>(L.el t).map fun e=>.cell (.sl e.size [])
 | _=>none
def zhl (L:Lay) (s:VS) (t:Nat):Operand→Option SV
 | .tmp i=>match s.get i with
  | .v x=>some x
  | _=>none
 | .const v=>zsj L t v
 | _=>none
def zl0 (L:Lay) (s:VS) (t:Nat):Operand→Option AV
 | .tmp i=>match s.get i with
  | .v x=>some (.v x)
  | .tup xs=>some (.tup xs)
  | _=>none
 | x=>(zhl L s t x).map .v
def zrE (a b:Int):Int:=if b>a then b else a
def ze9 (L:Lay) (s:VS) (x:Operand):Option Int :=
 match zhl L s 0 x with
 | some (.cell (.int n))=>some n
 | _=>none
def zfk (L:Lay) (s:VS) (x:Operand):Option Bool :=
 match zhl L s 0 x with
 | some (.cell (.bool b))=>some b
 | _=>none
def zhL (L:Lay) (s:VS) (t:Nat) (x:Operand):Option (Nat×List (List AC)) :=
 match zhl L s t x with
 | some (.cell (.sl k r))=>some (k,r)
 | _=>none
def zgU (s:VS):Operand→Option Ptr
 | .tmp i=>match s.pe.lookup i with
  | some p=>some p
  | none=>match s.get i with
   | .box _=>some (.box i 0)
   | _=>none
 | _=>none
def mkV (i:TI) (cs:List AC):Option SV :=
 if i.kind=3 then some (.agg cs) else match cs with
  | [c]=>some (.cell c)
  | _=>none
def zuj (op:BinOp) (a b:Int):Option AC :=
 match op with
 | .add=>some (.int (zaf (a+b)))
 | .sub=>some (.int (zaf (a-b)))
 | .mul=>some (.int (zaf (a*b)))
 | .eql=>some (.bool (a==b))
 | .neq=>some (.bool (a != b))
 | .lss=>some (.bool (decide (a<b)))
 | .leq=>some (.bool (decide (a≤b)))
 | .gtr=>some (.bool (decide (a>b)))
 | .geq=>some (.bool (decide (a≥b)))
 | .quo=>if b=0 then none else some (.int (zaf (a.tdiv b)))
 | .rem=>if b=0 then none else some (.int (a.tmod b))
 | _=>none
def zAI (op:BinOp) (a b:Bool):Option AC :=
 match op with
 | .eql=>some (.bool (a==b))
 | .neq=>some (.bool (a != b))
 | _=>none
def zbY (cs:List AC) (off:Nat):List AC→List AC
 | []=>cs
 | x::xs=>zbY (cs.set off x) (off+1) xs
def zig (L:Lay) (s:VS) (i:TI):List (Nat×Operand)→List AC→Option (List AC)
 | [],cs=>some cs
 | (f,x)::rest,cs =>
  match i.fields[f]?,zhl L s 0 x with
  | some (off,sz),some v=>if v.cells.length=sz∧off+sz≤cs.length then zig L s i rest (zbY cs off v.cells) else none
  | _,_=>none
def zlB (L:Lay) (s:VS) (k:Nat):Nat→List (Nat×Operand)→Option (List (List AC))
 | _,[]=>some []
 | j,(i,x)::rest =>
  match zhl L s 0 x with
  | some v=>if i=j∧v.cells.length=k then(zlB L s k (j+1) rest).map (v.cells::·) else none
  | none=>none
def ztF (L:Lay) (t:Nat) (v:SV):Bool :=
 match L.el t with
 | none=>true
 | some _=>match v with
  | .cell (.sl _ _)=>true
  | _=>false
def ze4 (L:Lay) (s:VS):List Operand→List Nat→Option (List SV)
 | [],[]=>some []
 | x::xs,t::ts=>(zhl L s t x).bind fun v=>if ztF L t v then(ze4 L s xs ts).map (v::·) else none
 | _,_=>none
def zgY:Nat:=68719476736
def zaK (L:Lay) (call:Orc) (o:Oper) (s:VS):Option VS :=
 match o.op with
 | .move x|.assign x=>(zl0 L s o.type x).map fun v=>s.put o.dst v
 | .pick c a b=>(zfk L s c).bind fun t=>(if t then zhl L s o.type a else zhl L s o.type b).map fun v=>s.put o.dst (.v v)
 | .alloc t=>(L.ti t).map fun i=>s.put o.dst (.box i.zero)
 | .box t x=>(L.ti t).bind fun i=>(zhl L s t x).bind fun v=>if v.cells.length=i.size then some (s.put o.dst (.box v.cells)) else none
 | .build t ps=>(L.ti t).bind fun i=>if i.kind=3 then(zig L s i ps.toList i.zero).map fun cs=>s.put o.dst (.v (.agg cs)) else none
 | .buildSlice t n ps=>(L.el t).bind fun e=>(zlB L s e.size 0 ps.toList).bind fun r =>
   if r.length=n∧n≤65536∧0<e.size∧e.size≤256 then some (s.put o.dst (.v (.cell (.sl e.size r)))) else none
 | .load t a=>(L.ti t).bind fun i=>(zgU s a).bind fun p =>
   match p with
   | .ref cs=>if i.size≤cs.length then(mkV i (cs.take i.size)).map fun v=>s.put o.dst (.v v) else none
   | .box d off=>match s.get d with
    | .box cs=>if off+i.size≤cs.length then(mkV i ((cs.drop off).take i.size)).map fun v=>s.put o.dst (.v v) else none
    | _=>none
   | .el _ _ _ _=>none
 | .store t a x=>(L.ti t).bind fun i=>(zgU s a).bind fun p=>(zhl L s t x).bind fun v =>
   match p with
   | .box d off=>match s.get d with
    | .box cs=>if off+i.size≤cs.length∧v.cells.length=i.size then some {s with σ:=s.σ.set d (.box (zbY cs off v.cells))} else none
    | _=>none
   | _=>none
 | .binOp op t x y _=>match zfk L s x with
  | some a=>(L.ti t).bind fun i=>if i.kind=1 then(zfk L s y).bind fun b=>(zAI op a b).map fun c=>s.put o.dst (.v (.cell c)) else none
  | none=>(ze9 L s x).bind fun a=>(ze9 L s y).bind fun b=>(zuj op a b).map fun c=>s.put o.dst (.v (.cell c))
 | .unOp .not _ x=>(zfk L s x).map fun b=>s.put o.dst (.v (.cell (.bool (!b))))
 | .fieldAddr t x f=>(L.ti t).bind fun i=>(zgU s x).bind fun p=>(i.fields[f]?).bind fun f =>
   match o.dst with
   | some d=>if d<s.σ.length∧p.at d=false∧i.kind=3∧p.fits f.1=true then
     let s':=s.put (some d) .und
     some {s' with pe:=(d,match p with|.box b off=>.box b (off+f.1)|.ref cs=>.ref (cs.drop f.1)|p=>p)::s'.pe}
    else none
   | none=>none
 | .indexAddr t x ix=>(L.el t).bind fun e=>(zhL L s t x).bind fun(k,r)=>(ze9 L s ix).bind fun n =>
   if 0≤n∧n<r.length∧k=e.size then
    match o.dst with
    | some d=>if d<s.σ.length then
      let s':=s.put (some d) .und
      some {s' with pe:=(d,.ref (r.getD n.toNat []))::s'.pe}
     else none
    | none=>none
   else none
 | .slice t x lo hi none=>(L.el t).bind fun e=>(zhL L s t x).bind fun(k,r) =>
   (match lo with|none=>some 0|some l=>ze9 L s l).bind fun l=>(match hi with|none=>some (r.length:Int)|some h=>ze9 L s h).bind fun h =>
    if 0≤l∧l≤h∧h≤r.length∧k=e.size then some (s.put o.dst (.v (.cell (.sl k ((r.drop l.toNat).take (h.toNat-l.toNat)))))) else none
 | .extract (.tmp t) i=>match s.get t with
  | .tup vs=>(vs[i]?).map fun v=>s.put o.dst (.v v)
  | _=>none
 | .makeSlice t l c=>(L.el t).bind fun e=>(ze9 L s l).bind fun l=>(ze9 L s c).bind fun c =>
   if 0≤l∧l≤c∧c≤zgY∧0<e.size then some (s.put o.dst (.v (.cell (.sl e.size (List.replicate l.toNat e.zero))))) else none
 | .call {callee:=.builtin .len,args,argTypes}=>match args.toList with
  | [x]=>if argTypes.size=1 then(L.el (argTypes.getD 0 0)).bind fun _=>(zhL L s (argTypes.getD 0 0) x).map fun(_,r)=>s.put o.dst (.v (.cell (.int r.length))) else none
  | _=>none
 | .call {callee:=.builtin .append,args,argTypes}=>match args.toList with
  | [x,y]=>(L.el (argTypes.getD 0 0)).bind fun e=>(zhL L s (argTypes.getD 0 0) x).bind fun(k,r)=>(zhL L s (argTypes.getD 0 0) y).bind fun(k',r') =>
    if k=e.size∧k'=e.size∧argTypes.getD 0 0=argTypes.getD 1 0∧argTypes.size=2∧0<e.size∧(r++r').length≤zgY then some (s.put o.dst (.v (.cell (.sl k (r++r'))))) else none
  | _=>none
 | .call {callee:=.builtin .max,args,argTypes:=_}=>match args.toList with
  | [x,y]=>(ze9 L s x).bind fun a=>(ze9 L s y).map fun b=>s.put o.dst (.v (.cell (.int (zrE a b))))
  | _=>none
 | .call {callee:=.value (.func f),args,argTypes}=>(ze4 L s args.toList argTypes.toList).bind fun vs=>(call f vs).map fun r=>s.put o.dst r
 | _=>none
def zgg (s:VS) (i:Nat):Option (Nat×Nat×List (List AC)) :=
 match s.get i with
 | .arr k r=>some (i,k,r)
 | .al d=>match s.get d with
  | .arr k r=>some (d,k,r)
  | _=>none
 | _=>none
def zg5 (s:VS):Operand→Option (Nat×Nat×List (List AC))
 | .tmp i=>zgg s i
 | _=>none
def zvB (s:VS) (x:Operand):Bool:=match zgU s x with
 | some (.el _ _ _ _)=>true
 | _=>false
def ze5 (L:Lay) (o:Oper) (s:VS):Bool :=
 match o.op with
 | .move x|.assign x=>(zg5 s x).isSome
 | .load _ x=>zvB s x
 | .store _ x _=>zvB s x
 | .indexAddr _ x _=>(zg5 s x).isSome
 | .makeSlice _ _ _=>L.home 0 o.dst
 | .call {callee:=.builtin .len,args,..}=>args.toList.any fun x=>(zg5 s x).isSome
 | .call {callee:=.value (.func f),args,..}=>L.home (f+1) o.dst||args.toList.any fun x=>(zg5 s x).isSome
 | _=>false
def zl5:AC→Bool
 | .sl _ _=>false
 | _=>true
def zqo (v:SV):Bool:=v.cells.all zl5
mutual
/-- No row of size k is in it. -/
def apC (k:Nat):AC→Bool
 | .sl j rows=>!(Nat.beq j k)&&apR k rows
 | .int _=>true
 | .bool _=>true
def apR (k:Nat):List (List AC)→Bool
 | []=>true
 | r::rs=>apL k r&&apR k rs
def apL (k:Nat):List AC→Bool
 | []=>true
 | c::cs=>apC k c&&apL k cs
end
def zqA:AV→Bool
 | .v x=>zqo x
 | .tup xs=>xs.all zqo
 | _=>false
def svA (L:Lay) (s:VS) (t:Nat) (x:Operand):Option SV :=
 match zg5 s x with
 | some (_,k,r)=>some (.cell (.sl k r))
 | none=>zhl L s t x
def zp5 (L:Lay) (s:VS):List Operand→List Nat→Option (List SV)
 | [],[]=>some []
 | x::xs,t::ts=>(svA L s t x).bind fun v=>if ztF L t v then(zp5 L s xs ts).map (v::·) else none
 | _,_=>none
def zfI (L:Lay) (call:Orc) (o:Oper) (s:VS):Option VS :=
 match o.op with
 | .move x|.assign x=>(zg5 s x).bind fun(d0,_,_)=>match o.dst with
  | some d=>if d≠d0 then some (s.put (some d) (.al d0)) else none
  | none=>none
 | .load t a=>(L.ti t).bind fun i=>(zgU s a).bind fun p =>
   match p with
   | .el d0 k n j=>match s.get d0 with
    | .arr k' r=>if k=k'∧n<r.length∧j+i.size≤k then(mkV i (((r.getD n []).drop j).take i.size)).map fun v=>s.put o.dst (.v v) else none
    | _=>none
   | _=>none
 | .store t a x=>(L.ti t).bind fun i=>(zgU s a).bind fun p=>(zhl L s t x).bind fun v =>
   match p with
   | .el d0 k n j=>match s.get d0 with
    | .arr k' r=>if k=k'∧n<r.length∧j+i.size≤k∧v.cells.length=i.size then some {s with σ:=s.σ.set d0 (.arr k (r.set n (zbY (r.getD n []) j v.cells)))} else none
    | _=>none
   | _=>none
 | .indexAddr t x ix=>(L.el t).bind fun e=>(zg5 s x).bind fun(d0,k,r)=>(ze9 L s ix).bind fun n =>
   if 0≤n∧n<r.length∧k=e.size then
    match o.dst with
    | some d=>if d<s.σ.length∧d≠d0 then
      let s':=s.put (some d) .und
      some {s' with pe:=(d,.el d0 k n.toNat 0)::s'.pe}
     else none
    | none=>none
   else none
 | .makeSlice t l c=>(L.el t).bind fun e=>(ze9 L s l).bind fun l=>(ze9 L s c).bind fun c =>
   match o.dst with
   | some d=>if 0≤l∧l≤c∧c≤zgY∧0<e.size∧apL e.size e.zero=true then some (s.put (some d) (.arr e.size (List.replicate l.toNat e.zero))) else none
   | none=>none
 | .call {callee:=.builtin .len,args,argTypes}=>match args.toList with
  | [x]=>if argTypes.size=1 then(L.el (argTypes.getD 0 0)).bind fun _=>(zg5 s x).map fun(_,_,r)=>s.put o.dst (.v (.cell (.int r.length))) else none
  | _=>none
 | .call {callee:=.value (.func f),args,argTypes} =>
   if L.home (f+1) o.dst then(ze4 L s args.toList argTypes.toList).bind fun vs=>(call f vs).bind fun r=>(L.el o.type).bind fun e =>
    match r with
    | .v (.cell (.sl k rows))=>match o.dst with
     | some d=>if k=e.size∧apR k rows=true∧0<e.size then some (s.put (some d) (.arr k rows)) else none
     | none=>none
    | _=>none
   else if L.lent f then(zp5 L s args.toList argTypes.toList).bind fun vs=>(call f vs).bind fun r=>if zqA r then some (s.put o.dst r) else none else none
 | _=>none
def vop (L:Lay) (call:Orc) (o:Oper) (s:VS):Option VS:=if ze5 L o s then zfI L call o s else zaK L call o s
def zck (ops:List Oper) (s:VS) (g:Nat×Bool):Option Bool :=
 match ops[g.1]? with
 | some o=>match o.dst with
  | some d=>match s.get d with
   | .v (.cell (.bool b))=>some (b==g.2)
   | .und=>some false
   | _=>none
  | none=>none
 | none=>none
def ziW (L:Lay) (call:Orc) (all:List Oper):List Oper→VS→Option VS
 | [],s=>some s
 | o::rest,s =>
  match o.guard with
  | none=>(vop L call o s).bind (ziW L call all rest)
  | some g=>(zck all s g).bind fun t=>(if t then vop L call o s else some (s.put o.dst .und)).bind (ziW L call all rest)
def zdC (L:Lay) (call:Orc) (all:List Oper):List Oper→VS→Option VS
 | [],s=>some s
 | o::rest,s =>
  match o.guard with
  | none=>(zaK L call o s).bind (zdC L call all rest)
  | some g=>(zck all s g).bind fun t=>(if t then zaK L call o s else some (s.put o.dst .und)).bind (zdC L call all rest)
def zbH:AV→Bool
 | .arr _ _=>true
 | .al _=>true
 | _=>false
def zbK:Nat:=4294967296
def zit (s:List AV):List AV:=s.map fun x=>if zbH x then .al zbK else x
def zey (s:List AV):AV→AV
 | .arr k r=>.v (.cell (.sl k r))
 | .al d=>match s.getD d .und with
  | .arr k r=>.v (.cell (.sl k r))
  | _=>.al zbK
 | x=>x
def zjg (s:List AV):List AV:=s.map (zey s)
def Lay.rows (L:Lay) (ops:List Oper):List Nat :=
 match ops with
 | {dst:=some d,..}::_=>match L.draws.find? fun e=>Nat.beq e.1 d&&Nat.beq e.2.1 ops.length with
  | some e=>e.2.2
  | none=>[]
 | _=>[]
def zg9 (H:List Nat) (o:Oper):Option (Nat×Nat) :=
 match o.op,o.dst with
 | .move (.tmp z),some d=>if H.any (fun e=>Nat.beq e z) then some (d,z) else none
 | _,_=>none
def zBs:List Oper→Bool
 | [o,o']=>(match o.op,o.dst,o'.op,o'.dst with
  | .indexAddr _ _ _,some d,.store _ (.tmp x) _,none=>Nat.beq d x&&o.guard.isNone&&o'.guard.isNone
  | _,_,_,_=>false)
 | _=>false
def zdT (ops:List Oper):Nat:=if zBs (ops.drop (ops.length-2)) then ops.length-2 else ops.length
def zA6 (o:Oper):Bool:=match o.op with|.store _ _ _=>true|_=>false
def zza (L:Lay) (ops:List Oper):Bool:=ops.any (fun o=>(zg9 (L.rows ops) o).isSome)&&!(ops.take (zdT ops)).any zA6
def zjY (t:Nat) (o:Oper):Bool:=match o.dst with
 | some d=>Nat.beq d t
 | none=>false
def zd6 (H:List Nat) (core:List Oper) (s:List AV) (s1:VS) (t:Nat) (x:AV):Option AV :=
 match core.find? (zjY t) with
 | none=>some x
 | some o=>match zg9 H o,o.guard with
  | some (_,z),none=>(match zgg {σ:=s,pe:=[]} z,s1.get t with
   | some (d,_,_),.v (.cell (.sl _ _))=>some (.al d)
   | _,_=>none)
  | _,_=>match s1.get t with
   | .v (.cell c)=>if zl5 c then some (.v (.cell c)) else some (.al zbK)
   | .und=>some .und
   | _=>none
def zjR (f:Nat→AV→Option AV):Nat→List AV→Option (List AV)
 | _,[]=>some []
 | t,x::xs=>(f t x).bind fun y=>(zjR f (t+1) xs).map (y::·)
def zj9 (L:Lay) (call:Orc) (ops:List Oper) (s:List AV):Option (List AV) :=
 if zza L ops then
  (zdC L call ops (ops.take (zdT ops)) {σ:=zjg s,pe:=[]}).bind fun s1 =>
  (zjR (zd6 (L.rows ops) (ops.take (zdT ops)) s s1) 0 s).bind fun s2=>(ziW L call ops (ops.drop (zdT ops)) {σ:=s2,pe:=[]}).map (·.σ)
 else(zdC L call ops ops {σ:=zit s,pe:=[]}).map (·.σ)
inductive Xt where
 | norm
 | exit (id:Nat)
 | ret
 deriving DecidableEq
def zbj (L:Lay) (call:Orc):Nat→Code→List AV→Option (Xt×List AV)
 | 0,_,_=>none
 | n+1,c,s =>
  match c with
  | .skip=>some (.norm,s)
  | .region _ ops d=>if d then(zj9 L call ops.toList s).map fun s=>(.norm,s)
   else(ziW L call ops.toList ops.toList {σ:=s,pe:=[]}).map fun s=>(.norm,s.σ)
  | .seq a b=>(zbj L call n a s).bind fun r=>match r with
   | (.norm,s')=>zbj L call n b s'
   | r=>some r
  | .cond x a b=>(zfk L {σ:=s,pe:=[]} x).bind fun t=>if t then zbj L call n a s else zbj L call n b s
  | .block id b=>(zbj L call n b s).map fun r=>match r with
   | (.exit i,s')=>if i=id then(.norm,s') else(.exit i,s')
   | r=>r
  | .loop b=>(zbj L call n b s).bind fun r=>match r with
   | (.norm,s')=>zbj L call n (.loop b) s'
   | r=>some r
  | .exit id=>some (.exit id,s)
  | .ret=>some (.ret,s)
  | _=>none
def zhk (L:Lay) (s:List AV):ResultVar→Option SV
 | .tmp t=>match s.getD t .und with
  | .v x=>some x
  | _=>(zgg {σ:=s,pe:=[]} t).map fun a=>.cell (.sl a.2.1 a.2.2)
 | .cell t ty=>match s.getD t .und with
  | .box cs=>(L.ti ty).bind fun i=>if i.size=cs.length then mkV i cs else none
  | _=>none
def zeq (L:Lay) (s:List AV):List ResultVar→Option (List SV)
 | []=>some []
 | r::rs=>(zhk L s r).bind fun v=>(zeq L s rs).map (v::·)
def zkq (L:Lay) (call:Orc) (n:Nat) (fn:Func) (args:List SV):Option AV :=
 match fn.body with
 | none=>none
 | some c=>if args.length≤fn.ntmps then(zbj L call n c (args.map .v++List.replicate (fn.ntmps-args.length) .und)).bind fun r=>match r with
  | (.exit _,_)=>none
  | (_,s)=>(zeq L s fn.results.toList).map fun vs=>match vs with
   | [v]=>.v v
   | vs=>.tup vs
  else none
structure zxI where
 g:Option Nat
 agg:Bool
 sh:List AC
 agg':Bool
 sh':List AC
inductive Ext where
 | map (m:zxI)
 | fn (run:List SV→Option AV)
abbrev zpI:=List (Nat×Ext)
def zxt:List AC→List AC→Bool
 | [],[]=>true
 | .int _::s,.int _::c=>zxt s c
 | .bool _::s,.bool _::c=>zxt s c
 | .sl k _::s,.sl k' _::c=>Nat.beq k k'&&zxt s c
 | _,_=>false
def mkS (agg:Bool) (r:List AC):SV:=if agg then .agg r else .cell (r.headD default)
def zDe:SV→Bool
 | .agg _=>true
 | .cell _=>false
def zzc (call:Orc) (m:zxI) (r:List AC):Option (List AC) :=
 match m.g with
 | none=>some r
 | some g=>(call g [mkS m.agg r]).bind fun a=>match a with
  | .v y=>if zxt m.sh' y.cells=true∧zDe y=m.agg' then some y.cells else none
  | _=>none
def ztg (call:Orc) (m:zxI):List (List AC)→Option (List (List AC))
 | []=>some []
 | r::rs=>(zzc call m r).bind fun x=>(ztg call m rs).map (x::·)
def ziT (call:Orc):Ext→List SV→Option AV
 | .fn run,args=>run args
 | .map m,args=>match args with
  | [.cell (.sl k rows)]=>if k=m.sh.length∧rows.length≤1048576∧rows.all (zxt m.sh)=true then(ztg call m rows).map fun rs=>.v (.cell (.sl m.sh'.length rs)) else none
  | _=>none
def zfa (P:Program) (L:Lay) (F:Nat→Bool) (E:zpI):Nat→Orc
 | 0,_,_=>none
 | n+1,f,args=>if F f then match P.funcs[f]? with
  | some fn=>zkq L (zfa P L F E n) n fn args
  | none=>none else match E.lookup f with
   | some e=>ziT (zfa P L F E n) e args
   | none=>none
end
section
open Go
def Orc.le (a b:Orc):Prop:=∀f x r,a f x=some r→b f x=some r
theorem zmn {L:Lay}{c c':Orc} (h:c.le c') {o:Oper}{s s':VS} (hs:zaK L c o s=some s'):zaK L c' o s=some s':=by
 unfold zaK at hs ⊢;split <;> simp_all only [zzOb,zzOm]
 obtain⟨vs,h1,r,h2,h3⟩:=hs;exact⟨vs,h1,r,h _ _ _ h2,h3⟩
theorem zAB {L:Lay}{c c':Orc} (h:c.le c') {o:Oper}{s s':VS} (hs:zfI L c o s=some s'):zfI L c' o s=some s':=by
 unfold zfI at hs ⊢;split at hs
 case h_8 =>
  split at hs
  ·rename_i hh
   rw[if_pos hh];simp only[zzOb] at hs ⊢;obtain⟨vs,h1,r,h2,h3⟩:=hs;exact⟨vs,h1,r,h _ _ _ h2,h3⟩
  ·rename_i hh
   rw[if_neg hh];split at hs
   ·rename_i hl
    rw[if_pos hl];simp only[zzOb] at hs ⊢;obtain⟨vs,h1,r,h2,h3⟩:=hs;exact⟨vs,h1,r,h _ _ _ h2,h3⟩
   ·cases hs
 all_goals exact hs
theorem zsg {L:Lay}{c c':Orc} (h:c.le c') {o:Oper}{s s':VS} (hs:vop L c o s=some s'):vop L c' o s=some s':=by
 unfold vop at hs ⊢;split at hs
 ·rename_i hi
  rw[if_pos hi];exact zAB h hs
 ·rename_i hi
  rw[if_neg hi];exact zmn h hs
theorem zhw {L:Lay}{c c':Orc} (h:c.le c') {all:List Oper}:∀{ops:List Oper}{s s':VS},zdC L c all ops s=some s'→zdC L c' all ops s=some s'
 | [],_,_,hs=>hs
 | o::rest,s,s',hs=>by
  unfold zdC at hs ⊢;split at hs
  ·rename_i hg
   simp only[zzOb] at hs ⊢;obtain⟨s1,h1,h2⟩:=hs;exact⟨s1,zmn h h1,zhw h h2⟩
  ·rename_i g hg
   simp only[zzOb] at hs ⊢;obtain⟨t,h0,s1,h1,h2⟩:=hs;refine⟨t,h0,s1,?_,zhw h h2⟩
   cases t
   ·exact h1
   ·exact zmn h h1
theorem zhf {L:Lay}{c c':Orc} (h:c.le c') {all:List Oper}:∀{ops:List Oper}{s s':VS},ziW L c all ops s=some s'→ziW L c' all ops s=some s'
 | [],_,_,hs=>hs
 | o::rest,s,s',hs=>by
  unfold ziW at hs ⊢;split at hs
  ·rename_i hg
   simp only[zzOb] at hs ⊢;obtain⟨s1,h1,h2⟩:=hs;exact⟨s1,zsg h h1,zhf h h2⟩
  ·rename_i g hg
   simp only[zzOb] at hs ⊢;obtain⟨t,h0,s1,h1,h2⟩:=hs;refine⟨t,h0,s1,?_,zhf h h2⟩
   cases t
   ·exact h1
   ·exact zsg h h1
theorem zpZ {L:Lay}{c c':Orc} (h:c.le c') {ops:List Oper}{s s':List AV} (hs:zj9 L c ops s=some s'):zj9 L c' ops s=some s':=by
 unfold zj9 at hs ⊢;split at hs
 ·rename_i hr
  rw[if_pos hr];simp only[zzOb,zzOm] at hs ⊢;obtain⟨s1,h1,s2,h2,s3,h3,h4⟩:=hs;exact⟨s1,zhw h h1,s2,h2,s3,zhf h h3,h4⟩
 ·rename_i hr
  rw[if_neg hr];simp only[zzOm] at hs ⊢;obtain⟨s1,h1,h2⟩:=hs;exact⟨s1,zhw h h1,h2⟩
theorem zcH {L:Lay}{c c':Orc} (h:c.le c'):∀{n m:Nat}{k:Code}{s:List AV}{r:Xt×List AV},n≤m→zbj L c n k s=some r→zbj L c' m k s=some r
 | 0,_,_,_,_,_,hs=>by simp[zbj] at hs
 | n+1,0,_,_,_,hm,_=>by omega
 | n+1,m+1,k,s,r,hm,hs=>by
  have hm':n≤m:=by omega
  cases k <;> simp only[zbj] at hs ⊢ <;> try exact hs
  case region id ops d =>
   cases d
   ·simp only[Bool.false_eq_true,if_false,zzOm] at hs ⊢
    obtain⟨s1,h1,h2⟩:=hs;exact⟨s1,zhf h h1,h2⟩
   ·simp only[if_true,zzOm] at hs ⊢
    obtain⟨s1,h1,h2⟩:=hs;exact⟨s1,zpZ h h1,h2⟩
  case seq a b =>
   simp only[zzOb] at hs ⊢;obtain⟨⟨e,s1⟩,h1,h2⟩:=hs;refine⟨_,zcH h hm' h1,?_⟩
   cases e with
   | norm=>exact zcH h hm' h2
   | exit i=>exact h2
   | ret=>exact h2
  case cond x a b =>
   simp only[zzOb] at hs ⊢;obtain⟨t,h1,h2⟩:=hs;refine⟨t,h1,?_⟩
   cases t
   ·exact zcH h hm' h2
   ·exact zcH h hm' h2
  case block id b =>
   simp only[zzOm] at hs ⊢;obtain⟨r1,h1,h2⟩:=hs;exact⟨r1,zcH h hm' h1,h2⟩
  case loop b =>
   simp only[zzOb] at hs ⊢;obtain⟨⟨e,s1⟩,h1,h2⟩:=hs;refine⟨_,zcH h hm' h1,?_⟩
   cases e with
   | norm=>exact zcH h hm' h2
   | exit i=>exact h2
   | ret=>exact h2
theorem zxa {L:Lay}{c c':Orc} (h:c.le c') {n m:Nat}{fn:Func}{args:List SV}{r:AV} (hm:n≤m) (hs:zkq L c n fn args=some r):zkq L c' m fn args=some r:=by
 unfold zkq at hs ⊢;split at hs
 ·exact hs
 ·rename_i k hk
  split at hs
  ·rename_i hlen
   rw[if_pos hlen];simp only[zzOb] at hs ⊢;obtain⟨r1,h1,h2⟩:=hs;exact⟨r1,zcH h hm h1,h2⟩
  ·cases hs
theorem zAK {c c':Orc} (h:c.le c') {m:zxI}{r x:List AC} (hs:zzc c m r=some x):zzc c' m r=some x:=by
 unfold zzc at hs ⊢;split at hs
 ·exact hs
 ·simp only[zzOb] at hs ⊢
  obtain⟨a,h1,h2⟩:=hs;exact⟨a,h _ _ _ h1,h2⟩
theorem ztU {c c':Orc} (h:c.le c') {m:zxI}:∀{rs xs:List (List AC)},ztg c m rs=some xs→ztg c' m rs=some xs
 | [],_,hs=>hs
 | r::rs,xs,hs=>by
  simp only[ztg,zzOb,zzOm] at hs ⊢;obtain⟨x,h1,ys,h2,h3⟩:=hs;exact⟨x,zAK h h1,ys,ztU h h2,h3⟩
theorem zvh {c c':Orc} (h:c.le c') {e:Ext}{args:List SV}{r:AV} (hs:ziT c e args=some r):ziT c' e args=some r:=by
 cases e with
 | fn run=>exact hs
 | map m =>
  unfold ziT at hs ⊢;simp only at hs ⊢;split at hs
  ·split at hs
   ·rename_i hc
    rw[if_pos hc];simp only[zzOm] at hs ⊢;obtain⟨rs,h1,h2⟩:=hs;exact⟨rs,ztU h h1,h2⟩
   ·cases hs
  ·cases hs
theorem zb6 {P:Program}{L:Lay}{F:Nat→Bool}{E:zpI}:∀{n m:Nat},n≤m→Orc.le (zfa P L F E n) (zfa P L F E m)
 | 0,_,_=>fun _ _ _ h=>by simp[zfa] at h
 | n+1,0,hm=>by omega
 | n+1,m+1,hm=>fun f x r h=>by
  have hm':n≤m:=by omega
  simp only[zfa] at h ⊢;split at h
  ·rename_i hF
   rw[if_pos hF];split at h
   ·exact zxa (zb6 hm') hm' h
   ·exact h
  ·rename_i hF
   rw[if_neg hF];split at h
   ·exact zvh (zb6 hm') h
   ·cases h
noncomputable def lim {α:Type} (g:Nat→Option α):Option α :=
 open Classical in if h:∃n,(g n).isSome then g h.choose else none
def zxJ {α:Type} (g:Nat→Option α):Prop:=∀n m r,n≤m→g n=some r→g m=some r
theorem zoW {α:Type}{g:Nat→Option α} (hg:zxJ g) {r:α}:lim g=some r↔∃n,g n=some r:=by
 unfold lim;constructor
 ·intro h
  split at h
  ·exact⟨_,h⟩
  ·cases h
 ·rintro⟨n,hn⟩
  have h:∃n,(g n).isSome:=⟨n,by rw[hn];rfl⟩
  rw[dif_pos h];obtain⟨r',hr'⟩:=Option.isSome_iff_exists.1 h.choose_spec;rw[hr'];rcases Nat.le_total n h.choose with hle|hle
  ·rw[hg _ _ _ hle hn] at hr';exact hr'.symm
  ·rw[hg _ _ _ hle hr'] at hn;exact hn
noncomputable def V (P:Program) (L:Lay) (F:Nat→Bool) (E:zpI):Orc:=fun f x=>lim fun n=>zfa P L F E n f x
noncomputable def VC (P:Program) (L:Lay) (F:Nat→Bool) (E:zpI) (k:Code) (s:List AV):Option (Xt×List AV):=lim fun n=>zbj L (zfa P L F E n) n k s
section
variable {P:Program}{L:Lay}{F:Nat→Bool}{E:zpI}
theorem zBF (f:FuncId) (x:List SV):zxJ fun n=>zfa P L F E n f x:=fun _ _ _ h hs=>zb6 h _ _ _ hs
theorem zy7 (k:Code) (s:List AV):zxJ fun n=>zbj L (zfa P L F E n) n k s:=fun _ _ _ h hs=>zcH (zb6 h) h hs
theorem V_iff {f:FuncId}{x:List SV}{r:AV}:V P L F E f x=some r↔∃n,zfa P L F E n f x=some r:=zoW (zBF f x)
theorem VC_iff {k:Code}{s:List AV}{r:Xt×List AV}:VC P L F E k s=some r↔∃n,zbj L (zfa P L F E n) n k s=some r:=zoW (zy7 k s)
theorem zAV (n:Nat):Orc.le (zfa P L F E n) (V P L F E):=fun _ _ _ h=>V_iff.2 ⟨n,h⟩
theorem znj {o:Oper}{s s':VS} (h:zaK L (V P L F E) o s=some s'):∃n,zaK L (zfa P L F E n) o s=some s':=by
 unfold zaK at h ⊢;split <;> simp_all only [zzOb,zzOm,exists_const]
 obtain⟨vs,h1,r,h2,h3⟩:=h;obtain⟨n,hn⟩:=V_iff.1 h2;exact⟨n,vs,h1,r,hn,h3⟩
theorem zvJ {o:Oper}{s s':VS} (h:zfI L (V P L F E) o s=some s'):∃n,zfI L (zfa P L F E n) o s=some s':=by
 unfold zfI at h ⊢;split at h
 case h_8 =>
  split at h
  ·rename_i hh
   simp only[if_pos hh];simp only[zzOb] at h ⊢;obtain⟨vs,h1,r,h2,h3⟩:=h;obtain⟨n,hn⟩:=V_iff.1 h2;exact⟨n,vs,h1,r,hn,h3⟩
  ·rename_i hh
   simp only[if_neg hh];split at h
   ·rename_i hl
    simp only[if_pos hl];simp only[zzOb] at h ⊢;obtain⟨vs,h1,r,h2,h3⟩:=h;obtain⟨n,hn⟩:=V_iff.1 h2;exact⟨n,vs,h1,r,hn,h3⟩
   ·cases h
 all_goals exact⟨0,h⟩
theorem zsK {o:Oper}{s s':VS} (h:vop L (V P L F E) o s=some s'):∃n,vop L (zfa P L F E n) o s=some s':=by
 unfold vop at h ⊢;split at h
 ·rename_i hi
  simp only[if_pos hi];exact zvJ h
 ·rename_i hi
  simp only[if_neg hi];exact znj h
theorem zjn {all:List Oper}:∀{ops:List Oper}{s s':VS},zdC L (V P L F E) all ops s=some s'→∃n,zdC L (zfa P L F E n) all ops s=some s'
 | [],_,_,h=>⟨0,h⟩
 | o::rest,s,s',h=>by
  unfold zdC at h ⊢;split at h
  ·simp only[zzOb] at h ⊢
   obtain⟨s1,h1,h2⟩:=h;obtain⟨n1,h1⟩:=znj h1;obtain⟨n2,h2⟩:=zjn h2;exact⟨max n1 n2,s1,zmn (zb6 (Nat.le_max_left _ _)) h1,zhw (zb6 (Nat.le_max_right _ _)) h2⟩
  ·simp only[zzOb] at h ⊢
   obtain⟨t,h0,s1,h1,h2⟩:=h;obtain⟨n2,h2⟩:=zjn h2;cases t
   ·exact⟨n2,false,h0,s1,h1,h2⟩
   ·obtain⟨n1,h1⟩:=znj h1
    exact⟨max n1 n2,true,h0,s1,zmn (zb6 (Nat.le_max_left _ _)) h1,zhw (zb6 (Nat.le_max_right _ _)) h2⟩
theorem zk2 {all:List Oper}:∀{ops:List Oper}{s s':VS},ziW L (V P L F E) all ops s=some s'→∃n,ziW L (zfa P L F E n) all ops s=some s'
 | [],_,_,h=>⟨0,h⟩
 | o::rest,s,s',h=>by
  unfold ziW at h ⊢;split at h
  ·simp only[zzOb] at h ⊢
   obtain⟨s1,h1,h2⟩:=h;obtain⟨n1,h1⟩:=zsK h1;obtain⟨n2,h2⟩:=zk2 h2;exact⟨max n1 n2,s1,zsg (zb6 (Nat.le_max_left _ _)) h1,zhf (zb6 (Nat.le_max_right _ _)) h2⟩
  ·simp only[zzOb] at h ⊢
   obtain⟨t,h0,s1,h1,h2⟩:=h;obtain⟨n2,h2⟩:=zk2 h2;cases t
   ·exact⟨n2,false,h0,s1,h1,h2⟩
   ·obtain⟨n1,h1⟩:=zsK h1
    exact⟨max n1 n2,true,h0,s1,zsg (zb6 (Nat.le_max_left _ _)) h1,zhf (zb6 (Nat.le_max_right _ _)) h2⟩
theorem zuH {ops:List Oper}{s s':List AV} (hs:zj9 L (V P L F E) ops s=some s'):∃n,zj9 L (zfa P L F E n) ops s=some s':=by
 unfold zj9 at hs ⊢;split at hs
 ·rename_i hr
  simp only[if_pos hr];simp only[zzOb,zzOm] at hs ⊢;obtain⟨s1,h1,s2,h2,s3,h3,h4⟩:=hs;obtain⟨n1,h1⟩:=zjn h1;obtain⟨n2,h3⟩:=zk2 h3;exact⟨max n1 n2,s1,zhw (zb6 (Nat.le_max_left _ _)) h1,s2,h2,s3,zhf (zb6 (Nat.le_max_right _ _)) h3,h4⟩
 ·rename_i hr
  simp only[if_neg hr];simp only[zzOm] at hs ⊢;obtain⟨s1,h1,h2⟩:=hs;obtain⟨n,hn⟩:=zjn h1;exact⟨n,s1,hn,h2⟩
theorem zff {α:Type}{a b:Option α} (h:∀r,a=some r↔b=some r):a=b:=Option.ext (by simpa using h)
theorem zzx (s:List AV):VC P L F E .skip s=some (.norm,s):=VC_iff.2 ⟨1,rfl⟩
theorem zy2 (id:Nat) (s:List AV):VC P L F E (.exit id) s=some (.exit id,s):=VC_iff.2 ⟨1,rfl⟩
theorem zBS (s:List AV):VC P L F E .ret s=some (.ret,s):=VC_iff.2 ⟨1,rfl⟩
theorem zvV (id:Nat) (ops:Array Oper) (s:List AV) :
  VC P L F E (.region id ops false) s=(ziW L (V P L F E) ops.toList ops.toList {σ:=s,pe:=[]}).map fun s=>(.norm,s.σ):=by
 refine zff fun r=>?_
 rw[VC_iff];constructor
 ·rintro⟨n,hn⟩
  cases n with
  | zero=>simp[zbj] at hn
  | succ n =>
   simp only[zbj,Bool.false_eq_true,if_false,zzOm] at hn ⊢;obtain⟨s1,h1,h2⟩:=hn;exact⟨s1,zhf (zAV _) h1,h2⟩
 ·intro h
  simp only[zzOm] at h;obtain⟨s1,h1,h2⟩:=h;obtain⟨n,hn⟩:=zk2 h1;refine⟨n+1,?_⟩
  simp only[zbj,Bool.false_eq_true,if_false,zzOm];exact⟨s1,zhf (zb6 (Nat.le_succ n)) hn,h2⟩
theorem zv2 (id:Nat) (ops:Array Oper) (s:List AV) :
  VC P L F E (.region id ops true) s=(zj9 L (V P L F E) ops.toList s).map fun s=>(.norm,s):=by
 refine zff fun r=>?_
 rw[VC_iff];constructor
 ·rintro⟨n,hn⟩
  cases n with
  | zero=>simp[zbj] at hn
  | succ n =>
   simp only[zbj,if_true,zzOm] at hn ⊢;obtain⟨s1,h1,h2⟩:=hn;exact⟨s1,zpZ (zAV _) h1,h2⟩
 ·intro h
  simp only[zzOm] at h;obtain⟨s1,h1,h2⟩:=h;obtain⟨n,hn⟩:=zuH h1;refine⟨n+1,?_⟩
  simp only[zbj,if_true,zzOm];exact⟨s1,zpZ (zb6 (Nat.le_succ n)) hn,h2⟩
noncomputable def andThen (P:Program) (L:Lay) (F:Nat→Bool) (E:zpI) (k:Code):Xt×List AV→Option (Xt×List AV)
 | (.norm,s)=>VC P L F E k s
 | r=>some r
theorem zkQ {n:Nat}{k:Code}{s:List AV}{r:Xt×List AV} (h:zbj L (zfa P L F E (n+1)) n k s=some r):VC P L F E k s=some r :=
 VC_iff.2 ⟨n+1,zcH (fun _ _ _ h=>h) (Nat.le_succ n) h⟩
theorem zkk {k:Code}{s:List AV}{r:Xt×List AV} (h:VC P L F E k s=some r):∃n,∀m,n≤m→zbj L (zfa P L F E (m+1)) m k s=some r:=by
 obtain⟨n,hn⟩:=VC_iff.1 h;exact⟨n,fun m hm=>zcH (zb6 (by omega)) hm hn⟩
theorem zxc {a b:Code}{s:List AV}{c:Code} (hc:∀n,zbj L (zfa P L F E (n+1)) (n+1) c s=(zbj L (zfa P L F E (n+1)) n a s).bind fun r=>match r with
   | (.norm,s')=>zbj L (zfa P L F E (n+1)) n b s'
   | r=>some r):VC P L F E c s=(VC P L F E a s).bind (andThen P L F E b):=by
 refine zff fun r=>?_
 simp only[zzOb];constructor
 ·intro h
  obtain⟨n,hn⟩:=VC_iff.1 h;have hn:=zcH (L:=L) (zb6 (P:=P) (Nat.le_succ n)) (Nat.le_succ n) hn
  rw[hc] at hn;simp only[zzOb] at hn;obtain⟨⟨e,s1⟩,h1,h2⟩:=hn;refine⟨_,zkQ h1,?_⟩
  cases e with
  | norm=>exact zkQ h2
  | exit i=>exact h2
  | ret=>exact h2
 ·rintro⟨⟨e,s1⟩,h1,h2⟩
  obtain⟨n1,h1⟩:=zkk h1;cases e with
  | norm =>
   obtain⟨n2,h2⟩:=zkk (P:=P) (L:=L) (k:=b) h2;refine VC_iff.2 ⟨max n1 n2+1,?_⟩
   rw[hc];simp only[zzOb];exact⟨_,h1 _ (Nat.le_max_left _ _),h2 _ (Nat.le_max_right _ _)⟩
  | exit i =>
   refine VC_iff.2 ⟨n1+1,?_⟩
   rw[hc];simp only[zzOb];exact⟨_,h1 _ (Nat.le_refl _),h2⟩
  | ret =>
   refine VC_iff.2 ⟨n1+1,?_⟩
   rw[hc];simp only[zzOb];exact⟨_,h1 _ (Nat.le_refl _),h2⟩
theorem zBB (a b:Code) (s:List AV):VC P L F E (.seq a b) s=(VC P L F E a s).bind (andThen P L F E b):=zxc fun _=>rfl
theorem zyK (b:Code) (s:List AV):VC P L F E (.loop b) s=(VC P L F E b s).bind (andThen P L F E (.loop b)):=zxc fun _=>rfl
theorem zyx (x:Operand) (a b:Code) (s:List AV) :
  VC P L F E (.cond x a b) s=(zfk L {σ:=s,pe:=[]} x).bind fun t=>if t then VC P L F E a s else VC P L F E b s:=by
 refine zff fun r=>?_
 simp only[zzOb];constructor
 ·intro h
  obtain⟨n,hn⟩:=VC_iff.1 h;have hn:=zcH (L:=L) (zb6 (P:=P) (Nat.le_succ n)) (Nat.le_succ n) hn
  simp only[zbj,zzOb] at hn;obtain⟨t,h1,h2⟩:=hn;refine⟨t,h1,?_⟩
  cases t
  ·exact zkQ h2
  ·exact zkQ h2
 ·rintro⟨t,h1,h2⟩
  cases t
  ·obtain⟨n,h2⟩:=zkk (P:=P) (L:=L) (k:=b) h2
   refine VC_iff.2 ⟨n+1,?_⟩
   simp only[zbj,zzOb];exact⟨false,h1,h2 _ (Nat.le_refl _)⟩
  ·obtain⟨n,h2⟩:=zkk (P:=P) (L:=L) (k:=a) h2
   refine VC_iff.2 ⟨n+1,?_⟩
   simp only[zbj,zzOb];exact⟨true,h1,h2 _ (Nat.le_refl _)⟩
def zs6 (id:Nat):Xt×List AV→Xt×List AV
 | (.exit i,s)=>if i=id then(.norm,s) else(.exit i,s)
 | r=>r
theorem zwG (id:Nat) (b:Code) (s:List AV):VC P L F E (.block id b) s=(VC P L F E b s).map (zs6 id):=by
 refine zff fun r=>?_
 simp only[zzOm];constructor
 ·intro h
  obtain⟨n,hn⟩:=VC_iff.1 h;have hn:=zcH (L:=L) (zb6 (P:=P) (Nat.le_succ n)) (Nat.le_succ n) hn
  simp only[zbj,zzOm] at hn;obtain⟨t,h1,h2⟩:=hn;exact⟨t,zkQ h1,h2⟩
 ·rintro⟨t,h1,h2⟩
  obtain⟨n,h1⟩:=zkk h1;refine VC_iff.2 ⟨n+1,?_⟩
  simp only[zbj,zzOm];exact⟨t,h1 _ (Nat.le_refl _),h2⟩
def zwp (L:Lay) (fn:Func):Xt×List AV→Option AV
 | (.exit _,_)=>none
 | (_,s)=>(zeq L s fn.results.toList).map fun vs=>match vs with
   | [v]=>.v v
   | vs=>.tup vs
theorem zDg {f:FuncId}{fn:Func}{c:Code} (hF:F f=true) (hf:P.funcs[f]?=some fn) (hb:fn.body=some c) (x:List SV) (hx:x.length≤fn.ntmps) :
  V P L F E f x=(VC P L F E c (x.map .v++List.replicate (fn.ntmps-x.length) .und)).bind (zwp L fn):=by
 refine zff fun r=>?_
 simp only[zzOb];constructor
 ·intro h
  obtain⟨n,hn⟩:=V_iff.1 h;cases n with
  | zero=>simp[zfa] at hn
  | succ n =>
   simp only[zfa,hF,if_true,hf,zkq,hb,if_pos hx,zzOb] at hn;obtain⟨⟨e,s1⟩,h1,h2⟩:=hn;exact⟨_,VC_iff.2 ⟨n,h1⟩,by cases e <;> exact h2⟩
 ·rintro⟨⟨e,s1⟩,h1,h2⟩
  obtain⟨n,hn⟩:=VC_iff.1 h1;refine V_iff.2 ⟨n+1,?_⟩
  simp only[zfa,hF,if_true,hf,zkq,hb,if_pos hx,zzOb];exact⟨_,hn,by cases e <;> exact h2⟩
end
end
section
open Go
section
variable {P:Program}{L:Lay}{F:Nat→Bool}{E:zpI}
end
theorem zzJ {n:Int} (h1:-9223372036854775808≤n) (h2:n≤9223372036854775807):zaf n=n:=by
 unfold zaf;rw[IntKind.wrap_i64];omega
end
end Go.Proofs.Ytcpcagdialnbeaa
