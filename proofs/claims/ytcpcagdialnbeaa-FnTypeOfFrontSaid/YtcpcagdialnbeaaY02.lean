/- Generic texts and models for the proofs of this seat: part 2. -/
import Derived.Test.YtcpcagdialnbeaaY01
set_option linter.unusedVariables false
set_option linter.unusedSimpArgs false
namespace Go.Proofs.Ytcpcagdialnbeaa
section
open Go
abbrev Ov:=List (Nat×AV)
def Ov.at:Ov→Nat→Option AV
 | [],_=>none
 | (j,x)::r,i=>bif Nat.beq j i then some x else Ov.at r i
structure VK where
 o:Ov
 pe:List (Nat×Ptr)
def VK.put (s:VK) (d:Option Nat) (x:AV):VK :=
 match d with
 | some d=>{o:=(d,x)::s.o,pe:=s.pe.filter fun e=>!(e.1==d)&&!e.2.at d}
 | none=>s
def Fn (τ:Type):List AC→Type
 | []=>τ
 | .int _::r=>Int→Fn τ r
 | .bool _::r=>Bool→Fn τ r
 | .sl _ _::r=>List (List AC)→Fn τ r
def zi4 {ρ:Type}:(sh cs:List AC)→Fn (Option ρ) sh→Option ρ
 | [],cs,K=>match cs with
  | []=>K
  | _::_=>none
 | .int _::r,cs,K=>match cs with
  | .int n::cs=>zi4 r cs (K n)
  | _=>none
 | .bool _::r,cs,K=>match cs with
  | .bool b::cs=>zi4 r cs (K b)
  | _=>none
 | .sl k _::r,cs,K=>match cs with
  | .sl k' x::cs=>bif Nat.beq k k' then zi4 r cs (K x) else none
  | _=>none
def zot {τ:Type}:(sh:List AC)→(List AC→τ)→Fn τ sh
 | [],K=>K []
 | .int _::r,K=>fun n=>zot r fun cs=>K (.int n::cs)
 | .bool _::r,K=>fun b=>zot r fun cs=>K (.bool b::cs)
 | .sl k _::r,K=>fun x=>zot r fun cs=>K (.sl k x::cs)
abbrev Form:=Bool×List AC
def zaW (fs:List Form):List AC:=fs.flatMap (·.2)
def zwI:Form→SV→Bool
 | (true,sh),.agg cs=>Nat.beq cs.length sh.length
 | (false,sh),.cell _=>Nat.beq sh.length 1
 | _,_=>false
def zk6:List Form→List SV→Bool
 | [],[]=>true
 | f::fs,v::vs=>zwI f v&&zk6 fs vs
 | _,_=>false
def zfu:List Form→List AC→List SV
 | [],_=>[]
 | (true,sh)::r,cs=>.agg (cs.take sh.length)::zfu r (cs.drop sh.length)
 | (false,sh)::r,cs=>.cell (cs.headD default)::zfu r (cs.drop sh.length)
def zrG (tup:Bool) (vs:List SV):AV:=bif tup then .tup vs else .v (vs.headD default)
def zaz {ρ:Type} (x:Option AV) (tup:Bool) (fs:List Form) (K:Fn (Option ρ) (zaW fs)):Option ρ :=
 match x with
 | some (.v v)=>bif !tup&&zk6 fs [v] then zi4 (zaW fs) v.cells K else none
 | some (.tup vs)=>bif tup&&zk6 fs vs then zi4 (zaW fs) (vs.flatMap SV.cells) K else none
 | _=>none
def ztN (r:List (List AC)) (n:Int):Bool:=decide (0≤n)&&decide (n<r.length)
def zei {ρ:Type} (r:List (List AC)) (n:Int) (sh:List AC) (K:Fn (Option ρ) sh):Option ρ:=bif ztN r n then zi4 sh (r.getD n.toNat []) K else none
def zti {ρ:Type} (r:List (List AC)) (l h:Int) (K:List (List AC)→Option ρ):Option ρ :=
 bif decide (0≤l∧l≤h∧h≤r.length) then K ((r.drop l.toNat).take (h.toNat-l.toNat)) else none
def zzA {ρ:Type} (l c:Int) (z:List AC) (K:List (List AC)→Option ρ):Option ρ :=
 bif decide (0≤l∧l≤c∧c≤zgY) then K (List.replicate l.toNat z) else none
def ze8 {ρ:Type} (r r':List (List AC)) (K:List (List AC)→Option ρ):Option ρ :=
 bif decide ((r++r').length≤zgY) then K (r++r') else none
def zqk {ρ:Type} (a b:Int) (K:Int→Option ρ):Option ρ:=bif b==0 then none else K (zaf (a.tdiv b))
def zCY {ρ:Type} (a b:Int) (K:Int→Option ρ):Option ρ:=bif b==0 then none else K (a.tmod b)
def zB2 {ρ:Type} (op:BinOp) (a b:Int) (K:AC→Option ρ):Option ρ :=
 match op with
 | .quo=>zqk a b fun n=>K (.int n)
 | .rem=>zCY a b fun n=>K (.int n)
 | _=>(zuj op a b).bind K
def zC0 {ρ:Type} (r:List (List AC)) (n:Int) (K:Nat→Option ρ):Option ρ:=bif ztN r n then K n.toNat else none
def elR {ρ:Type} (r:List (List AC)) (n j m:Nat) (sh:List AC) (K:Fn (Option ρ) sh):Option ρ:=bif Nat.blt n r.length then zi4 sh (((r.getD n []).drop j).take m) K else none
def zCA {ρ:Type} (r:List (List AC)) (n j:Nat) (xs:List AC) (K:List (List AC)→Option ρ):Option ρ:=bif Nat.blt n r.length then K (r.set n (zbY (r.getD n []) j xs)) else none
def zwP {ρ:Type} (x:Option AV) (k:Nat) (K:List (List AC)→Option ρ):Option ρ :=
 match x with
 | some (.v (.cell (.sl k' rows)))=>bif Nat.beq k' k&&apR k rows then K rows else none
 | _=>none
def zxy {ρ:Type} (x:Option AV) (tup:Bool) (fs:List Form) (K:Fn (Option ρ) (zaW fs)):Option ρ :=
 match x with
 | some r=>bif zqA r then zaz (some r) tup fs K else none
 | none=>none
inductive Fr where
 | seq (c:Code)
 | blk (id:Nat)
 | loop (b:Code)
structure Ctx where
 P:Program
 L:Lay
 F:Nat→Bool
 E:zpI
 fn:Func
 lv:List (Nat×List Nat)
 jv:List (Nat×List Nat)
 tp:List (Nat×List Form)
noncomputable def zhg (X:Ctx):List Fr→Xt×List AV→Option AV
 | [],r=>zwp X.L X.fn r
 | .seq c::ks,(.norm,s)=>(VC X.P X.L X.F X.E c s).bind (zhg X ks)
 | .seq _::ks,(e,s)=>zhg X ks (e,s)
 | .blk id::ks,r=>zhg X ks (zs6 id r)
 | .loop b::ks,(.norm,s)=>(VC X.P X.L X.F X.E (.loop b) s).bind (zhg X ks)
 | .loop _::ks,(e,s)=>zhg X ks (e,s)
def AgO (o:Ov) (s:List AV):Prop:=∀i x,o.at i=some x→s.getD i .und=x
noncomputable def G (X:Ctx) (c:Code) (ks:List Fr) (o:Ov):Option AV :=
 open Classical in if h:∃r,(∃s:List AV,s.length=X.fn.ntmps∧AgO o s)∧∀s:List AV,s.length=X.fn.ntmps→AgO o s→(VC X.P X.L X.F X.E c s).bind (zhg X ks)=some r then some h.choose else none
section
variable (X:Ctx)
def svK (L:Lay) (st:VK) (t:Nat):Operand→Option SV
 | .tmp i=>match st.o.at i with
  | some (.v x)=>some x
  | _=>none
 | .const v=>zsj L t v
 | _=>none
def mvK (L:Lay) (st:VK) (t:Nat):Operand→Option AV
 | .tmp i=>match st.o.at i with
  | some (.v x)=>some (.v x)
  | some (.tup xs)=>some (.tup xs)
  | _=>none
 | x=>(svK L st t x).map .v
def zmG (L:Lay) (st:VK) (x:Operand):Option Int :=
 match svK L st 0 x with
 | some (.cell (.int n))=>some n
 | _=>none
def znM (L:Lay) (st:VK) (x:Operand):Option Bool :=
 match svK L st 0 x with
 | some (.cell (.bool b))=>some b
 | _=>none
def zmp (L:Lay) (st:VK) (t:Nat) (x:Operand):Option (Nat×List (List AC)) :=
 match svK L st t x with
 | some (.cell (.sl k r))=>some (k,r)
 | _=>none
def zsn (st:VK):Operand→Option Ptr
 | .tmp i=>match st.pe.lookup i with
  | some p=>some p
  | none=>match st.o.at i with
   | some (.box _)=>some (.box i 0)
   | _=>none
 | _=>none
def zsG (L:Lay) (st:VK) (i:TI):List (Nat×Operand)→List AC→Option (List AC)
 | [],cs=>some cs
 | (f,x)::rest,cs =>
  match i.fields[f]?,svK L st 0 x with
  | some (off,sz),some v=>bif Nat.beq v.cells.length sz&&Nat.ble (off+sz) cs.length then zsG L st i rest (zbY cs off v.cells) else none
  | _,_=>none
def zsx (L:Lay) (st:VK) (k:Nat):Nat→List (Nat×Operand)→Option (List (List AC))
 | _,[]=>some []
 | j,(i,x)::rest =>
  match svK L st 0 x with
  | some v=>bif Nat.beq i j&&Nat.beq v.cells.length k then(zsx L st k (j+1) rest).map (v.cells::·) else none
  | none=>none
def znL (L:Lay) (st:VK):List Operand→List Nat→Option (List SV)
 | [],[]=>some []
 | x::xs,t::ts=>(svK L st t x).bind fun v=>bif ztF L t v then(znL L st xs ts).map (v::·) else none
 | _,_=>none
def zCu:List (Nat×List Form)→Nat→List Form
 | [],_=>[]
 | (j,f)::r,i=>bif Nat.beq j i then f else zCu r i
def zrA (o:Oper):Bool:=(X.L.ti o.type).isNone
def zhe (o:Oper):List Form :=
 match X.L.ti o.type with
 | some i=>[(Nat.beq i.kind 3,i.zero)]
 | none=>zCu X.tp (o.dst.getD 0)
def dOk (o:Oper):Bool:=match o.dst with|some d=>Nat.blt d X.fn.ntmps|none=>true
def zps (st:VK):Operand→Option (Nat×Nat×List (List AC))
 | .tmp i=>match st.o.at i with
  | some (.arr k r)=>some (i,k,r)
  | some (.al d)=>match st.o.at d with
   | some (.arr k r)=>some (d,k,r)
   | _=>none
  | _=>none
 | _=>none
def zvc (st:VK) (x:Operand):Bool:=match zsn st x with
 | some (.el _ _ _ _)=>true
 | _=>false
def zlM (o:Oper) (st:VK):Bool :=
 match o.op with
 | .move x|.assign x=>(zps st x).isSome
 | .load _ x=>zvc st x
 | .store _ x _=>zvc st x
 | .indexAddr _ x _=>(zps st x).isSome
 | .makeSlice _ _ _=>X.L.home 0 o.dst
 | .call {callee:=.builtin .len,args,..}=>args.toList.any fun x=>(zps st x).isSome
 | .call {callee:=.value (.func f),args,..}=>X.L.home (f+1) o.dst||args.toList.any fun x=>(zps st x).isSome
 | _=>false
def zBm (L:Lay) (st:VK) (t:Nat) (x:Operand):Option SV :=
 match zps st x with
 | some (_,k,r)=>some (.cell (.sl k r))
 | none=>svK L st t x
def zrR (L:Lay) (st:VK):List Operand→List Nat→Option (List SV)
 | [],[]=>some []
 | x::xs,t::ts=>(zBm L st t x).bind fun v=>bif ztF L t v then(zrR L st xs ts).map (v::·) else none
 | _,_=>none
noncomputable def zBR {ρ:Type} (o:Oper) (st:VK) (k:VK→Option ρ):Option ρ :=
 match o.op with
 | .move x|.assign x=>(zps st x).bind fun a=>match o.dst with
  | some d=>bif !Nat.beq d a.1 then k (st.put (some d) (.al a.1)) else none
  | none=>none
 | .load t a=>(X.L.ti t).bind fun i=>(zsn st a).bind fun p =>
   match p with
   | .el d0 kk n j=>match st.o.at d0 with
    | some (.arr k' r)=>bif Nat.beq kk k'&&Nat.ble (j+i.size) kk then elR r n j i.size i.zero (zot i.zero fun cs=>(mkV i cs).bind fun v=>k (st.put o.dst (.v v))) else none
    | _=>none
   | _=>none
 | .store t a x=>(X.L.ti t).bind fun i=>(zsn st a).bind fun p=>(svK X.L st t x).bind fun v =>
   match p with
   | .el d0 kk n j=>match st.o.at d0 with
    | some (.arr k' r)=>bif Nat.beq kk k'&&Nat.ble (j+i.size) kk&&Nat.beq v.cells.length i.size&&Nat.blt d0 X.fn.ntmps then zCA r n j v.cells fun r'=>k {st with o:=(d0,.arr kk r')::st.o} else none
    | _=>none
   | _=>none
 | .indexAddr t x ix=>(X.L.el t).bind fun e=>(zps st x).bind fun a=>(zmG X.L st ix).bind fun n =>
   match o.dst with
   | some d=>bif Nat.beq a.2.1 e.size&&!Nat.beq d a.1 then zC0 a.2.2 n fun m=>k {o:=(d,.und)::st.o,pe:=(d,.el a.1 e.size m 0)::(st.put (some d) .und).pe} else none
   | none=>none
 | .makeSlice t l c=>(X.L.el t).bind fun e=>(zmG X.L st l).bind fun l=>(zmG X.L st c).bind fun c =>
   match o.dst with
   | some d=>bif Nat.blt 0 e.size&&apL e.size e.zero then zzA l c e.zero fun r=>k (st.put (some d) (.arr e.size r)) else none
   | none=>none
 | .call {callee:=.builtin .len,args,argTypes}=>match args.toList with
  | [x]=>bif Nat.beq argTypes.size 1 then(X.L.el (argTypes.getD 0 0)).bind fun _=>(zps st x).bind fun a=>k (st.put o.dst (.v (.cell (.int a.2.2.length)))) else none
  | _=>none
 | .call {callee:=.value (.func f),args,argTypes} =>
   bif X.L.home (f+1) o.dst then(znL X.L st args.toList argTypes.toList).bind fun vs=>(X.L.el o.type).bind fun e=>match o.dst with
    | some d=>bif Nat.blt 0 e.size then zwP (V X.P X.L X.F X.E f vs) e.size fun rows=>k (st.put (some d) (.arr e.size rows)) else none
    | none=>none
   else bif X.L.lent f then(zrR X.L st args.toList argTypes.toList).bind fun vs =>
    zxy (V X.P X.L X.F X.E f vs) (zrA X o) (zhe X o) (zot (zaW (zhe X o)) fun cs=>k (st.put o.dst (zrG (zrA X o) (zfu (zhe X o) cs)))) else none
 | _=>none
noncomputable def zk9 {ρ:Type} (o:Oper) (st:VK) (k:VK→Option ρ):Option ρ :=
 match o.op with
 | .move x|.assign x=>(mvK X.L st o.type x).bind fun v=>k (st.put o.dst v)
 | .pick c a b=>(znM X.L st c).bind fun t=>bif t then(svK X.L st o.type a).bind fun v=>k (st.put o.dst (.v v)) else(svK X.L st o.type b).bind fun v=>k (st.put o.dst (.v v))
 | .alloc t=>(X.L.ti t).bind fun i=>k (st.put o.dst (.box i.zero))
 | .box t x=>(X.L.ti t).bind fun i=>(svK X.L st t x).bind fun v=>bif Nat.beq v.cells.length i.size then k (st.put o.dst (.box v.cells)) else none
 | .build t ps=>(X.L.ti t).bind fun i=>bif Nat.beq i.kind 3 then(zsG X.L st i ps.toList i.zero).bind fun cs=>k (st.put o.dst (.v (.agg cs))) else none
 | .buildSlice t n ps=>(X.L.el t).bind fun e=>(zsx X.L st e.size 0 ps.toList).bind fun r =>
   bif Nat.beq r.length n&&Nat.ble n 65536&&Nat.blt 0 e.size&&Nat.ble e.size 256 then k (st.put o.dst (.v (.cell (.sl e.size r)))) else none
 | .load t a=>(X.L.ti t).bind fun i=>(zsn st a).bind fun p =>
   match p with
   | .ref cs=>bif Nat.ble i.size cs.length then(mkV i (cs.take i.size)).bind fun v=>k (st.put o.dst (.v v)) else none
   | .box d off=>match st.o.at d with
    | some (.box cs)=>bif Nat.ble (off+i.size) cs.length then(mkV i ((cs.drop off).take i.size)).bind fun v=>k (st.put o.dst (.v v)) else none
    | _=>none
   | .el _ _ _ _=>none
 | .store t a x=>(X.L.ti t).bind fun i=>(zsn st a).bind fun p=>(svK X.L st t x).bind fun v =>
   match p with
   | .box d off=>match st.o.at d with
    | some (.box cs)=>bif Nat.ble (off+i.size) cs.length&&Nat.beq v.cells.length i.size&&Nat.blt d X.fn.ntmps then k {st with o:=(d,.box (zbY cs off v.cells))::st.o} else none
    | _=>none
   | _=>none
 | .binOp op t x y _=>match znM X.L st x with
  | some a=>(X.L.ti t).bind fun i=>bif Nat.beq i.kind 1 then(znM X.L st y).bind fun b=>(zAI op a b).bind fun c=>k (st.put o.dst (.v (.cell c))) else none
  | none=>(zmG X.L st x).bind fun a=>(zmG X.L st y).bind fun b=>zB2 op a b fun c=>k (st.put o.dst (.v (.cell c)))
 | .unOp .not _ x=>(znM X.L st x).bind fun b=>k (st.put o.dst (.v (.cell (.bool (!b)))))
 | .fieldAddr t x f=>(X.L.ti t).bind fun i=>(zsn st x).bind fun p=>(i.fields[f]?).bind fun f =>
   match o.dst with
   | some d=>bif !p.at d&&Nat.beq i.kind 3&&p.fits f.1 then
     k {o:=(d,.und)::st.o,pe:=(d,match p with|.box b off=>.box b (off+f.1)|.ref cs=>.ref (cs.drop f.1)|p=>p)::(st.put (some d) .und).pe}
    else none
   | none=>none
 | .indexAddr t x ix=>(X.L.el t).bind fun e=>(zmp X.L st t x).bind fun kr=>(zmG X.L st ix).bind fun n =>
   match o.dst with
   | some d=>bif Nat.beq kr.1 e.size then zei kr.2 n e.zero (zot e.zero fun cs=>k {o:=(d,.und)::st.o,pe:=(d,.ref cs)::(st.put (some d) .und).pe}) else none
   | none=>none
 | .slice t x lo hi none=>(X.L.el t).bind fun e=>(zmp X.L st t x).bind fun kr =>
   (match lo with|none=>some 0|some l=>zmG X.L st l).bind fun l=>(match hi with|none=>some (kr.2.length:Int)|some h=>zmG X.L st h).bind fun h =>
    bif Nat.beq kr.1 e.size then zti kr.2 l h fun r=>k (st.put o.dst (.v (.cell (.sl kr.1 r)))) else none
 | .extract (.tmp t) i=>match st.o.at t with
  | some (.tup vs)=>(vs[i]?).bind fun v=>k (st.put o.dst (.v v))
  | _=>none
 | .makeSlice t l c=>(X.L.el t).bind fun e=>(zmG X.L st l).bind fun l=>(zmG X.L st c).bind fun c =>
   bif Nat.blt 0 e.size then zzA l c e.zero fun r=>k (st.put o.dst (.v (.cell (.sl e.size r)))) else none
 | .call {callee:=.builtin .len,args,argTypes}=>match args.toList with
  | [x]=>bif Nat.beq argTypes.size 1 then(X.L.el (argTypes.getD 0 0)).bind fun _=>(zmp X.L st (argTypes.getD 0 0) x).bind fun kr=>k (st.put o.dst (.v (.cell (.int kr.2.length)))) else none
  | _=>none
 | .call {callee:=.builtin .append,args,argTypes}=>match args.toList with
  | [x,y]=>(X.L.el (argTypes.getD 0 0)).bind fun e=>(zmp X.L st (argTypes.getD 0 0) x).bind fun kr=>(zmp X.L st (argTypes.getD 0 0) y).bind fun kr' =>
    bif Nat.beq kr.1 e.size&&Nat.beq kr'.1 e.size&&Nat.beq (argTypes.getD 0 0) (argTypes.getD 1 0)&&Nat.beq argTypes.size 2&&Nat.blt 0 e.size then
     ze8 kr.2 kr'.2 fun r=>k (st.put o.dst (.v (.cell (.sl kr.1 r)))) else none
  | _=>none
 | .call {callee:=.builtin .max,args,argTypes:=_}=>match args.toList with
  | [x,y]=>(zmG X.L st x).bind fun a=>(zmG X.L st y).bind fun b=>k (st.put o.dst (.v (.cell (.int (zrE a b)))))
  | _=>none
 | .call {callee:=.value (.func f),args,argTypes}=>(znL X.L st args.toList argTypes.toList).bind fun vs =>
   zaz (V X.P X.L X.F X.E f vs) (zrA X o) (zhe X o) (zot (zaW (zhe X o)) fun cs=>k (st.put o.dst (zrG (zrA X o) (zfu (zhe X o) cs))))
 | _=>none
noncomputable def opK {ρ:Type} (o:Oper) (st:VK) (k:VK→Option ρ):Option ρ:=bif zlM X o st then zBR X o st k else zk9 X o st k
noncomputable def zor (all:List Oper):List Oper→VK→(VK→Option AV)→Option AV
 | [],st,k=>k st
 | o::rest,st,k =>
  bif dOk X o then match o.guard with
  | none=>opK X o st fun st'=>zor all rest st' k
  | some g=>match all[g.1]? with
   | some og=>match og.dst with
    | some d=>match st.o.at d with
     | some (.v (.cell (.bool b))) =>
      bif b then(bif true==g.2 then opK X o {st with o:=(d,.v (.cell (.bool true)))::st.o} fun st'=>zor all rest st' k else zor all rest (VK.put {st with o:=(d,.v (.cell (.bool true)))::st.o} o.dst .und) k)
      else(bif false==g.2 then opK X o {st with o:=(d,.v (.cell (.bool false)))::st.o} fun st'=>zor all rest st' k else zor all rest (VK.put {st with o:=(d,.v (.cell (.bool false)))::st.o} o.dst .und) k)
     | some .und=>zor all rest (st.put o.dst .und) k
     | _=>none
    | none=>none
   | none=>none
  else none
noncomputable def zjX (all:List Oper):List Oper→VK→(VK→Option AV)→Option AV
 | [],st,k=>k st
 | o::rest,st,k =>
  bif dOk X o then match o.guard with
  | none=>zk9 X o st fun st'=>zjX all rest st' k
  | some g=>match all[g.1]? with
   | some og=>match og.dst with
    | some d=>match st.o.at d with
     | some (.v (.cell (.bool b))) =>
      bif b then(bif true==g.2 then zk9 X o {st with o:=(d,.v (.cell (.bool true)))::st.o} fun st'=>zjX all rest st' k else zjX all rest (VK.put {st with o:=(d,.v (.cell (.bool true)))::st.o} o.dst .und) k)
      else(bif false==g.2 then zk9 X o {st with o:=(d,.v (.cell (.bool false)))::st.o} fun st'=>zjX all rest st' k else zjX all rest (VK.put {st with o:=(d,.v (.cell (.bool false)))::st.o} o.dst .und) k)
     | some .und=>zjX all rest (st.put o.dst .und) k
     | _=>none
    | none=>none
   | none=>none
  else none
def zrb:Ov→Ov
 | []=>[]
 | (i,x)::r=>(i,bif zbH x then .al zbK else x)::zrb r
def zsO (i:Nat):Ov→Ov
 | []=>[]
 | (j,x)::r=>bif Nat.beq j i then zsO i r else(j,x)::zsO i r
def zlj (o:Ov):Ov→Ov
 | []=>[]
 | (i,x)::r=>match x with
  | .arr k rows=>(i,.v (.cell (.sl k rows)))::zlj o r
  | .al d=>(match o.at d with
   | some (.arr k rows)=>(i,.v (.cell (.sl k rows)))::zlj o r
   | some _=>(i,.al zbK)::zlj o r
   | none=>zsO i (zlj o r))
  | x=>(i,x)::zlj o r
def zyd (L:List Nat) (o:Oper) (o0 o1:Ov) (t:Nat):Option AV :=
 match zg9 L o,o.guard with
 | some (_,z),none=>(match o0.at z,o1.at t with
  | some (.arr _ _),some (.v (.cell (.sl _ _)))=>some (.al z)
  | some (.al d),some (.v (.cell (.sl _ _)))=>(match o0.at d with
   | some (.arr _ _)=>some (.al d)
   | _=>none)
  | _,_=>none)
 | _,_=>(match o1.at t with
  | some (.v (.cell c))=>bif zl5 c then some (.v (.cell c)) else some (.al zbK)
  | some .und=>some .und
  | _=>none)
def zpz (L:List Nat) (n:Nat) (core:List Oper) (o0 o1:Ov):List Oper→Option Ov
 | []=>some o0
 | x::xs=>(zpz L n core o0 o1 xs).bind fun r=>match x.dst with
  | none=>some r
  | some t=>match core.find? (zjY t) with
   | some o=>bif Nat.blt t n then(zyd L o o0 o1 t).map fun y=>(t,y)::r else none
   | none=>none
def zmF (o:Ov):List Nat→Option Ov
 | []=>some []
 | i::r=>(o.at i).bind fun x=>(zmF o r).map ((i,x)::·)
def zt1:List (Nat×List Nat)→Nat→Option (List Nat)
 | [],_=>none
 | (j,f)::r,i=>bif Nat.beq j i then some f else zt1 r i
def keyOf:Code→Option Nat
 | .region id _ _=>some id
 | .seq a _=>keyOf a
 | .block _ b=>keyOf b
 | .loop b=>keyOf b
 | .cond _ a _=>keyOf a
 | _=>none
def zvf:List Fr→Option Nat
 | .blk id::_=>some id
 | _=>none
inductive Mode where
 | run (c:Code)
 | ret (e:Xt)
def zAP (o:Ov):ResultVar→Option SV
 | .tmp t=>match o.at t with
  | some (.v x)=>some x
  | some (.arr k r)=>some (.cell (.sl k r))
  | some (.al d)=>match o.at d with
   | some (.arr k r)=>some (.cell (.sl k r))
   | _=>none
  | _=>none
 | .cell t ty=>match o.at t with
  | some (.box cs)=>(X.L.ti ty).bind fun i=>bif Nat.beq i.size cs.length then mkV i cs else none
  | _=>none
def ztz (o:Ov):List ResultVar→Option (List SV)
 | []=>some []
 | r::rs=>(zAP X o r).bind fun v=>(ztz o rs).map (v::·)
def zAX (o:Ov):Option AV:=(ztz X o X.fn.results.toList).map fun vs=>match vs with
 | [v]=>.v v
 | vs=>.tup vs
noncomputable def evM:Nat→Mode→List Fr→Ov→Option AV
 | 0,_,_,_=>none
 | n+1,.run c,ks,o =>
  match c with
  | .skip=>evM n (.ret .norm) ks o
  | .region _ ops d=>bif d then(bif zza X.L ops.toList then zjX X ops.toList (ops.toList.take (zdT ops.toList)) ⟨zlj o o,[]⟩ fun st1=>(zpz (X.L.rows ops.toList) X.fn.ntmps (ops.toList.take (zdT ops.toList)) o st1.o (ops.toList.take (zdT ops.toList))).bind fun o2=>zor X ops.toList (ops.toList.drop (zdT ops.toList)) ⟨o2,[]⟩ fun st=>evM n (.ret .norm) ks st.o
    else zjX X ops.toList ops.toList ⟨zrb o,[]⟩ fun st=>evM n (.ret .norm) ks st.o)
   else zor X ops.toList ops.toList ⟨o,[]⟩ fun st=>evM n (.ret .norm) ks st.o
  | .seq a b=>evM n (.run a) (.seq b::ks) o
  | .cond x a b=>(znM X.L ⟨o,[]⟩ x).bind fun t=>bif t then evM n (.run a) ks o else evM n (.run b) ks o
  | .block id b=>evM n (.run b) (.blk id::ks) o
  | .loop b=>(zvf ks).bind fun id=>(zt1 X.lv id).bind fun l=>(zmF o l).bind fun o'=>G X (.loop b) ks o'
  | .exit id=>evM n (.ret (.exit id)) ks o
  | .ret=>evM n (.ret .ret) ks o
  | _=>none
 | n+1,.ret e,ks,o =>
  match ks with
  | []=>match e with
   | .exit _=>none
   | _=>zAX X o
  | .seq c::ks=>match e with
   | .norm=>match (keyOf c).bind (zt1 X.jv) with
    | none=>evM n (.run c) ks o
    | some l=>(zmF o l).bind fun o'=>G X c ks o'
   | e=>evM n (.ret e) ks o
  | .blk id::ks=>match e with
   | .exit i=>bif Nat.beq i id then evM n (.ret .norm) ks o else evM n (.ret (.exit i)) ks o
   | e=>evM n (.ret e) ks o
  | .loop b::ks=>match e with
   | .norm=>(zvf ks).bind fun id=>(zt1 X.lv id).bind fun l=>(zmF o l).bind fun o'=>G X (.loop b) ks o'
   | e=>evM n (.ret e) ks o
end
def zCe:Code→Bool
 | .loop _=>true
 | _=>false
def ziq (id:Nat):Code→List Fr→Option (Code×List Fr)
 | .seq a b,ks=>match ziq id a (.seq b::ks) with
  | some r=>some r
  | none=>ziq id b ks
 | .cond _ a b,ks=>match ziq id a ks with
  | some r=>some r
  | none=>ziq id b ks
 | .block i b,ks=>bif zCe b&&Nat.beq i id then some (b,.blk i::ks) else ziq id b (.blk i::ks)
 | .loop b,ks=>ziq id b (.loop b::ks)
 | _,_=>none
def zir (id:Nat):Code→List Fr→Option (Code×List Fr)
 | .seq a b,ks=>match keyOf b with
  | some i=>bif Nat.beq i id then some (b,ks) else(match zir id a (.seq b::ks) with
   | some r=>some r
   | none=>zir id b ks)
  | none=>match zir id a (.seq b::ks) with
   | some r=>some r
   | none=>zir id b ks
 | .cond _ a b,ks=>match zir id a ks with
  | some r=>some r
  | none=>zir id b ks
 | .block i b,ks=>zir id b (.blk i::ks)
 | .loop b,ks=>zir id b (.loop b::ks)
 | _,_=>none
def cOf (fn:Func):Code:=match fn.body with
 | some c=>c
 | none=>.skip
def znB:Option (Code×List Fr)→Code
 | some (.loop b,_)=>b
 | _=>.skip
def zzS:Option (Code×List Fr)→Code
 | some (c,_)=>c
 | none=>.skip
def ztK:Option (Code×List Fr)→List Fr
 | some (_,ks)=>ks
 | none=>[]
noncomputable def GL (X:Ctx) (id:Nat) (o:Ov):Option AV:=(X.fn.body.bind fun c=>ziq id c []).bind fun r=>G X r.1 r.2 o
noncomputable def GJ (X:Ctx) (id:Nat) (o:Ov):Option AV:=(X.fn.body.bind fun c=>zir id c []).bind fun r=>G X r.1 r.2 o
end
end Go.Proofs.Ytcpcagdialnbeaa
