/- Generic texts and models for the proofs of this seat: part 2. -/
import Derived.Test.YtkgbadeobdbinaaGreatY01
set_option linter.unusedVariables false
set_option linter.unusedSimpArgs false
namespace Go.Proofs.YtkgbadeobdbinaaGreat
section
open Go
abbrev Ov:=List (Nat×AV)
def Ov.at:Ov→Nat→Option AV
 | [],_=>none
 | (j,x)::r,i=>bif Nat.beq j i then some x else Ov.at r i
structure VK where
 o:Ov
 pe:List (Nat×Ptr)
def VK.put (s:VK) (d:Option Nat) (x:AV):VK :=
 match d with
 | some d=>{o:=(d,x)::s.o,pe:=s.pe.filter fun e=>!(e.1==d)&&!e.2.at d}
 | none=>s
def Fn (τ:Type):List AC→Type
 | []=>τ
 | .int _::r=>Int→Fn τ r
 | .bool _::r=>Bool→Fn τ r
 | .sl _ _::r=>List (List AC)→Fn τ r
def zk8 {ρ:Type}:(sh cs:List AC)→Fn (Option ρ) sh→Option ρ
 | [],cs,K=>match cs with
  | []=>K
  | _::_=>none
 | .int _::r,cs,K=>match cs with
  | .int n::cs=>zk8 r cs (K n)
  | _=>none
 | .bool _::r,cs,K=>match cs with
  | .bool b::cs=>zk8 r cs (K b)
  | _=>none
 | .sl k _::r,cs,K=>match cs with
  | .sl k' x::cs=>bif Nat.beq k k' then zk8 r cs (K x) else none
  | _=>none
def zqS {τ:Type}:(sh:List AC)→(List AC→τ)→Fn τ sh
 | [],K=>K []
 | .int _::r,K=>fun n=>zqS r fun cs=>K (.int n::cs)
 | .bool _::r,K=>fun b=>zqS r fun cs=>K (.bool b::cs)
 | .sl k _::r,K=>fun x=>zqS r fun cs=>K (.sl k x::cs)
abbrev Form:=Bool×List AC
def za5 (fs:List Form):List AC:=fs.flatMap (·.2)
def zz8:Form→SV→Bool
 | (true,sh),.agg cs=>Nat.beq cs.length sh.length
 | (false,sh),.cell _=>Nat.beq sh.length 1
 | _,_=>false
def zmX:List Form→List SV→Bool
 | [],[]=>true
 | f::fs,v::vs=>zz8 f v&&zmX fs vs
 | _,_=>false
def zf9:List Form→List AC→List SV
 | [],_=>[]
 | (true,sh)::r,cs=>.agg (cs.take sh.length)::zf9 r (cs.drop sh.length)
 | (false,sh)::r,cs=>.cell (cs.headD default)::zf9 r (cs.drop sh.length)
def ztY (tup:Bool) (vs:List SV):AV:=bif tup then .tup vs else .v (vs.headD default)
def zaM {ρ:Type} (x:Option AV) (tup:Bool) (fs:List Form) (K:Fn (Option ρ) (za5 fs)):Option ρ :=
 match x with
 | some (.v v)=>bif !tup&&zmX fs [v] then zk8 (za5 fs) v.cells K else none
 | some (.tup vs)=>bif tup&&zmX fs vs then zk8 (za5 fs) (vs.flatMap SV.cells) K else none
 | _=>none
def zvG (r:List (List AC)) (n:Int):Bool:=decide (0≤n)&&decide (n<r.length)
def zeW {ρ:Type} (r:List (List AC)) (n:Int) (sh:List AC) (K:Fn (Option ρ) sh):Option ρ:=bif zvG r n then zk8 sh (r.getD n.toNat []) K else none
def zv6 {ρ:Type} (r:List (List AC)) (l h:Int) (K:List (List AC)→Option ρ):Option ρ :=
 bif decide (0≤l∧l≤h∧h≤r.length) then K ((r.drop l.toNat).take (h.toNat-l.toNat)) else none
def zEO {ρ:Type} (l c:Int) (z:List AC) (K:List (List AC)→Option ρ):Option ρ :=
 bif decide (0≤l∧l≤c∧c≤zkn) then K (List.replicate l.toNat z) else none
def zcB {ρ:Type} (r r':List (List AC)) (K:List (List AC)→Option ρ):Option ρ :=
 bif decide ((r++r').length≤zkn) then K (r++r') else none
def zri {ρ:Type} (a b:Int) (K:Int→Option ρ):Option ρ:=bif b==0 then none else K (zad (a.tdiv b))
def zG4 {ρ:Type} (a b:Int) (K:Int→Option ρ):Option ρ:=bif b==0 then none else K (a.tmod b)
def zFQ {ρ:Type} (op:BinOp) (a b:Int) (K:AC→Option ρ):Option ρ :=
 match op with
 | .quo=>zri a b fun n=>K (.int n)
 | .rem=>zG4 a b fun n=>K (.int n)
 | _=>(zwM op a b).bind K
def zGV {ρ:Type} (r:List (List AC)) (n:Int) (K:Nat→Option ρ):Option ρ:=bif zvG r n then K n.toNat else none
def elR {ρ:Type} (r:List (List AC)) (n j m:Nat) (sh:List AC) (K:Fn (Option ρ) sh):Option ρ:=bif Nat.blt n r.length then zk8 sh (((r.getD n []).drop j).take m) K else none
def zGZ {ρ:Type} (r:List (List AC)) (n j:Nat) (xs:List AC) (K:List (List AC)→Option ρ):Option ρ:=bif Nat.blt n r.length then K (r.set n (zcg (r.getD n []) j xs)) else none
def zzN {ρ:Type} (x:Option AV) (k:Nat) (K:List (List AC)→Option ρ):Option ρ :=
 match x with
 | some (.v (.cell (.sl k' rows)))=>bif Nat.beq k' k&&apR k rows then K rows else none
 | _=>none
def zB9 {ρ:Type} (x:Option AV) (tup:Bool) (fs:List Form) (K:Fn (Option ρ) (za5 fs)):Option ρ :=
 match x with
 | some r=>bif zr0 r then zaM (some r) tup fs K else none
 | none=>none
inductive Fr where
 | seq (c:Code)
 | blk (id:Nat)
 | loop (b:Code)
structure Ctx where
 P:Program
 L:Lay
 F:Nat→Bool
 E:zsU
 fn:Func
 lv:List (Nat×List Nat)
 jv:List (Nat×List Nat)
 tp:List (Nat×List Form)
noncomputable def ziK (X:Ctx):List Fr→Xt×List AV→Option AV
 | [],r=>zAh X.L X.fn r
 | .seq c::ks,(.norm,s)=>(VC X.P X.L X.F X.E c s).bind (ziK X ks)
 | .seq _::ks,(e,s)=>ziK X ks (e,s)
 | .blk id::ks,r=>ziK X ks (zwG id r)
 | .loop b::ks,(.norm,s)=>(VC X.P X.L X.F X.E (.loop b) s).bind (ziK X ks)
 | .loop _::ks,(e,s)=>ziK X ks (e,s)
def AgO (o:Ov) (s:List AV):Prop:=∀i x,o.at i=some x→s.getD i .und=x
noncomputable def G (X:Ctx) (c:Code) (ks:List Fr) (o:Ov):Option AV :=
 open Classical in if h:∃r,(∃s:List AV,s.length=X.fn.ntmps∧AgO o s)∧∀s:List AV,s.length=X.fn.ntmps→AgO o s→(VC X.P X.L X.F X.E c s).bind (ziK X ks)=some r then some h.choose else none
section
variable (X:Ctx)
def svK (L:Lay) (st:VK) (t:Nat):Operand→Option SV
 | .tmp i=>match st.o.at i with
  | some (.v x)=>some x
  | _=>none
 | .const v=>zur L t v
 | _=>none
def mvK (L:Lay) (st:VK) (t:Nat):Operand→Option AV
 | .tmp i=>match st.o.at i with
  | some (.v x)=>some (.v x)
  | some (.tup xs)=>some (.tup xs)
  | _=>none
 | x=>(svK L st t x).map .v
def zoM (L:Lay) (st:VK) (x:Operand):Option Int :=
 match svK L st 0 x with
 | some (.cell (.int n))=>some n
 | _=>none
def zqm (L:Lay) (st:VK) (x:Operand):Option Bool :=
 match svK L st 0 x with
 | some (.cell (.bool b))=>some b
 | _=>none
def zn6 (L:Lay) (st:VK) (t:Nat) (x:Operand):Option (Nat×List (List AC)) :=
 match svK L st t x with
 | some (.cell (.sl k r))=>some (k,r)
 | _=>none
def zu9 (st:VK):Operand→Option Ptr
 | .tmp i=>match st.pe.lookup i with
  | some p=>some p
  | none=>match st.o.at i with
   | some (.box _)=>some (.box i 0)
   | _=>none
 | _=>none
def zuE (L:Lay) (st:VK) (i:TI):List (Nat×Operand)→List AC→Option (List AC)
 | [],cs=>some cs
 | (f,x)::rest,cs =>
  match i.fields[f]?,svK L st 0 x with
  | some (off,sz),some v=>bif Nat.beq v.cells.length sz&&Nat.ble (off+sz) cs.length then zuE L st i rest (zcg cs off v.cells) else none
  | _,_=>none
def zuS (L:Lay) (st:VK) (k:Nat):Nat→List (Nat×Operand)→Option (List (List AC))
 | _,[]=>some []
 | j,(i,x)::rest =>
  match svK L st 0 x with
  | some v=>bif Nat.beq i j&&Nat.beq v.cells.length k then(zuS L st k (j+1) rest).map (v.cells::·) else none
  | none=>none
def zp5 (L:Lay) (st:VK):List Operand→List Nat→Option (List SV)
 | [],[]=>some []
 | x::xs,t::ts=>(svK L st t x).bind fun v=>bif zv8 L t v then(zp5 L st xs ts).map (v::·) else none
 | _,_=>none
def zGP:List (Nat×List Form)→Nat→List Form
 | [],_=>[]
 | (j,f)::r,i=>bif Nat.beq j i then f else zGP r i
def ztu (o:Oper):Bool:=(X.L.ti o.type).isNone
def ziT (o:Oper):List Form :=
 match X.L.ti o.type with
 | some i=>[(Nat.beq i.kind 3,i.zero)]
 | none=>zGP X.tp (o.dst.getD 0)
def dOk (o:Oper):Bool:=match o.dst with|some d=>Nat.blt d X.fn.ntmps|none=>true
def zrm (st:VK):Operand→Option (Nat×Nat×List (List AC))
 | .tmp i=>match st.o.at i with
  | some (.arr k r)=>some (i,k,r)
  | some (.al d)=>match st.o.at d with
   | some (.arr k r)=>some (d,k,r)
   | _=>none
  | _=>none
 | _=>none
def zx2 (st:VK) (x:Operand):Bool:=match zu9 st x with
 | some (.el _ _ _ _)=>true
 | _=>false
def znV (o:Oper) (st:VK):Bool :=
 match o.op with
 | .move x|.assign x=>(zrm st x).isSome
 | .load _ x=>zx2 st x
 | .store _ x _=>zx2 st x
 | .indexAddr _ x _=>(zrm st x).isSome
 | .makeSlice _ _ _=>X.L.home 0 o.dst
 | .call {callee:=.builtin .len,args,..}=>args.toList.any fun x=>(zrm st x).isSome
 | .call {callee:=.value (.func f),args,..}=>X.L.home (f+1) o.dst||args.toList.any fun x=>(zrm st x).isSome
 | _=>false
def zFL (L:Lay) (st:VK) (t:Nat) (x:Operand):Option SV :=
 match zrm st x with
 | some (_,k,r)=>some (.cell (.sl k r))
 | none=>svK L st t x
def zuu (L:Lay) (st:VK):List Operand→List Nat→Option (List SV)
 | [],[]=>some []
 | x::xs,t::ts=>(zFL L st t x).bind fun v=>bif zv8 L t v then(zuu L st xs ts).map (v::·) else none
 | _,_=>none
noncomputable def zFw {ρ:Type} (o:Oper) (st:VK) (k:VK→Option ρ):Option ρ :=
 match o.op with
 | .move x|.assign x=>(zrm st x).bind fun a=>match o.dst with
  | some d=>bif !Nat.beq d a.1 then k (st.put (some d) (.al a.1)) else none
  | none=>none
 | .load t a=>(X.L.ti t).bind fun i=>(zu9 st a).bind fun p =>
   match p with
   | .el d0 kk n j=>match st.o.at d0 with
    | some (.arr k' r)=>bif Nat.beq kk k'&&Nat.ble (j+i.size) kk then elR r n j i.size i.zero (zqS i.zero fun cs=>(mkV i cs).bind fun v=>k (st.put o.dst (.v v))) else none
    | _=>none
   | _=>none
 | .store t a x=>(X.L.ti t).bind fun i=>(zu9 st a).bind fun p=>(svK X.L st t x).bind fun v =>
   match p with
   | .el d0 kk n j=>match st.o.at d0 with
    | some (.arr k' r)=>bif Nat.beq kk k'&&Nat.ble (j+i.size) kk&&Nat.beq v.cells.length i.size&&Nat.blt d0 X.fn.ntmps then zGZ r n j v.cells fun r'=>k {st with o:=(d0,.arr kk r')::st.o} else none
    | _=>none
   | _=>none
 | .indexAddr t x ix=>(X.L.el t).bind fun e=>(zrm st x).bind fun a=>(zoM X.L st ix).bind fun n =>
   match o.dst with
   | some d=>bif Nat.beq a.2.1 e.size&&!Nat.beq d a.1 then zGV a.2.2 n fun m=>k {o:=(d,.und)::st.o,pe:=(d,.el a.1 e.size m 0)::(st.put (some d) .und).pe} else none
   | none=>none
 | .makeSlice t l c=>(X.L.el t).bind fun e=>(zoM X.L st l).bind fun l=>(zoM X.L st c).bind fun c =>
   match o.dst with
   | some d=>bif Nat.blt 0 e.size&&apL e.size e.zero then zEO l c e.zero fun r=>k (st.put (some d) (.arr e.size r)) else none
   | none=>none
 | .call {callee:=.builtin .len,args,argTypes}=>match args.toList with
  | [x]=>bif Nat.beq argTypes.size 1 then(X.L.el (argTypes.getD 0 0)).bind fun _=>(zrm st x).bind fun a=>k (st.put o.dst (.v (.cell (.int a.2.2.length)))) else none
  | _=>none
 | .call {callee:=.value (.func f),args,argTypes} =>
   bif X.L.home (f+1) o.dst then(zp5 X.L st args.toList argTypes.toList).bind fun vs=>(X.L.el o.type).bind fun e=>match o.dst with
    | some d=>bif Nat.blt 0 e.size then zzN (V X.P X.L X.F X.E f vs) e.size fun rows=>k (st.put (some d) (.arr e.size rows)) else none
    | none=>none
   else bif X.L.lent f then(zuu X.L st args.toList argTypes.toList).bind fun vs =>
    zB9 (V X.P X.L X.F X.E f vs) (ztu X o) (ziT X o) (zqS (za5 (ziT X o)) fun cs=>k (st.put o.dst (ztY (ztu X o) (zf9 (ziT X o) cs)))) else none
 | _=>none
noncomputable def znd {ρ:Type} (o:Oper) (st:VK) (k:VK→Option ρ):Option ρ :=
 match o.op with
 | .move x|.assign x=>(mvK X.L st o.type x).bind fun v=>k (st.put o.dst v)
 | .pick c a b=>(zqm X.L st c).bind fun t=>bif t then(svK X.L st o.type a).bind fun v=>k (st.put o.dst (.v v)) else(svK X.L st o.type b).bind fun v=>k (st.put o.dst (.v v))
 | .alloc t=>(X.L.ti t).bind fun i=>k (st.put o.dst (.box i.zero))
 | .box t x=>(X.L.ti t).bind fun i=>(svK X.L st t x).bind fun v=>bif Nat.beq v.cells.length i.size then k (st.put o.dst (.box v.cells)) else none
 | .build t ps=>(X.L.ti t).bind fun i=>bif Nat.beq i.kind 3 then(zuE X.L st i ps.toList i.zero).bind fun cs=>k (st.put o.dst (.v (.agg cs))) else none
 | .buildSlice t n ps=>(X.L.el t).bind fun e=>(zuS X.L st e.size 0 ps.toList).bind fun r =>
   bif Nat.beq r.length n&&Nat.ble n 65536&&Nat.blt 0 e.size&&Nat.ble e.size 256 then k (st.put o.dst (.v (.cell (.sl e.size r)))) else none
 | .load t a=>(X.L.ti t).bind fun i=>(zu9 st a).bind fun p =>
   match p with
   | .ref cs=>bif Nat.ble i.size cs.length then(mkV i (cs.take i.size)).bind fun v=>k (st.put o.dst (.v v)) else none
   | .box d off=>match st.o.at d with
    | some (.box cs)=>bif Nat.ble (off+i.size) cs.length then(mkV i ((cs.drop off).take i.size)).bind fun v=>k (st.put o.dst (.v v)) else none
    | _=>none
   | .el _ _ _ _=>none
 | .store t a x=>(X.L.ti t).bind fun i=>(zu9 st a).bind fun p=>(svK X.L st t x).bind fun v =>
   match p with
   | .box d off=>match st.o.at d with
    | some (.box cs)=>bif Nat.ble (off+i.size) cs.length&&Nat.beq v.cells.length i.size&&Nat.blt d X.fn.ntmps then k {st with o:=(d,.box (zcg cs off v.cells))::st.o} else none
    | _=>none
   | _=>none
 | .binOp op t x y _=>match zqm X.L st x with
  | some a=>(X.L.ti t).bind fun i=>bif Nat.beq i.kind 1 then(zqm X.L st y).bind fun b=>(zCU op a b).bind fun c=>k (st.put o.dst (.v (.cell c))) else none
  | none=>(zoM X.L st x).bind fun a=>(zoM X.L st y).bind fun b=>zFQ op a b fun c=>k (st.put o.dst (.v (.cell c)))
 | .unOp .not _ x=>(zqm X.L st x).bind fun b=>k (st.put o.dst (.v (.cell (.bool (!b)))))
 | .fieldAddr t x f=>(X.L.ti t).bind fun i=>(zu9 st x).bind fun p=>(i.fields[f]?).bind fun f =>
   match o.dst with
   | some d=>bif !p.at d&&Nat.beq i.kind 3&&p.fits f.1 then
     k {o:=(d,.und)::st.o,pe:=(d,match p with|.box b off=>.box b (off+f.1)|.ref cs=>.ref (cs.drop f.1)|p=>p)::(st.put (some d) .und).pe}
    else none
   | none=>none
 | .indexAddr t x ix=>(X.L.el t).bind fun e=>(zn6 X.L st t x).bind fun kr=>(zoM X.L st ix).bind fun n =>
   match o.dst with
   | some d=>bif Nat.beq kr.1 e.size then zeW kr.2 n e.zero (zqS e.zero fun cs=>k {o:=(d,.und)::st.o,pe:=(d,.ref cs)::(st.put (some d) .und).pe}) else none
   | none=>none
 | .slice t x lo hi none=>(X.L.el t).bind fun e=>(zn6 X.L st t x).bind fun kr =>
   (match lo with|none=>some 0|some l=>zoM X.L st l).bind fun l=>(match hi with|none=>some (kr.2.length:Int)|some h=>zoM X.L st h).bind fun h =>
    bif Nat.beq kr.1 e.size then zv6 kr.2 l h fun r=>k (st.put o.dst (.v (.cell (.sl kr.1 r)))) else none
 | .extract (.tmp t) i=>match st.o.at t with
  | some (.tup vs)=>(vs[i]?).bind fun v=>k (st.put o.dst (.v v))
  | _=>none
 | .makeSlice t l c=>(X.L.el t).bind fun e=>(zoM X.L st l).bind fun l=>(zoM X.L st c).bind fun c =>
   bif Nat.blt 0 e.size then zEO l c e.zero fun r=>k (st.put o.dst (.v (.cell (.sl e.size r)))) else none
 | .call {callee:=.builtin .len,args,argTypes}=>match args.toList with
  | [x]=>bif Nat.beq argTypes.size 1 then(X.L.el (argTypes.getD 0 0)).bind fun _=>(zn6 X.L st (argTypes.getD 0 0) x).bind fun kr=>k (st.put o.dst (.v (.cell (.int kr.2.length)))) else none
  | _=>none
 | .call {callee:=.builtin .append,args,argTypes}=>match args.toList with
  | [x,y]=>(X.L.el (argTypes.getD 0 0)).bind fun e=>(zn6 X.L st (argTypes.getD 0 0) x).bind fun kr=>(zn6 X.L st (argTypes.getD 0 0) y).bind fun kr' =>
    bif Nat.beq kr.1 e.size&&Nat.beq kr'.1 e.size&&Nat.beq (argTypes.getD 0 0) (argTypes.getD 1 0)&&Nat.beq argTypes.size 2&&Nat.blt 0 e.size then
     zcB kr.2 kr'.2 fun r=>k (st.put o.dst (.v (.cell (.sl kr.1 r)))) else none
  | _=>none
 | .call {callee:=.builtin .max,args,argTypes:=_}=>match args.toList with
  | [x,y]=>(zoM X.L st x).bind fun a=>(zoM X.L st y).bind fun b=>k (st.put o.dst (.v (.cell (.int (ztH a b)))))
  | _=>none
 | .call {callee:=.value (.func f),args,argTypes}=>(zp5 X.L st args.toList argTypes.toList).bind fun vs =>
   zaM (V X.P X.L X.F X.E f vs) (ztu X o) (ziT X o) (zqS (za5 (ziT X o)) fun cs=>k (st.put o.dst (ztY (ztu X o) (zf9 (ziT X o) cs))))
 | _=>none
noncomputable def opK {ρ:Type} (o:Oper) (st:VK) (k:VK→Option ρ):Option ρ:=bif znV X o st then zFw X o st k else znd X o st k
noncomputable def zqF (all:List Oper):List Oper→VK→(VK→Option AV)→Option AV
 | [],st,k=>k st
 | o::rest,st,k =>
  bif dOk X o then match o.guard with
  | none=>opK X o st fun st'=>zqF all rest st' k
  | some g=>match all[g.1]? with
   | some og=>match og.dst with
    | some d=>match st.o.at d with
     | some (.v (.cell (.bool b))) =>
      bif b then(bif true==g.2 then opK X o {st with o:=(d,.v (.cell (.bool true)))::st.o} fun st'=>zqF all rest st' k else zqF all rest (VK.put {st with o:=(d,.v (.cell (.bool true)))::st.o} o.dst .und) k)
      else(bif false==g.2 then opK X o {st with o:=(d,.v (.cell (.bool false)))::st.o} fun st'=>zqF all rest st' k else zqF all rest (VK.put {st with o:=(d,.v (.cell (.bool false)))::st.o} o.dst .und) k)
     | some .und=>zqF all rest (st.put o.dst .und) k
     | _=>none
    | none=>none
   | none=>none
  else none
noncomputable def zlT (all:List Oper):List Oper→VK→(VK→Option AV)→Option AV
 | [],st,k=>k st
 | o::rest,st,k =>
  bif dOk X o then match o.guard with
  | none=>znd X o st fun st'=>zlT all rest st' k
  | some g=>match all[g.1]? with
   | some og=>match og.dst with
    | some d=>match st.o.at d with
     | some (.v (.cell (.bool b))) =>
      bif b then(bif true==g.2 then znd X o {st with o:=(d,.v (.cell (.bool true)))::st.o} fun st'=>zlT all rest st' k else zlT all rest (VK.put {st with o:=(d,.v (.cell (.bool true)))::st.o} o.dst .und) k)
      else(bif false==g.2 then znd X o {st with o:=(d,.v (.cell (.bool false)))::st.o} fun st'=>zlT all rest st' k else zlT all rest (VK.put {st with o:=(d,.v (.cell (.bool false)))::st.o} o.dst .und) k)
     | some .und=>zlT all rest (st.put o.dst .und) k
     | _=>none
    | none=>none
   | none=>none
  else none
def zt7:Ov→Ov
 | []=>[]
 | (i,x)::r=>(i,bif zbU x then .al zbX else x)::zt7 r
def zv4 (i:Nat):Ov→Ov
 | []=>[]
 | (j,x)::r=>bif Nat.beq j i then zv4 i r else(j,x)::zv4 i r
def znp (o:Ov):Ov→Ov
 | []=>[]
 | (i,x)::r=>match x with
  | .arr k rows=>(i,.v (.cell (.sl k rows)))::znp o r
  | .al d=>(match o.at d with
   | some (.arr k rows)=>(i,.v (.cell (.sl k rows)))::znp o r
   | some _=>(i,.al zbX)::znp o r
   | none=>zv4 i (znp o r))
  | x=>(i,x)::znp o r
def zBI (L:List Nat) (o:Oper) (o0 o1:Ov) (t:Nat):Option AV :=
 match zi7 L o,o.guard with
 | some (_,z),none=>(match o0.at z,o1.at t with
  | some (.arr _ _),some (.v (.cell (.sl _ _)))=>some (.al z)
  | some (.al d),some (.v (.cell (.sl _ _)))=>(match o0.at d with
   | some (.arr _ _)=>some (.al d)
   | _=>none)
  | _,_=>none)
 | _,_=>(match o1.at t with
  | some (.v (.cell c))=>bif zoQ c then some (.v (.cell c)) else some (.al zbX)
  | some .und=>some .und
  | _=>none)
def zsG (L:List Nat) (n:Nat) (core:List Oper) (o0 o1:Ov):List Oper→Option Ov
 | []=>some o0
 | x::xs=>(zsG L n core o0 o1 xs).bind fun r=>match x.dst with
  | none=>some r
  | some t=>match core.find? (zl0 t) with
   | some o=>bif Nat.blt t n then(zBI L o o0 o1 t).map fun y=>(t,y)::r else none
   | none=>none
def zoK (o:Ov):List Nat→Option Ov
 | []=>some []
 | i::r=>(o.at i).bind fun x=>(zoK o r).map ((i,x)::·)
def zwY:List (Nat×List Nat)→Nat→Option (List Nat)
 | [],_=>none
 | (j,f)::r,i=>bif Nat.beq j i then some f else zwY r i
def keyOf:Code→Option Nat
 | .region id _ _=>some id
 | .seq a _=>keyOf a
 | .block _ b=>keyOf b
 | .loop b=>keyOf b
 | .cond _ a _=>keyOf a
 | _=>none
def zx5:List Fr→Option Nat
 | .blk id::_=>some id
 | _=>none
inductive Mode where
 | run (c:Code)
 | ret (e:Xt)
def zEX (o:Ov):ResultVar→Option SV
 | .tmp t=>match o.at t with
  | some (.v x)=>some x
  | some (.arr k r)=>some (.cell (.sl k r))
  | some (.al d)=>match o.at d with
   | some (.arr k r)=>some (.cell (.sl k r))
   | _=>none
  | _=>none
 | .cell t ty=>match o.at t with
  | some (.box cs)=>(X.L.ti ty).bind fun i=>bif Nat.beq i.size cs.length then mkV i cs else none
  | _=>none
def zwA (o:Ov):List ResultVar→Option (List SV)
 | []=>some []
 | r::rs=>(zEX X o r).bind fun v=>(zwA o rs).map (v::·)
def zFb (o:Ov):Option AV:=(zwA X o X.fn.results.toList).map fun vs=>match vs with
 | [v]=>.v v
 | vs=>.tup vs
noncomputable def evM:Nat→Mode→List Fr→Ov→Option AV
 | 0,_,_,_=>none
 | n+1,.run c,ks,o =>
  match c with
  | .skip=>evM n (.ret .norm) ks o
  | .region _ ops d=>bif d then(bif zCI X.L ops.toList then zlT X ops.toList (ops.toList.take (zeC ops.toList)) ⟨znp o o,[]⟩ fun st1=>(zsG (X.L.rows ops.toList) X.fn.ntmps (ops.toList.take (zeC ops.toList)) o st1.o (ops.toList.take (zeC ops.toList))).bind fun o2=>zqF X ops.toList (ops.toList.drop (zeC ops.toList)) ⟨o2,[]⟩ fun st=>evM n (.ret .norm) ks st.o
    else zlT X ops.toList ops.toList ⟨zt7 o,[]⟩ fun st=>evM n (.ret .norm) ks st.o)
   else zqF X ops.toList ops.toList ⟨o,[]⟩ fun st=>evM n (.ret .norm) ks st.o
  | .seq a b=>evM n (.run a) (.seq b::ks) o
  | .cond x a b=>(zqm X.L ⟨o,[]⟩ x).bind fun t=>bif t then evM n (.run a) ks o else evM n (.run b) ks o
  | .block id b=>evM n (.run b) (.blk id::ks) o
  | .loop b=>(zx5 ks).bind fun id=>(zwY X.lv id).bind fun l=>(zoK o l).bind fun o'=>G X (.loop b) ks o'
  | .exit id=>evM n (.ret (.exit id)) ks o
  | .ret=>evM n (.ret .ret) ks o
  | _=>none
 | n+1,.ret e,ks,o =>
  match ks with
  | []=>match e with
   | .exit _=>none
   | _=>zFb X o
  | .seq c::ks=>match e with
   | .norm=>match (keyOf c).bind (zwY X.jv) with
    | none=>evM n (.run c) ks o
    | some l=>(zoK o l).bind fun o'=>G X c ks o'
   | e=>evM n (.ret e) ks o
  | .blk id::ks=>match e with
   | .exit i=>bif Nat.beq i id then evM n (.ret .norm) ks o else evM n (.ret (.exit i)) ks o
   | e=>evM n (.ret e) ks o
  | .loop b::ks=>match e with
   | .norm=>(zx5 ks).bind fun id=>(zwY X.lv id).bind fun l=>(zoK o l).bind fun o'=>G X (.loop b) ks o'
   | e=>evM n (.ret e) ks o
end
def zFl:Code→Bool
 | .loop _=>true
 | _=>false
def zie (id:Nat):Code→List Fr→Option (Code×List Fr)
 | .seq a b,ks=>match zie id a (.seq b::ks) with
  | some r=>some r
  | none=>zie id b ks
 | .cond _ a b,ks=>match zie id a ks with
  | some r=>some r
  | none=>zie id b ks
 | .block i b,ks=>bif zFl b&&Nat.beq i id then some (b,.blk i::ks) else zie id b (.blk i::ks)
 | .loop b,ks=>zie id b (.loop b::ks)
 | _,_=>none
def zke (id:Nat):Code→List Fr→Option (Code×List Fr)
 | .seq a b,ks=>match keyOf b with
  | some i=>bif Nat.beq i id then some (b,ks) else(match zke id a (.seq b::ks) with
   | some r=>some r
   | none=>zke id b ks)
  | none=>match zke id a (.seq b::ks) with
   | some r=>some r
   | none=>zke id b ks
 | .cond _ a b,ks=>match zke id a ks with
  | some r=>some r
  | none=>zke id b ks
 | .block i b,ks=>zke id b (.blk i::ks)
 | .loop b,ks=>zke id b (.loop b::ks)
 | _,_=>none
def cOf (fn:Func):Code:=match fn.body with
 | some c=>c
 | none=>.skip
def znH:Option (Code×List Fr)→Code
 | some (.loop b,_)=>b
 | _=>.skip
def zC2:Option (Code×List Fr)→Code
 | some (c,_)=>c
 | none=>.skip
def zuq:Option (Code×List Fr)→List Fr
 | some (_,ks)=>ks
 | none=>[]
noncomputable def GL (X:Ctx) (id:Nat) (o:Ov):Option AV:=(X.fn.body.bind fun c=>zie id c []).bind fun r=>G X r.1 r.2 o
noncomputable def GJ (X:Ctx) (id:Nat) (o:Ov):Option AV:=(X.fn.body.bind fun c=>zke id c []).bind fun r=>G X r.1 r.2 o
end
end Go.Proofs.YtkgbadeobdbinaaGreat
