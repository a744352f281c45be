/- Generic texts and models for the proofs of this seat: part 6. -/
import Derived.Test.YtkgbadeobdbinaaGreatZ05
set_option linter.unusedVariables false
set_option linter.unusedSimpArgs false
namespace Go.Proofs.YtkgbadeobdbinaaGreat
section
open Go Go.RowKit
structure Sg where
 takes:List (Option Nat)
 gives:List (Nat×Nat)
abbrev Sig:=List (Nat×Sg)
def Sig.sg (S:Sig) (f:Nat):Sg:=(S.lookup f).getD ⟨[],[]⟩
def zaz (w:World) (v:Value) (n:Nat):Option Value :=
 match v with
 | .pointer (some ⟨b,0,none⟩)=>w.cell? ⟨b,n,none⟩
 | .tuple vs=>(vs[n / 64]?).bind fun u=>u.cells[n % 64]?
 | v=>v.cells[n]?
abbrev SPe:=List (Nat×Option (Nat×Nat))
def zoc (q:SPe):Operand→Option (Nat×Nat)
 | .tmp i=>match q.lookup i with
  | none=>some (i,0)
  | some r=>r
 | _=>none
def zb6 (L:Lay) (S:Sig) (o:Oper):List (Operand×Nat) :=
 match o.op with
 | .call {callee:=.builtin .append,args,argTypes}=>match args.toList,L.el (argTypes.getD 0 0) with
  | [x,_],some e=>[(x,e.size)]
  | _,_=>[]
 | .call {callee:=.value (.func f),args,..}=>(args.toList.zip (S.sg f).takes).filterMap fun xk=>xk.2.map fun k=>(xk.1,k)
 | _=>[]
def zm2:Nat→List AC→List (Nat×Nat)
 | _,[]=>[]
 | n,.sl k []::r=>(n,k)::zm2 (n+1) r
 | n,_::r=>zm2 (n+1) r
def zb9 (i:TI) (n:Nat):List (Nat×Operand)→Option (Option (Nat×Nat))
 | []=>none
 | (f,x)::rest =>
  match zb9 i n rest with
  | some r=>some r
  | none=>match i.fields[f]? with
   | some (off,sz)=>if off≤n∧n<off+sz then(match x with|.tmp t=>some (some (t,n-off))|_=>some none) else none
   | none=>none
def zaR (L:Lay) (S:Sig) (o:Oper):List (Nat×Nat) :=
 match o.op with
 | .move (.const (.slice none 0 0))|.assign (.const (.slice none 0 0))=>match L.el o.type with
  | some e=>[(0,e.size)]
  | none=>[]
 | .alloc t=>match L.ti t with
  | some i=>zm2 0 i.zero
  | none=>[]
 | .build t ps=>match L.ti t with
  | some i=>(zm2 0 i.zero).filter fun e=>(zb9 i e.1 ps.toList).isNone
  | none=>[]
 | .buildSlice t _ _|.makeSlice t _ _=>match L.el t with
  | some e=>[(0,e.size)]
  | none=>[]
 | .call {callee:=.builtin .append,argTypes,..}=>match L.el (argTypes.getD 0 0) with
  | some e=>[(0,e.size)]
  | none=>[]
 | .call {callee:=.value (.func f),..}=>(S.sg f).gives
 | _=>[]
def zaT (L:Lay) (q:SPe) (o:Oper):List (Nat×(Nat×Nat)) :=
 match o.op with
 | .move (.tmp x)|.assign (.tmp x)=>match L.ti o.type with
  | some i=>(List.range i.size).map fun n=>(n,(x,n))
  | none=>[]
 | .box t (.tmp x)=>match L.ti t with
  | some i=>(List.range i.size).map fun n=>(n,(x,n))
  | none=>[]
 | .load t x=>match L.ti t,zoc q x with
  | some i,some (d,off)=>(List.range i.size).map fun n=>(n,(d,off+n))
  | _,_=>[]
 | .build t ps=>match L.ti t with
  | some i=>(List.range i.size).filterMap fun n=>match zb9 i n ps.toList with
   | some (some r)=>some (n,r)
   | _=>none
  | none=>[]
 | .extract (.tmp x) j=>match L.ti o.type with
  | some i=>if i.size≤64 then(List.range i.size).map fun n=>(n,(x,j*64+n)) else[]
  | none=>[]
 | _=>[]
def znR (L:Lay) (S:Sig) (o:Oper) (a:Act) (b:Nat):Prop:=∃x∈zb6 L S o,zaw (a.eval x.1)=some b
def zqr (vs:List Value):Prop:=∀(i j:Nat) (u v:Value) (b:Nat),i≠j→vs[i]?=some u→vs[j]?=some v→zaw u=some b→zaw v≠some b
def zlN (P:Program) (S:Sig) (f:FuncId) (run:List SV→Option AV):Prop:=∀args r,run args=some r→(zkS r=true∧∃fn,P.funcs[f]?=some fn∧fn.body.isSome=true∧(fn.name == "runtime.NumGoroutine")=false)∧∀p w (vals:List Value),RepSs p w vals args→Zp p w →
 (∀(i k:Nat),(S.sg f).takes[i]?=some (some k)→∃v:Value,vals[i]?=some v∧Rt p w v k) →
 zqr ((vals.zip (S.sg f).takes).filterMap fun xk=>xk.2.map fun _=>xk.1) →
 Calls P f vals.toArray w fun e w'=>∃v,e=.returned v∧∃p',SR p' w' v r∧(∀cs,r≠.box cs)∧r≠.und∧Evo (fun b=>∃(i k:Nat) (v:Value),(S.sg f).takes[i]?=some (some k)∧vals[i]?=some v∧zaw v=some b) p w p' w'∧Zp p' w' ∧
  (∀e∈(S.sg f).gives,∃u,zaz w' v e.1=some u∧Rt p' w' u e.2∧∀b,zaw u=some b→w.heap.size≤b∨∃(i k:Nat) (v:Value),(S.sg f).takes[i]?=some (some k)∧vals[i]?=some v∧zaw v=some b) ∧
  (∀(e e':Nat×Nat) (u u':Value) (b:Nat),e∈(S.sg f).gives→e'∈(S.sg f).gives→e.1≠e'.1→zaz w' v e.1=some u→zaz w' v e'.1=some u'→zaw u=some b→zaw u'≠some b)
def zbe (P:Program) (S:Sig) (call:Orc):Prop:=∀f,zlN P S f (call f)
def zb7 (q:SPe) (s:VS):Prop:=(∀t,q.lookup t=none→s.pe.lookup t=none)∧∀t d off,q.lookup t=some (some (d,off))→s.pe.lookup t=some (.box d off)
structure zjR (L:Lay) (S:Sig) (q:SPe) (o:Oper) (a:Act) (p:Stb) (w:World) (s':VS) (v:Value) (p':Stb) (w':World):Prop where
 evo:Evo (znR L S o a) p w p' w'
 zp:Zp p' w'
 slot:∀d,o.dst=some d→zc3 p' w' (a.put o.dst v).tmps s' d
 bx:∀d cs,o.dst=some d→s'.get d=.box cs→v=.pointer (some ⟨w.heap.size,0,none⟩)∧p' w.heap.size=0∧∀e∈zaR L S o,zaz w' v e.1=some (.slice none 0 0)
 kind:∀d,o.dst=some d→d<s'.σ.length→s'.get d≠.und∨(zaR L S o=[]∧zaT L q o=[])
 fr:∀e∈zaR L S o,∃u,zaz w' v e.1=some u∧Rt p' w' u e.2∧∀b,zaw u=some b→w.heap.size≤b∨znR L S o a b
 ap:∀(e e':Nat×Nat) (u u':Value) (b:Nat),e∈zaR L S o→e'∈zaR L S o→e.1≠e'.1→zaz w' v e.1=some u→zaz w' v e'.1=some u'→zaw u=some b→zaw u'≠some b
 mv:∀e∈zaT L q o,∀u,zaz w (a.tmps.getD e.2.1 undef) e.2.2=some u→zaz w' v e.1=some u
section
variable {P:Program}{L:Lay}{S:Sig}{p:Stb}{w:World}{a:Act}{s s':VS}{q:SPe}{o:Oper}
theorem zcg (s:VS) (d:Nat) (x:AV):(s.put (some d) x).get d=if d<s.σ.length then x else .und:=by
 simp only[VS.get,VS.put,List.getD,List.getElem?_set];split
 ·split <;> rfl
 ·rename_i h;exact absurd trivial h
theorem zcU (s:VS) (d:Nat) (x:AV):(s.put (some d) x).pe.lookup d=none:=by
 rcases h:(s.put (some d) x).pe.lookup d with _|r
 ·rfl
 ·have:=zbd h
  unfold VS.put at this;simp at this
theorem zCk {m:Array Value}{d:Nat}{x:AV} (hlt:d<s.σ.length) (h:SR p w (m.getD d undef) x):zc3 p w m (s.put (some d) x) d:=by
 refine⟨?_,fun q' hq=>by rw[zcU] at hq;cases hq⟩
 rw[zcg,if_pos hlt];exact h
theorem zg7 {d:Nat}{v:Value} (hd:d<a.tmps.size):(a.put (some d) v).tmps.getD d undef=v:=by
 simp[Act.put,hd]
theorem zpb {d:Nat}{v:Value} (hd:¬d<a.tmps.size):(a.put (some d) v).tmps.getD d undef=undef:=by
 simp[Act.put,hd]
theorem zb0 {x:AV}{v:Value} (hs:a.tmps.size=s.σ.length) (h:SR p w v x):∀d,o.dst=some d→zc3 p w (a.put o.dst v).tmps (s.put o.dst x) d:=by
 intro d hd;rw[hd];by_cases hlt:d<a.tmps.size
 ·exact zCk (by rw[←hs];exact hlt) (by rw[zg7 hlt];exact h)
 ·refine⟨?_,fun q' hq=>by rw[zcU] at hq;cases hq⟩
  rw[zcg,if_neg (by rw[←hs];exact hlt),zpb hlt]
  intro b hb;cases hb
theorem zbw {v:Value}{x:SV} (h:RepS p w v x) (w':World) (n:Nat):zaz w' v n=v.cells[n]?:=by
 cases x with
 | cell c=>cases h <;> rfl
 | agg cs=>obtain⟨b,rfl,_⟩:=h;rfl
theorem zkq {x:AV} (hx:∀cs,x≠.box cs) {R:Prop}:∀d cs,o.dst=some d→(s.put o.dst x).get d=.box cs→R:=by
 intro d cs hd h;rw[hd,zcg] at h;split at h
 ·exact absurd h (hx cs)
 ·cases h
theorem zdH {x:AV} (hx:x≠.und) {R:Prop}:∀d,o.dst=some d→d<(s.put o.dst x).σ.length→(s.put o.dst x).get d≠.und∨R:=by
 intro d hd hlt;rw[hd] at hlt ⊢;refine .inl ?_
 rw[zcg,if_pos (by simpa [VS.put] using hlt)]
 exact hx
theorem zbO (hz:Zp p w) (hs:a.tmps.size=s.σ.length) {x:AV}{v:Value} (h:SR p w v x) (hf:zaR L S o=[]) (hm:∀e∈zaT L q o,∀u,zaz w (a.tmps.getD e.2.1 undef) e.2.2=some u→zaz w v e.1=some u) (hx:∀cs,x≠.box cs:=by intro _ h;cases h) (hu:x≠.und:=by intro h;cases h) :
  zjR L S q o a p w (s.put o.dst x) v p w :=
 ⟨.refl _ _ _,hz,zb0 hs h,zkq hx,zdH hu,by rw[hf];simp,by rw[hf];simp,hm⟩
end
end
section
open Go Go.RowKit
section
variable {P:Program}{L:Lay}{S:Sig}{call:Orc}{p:Stb}{w:World}{a:Act}{s s':VS}{q:SPe}{o:Oper}
def zcP (P:Program) (L:Lay) (S:Sig) (q:SPe) (o:Oper) (a:Act) (p:Stb) (w:World) (s':VS):Prop:=Does P o a w fun v w'=>∃p',zjR L S q o a p w s' v p' w'
theorem zzY (v:Value) (hv:v=.slice none 0 0) (hz:Zp p w) (hs:a.tmps.size=s.σ.length) {x:AV} (h:SR p w v x) {k:Nat} (hf:zaR L S o=[(0,k)]) (hm:zaT L q o=[]) (hx:∀cs,x≠.box cs:=by intro _ h;cases h) (hu:x≠.und:=by intro h;cases h):zjR L S q o a p w (s.put o.dst x) v p w:=by
 subst hv;refine⟨.refl _ _ _,hz,zb0 hs h,zkq hx,zdH hu,?_,?_,by rw[hm];simp⟩
 ·rw[hf]
  intro e he;simp at he
  subst he;exact⟨_,rfl,.inl rfl,fun b hb=>by cases hb⟩
 ·rw[hf]
  intro e e' u u' b he he' hne;simp at he he'
  subst he he';exact absurd rfl hne
theorem zyt {x:Operand} (hop:o.op=.move x∨o.op=.assign x) (hs:(zoM L s o.type x).map (fun v=>s.put o.dst v)=some s') (hsee:zc1 p w a.tmps s x) (hsz:a.tmps.size=s.σ.length) (hz:Zp p w):zcP P L S q o a p w s':=by
 simp only[zzOm] at hs;obtain⟨v,hv,rfl⟩:=hs;have hr:=zBO hv hsee
 obtain⟨_,hkb,hku⟩:=zp6 hv;refine zaX (v:=a.eval x) (w':=w) (by rcases hop with hop|hop <;> simp[execOp,hop]) ⟨p,?_⟩
 cases x with
 | tmp t =>
  refine zbO hz hsz hr (by rcases hop with hop|hop <;> simp[zaR,hop]) ?_ hkb hku
  have:∀e∈zaT L q o,e.2=(t,e.1):=by
   rcases hop with hop|hop <;> simp only[zaT,hop] <;> split <;> simp
  intro e he u hu;rw[this e he] at hu;exact hu
 | const c =>
  have hmv:zaT L q o=[]:=by rcases hop with hop|hop <;> simp[zaT,hop]
  by_cases hc:c=.slice none 0 0
  ·subst hc
   cases he:L.el o.type with
   | none=>exact zbO hz hsz hr (by rcases hop with hop|hop <;> simp[zaR,hop,he]) (by rw[hmv];simp) hkb hku
   | some i=>exact zzY _ rfl hz hsz hr (k:=i.size) (by rcases hop with hop|hop <;> simp[zaR,hop,he]) hmv hkb hku
  ·refine zbO hz hsz hr ?_ (by rw[hmv];simp) hkb hku
   rcases hop with hop|hop <;> simp only[zaR,hop] <;> split <;> first|rfl|(rename_i h;simp_all)
 | global g=>cases hv
 | func f=>cases hv
theorem zE9 {c x y:Operand} (hop:o.op=.pick c x y) (hs:((zg9 L s c).bind fun t=>(if t then zjq L s o.type x else zjq L s o.type y).map fun v=>s.put o.dst (.v v))=some s')
  (h1:zc1 p w a.tmps s c) (h2:zc1 p w a.tmps s x) (h3:zc1 p w a.tmps s y) (hsz:a.tmps.size=s.σ.length) (hz:Zp p w):zcP P L S q o a p w s':=by
 simp only[zzOb,zzOm] at hs;obtain⟨t,ht,v,hv,rfl⟩:=hs;have hb:=zjA ht h1
 have hf:zaR L S o=[]:=by simp[zaR,hop]
 have hm:zaT L q o=[]:=by simp[zaT,hop]
 cases t with
 | true=>exact zaX (v:=a.eval x) (w':=w) (by simp[execOp,hop,hb,asBool]) ⟨p,zbO hz hsz (zdj hv h2) hf (by rw[hm];simp)⟩
 | false=>exact zaX (v:=a.eval y) (w':=w) (by simp[execOp,hop,hb,asBool]) ⟨p,zbO hz hsz (zdj hv h3) hf (by rw[hm];simp)⟩
theorem zFO {op:BinOp}{t u:Nat}{x y:Operand} (hop:o.op=.binOp op t x y u) (hs:((zgk L s x).bind fun m=>(zgk L s y).bind fun n=>(zxB op m n).map fun c=>s.put o.dst (.v (.cell c)))=some s')
  (h1:zc1 p w a.tmps s x) (h2:zc1 p w a.tmps s y) (hsz:a.tmps.size=s.σ.length) (hz:Zp p w):zcP P L S q o a p w s':=by
 simp only[zzOb,zzOm] at hs;obtain⟨m,hm,n,hn,c,hc,rfl⟩:=hs;have e1:=zea hm h1
 have e2:=zea hn h2
 have hf:zaR L S o=[]:=by simp[zaR,hop]
 have hmv:zaT L q o=[]:=by simp[zaT,hop]
 have key:∀v:Value,Rep p w v c→(execOp a.eval o).run P w=.ok (.value v) w→zcP P L S q o a p w (s.put o.dst (.v (.cell c))):=fun v hv hr =>
  zaX hr ⟨p,zbO hz hsz (x:=.v (.cell c)) hv hf (by rw[hmv];simp)⟩
 unfold zxB at hc;split at hc <;> (try split at hc) <;> cases hc
 ·exact key _ (.int _) (by simp[execOp,hop,e1,e2,binOp,Op.intArith,zae,eqGuard_at_int])
 ·exact key _ (.int _) (by simp[execOp,hop,e1,e2,binOp,Op.intArith,zae,eqGuard_at_int])
 ·exact key _ (.int _) (by simp[execOp,hop,e1,e2,binOp,Op.intArith,zae,eqGuard_at_int])
 ·exact key _ (.bool _) (by simp[execOp,hop,e1,e2,binOp,Op.intCmp,eqGuard_at_int])
 ·exact key _ (.bool _) (by simp[execOp,hop,e1,e2,binOp,Op.intCmp,eqGuard_at_int])
 ·exact key _ (.bool _) (by simp[execOp,hop,e1,e2,binOp,Op.intCmp,eqGuard_at_int])
 ·exact key _ (.bool _) (by simp[execOp,hop,e1,e2,binOp,Op.intCmp,eqGuard_at_int])
 ·exact key _ (.bool _) (by simp[execOp,hop,e1,e2,binOp,Op.intCmp,eqGuard_at_int])
 ·exact key _ (.bool _) (by simp[execOp,hop,e1,e2,binOp,Op.intCmp,eqGuard_at_int])
 ·rename_i h0
  exact key _ (.int _) (by simp[execOp,hop,e1,e2,binOp,Op.intDiv,zae,eqGuard_at_int,h0])
 ·rename_i h0
  exact key _ (.int _) (by simp[execOp,hop,e1,e2,binOp,Op.intDiv,eqGuard_at_int,h0])
theorem run_equal_bool {t:TypeId} (h:P.underlying t=some .bool) (m n:Bool) (w:World):(Op.equal t (.bool m) (.bool n)).run P w=.ok (m==n) w:=run_equalIn_bool w 9999 t m n h
theorem zE7 (hL:LayOk P L) {op:BinOp}{t u:Nat}{x y:Operand} (hop:o.op=.binOp op t x y u) {m:Bool} (hm:zg9 L s x=some m) (hs:((L.ti t).bind fun i=>if i.kind=1 then(zg9 L s y).bind fun n=>(zEp op m n).map fun c=>s.put o.dst (.v (.cell c)) else none)=some s')
  (h1:zc1 p w a.tmps s x) (h2:zc1 p w a.tmps s y) (hsz:a.tmps.size=s.σ.length) (hz:Zp p w):zcP P L S q o a p w s':=by
 simp only[zzOb] at hs;obtain⟨i,hi,hs⟩:=hs;split at hs
 case isFalse=>cases hs
 rename_i hk1;simp only[zzOb,zzOm] at hs;obtain⟨n,hn,c,hc,rfl⟩:=hs;have hu:=(hL t i hi).bool hk1
 have e1:=zjA hm h1
 have e2:=zjA hn h2
 have hf:zaR L S o=[]:=by simp[zaR,hop]
 have hmv:zaT L q o=[]:=by simp[zaT,hop]
 have key:∀v:Value,Rep p w v c→(execOp a.eval o).run P w=.ok (.value v) w→zcP P L S q o a p w (s.put o.dst (.v (.cell c))):=fun v hv hr =>
  zaX hr ⟨p,zbO hz hsz (x:=.v (.cell c)) hv hf (by rw[hmv];simp)⟩
 unfold zEp at hc;split at hc <;> cases hc
 ·exact key _ (.bool _) (by simp[execOp,hop,e1,e2,binOp,Go.eqGuard,run_equal_bool hu])
 ·exact key _ (.bool _) (by simp[execOp,hop,e1,e2,binOp,Go.eqGuard,run_equal_bool hu];cases m <;> cases n <;> rfl)
theorem zGp {t:Nat}{x:Operand} (hop:o.op=.unOp .not t x) (hs:((zg9 L s x).map fun b=>s.put o.dst (.v (.cell (.bool (!b)))))=some s')
  (h1:zc1 p w a.tmps s x) (hsz:a.tmps.size=s.σ.length) (hz:Zp p w):zcP P L S q o a p w s':=by
 simp only[zzOm] at hs;obtain⟨b,hb,rfl⟩:=hs;have e1:=zjA hb h1
 exact zaX (v:=.bool (!b)) (w':=w) (by simp[execOp,hop,e1,Op.unary]) ⟨p,zbO hz hsz (x:=.v (.cell (.bool (!b)))) (.bool _) (by simp[zaR,hop]) (by simp[zaT,hop])⟩
theorem zDC (hL:LayOk P L) {t:Nat}{x:Operand} (hop:o.op=.load t x) (hs:((L.ti t).bind fun i=>(ziS s x).bind fun r=>match r with
   | .ref cs=>if i.size≤cs.length then(mkV i (cs.take i.size)).map fun v=>s.put o.dst (.v v) else none
   | .box d off=>match s.get d with
    | .box cs=>if off+i.size≤cs.length then(mkV i ((cs.drop off).take i.size)).map fun v=>s.put o.dst (.v v) else none
    | _=>none
   | .el _ _ _ _=>none)=some s')
  (h1:zc1 p w a.tmps s x) (hsz:a.tmps.size=s.σ.length) (hz:Zp p w) (hq:zb7 q s):zcP P L S q o a p w s':=by
 simp only[zzOb] at hs;obtain⟨i,hi,r,hr,hs⟩:=hs;have hT:=hL t i hi
 have hp:=zmy hr h1
 have hf:zaR L S o=[]:=by simp[zaR,hop]
 cases r with
 | el _ _ _ _=>cases hs
 | ref cs =>
  simp only at hs;split at hs
  ·rename_i hlen
   simp only[zzOm] at hs;obtain⟨v,hv,rfl⟩:=hs;obtain⟨u,hu,hru⟩:=zvd (P:=P) hT hp hlen hv;refine zaX (v:=u) (w':=w) (by simp[execOp,hop,hu]) ⟨p,zbO hz hsz (x:=.v v) hru hf ?_⟩
   have:zoc q x=none:=by
    unfold ziS at hr;split at hr
    ·rename_i j
     unfold zoc;split at hr
     ·rename_i r' hr'
      cases hr;cases hqj:q.lookup j with
      | none=>rw[hq.1 j hqj] at hr';cases hr'
      | some z =>
       cases z with
       | none=>simp[hqj]
       | some df=>rw[hq.2 j df.1 df.2 hqj] at hr';cases hr'
     ·split at hr <;> cases hr
    ·cases hr
   have hmv:zaT L q o=[]:=by simp[zaT,hop,this]
   rw[hmv];simp
  ·cases hs
 | box d off =>
  simp only at hs;have hsl:=zAL hr h1
  obtain⟨b,hd,hx⟩:=hp;split at hs
  ·rename_i cs hcs
   split at hs
   ·rename_i hlen
    simp only[zzOm] at hs;obtain⟨v,hv,rfl⟩:=hs;have hsr:=hsl.1
    rw[hcs] at hsr;obtain⟨b',arr,T,e,hb,hrl⟩:=hsr;rw[hd] at e;cases e;obtain⟨u,hu,hru,hcells⟩:=zo7 (P:=P) hT hb hrl hlen hv;refine zaX (v:=u) (w':=w) (by simp[execOp,hop,hx,hu]) ⟨p,zbO hz hsz (x:=.v v) hru hf ?_⟩
    intro e he y hy;have hmem:∃n,n<i.size∧e=(n,(d,off+n))∨False:=by
     have hps:zoc q x=some (d,off)∨zoc q x=none:=by
      unfold ziS at hr;split at hr
      ·rename_i j
       unfold zoc;split at hr
       ·rename_i r' hr'
        cases hr;cases hqj:q.lookup j with
        | none=>rw[hq.1 j hqj] at hr';cases hr'
        | some z =>
         cases z with
         | none=>exact .inr (by simp[hqj])
         | some df=>rw[hq.2 j df.1 df.2 hqj] at hr';cases hr';exact .inl (by simp[hqj])
       ·rename_i hnone
        split at hr
        ·cases hr
         cases hqj:q.lookup d with
         | none=>exact .inl (by simp[hqj])
         | some z =>
          cases z with
          | none=>exact .inr (by simp[hqj])
          | some df=>rw[hq.2 d df.1 df.2 hqj] at hnone;cases hnone
        ·cases hr
      ·cases hr
     rcases hps with hps|hps
     ·simp only[zaT,hop,hi,hps,List.mem_map,List.mem_range] at he
      obtain⟨n,hn,rfl⟩:=he;exact⟨n,.inl ⟨hn,rfl⟩⟩
     ·simp[zaT,hop,hi,hps] at he
    obtain⟨n,⟨hn,rfl⟩|hF⟩:=hmem
    ·simp only at hy ⊢
     rw[hd] at hy;have hy':w.cell? ⟨b,off+n,none⟩=some y:=hy
     rw[za4 hb] at hy';rw[zbw hru];have:u.cells.toList[n]?=some y:=by
      rw[hcells,List.getElem?_take,if_pos hn,List.getElem?_drop]
      simpa using hy'
     simpa using this
    ·exact hF.elim
   ·cases hs
  ·cases hs
theorem zmc (hsz:a.tmps.size=s.σ.length) {d:Nat} (hd:d<s.σ.length) {r:Ptr}{v:Value} (hr:zyU p w (a.put (some d) v).tmps v r) :
  zc3 p w (a.put (some d) v).tmps {(s.put (some d) .und) with pe:=(d,r)::(s.put (some d) .und).pe} d:=by
 constructor
 ·have:VS.get {(s.put (some d) .und) with pe:=(d,r)::(s.put (some d) .und).pe} d=(s.put (some d) .und).get d:=rfl
  rw[this,zcg,if_pos hd,zg7 (by omega)]
  intro b hb;subst hb;cases r with
  | ref cs=>obtain⟨_,_,e,_⟩:=hr;cases e
  | box d' off=>obtain⟨_,_,e⟩:=hr;cases e
  | el d' k n j=>obtain⟨_,_,_,_,_,e⟩:=hr;cases e
 ·intro r' hr'
  simp[List.lookup] at hr'
  subst hr';rw[zg7 (by omega)]
  exact hr
theorem zxT {d:Nat} (hd:o.dst=some d) (r:Ptr) {R:Prop}:∀d' cs,o.dst=some d'→VS.get {(s.put (some d) .und) with pe:=(d,r)::(s.put (some d) .und).pe} d'=.box cs→R:=by
 intro d' cs hd' h;rw[hd] at hd';cases hd';have:(s.put (some d) .und).get d=.box cs:=h
 rw[zcg] at this;split at this <;> cases this
theorem zu6 (hL:LayOk P L) {t f:Nat}{x:Operand} (hop:o.op=.fieldAddr t x f) (hs:((L.ti t).bind fun i=>(ziS s x).bind fun r=>(i.fields[f]?).bind fun f =>
   match o.dst with
   | some d=>if d<s.σ.length∧r.at d=false∧i.kind=3∧r.fits f.1=true then
     let s':=s.put (some d) .und
     some {s' with pe:=(d,match r with|.box b off=>.box b (off+f.1)|.ref cs=>.ref (cs.drop f.1)|r=>r)::s'.pe}
    else none
   | none=>none)=some s')
  (h1:zc1 p w a.tmps s x) (hsz:a.tmps.size=s.σ.length) (hz:Zp p w):zcP P L S q o a p w s':=by
 simp only[zzOb] at hs;obtain⟨i,hi,r,hr,⟨off,n⟩,hf,hs⟩:=hs;have hT:=hL t i hi
 have hp:=zmy hr h1
 split at hs
 ·rename_i d hd
  split at hs
  ·rename_i hc
   cases hs;have hfr:zaR L S o=[]:=by simp[zaR,hop]
   have hmv:zaT L q o=[]:=by simp[zaT,hop]
   have fin:∀(v:Value),(execOp a.eval o).run P w=.ok (.value v) w→zyU p w (a.put (some d) v).tmps v (match r with|.box b off'=>.box b (off'+off)|.ref cs=>.ref (cs.drop off)|r=>r)→zcP P L S q o a p w {(s.put (some d) .und) with pe:=(d,match r with|.box b off'=>.box b (off'+off)|.ref cs=>.ref (cs.drop off)|r=>r)::(s.put (some d) .und).pe}:=by
    intro v hv hpv;refine zaX hv ⟨p,.refl _ _ _,hz,fun d' hd'=>?_,zxT hd _,(fun _ _ _=>.inr ⟨hfr,hmv⟩),by rw[hfr];simp,by rw[hfr];simp,by rw[hmv];simp⟩
    rw[hd] at hd' ⊢;cases hd';exact zmc hsz hc.1 hpv
   cases r with
   | el _ _ _ _=>simp[Ptr.fits] at hc
   | ref cs =>
    obtain⟨b,o',e,hb,hpp,hcc⟩:=hp;have hrun:=zqG (w:=w) hT (b:=b) (o:=o') hf hc.2.2.1
    refine fin (.pointer (some ⟨b,o'+off,none⟩)) (by simp[execOp,hop,e,hrun]) ?_
    exact PRef.drop (p:=p) (w:=w) ⟨b,o',rfl,hb,hpp,hcc⟩ off (by have:=hc.2.2.2;simpa [Ptr.fits] using this)
   | box bd off' =>
    obtain⟨b,e1,e2⟩:=hp;have hrun:=zqG (w:=w) hT (b:=b) (o:=off') hf hc.2.2.1
    refine fin (.pointer (some ⟨b,off'+off,none⟩)) (by simp[execOp,hop,e2,hrun]) ⟨b,?_,rfl⟩
    have hne:bd≠d:=by
     have:=hc.2.1
     simp[Ptr.at] at this
     exact this
    rw[←e1];simp[Act.put,Ne.symm hne]
  ·cases hs
 ·cases hs
theorem zvo (hL:LayOk P L) {t:Nat}{x ix:Operand} (hop:o.op=.indexAddr t x ix) (hs:((L.el t).bind fun e=>(zj7 L s t x).bind fun(k,r)=>(zgk L s ix).bind fun n =>
   if 0≤n∧n<r.length∧k=e.size then
    match o.dst with
    | some d=>if d<s.σ.length then
      let s':=s.put (some d) .und
      some {s' with pe:=(d,.ref (r.getD n.toNat []))::s'.pe}
     else none
    | none=>none
   else none)=some s')
  (h1:zc1 p w a.tmps s x) (h2:zc1 p w a.tmps s ix) (hsz:a.tmps.size=s.σ.length) (hz:Zp p w):zcP P L S q o a p w s':=by
 simp only[zzOb] at hs;obtain⟨e,he,⟨k,r⟩,hr,n,hn,hs⟩:=hs;obtain⟨u,hu,hT⟩:=hL.el he;have hrep:=zjD hr h1
 have hin:=zea hn h2
 simp only at hs;split at hs
 ·rename_i hc
  obtain⟨c1,c2,rfl⟩:=hc;split at hs
  ·rename_i d hd
   split at hs
   ·rename_i hlt
    cases hs;have hfr:zaR L S o=[]:=by simp[zaR,hop]
    have hmv:zaT L q o=[]:=by simp[zaT,hop]
    obtain⟨v,hv,hpv⟩:=zxf (P:=P) hu hT hrep c1 c2;refine zaX (v:=v) (w':=w) (by simp[execOp,hop,hin,hv]) ⟨p,.refl _ _ _,hz,fun d' hd'=>?_,zxT hd _,(fun _ _ _=>.inr ⟨hfr,hmv⟩),by rw[hfr];simp,by rw[hfr];simp,by rw[hmv];simp⟩
    rw[hd] at hd' ⊢;cases hd';exact zmc hsz hlt hpv
   ·cases hs
  ·cases hs
 ·cases hs
theorem zAj (hL:LayOk P L) {t:Nat}{x:Operand}{lo hi:Option Operand} (hop:o.op=.slice t x lo hi none) (hs:((L.el t).bind fun e=>(zj7 L s t x).bind fun(k,r) =>
   (match lo with|none=>some 0|some l=>zgk L s l).bind fun l=>(match hi with|none=>some (r.length:Int)|some h=>zgk L s h).bind fun h =>
    if 0≤l∧l≤h∧h≤r.length∧k=e.size then some (s.put o.dst (.v (.cell (.sl k ((r.drop l.toNat).take (h.toNat-l.toNat)))))) else none)=some s')
  (h1:zc1 p w a.tmps s x) (h2:∀y,lo=some y→zc1 p w a.tmps s y) (h3:∀y,hi=some y→zc1 p w a.tmps s y) (hsz:a.tmps.size=s.σ.length) (hz:Zp p w):zcP P L S q o a p w s':=by
 simp only[zzOb] at hs;obtain⟨e,he,⟨k,r⟩,hr,l,hl,h,hh,hs⟩:=hs;obtain⟨u,hu,hT⟩:=hL.el he;have hrep:=zjD hr h1
 simp only at hs;split at hs
 ·rename_i hc
  obtain⟨c1,c2,c3,rfl⟩:=hc;cases hs;have hfr:zaR L S o=[]:=by simp[zaR,hop]
  have hmv:zaT L q o=[]:=by simp[zaT,hop]
  obtain⟨v,hv,hrv⟩:=zwZ (P:=P) hu hT hrep (lo:=lo.map a.eval) (hi:=hi.map a.eval) (l:=l) (h:=h)
   (by cases lo with
     | none=>cases hl;exact .inl ⟨rfl,rfl⟩
     | some y=>exact .inr (by simp[zea hl (h2 y rfl)]))
   (by cases hi with
     | none=>cases hh;exact .inl ⟨rfl,rfl⟩
     | some y=>exact .inr (by simp[zea hh (h3 y rfl)])) c1 c2 c3
  exact zaX (v:=v) (w':=w) (by simp[execOp,hop,hv]) ⟨p,zbO hz hsz (x:=.v (.cell _)) hrv hfr (by rw[hmv];simp)⟩
 ·cases hs
theorem zyg (hop:∃x j,o.op=.extract (.tmp x) j∧(match s.get x with|.tup vs=>(vs[j]?).map fun v=>s.put o.dst (.v v)|_=>none)=some s'∧zc1 p w a.tmps s (.tmp x)) (hsz:a.tmps.size=s.σ.length) (hz:Zp p w):zcP P L S q o a p w s':=by
 obtain⟨x,j,hop,hs,hsee⟩:=hop;split at hs
 ·rename_i vs hvs
  simp only[zzOm] at hs;obtain⟨v,hv,rfl⟩:=hs;have hsr:=(hsee x (zhx s x)).1
  rw[hvs] at hsr;obtain⟨arr,e,hreps⟩:=hsr;obtain⟨u,hu,hru⟩:=hreps.get hv;simp only[Array.getElem?_toList] at hu;refine zaX (v:=u) (w':=w) (by
   have:a.eval (.tmp x)=.tuple arr:=e
   simp[execOp,hop,this,Instr.extract,hu]) ⟨p,zbO hz hsz (x:=.v v) hru (by simp[zaR,hop]) ?_⟩
  intro m hm y hy;simp only[zaT,hop] at hm;split at hm
  ·split at hm
   ·rename_i i hi hle
    simp only[List.mem_map,List.mem_range] at hm;obtain⟨n,hn,rfl⟩:=hm;simp only at hy ⊢;rw[e] at hy;simp only[zaz,show(j*64+n) / 64=j by omega,show(j*64+n) % 64=n by omega,hu,Option.bind_some] at hy
    rw[zbw hru];exact hy
   ·cases hm
  ·cases hm
 ·cases hs
theorem zF0 {x y:Operand}{ats:Array TypeId} (hop:o.op=.call {callee:=.builtin .max,args:=#[x,y],argTypes:=ats}) (hs:((zgk L s x).bind fun m=>(zgk L s y).map fun n=>s.put o.dst (.v (.cell (.int (zuo m n)))))=some s')
  (h1:zc1 p w a.tmps s x) (h2:zc1 p w a.tmps s y) (hsz:a.tmps.size=s.σ.length) (hz:Zp p w):zcP P L S q o a p w s':=by
 simp only[zzOb,zzOm] at hs;obtain⟨m,hm,n,hn,rfl⟩:=hs;have e1:=zea hm h1
 have e2:=zea hn h2
 refine zaX (v:=.int .i64 (zuo m n)) (w':=w) ?_ ⟨p,zbO hz hsz (x:=.v (.cell (.int (zuo m n)))) (.int _) (by simp[zaR,hop]) (by simp[zaT,hop])⟩
 simp[execOp,hop,resolve,invoke,builtin,Builtin.max_,Builtin.max2,e1,e2,zuo]
theorem zFJ (hL:LayOk P L) {x:Operand}{t:Nat}{ats:Array TypeId} (hop:o.op=.call {callee:=.builtin .len,args:=#[x],argTypes:=ats}) (ht:ats.getD 0 0=t) (hats:ats.size=1)
  (hs:((L.el t).bind fun _=>(zj7 L s t x).map fun(_,r)=>s.put o.dst (.v (.cell (.int r.length))))=some s') (h1:zc1 p w a.tmps s x) (hsz:a.tmps.size=s.σ.length) (hz:Zp p w):zcP P L S q o a p w s':=by
 simp only[zzOb,zzOm] at hs;obtain⟨e,he,⟨k,r⟩,hr,rfl⟩:=hs;obtain⟨u,hu,hT⟩:=hL.el he;have hrep:=zjD hr h1
 have h0:ats[0]?=some t:=by
  rw[←ht];simp[Array.getD,hats]
 have:∃ad cap,a.eval x=.slice ad r.length cap:=by
  rcases hrep.row with ⟨⟨ad,e⟩,rfl⟩|⟨b,o,cap,us,e,_⟩
  ·exact⟨ad,0,e⟩
  ·exact⟨_,cap,e⟩
 obtain⟨ad,cap,hev⟩:=this;refine zaX (v:=.int .i64 r.length) (w':=w) ?_ ⟨p,zbO hz hsz (x:=.v (.cell (.int r.length))) (.int _) (by simp[zaR,hop]) (by simp[zaT,hop])⟩
 simp[execOp,hop,resolve,invoke,builtin,Builtin.len_,h0,run_underlying hu,hev,goInt]
theorem zh6 {e0:Nat×Nat}{v:Value}{s':VS}{p':Stb}{w':World} (hev:Evo (znR L S o a) p w p' w') (hz':Zp p' w') (hsl:∀d,o.dst=some d→zc3 p' w' (a.put o.dst v).tmps s' d)
  (hbx:∀d cs,o.dst=some d→s'.get d=.box cs→v=.pointer (some ⟨w.heap.size,0,none⟩)∧p' w.heap.size=0∧∀e∈zaR L S o,zaz w' v e.1=some (.slice none 0 0)) (hki:∀d,o.dst=some d→d<s'.σ.length→s'.get d≠.und∨(zaR L S o=[]∧zaT L q o=[])) (hf:zaR L S o=[e0]) (hm:zaT L q o=[]) {u:Value} (hc:zaz w' v e0.1=some u) (hr:Rt p' w' u e0.2) (hb:∀b,zaw u=some b→w.heap.size≤b∨znR L S o a b):zjR L S q o a p w s' v p' w':=by
 refine⟨hev,hz',hsl,hbx,hki,?_,?_,by rw[hm];simp⟩
 ·rw[hf]
  intro e he;simp at he
  subst he;exact⟨u,hc,hr,hb⟩
 ·rw[hf]
  intro e e' u u' b he he' hne;simp at he he'
  subst he he';exact absurd rfl hne
theorem zzk (hL:LayOk P L) {x y:Operand}{t:Nat} (hop:o.op=.call {callee:=.builtin .append,args:=#[x,y],argTypes:=#[t,t]})
  (hs:((L.el t).bind fun e=>(zj7 L s t x).bind fun(k,r)=>(zj7 L s t y).bind fun(k',r')=>if k=e.size∧k'=e.size∧0<e.size∧(r++r').length≤zkQ then some (s.put o.dst (.v (.cell (.sl k (r++r'))))) else none)=some s')
  (h1:zc1 p w a.tmps s x) (h2:zc1 p w a.tmps s y) (hsz:a.tmps.size=s.σ.length) (hz:Zp p w) (hr:∀x∈zb6 L S o,Rt p w (a.eval x.1) x.2):zcP P L S q o a p w s':=by
 simp only[zzOb] at hs;obtain⟨e,he,⟨k,r⟩,hrx,⟨k',r'⟩,hry,hs⟩:=hs;simp only at hs;split at hs
 ·rename_i hc
  obtain⟨rfl,rfl,hpos,hlim⟩:=hc;cases hs;obtain⟨u,hu,hT⟩:=hL.el he;have heats:zb6 L S o=[(x,e.size)]:=by simp[zb6,hop,he]
  have hrt:=hr (x,e.size) (by rw[heats];simp)
  obtain⟨v,w',p',hrun,hrep,hrt',hev,hz',hblk⟩:=zjO hu hT hpos (zjD hrx h1) (zjD hry h2) hrt hz hlim o.type;have heat:∀b,znR L S o a b↔zaw (a.eval x)=some b:=fun b=>by simp[znR,heats]
  refine zaX (v:=v) (w':=w') (by simp[execOp,hop,resolve,invoke,builtin,hrun]) ⟨p',?_⟩
  refine zh6 (e0:=(0,e.size)) (hev.weaken fun b _ hb=>(heat b).2 hb) hz' (zb0 hsz (x:=.v (.cell _)) hrep) (zkq (by intro _ h;cases h)) (zdH (by intro h;cases h)) (by simp[zaR,hop,he]) (by simp[zaT,hop]) (u:=v) ?_ hrt' (fun b hb=>?_)
  ·rw[zbw (x:=.cell _) hrep,hrep.cells];rfl
  ·rcases hblk b hb with h|h
   ·exact .inr ((heat b).2 h)
   ·exact .inl (by omega)
 ·cases hs
end
end
end Go.Proofs.YtkgbadeobdbinaaGreat
