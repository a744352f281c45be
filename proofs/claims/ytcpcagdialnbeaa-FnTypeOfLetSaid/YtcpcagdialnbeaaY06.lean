/- Generic texts and models for the proofs of this seat: part 6. -/
import Derived.Test.YtcpcagdialnbeaaY05
set_option linter.unusedVariables false
set_option linter.unusedSimpArgs false
namespace Go.Proofs.Ytcpcagdialnbeaa
section
open Go Go.RowKit
structure Sg where
 takes:List (Option Nat)
 gives:List (Nat×Nat)
abbrev Sig:=List (Nat×Sg)
def Sig.sg (S:Sig) (f:Nat):Sg:=(S.lookup f).getD ⟨[],[]⟩
def zax (w:World) (v:Value) (n:Nat):Option Value :=
 match v with
 | .pointer (some ⟨b,0,none⟩)=>w.cell? ⟨b,n,none⟩
 | .tuple vs=>(vs[n / 64]?).bind fun u=>u.cells[n % 64]?
 | v=>v.cells[n]?
abbrev SPe:=List (Nat×Option (Nat×Nat))
def zlQ (q:SPe):Operand→Option (Nat×Nat)
 | .tmp i=>match q.lookup i with
  | none=>some (i,0)
  | some r=>r
 | _=>none
def zbQ (L:Lay) (S:Sig) (o:Oper):List (Operand×Nat) :=
 match o.op with
 | .call {callee:=.builtin .append,args,argTypes}=>match args.toList,L.el (argTypes.getD 0 0) with
  | [x,_],some e=>[(x,e.size)]
  | _,_=>[]
 | .call {callee:=.value (.func f),args,..}=>(args.toList.zip (S.sg f).takes).filterMap fun xk=>xk.2.map fun k=>(xk.1,k)
 | _=>[]
def zkb:Nat→List AC→List (Nat×Nat)
 | _,[]=>[]
 | n,.sl k []::r=>(n,k)::zkb (n+1) r
 | n,_::r=>zkb (n+1) r
def zbS (i:TI) (n:Nat):List (Nat×Operand)→Option (Option (Nat×Nat))
 | []=>none
 | (f,x)::rest =>
  match zbS i n rest with
  | some r=>some r
  | none=>match i.fields[f]? with
   | some (off,sz)=>if off≤n∧n<off+sz then(match x with|.tmp t=>some (some (t,n-off))|_=>some none) else none
   | none=>none
def zaI (L:Lay) (S:Sig) (o:Oper):List (Nat×Nat) :=
 match o.op with
 | .move (.const (.slice none 0 0))|.assign (.const (.slice none 0 0))=>match L.el o.type with
  | some e=>[(0,e.size)]
  | none=>[]
 | .alloc t=>match L.ti t with
  | some i=>zkb 0 i.zero
  | none=>[]
 | .build t ps=>match L.ti t with
  | some i=>(zkb 0 i.zero).filter fun e=>(zbS i e.1 ps.toList).isNone
  | none=>[]
 | .buildSlice t _ _|.makeSlice t _ _=>match L.el t with
  | some e=>[(0,e.size)]
  | none=>[]
 | .call {callee:=.builtin .append,argTypes,..}=>match L.el (argTypes.getD 0 0) with
  | some e=>[(0,e.size)]
  | none=>[]
 | .call {callee:=.value (.func f),..}=>(S.sg f).gives
 | _=>[]
def zaL (L:Lay) (q:SPe) (o:Oper):List (Nat×(Nat×Nat)) :=
 match o.op with
 | .move (.tmp x)|.assign (.tmp x)=>match L.ti o.type with
  | some i=>(List.range i.size).map fun n=>(n,(x,n))
  | none=>[]
 | .box t (.tmp x)=>match L.ti t with
  | some i=>(List.range i.size).map fun n=>(n,(x,n))
  | none=>[]
 | .load t x=>match L.ti t,zlQ q x with
  | some i,some (d,off)=>(List.range i.size).map fun n=>(n,(d,off+n))
  | _,_=>[]
 | .build t ps=>match L.ti t with
  | some i=>(List.range i.size).filterMap fun n=>match zbS i n ps.toList with
   | some (some r)=>some (n,r)
   | _=>none
  | none=>[]
 | .extract (.tmp x) j=>match L.ti o.type with
  | some i=>if i.size≤64 then(List.range i.size).map fun n=>(n,(x,j*64+n)) else[]
  | none=>[]
 | _=>[]
def zlm (L:Lay) (S:Sig) (o:Oper) (a:Act) (b:Nat):Prop:=∃x∈zbQ L S o,zar (a.eval x.1)=some b
def znP (vs:List Value):Prop:=∀(i j:Nat) (u v:Value) (b:Nat),i≠j→vs[i]?=some u→vs[j]?=some v→zar u=some b→zar v≠some b
def zjm (P:Program) (S:Sig) (f:FuncId) (run:List SV→Option AV):Prop:=∀args r,run args=some r→(zix r=true∧∃fn,P.funcs[f]?=some fn∧fn.body.isSome=true∧(fn.name == "runtime.NumGoroutine")=false)∧∀p w (vals:List Value),RepSs p w vals args→Zp p w →
 (∀(i k:Nat),(S.sg f).takes[i]?=some (some k)→∃v:Value,vals[i]?=some v∧Rt p w v k) →
 znP ((vals.zip (S.sg f).takes).filterMap fun xk=>xk.2.map fun _=>xk.1) →
 Calls P f vals.toArray w fun e w'=>∃v,e=.returned v∧∃p',SR p' w' v r∧(∀cs,r≠.box cs)∧r≠.und∧Evo (fun b=>∃(i k:Nat) (v:Value),(S.sg f).takes[i]?=some (some k)∧vals[i]?=some v∧zar v=some b) p w p' w'∧Zp p' w' ∧
  (∀e∈(S.sg f).gives,∃u,zax w' v e.1=some u∧Rt p' w' u e.2∧∀b,zar u=some b→w.heap.size≤b∨∃(i k:Nat) (v:Value),(S.sg f).takes[i]?=some (some k)∧vals[i]?=some v∧zar v=some b) ∧
  (∀(e e':Nat×Nat) (u u':Value) (b:Nat),e∈(S.sg f).gives→e'∈(S.sg f).gives→e.1≠e'.1→zax w' v e.1=some u→zax w' v e'.1=some u'→zar u=some b→zar u'≠some b)
def za4 (P:Program) (S:Sig) (call:Orc):Prop:=∀f,zjm P S f (call f)
def zbR (q:SPe) (s:VS):Prop:=(∀t,q.lookup t=none→s.pe.lookup t=none)∧∀t d off,q.lookup t=some (some (d,off))→s.pe.lookup t=some (.box d off)
structure zhx (L:Lay) (S:Sig) (q:SPe) (o:Oper) (a:Act) (p:Stb) (w:World) (s':VS) (v:Value) (p':Stb) (w':World):Prop where
 evo:Evo (zlm L S o a) p w p' w'
 zp:Zp p' w'
 slot:∀d,o.dst=some d→zcM p' w' (a.put o.dst v).tmps s' d
 bx:∀d cs,o.dst=some d→s'.get d=.box cs→v=.pointer (some ⟨w.heap.size,0,none⟩)∧p' w.heap.size=0∧∀e∈zaI L S o,zax w' v e.1=some (.slice none 0 0)
 kind:∀d,o.dst=some d→d<s'.σ.length→s'.get d≠.und∨(zaI L S o=[]∧zaL L q o=[])
 fr:∀e∈zaI L S o,∃u,zax w' v e.1=some u∧Rt p' w' u e.2∧∀b,zar u=some b→w.heap.size≤b∨zlm L S o a b
 ap:∀(e e':Nat×Nat) (u u':Value) (b:Nat),e∈zaI L S o→e'∈zaI L S o→e.1≠e'.1→zax w' v e.1=some u→zax w' v e'.1=some u'→zar u=some b→zar u'≠some b
 mv:∀e∈zaL L q o,∀u,zax w (a.tmps.getD e.2.1 undef) e.2.2=some u→zax w' v e.1=some u
section
variable {P:Program}{L:Lay}{S:Sig}{p:Stb}{w:World}{a:Act}{s s':VS}{q:SPe}{o:Oper}
theorem zb1 (s:VS) (d:Nat) (x:AV):(s.put (some d) x).get d=if d<s.σ.length then x else .und:=by
 simp only[VS.get,VS.put,List.getD,List.getElem?_set];split
 ·split <;> rfl
 ·rename_i h;exact absurd trivial h
theorem zcD (s:VS) (d:Nat) (x:AV):(s.put (some d) x).pe.lookup d=none:=by
 rcases h:(s.put (some d) x).pe.lookup d with _|r
 ·rfl
 ·have:=za2 h
  unfold VS.put at this;simp at this
theorem zwc {m:Array Value}{d:Nat}{x:AV} (hlt:d<s.σ.length) (h:SR p w (m.getD d undef) x):zcM p w m (s.put (some d) x) d:=by
 refine⟨?_,fun q' hq=>by rw[zcD] at hq;cases hq⟩
 rw[zb1,if_pos hlt];exact h
theorem zft {d:Nat}{v:Value} (hd:d<a.tmps.size):(a.put (some d) v).tmps.getD d undef=v:=by
 simp[Act.put,hd]
theorem zl7 {d:Nat}{v:Value} (hd:¬d<a.tmps.size):(a.put (some d) v).tmps.getD d undef=undef:=by
 simp[Act.put,hd]
theorem zbO {x:AV}{v:Value} (hs:a.tmps.size=s.σ.length) (h:SR p w v x):∀d,o.dst=some d→zcM p w (a.put o.dst v).tmps (s.put o.dst x) d:=by
 intro d hd;rw[hd];by_cases hlt:d<a.tmps.size
 ·exact zwc (by rw[←hs];exact hlt) (by rw[zft hlt];exact h)
 ·refine⟨?_,fun q' hq=>by rw[zcD] at hq;cases hq⟩
  rw[zb1,if_neg (by rw[←hs];exact hlt),zl7 hlt]
  intro b hb;cases hb
theorem zbm {v:Value}{x:SV} (h:RepS p w v x) (w':World) (n:Nat):zax w' v n=v.cells[n]?:=by
 cases x with
 | cell c=>cases h <;> rfl
 | agg cs=>obtain⟨b,rfl,_⟩:=h;rfl
theorem zh3 {x:AV} (hx:∀cs,x≠.box cs) {R:Prop}:∀d cs,o.dst=some d→(s.put o.dst x).get d=.box cs→R:=by
 intro d cs hd h;rw[hd,zb1] at h;split at h
 ·exact absurd h (hx cs)
 ·cases h
theorem zdc {x:AV} (hx:x≠.und) {R:Prop}:∀d,o.dst=some d→d<(s.put o.dst x).σ.length→(s.put o.dst x).get d≠.und∨R:=by
 intro d hd hlt;rw[hd] at hlt ⊢;refine .inl ?_
 rw[zb1,if_pos (by simpa [VS.put] using hlt)]
 exact hx
theorem zbE (hz:Zp p w) (hs:a.tmps.size=s.σ.length) {x:AV}{v:Value} (h:SR p w v x) (hf:zaI L S o=[]) (hm:∀e∈zaL L q o,∀u,zax w (a.tmps.getD e.2.1 undef) e.2.2=some u→zax w v e.1=some u) (hx:∀cs,x≠.box cs:=by intro _ h;cases h) (hu:x≠.und:=by intro h;cases h) :
  zhx L S q o a p w (s.put o.dst x) v p w :=
 ⟨.refl _ _ _,hz,zbO hs h,zh3 hx,zdc hu,by rw[hf];simp,by rw[hf];simp,hm⟩
end
end
section
open Go Go.RowKit
section
variable {P:Program}{L:Lay}{S:Sig}{call:Orc}{p:Stb}{w:World}{a:Act}{s s':VS}{q:SPe}{o:Oper}
def zcB (P:Program) (L:Lay) (S:Sig) (q:SPe) (o:Oper) (a:Act) (p:Stb) (w:World) (s':VS):Prop:=Does P o a w fun v w'=>∃p',zhx L S q o a p w s' v p' w'
theorem zvP (v:Value) (hv:v=.slice none 0 0) (hz:Zp p w) (hs:a.tmps.size=s.σ.length) {x:AV} (h:SR p w v x) {k:Nat} (hf:zaI L S o=[(0,k)]) (hm:zaL L q o=[]) (hx:∀cs,x≠.box cs:=by intro _ h;cases h) (hu:x≠.und:=by intro h;cases h):zhx L S q o a p w (s.put o.dst x) v p w:=by
 subst hv;refine⟨.refl _ _ _,hz,zbO hs h,zh3 hx,zdc hu,?_,?_,by rw[hm];simp⟩
 ·rw[hf]
  intro e he;simp at he
  subst he;exact⟨_,rfl,.inl rfl,fun b hb=>by cases hb⟩
 ·rw[hf]
  intro e e' u u' b he he' hne;simp at he he'
  subst he he';exact absurd rfl hne
theorem zve {x:Operand} (hop:o.op=.move x∨o.op=.assign x) (hs:(zl0 L s o.type x).map (fun v=>s.put o.dst v)=some s') (hsee:zcK p w a.tmps s x) (hsz:a.tmps.size=s.σ.length) (hz:Zp p w):zcB P L S q o a p w s':=by
 simp only[zzOm] at hs;obtain⟨v,hv,rfl⟩:=hs;have hr:=zw8 hv hsee
 obtain⟨_,hkb,hku⟩:=znx hv;refine zaN (v:=a.eval x) (w':=w) (by rcases hop with hop|hop <;> simp[execOp,hop]) ⟨p,?_⟩
 cases x with
 | tmp t =>
  refine zbE hz hsz hr (by rcases hop with hop|hop <;> simp[zaI,hop]) ?_ hkb hku
  have:∀e∈zaL L q o,e.2=(t,e.1):=by
   rcases hop with hop|hop <;> simp only[zaL,hop] <;> split <;> simp
  intro e he u hu;rw[this e he] at hu;exact hu
 | const c =>
  have hmv:zaL L q o=[]:=by rcases hop with hop|hop <;> simp[zaL,hop]
  by_cases hc:c=.slice none 0 0
  ·subst hc
   cases he:L.el o.type with
   | none=>exact zbE hz hsz hr (by rcases hop with hop|hop <;> simp[zaI,hop,he]) (by rw[hmv];simp) hkb hku
   | some i=>exact zvP _ rfl hz hsz hr (k:=i.size) (by rcases hop with hop|hop <;> simp[zaI,hop,he]) hmv hkb hku
  ·refine zbE hz hsz hr ?_ (by rw[hmv];simp) hkb hku
   rcases hop with hop|hop <;> simp only[zaI,hop] <;> split <;> first|rfl|(rename_i h;simp_all)
 | global g=>cases hv
 | func f=>cases hv
theorem zyR {c x y:Operand} (hop:o.op=.pick c x y) (hs:((zfk L s c).bind fun t=>(if t then zhl L s o.type x else zhl L s o.type y).map fun v=>s.put o.dst (.v v))=some s')
  (h1:zcK p w a.tmps s c) (h2:zcK p w a.tmps s x) (h3:zcK p w a.tmps s y) (hsz:a.tmps.size=s.σ.length) (hz:Zp p w):zcB P L S q o a p w s':=by
 simp only[zzOb,zzOm] at hs;obtain⟨t,ht,v,hv,rfl⟩:=hs;have hb:=zhu ht h1
 have hf:zaI L S o=[]:=by simp[zaI,hop]
 have hm:zaL L q o=[]:=by simp[zaL,hop]
 cases t with
 | true=>exact zaN (v:=a.eval x) (w':=w) (by simp[execOp,hop,hb,asBool]) ⟨p,zbE hz hsz (zcV hv h2) hf (by rw[hm];simp)⟩
 | false=>exact zaN (v:=a.eval y) (w':=w) (by simp[execOp,hop,hb,asBool]) ⟨p,zbE hz hsz (zcV hv h3) hf (by rw[hm];simp)⟩
theorem zA8 {op:BinOp}{t u:Nat}{x y:Operand} (hop:o.op=.binOp op t x y u) (hs:((ze9 L s x).bind fun m=>(ze9 L s y).bind fun n=>(zuj op m n).map fun c=>s.put o.dst (.v (.cell c)))=some s')
  (h1:zcK p w a.tmps s x) (h2:zcK p w a.tmps s y) (hsz:a.tmps.size=s.σ.length) (hz:Zp p w):zcB P L S q o a p w s':=by
 simp only[zzOb,zzOm] at hs;obtain⟨m,hm,n,hn,c,hc,rfl⟩:=hs;have e1:=zdG hm h1
 have e2:=zdG hn h2
 have hf:zaI L S o=[]:=by simp[zaI,hop]
 have hmv:zaL L q o=[]:=by simp[zaL,hop]
 have key:∀v:Value,Rep p w v c→(execOp a.eval o).run P w=.ok (.value v) w→zcB P L S q o a p w (s.put o.dst (.v (.cell c))):=fun v hv hr =>
  zaN hr ⟨p,zbE hz hsz (x:=.v (.cell c)) hv hf (by rw[hmv];simp)⟩
 unfold zuj at hc;split at hc <;> (try split at hc) <;> cases hc
 ·exact key _ (.int _) (by simp[execOp,hop,e1,e2,binOp,Op.intArith,zaf,eqGuard_at_int])
 ·exact key _ (.int _) (by simp[execOp,hop,e1,e2,binOp,Op.intArith,zaf,eqGuard_at_int])
 ·exact key _ (.int _) (by simp[execOp,hop,e1,e2,binOp,Op.intArith,zaf,eqGuard_at_int])
 ·exact key _ (.bool _) (by simp[execOp,hop,e1,e2,binOp,Op.intCmp,eqGuard_at_int])
 ·exact key _ (.bool _) (by simp[execOp,hop,e1,e2,binOp,Op.intCmp,eqGuard_at_int])
 ·exact key _ (.bool _) (by simp[execOp,hop,e1,e2,binOp,Op.intCmp,eqGuard_at_int])
 ·exact key _ (.bool _) (by simp[execOp,hop,e1,e2,binOp,Op.intCmp,eqGuard_at_int])
 ·exact key _ (.bool _) (by simp[execOp,hop,e1,e2,binOp,Op.intCmp,eqGuard_at_int])
 ·exact key _ (.bool _) (by simp[execOp,hop,e1,e2,binOp,Op.intCmp,eqGuard_at_int])
 ·rename_i h0
  exact key _ (.int _) (by simp[execOp,hop,e1,e2,binOp,Op.intDiv,zaf,eqGuard_at_int,h0])
 ·rename_i h0
  exact key _ (.int _) (by simp[execOp,hop,e1,e2,binOp,Op.intDiv,eqGuard_at_int,h0])
theorem run_equal_bool {t:TypeId} (h:P.underlying t=some .bool) (m n:Bool) (w:World):(Op.equal t (.bool m) (.bool n)).run P w=.ok (m==n) w:=run_equalIn_bool w 9999 t m n h
theorem zyQ (hL:LayOk P L) {op:BinOp}{t u:Nat}{x y:Operand} (hop:o.op=.binOp op t x y u) {m:Bool} (hm:zfk L s x=some m) (hs:((L.ti t).bind fun i=>if i.kind=1 then(zfk L s y).bind fun n=>(zAI op m n).map fun c=>s.put o.dst (.v (.cell c)) else none)=some s')
  (h1:zcK p w a.tmps s x) (h2:zcK p w a.tmps s y) (hsz:a.tmps.size=s.σ.length) (hz:Zp p w):zcB P L S q o a p w s':=by
 simp only[zzOb] at hs;obtain⟨i,hi,hs⟩:=hs;split at hs
 case isFalse=>cases hs
 rename_i hk1;simp only[zzOb,zzOm] at hs;obtain⟨n,hn,c,hc,rfl⟩:=hs;have hu:=(hL t i hi).bool hk1
 have e1:=zhu hm h1
 have e2:=zhu hn h2
 have hf:zaI L S o=[]:=by simp[zaI,hop]
 have hmv:zaL L q o=[]:=by simp[zaL,hop]
 have key:∀v:Value,Rep p w v c→(execOp a.eval o).run P w=.ok (.value v) w→zcB P L S q o a p w (s.put o.dst (.v (.cell c))):=fun v hv hr =>
  zaN hr ⟨p,zbE hz hsz (x:=.v (.cell c)) hv hf (by rw[hmv];simp)⟩
 unfold zAI at hc;split at hc <;> cases hc
 ·exact key _ (.bool _) (by simp[execOp,hop,e1,e2,binOp,Go.eqGuard,run_equal_bool hu])
 ·exact key _ (.bool _) (by simp[execOp,hop,e1,e2,binOp,Go.eqGuard,run_equal_bool hu];cases m <;> cases n <;> rfl)
theorem zA9 {t:Nat}{x:Operand} (hop:o.op=.unOp .not t x) (hs:((zfk L s x).map fun b=>s.put o.dst (.v (.cell (.bool (!b)))))=some s')
  (h1:zcK p w a.tmps s x) (hsz:a.tmps.size=s.σ.length) (hz:Zp p w):zcB P L S q o a p w s':=by
 simp only[zzOm] at hs;obtain⟨b,hb,rfl⟩:=hs;have e1:=zhu hb h1
 exact zaN (v:=.bool (!b)) (w':=w) (by simp[execOp,hop,e1,Op.unary]) ⟨p,zbE hz hsz (x:=.v (.cell (.bool (!b)))) (.bool _) (by simp[zaI,hop]) (by simp[zaL,hop])⟩
theorem zyh (hL:LayOk P L) {t:Nat}{x:Operand} (hop:o.op=.load t x) (hs:((L.ti t).bind fun i=>(zgU s x).bind fun r=>match r with
   | .ref cs=>if i.size≤cs.length then(mkV i (cs.take i.size)).map fun v=>s.put o.dst (.v v) else none
   | .box d off=>match s.get d with
    | .box cs=>if off+i.size≤cs.length then(mkV i ((cs.drop off).take i.size)).map fun v=>s.put o.dst (.v v) else none
    | _=>none
   | .el _ _ _ _=>none)=some s')
  (h1:zcK p w a.tmps s x) (hsz:a.tmps.size=s.σ.length) (hz:Zp p w) (hq:zbR q s):zcB P L S q o a p w s':=by
 simp only[zzOb] at hs;obtain⟨i,hi,r,hr,hs⟩:=hs;have hT:=hL t i hi
 have hp:=zj8 hr h1
 have hf:zaI L S o=[]:=by simp[zaI,hop]
 cases r with
 | el _ _ _ _=>cases hs
 | ref cs =>
  simp only at hs;split at hs
  ·rename_i hlen
   simp only[zzOm] at hs;obtain⟨v,hv,rfl⟩:=hs;obtain⟨u,hu,hru⟩:=zsi (P:=P) hT hp hlen hv;refine zaN (v:=u) (w':=w) (by simp[execOp,hop,hu]) ⟨p,zbE hz hsz (x:=.v v) hru hf ?_⟩
   have:zlQ q x=none:=by
    unfold zgU at hr;split at hr
    ·rename_i j
     unfold zlQ;split at hr
     ·rename_i r' hr'
      cases hr;cases hqj:q.lookup j with
      | none=>rw[hq.1 j hqj] at hr';cases hr'
      | some z =>
       cases z with
       | none=>simp[hqj]
       | some df=>rw[hq.2 j df.1 df.2 hqj] at hr';cases hr'
     ·split at hr <;> cases hr
    ·cases hr
   have hmv:zaL L q o=[]:=by simp[zaL,hop,this]
   rw[hmv];simp
  ·cases hs
 | box d off =>
  simp only at hs;have hsl:=zxr hr h1
  obtain⟨b,hd,hx⟩:=hp;split at hs
  ·rename_i cs hcs
   split at hs
   ·rename_i hlen
    simp only[zzOm] at hs;obtain⟨v,hv,rfl⟩:=hs;have hsr:=hsl.1
    rw[hcs] at hsr;obtain⟨b',arr,T,e,hb,hrl⟩:=hsr;rw[hd] at e;cases e;obtain⟨u,hu,hru,hcells⟩:=zmr (P:=P) hT hb hrl hlen hv;refine zaN (v:=u) (w':=w) (by simp[execOp,hop,hx,hu]) ⟨p,zbE hz hsz (x:=.v v) hru hf ?_⟩
    intro e he y hy;have hmem:∃n,n<i.size∧e=(n,(d,off+n))∨False:=by
     have hps:zlQ q x=some (d,off)∨zlQ q x=none:=by
      unfold zgU at hr;split at hr
      ·rename_i j
       unfold zlQ;split at hr
       ·rename_i r' hr'
        cases hr;cases hqj:q.lookup j with
        | none=>rw[hq.1 j hqj] at hr';cases hr'
        | some z =>
         cases z with
         | none=>exact .inr (by simp[hqj])
         | some df=>rw[hq.2 j df.1 df.2 hqj] at hr';cases hr';exact .inl (by simp[hqj])
       ·rename_i hnone
        split at hr
        ·cases hr
         cases hqj:q.lookup d with
         | none=>exact .inl (by simp[hqj])
         | some z =>
          cases z with
          | none=>exact .inr (by simp[hqj])
          | some df=>rw[hq.2 d df.1 df.2 hqj] at hnone;cases hnone
        ·cases hr
      ·cases hr
     rcases hps with hps|hps
     ·simp only[zaL,hop,hi,hps,List.mem_map,List.mem_range] at he
      obtain⟨n,hn,rfl⟩:=he;exact⟨n,.inl ⟨hn,rfl⟩⟩
     ·simp[zaL,hop,hi,hps] at he
    obtain⟨n,⟨hn,rfl⟩|hF⟩:=hmem
    ·simp only at hy ⊢
     rw[hd] at hy;have hy':w.cell? ⟨b,off+n,none⟩=some y:=hy
     rw[zaV hb] at hy';rw[zbm hru];have:u.cells.toList[n]?=some y:=by
      rw[hcells,List.getElem?_take,if_pos hn,List.getElem?_drop]
      simpa using hy'
     simpa using this
    ·exact hF.elim
   ·cases hs
  ·cases hs
theorem zjo (hsz:a.tmps.size=s.σ.length) {d:Nat} (hd:d<s.σ.length) {r:Ptr}{v:Value} (hr:zvd p w (a.put (some d) v).tmps v r) :
  zcM p w (a.put (some d) v).tmps {(s.put (some d) .und) with pe:=(d,r)::(s.put (some d) .und).pe} d:=by
 constructor
 ·have:VS.get {(s.put (some d) .und) with pe:=(d,r)::(s.put (some d) .und).pe} d=(s.put (some d) .und).get d:=rfl
  rw[this,zb1,if_pos hd,zft (by omega)]
  intro b hb;subst hb;cases r with
  | ref cs=>obtain⟨_,_,e,_⟩:=hr;cases e
  | box d' off=>obtain⟨_,_,e⟩:=hr;cases e
  | el d' k n j=>obtain⟨_,_,_,_,_,e⟩:=hr;cases e
 ·intro r' hr'
  simp[List.lookup] at hr'
  subst hr';rw[zft (by omega)]
  exact hr
theorem zuo {d:Nat} (hd:o.dst=some d) (r:Ptr) {R:Prop}:∀d' cs,o.dst=some d'→VS.get {(s.put (some d) .und) with pe:=(d,r)::(s.put (some d) .und).pe} d'=.box cs→R:=by
 intro d' cs hd' h;rw[hd] at hd';cases hd';have:(s.put (some d) .und).get d=.box cs:=h
 rw[zb1] at this;split at this <;> cases this
theorem zrN (hL:LayOk P L) {t f:Nat}{x:Operand} (hop:o.op=.fieldAddr t x f) (hs:((L.ti t).bind fun i=>(zgU s x).bind fun r=>(i.fields[f]?).bind fun f =>
   match o.dst with
   | some d=>if d<s.σ.length∧r.at d=false∧i.kind=3∧r.fits f.1=true then
     let s':=s.put (some d) .und
     some {s' with pe:=(d,match r with|.box b off=>.box b (off+f.1)|.ref cs=>.ref (cs.drop f.1)|r=>r)::s'.pe}
    else none
   | none=>none)=some s')
  (h1:zcK p w a.tmps s x) (hsz:a.tmps.size=s.σ.length) (hz:Zp p w):zcB P L S q o a p w s':=by
 simp only[zzOb] at hs;obtain⟨i,hi,r,hr,⟨off,n⟩,hf,hs⟩:=hs;have hT:=hL t i hi
 have hp:=zj8 hr h1
 split at hs
 ·rename_i d hd
  split at hs
  ·rename_i hc
   cases hs;have hfr:zaI L S o=[]:=by simp[zaI,hop]
   have hmv:zaL L q o=[]:=by simp[zaL,hop]
   have fin:∀(v:Value),(execOp a.eval o).run P w=.ok (.value v) w→zvd p w (a.put (some d) v).tmps v (match r with|.box b off'=>.box b (off'+off)|.ref cs=>.ref (cs.drop off)|r=>r)→zcB P L S q o a p w {(s.put (some d) .und) with pe:=(d,match r with|.box b off'=>.box b (off'+off)|.ref cs=>.ref (cs.drop off)|r=>r)::(s.put (some d) .und).pe}:=by
    intro v hv hpv;refine zaN hv ⟨p,.refl _ _ _,hz,fun d' hd'=>?_,zuo hd _,(fun _ _ _=>.inr ⟨hfr,hmv⟩),by rw[hfr];simp,by rw[hfr];simp,by rw[hmv];simp⟩
    rw[hd] at hd' ⊢;cases hd';exact zjo hsz hc.1 hpv
   cases r with
   | el _ _ _ _=>simp[Ptr.fits] at hc
   | ref cs =>
    obtain⟨b,o',e,hb,hpp,hcc⟩:=hp;have hrun:=znV (w:=w) hT (b:=b) (o:=o') hf hc.2.2.1
    refine fin (.pointer (some ⟨b,o'+off,none⟩)) (by simp[execOp,hop,e,hrun]) ?_
    exact PRef.drop (p:=p) (w:=w) ⟨b,o',rfl,hb,hpp,hcc⟩ off (by have:=hc.2.2.2;simpa [Ptr.fits] using this)
   | box bd off' =>
    obtain⟨b,e1,e2⟩:=hp;have hrun:=znV (w:=w) hT (b:=b) (o:=off') hf hc.2.2.1
    refine fin (.pointer (some ⟨b,off'+off,none⟩)) (by simp[execOp,hop,e2,hrun]) ⟨b,?_,rfl⟩
    have hne:bd≠d:=by
     have:=hc.2.1
     simp[Ptr.at] at this
     exact this
    rw[←e1];simp[Act.put,Ne.symm hne]
  ·cases hs
 ·cases hs
theorem zrP (hL:LayOk P L) {t:Nat}{x ix:Operand} (hop:o.op=.indexAddr t x ix) (hs:((L.el t).bind fun e=>(zhL L s t x).bind fun(k,r)=>(ze9 L s ix).bind fun n =>
   if 0≤n∧n<r.length∧k=e.size then
    match o.dst with
    | some d=>if d<s.σ.length then
      let s':=s.put (some d) .und
      some {s' with pe:=(d,.ref (r.getD n.toNat []))::s'.pe}
     else none
    | none=>none
   else none)=some s')
  (h1:zcK p w a.tmps s x) (h2:zcK p w a.tmps s ix) (hsz:a.tmps.size=s.σ.length) (hz:Zp p w):zcB P L S q o a p w s':=by
 simp only[zzOb] at hs;obtain⟨e,he,⟨k,r⟩,hr,n,hn,hs⟩:=hs;obtain⟨u,hu,hT⟩:=hL.el he;have hrep:=zht hr h1
 have hin:=zdG hn h2
 simp only at hs;split at hs
 ·rename_i hc
  obtain⟨c1,c2,rfl⟩:=hc;split at hs
  ·rename_i d hd
   split at hs
   ·rename_i hlt
    cases hs;have hfr:zaI L S o=[]:=by simp[zaI,hop]
    have hmv:zaL L q o=[]:=by simp[zaL,hop]
    obtain⟨v,hv,hpv⟩:=zte (P:=P) hu hT hrep c1 c2;refine zaN (v:=v) (w':=w) (by simp[execOp,hop,hin,hv]) ⟨p,.refl _ _ _,hz,fun d' hd'=>?_,zuo hd _,(fun _ _ _=>.inr ⟨hfr,hmv⟩),by rw[hfr];simp,by rw[hfr];simp,by rw[hmv];simp⟩
    rw[hd] at hd' ⊢;cases hd';exact zjo hsz hlt hpv
   ·cases hs
  ·cases hs
 ·cases hs
theorem zwt (hL:LayOk P L) {t:Nat}{x:Operand}{lo hi:Option Operand} (hop:o.op=.slice t x lo hi none) (hs:((L.el t).bind fun e=>(zhL L s t x).bind fun(k,r) =>
   (match lo with|none=>some 0|some l=>ze9 L s l).bind fun l=>(match hi with|none=>some (r.length:Int)|some h=>ze9 L s h).bind fun h =>
    if 0≤l∧l≤h∧h≤r.length∧k=e.size then some (s.put o.dst (.v (.cell (.sl k ((r.drop l.toNat).take (h.toNat-l.toNat)))))) else none)=some s')
  (h1:zcK p w a.tmps s x) (h2:∀y,lo=some y→zcK p w a.tmps s y) (h3:∀y,hi=some y→zcK p w a.tmps s y) (hsz:a.tmps.size=s.σ.length) (hz:Zp p w):zcB P L S q o a p w s':=by
 simp only[zzOb] at hs;obtain⟨e,he,⟨k,r⟩,hr,l,hl,h,hh,hs⟩:=hs;obtain⟨u,hu,hT⟩:=hL.el he;have hrep:=zht hr h1
 simp only at hs;split at hs
 ·rename_i hc
  obtain⟨c1,c2,c3,rfl⟩:=hc;cases hs;have hfr:zaI L S o=[]:=by simp[zaI,hop]
  have hmv:zaL L q o=[]:=by simp[zaL,hop]
  obtain⟨v,hv,hrv⟩:=zsS (P:=P) hu hT hrep (lo:=lo.map a.eval) (hi:=hi.map a.eval) (l:=l) (h:=h)
   (by cases lo with
     | none=>cases hl;exact .inl ⟨rfl,rfl⟩
     | some y=>exact .inr (by simp[zdG hl (h2 y rfl)]))
   (by cases hi with
     | none=>cases hh;exact .inl ⟨rfl,rfl⟩
     | some y=>exact .inr (by simp[zdG hh (h3 y rfl)])) c1 c2 c3
  exact zaN (v:=v) (w':=w) (by simp[execOp,hop,hv]) ⟨p,zbE hz hsz (x:=.v (.cell _)) hrv hfr (by rw[hmv];simp)⟩
 ·cases hs
theorem zt4 (hop:∃x j,o.op=.extract (.tmp x) j∧(match s.get x with|.tup vs=>(vs[j]?).map fun v=>s.put o.dst (.v v)|_=>none)=some s'∧zcK p w a.tmps s (.tmp x)) (hsz:a.tmps.size=s.σ.length) (hz:Zp p w):zcB P L S q o a p w s':=by
 obtain⟨x,j,hop,hs,hsee⟩:=hop;split at hs
 ·rename_i vs hvs
  simp only[zzOm] at hs;obtain⟨v,hv,rfl⟩:=hs;have hsr:=(hsee x (zfU s x)).1
  rw[hvs] at hsr;obtain⟨arr,e,hreps⟩:=hsr;obtain⟨u,hu,hru⟩:=hreps.get hv;simp only[Array.getElem?_toList] at hu;refine zaN (v:=u) (w':=w) (by
   have:a.eval (.tmp x)=.tuple arr:=e
   simp[execOp,hop,this,Instr.extract,hu]) ⟨p,zbE hz hsz (x:=.v v) hru (by simp[zaI,hop]) ?_⟩
  intro m hm y hy;simp only[zaL,hop] at hm;split at hm
  ·split at hm
   ·rename_i i hi hle
    simp only[List.mem_map,List.mem_range] at hm;obtain⟨n,hn,rfl⟩:=hm;simp only at hy ⊢;rw[e] at hy;simp only[zax,show(j*64+n) / 64=j by omega,show(j*64+n) % 64=n by omega,hu,Option.bind_some] at hy
    rw[zbm hru];exact hy
   ·cases hm
  ·cases hm
 ·cases hs
theorem zA0 {x y:Operand}{ats:Array TypeId} (hop:o.op=.call {callee:=.builtin .max,args:=#[x,y],argTypes:=ats}) (hs:((ze9 L s x).bind fun m=>(ze9 L s y).map fun n=>s.put o.dst (.v (.cell (.int (zrE m n)))))=some s')
  (h1:zcK p w a.tmps s x) (h2:zcK p w a.tmps s y) (hsz:a.tmps.size=s.σ.length) (hz:Zp p w):zcB P L S q o a p w s':=by
 simp only[zzOb,zzOm] at hs;obtain⟨m,hm,n,hn,rfl⟩:=hs;have e1:=zdG hm h1
 have e2:=zdG hn h2
 refine zaN (v:=.int .i64 (zrE m n)) (w':=w) ?_ ⟨p,zbE hz hsz (x:=.v (.cell (.int (zrE m n)))) (.int _) (by simp[zaI,hop]) (by simp[zaL,hop])⟩
 simp[execOp,hop,resolve,invoke,builtin,Builtin.max_,Builtin.max2,e1,e2,zrE]
theorem zA7 (hL:LayOk P L) {x:Operand}{t:Nat}{ats:Array TypeId} (hop:o.op=.call {callee:=.builtin .len,args:=#[x],argTypes:=ats}) (ht:ats.getD 0 0=t) (hats:ats.size=1)
  (hs:((L.el t).bind fun _=>(zhL L s t x).map fun(_,r)=>s.put o.dst (.v (.cell (.int r.length))))=some s') (h1:zcK p w a.tmps s x) (hsz:a.tmps.size=s.σ.length) (hz:Zp p w):zcB P L S q o a p w s':=by
 simp only[zzOb,zzOm] at hs;obtain⟨e,he,⟨k,r⟩,hr,rfl⟩:=hs;obtain⟨u,hu,hT⟩:=hL.el he;have hrep:=zht hr h1
 have h0:ats[0]?=some t:=by
  rw[←ht];simp[Array.getD,hats]
 have:∃ad cap,a.eval x=.slice ad r.length cap:=by
  rcases hrep.row with ⟨⟨ad,e⟩,rfl⟩|⟨b,o,cap,us,e,_⟩
  ·exact⟨ad,0,e⟩
  ·exact⟨_,cap,e⟩
 obtain⟨ad,cap,hev⟩:=this;refine zaN (v:=.int .i64 r.length) (w':=w) ?_ ⟨p,zbE hz hsz (x:=.v (.cell (.int r.length))) (.int _) (by simp[zaI,hop]) (by simp[zaL,hop])⟩
 simp[execOp,hop,resolve,invoke,builtin,Builtin.len_,h0,run_underlying hu,hev,goInt]
theorem zgq {e0:Nat×Nat}{v:Value}{s':VS}{p':Stb}{w':World} (hev:Evo (zlm L S o a) p w p' w') (hz':Zp p' w') (hsl:∀d,o.dst=some d→zcM p' w' (a.put o.dst v).tmps s' d)
  (hbx:∀d cs,o.dst=some d→s'.get d=.box cs→v=.pointer (some ⟨w.heap.size,0,none⟩)∧p' w.heap.size=0∧∀e∈zaI L S o,zax w' v e.1=some (.slice none 0 0)) (hki:∀d,o.dst=some d→d<s'.σ.length→s'.get d≠.und∨(zaI L S o=[]∧zaL L q o=[])) (hf:zaI L S o=[e0]) (hm:zaL L q o=[]) {u:Value} (hc:zax w' v e0.1=some u) (hr:Rt p' w' u e0.2) (hb:∀b,zar u=some b→w.heap.size≤b∨zlm L S o a b):zhx L S q o a p w s' v p' w':=by
 refine⟨hev,hz',hsl,hbx,hki,?_,?_,by rw[hm];simp⟩
 ·rw[hf]
  intro e he;simp at he
  subst he;exact⟨u,hc,hr,hb⟩
 ·rw[hf]
  intro e e' u u' b he he' hne;simp at he he'
  subst he he';exact absurd rfl hne
theorem zvD (hL:LayOk P L) {x y:Operand}{t:Nat} (hop:o.op=.call {callee:=.builtin .append,args:=#[x,y],argTypes:=#[t,t]})
  (hs:((L.el t).bind fun e=>(zhL L s t x).bind fun(k,r)=>(zhL L s t y).bind fun(k',r')=>if k=e.size∧k'=e.size∧0<e.size∧(r++r').length≤zgY then some (s.put o.dst (.v (.cell (.sl k (r++r'))))) else none)=some s')
  (h1:zcK p w a.tmps s x) (h2:zcK p w a.tmps s y) (hsz:a.tmps.size=s.σ.length) (hz:Zp p w) (hr:∀x∈zbQ L S o,Rt p w (a.eval x.1) x.2):zcB P L S q o a p w s':=by
 simp only[zzOb] at hs;obtain⟨e,he,⟨k,r⟩,hrx,⟨k',r'⟩,hry,hs⟩:=hs;simp only at hs;split at hs
 ·rename_i hc
  obtain⟨rfl,rfl,hpos,hlim⟩:=hc;cases hs;obtain⟨u,hu,hT⟩:=hL.el he;have heats:zbQ L S o=[(x,e.size)]:=by simp[zbQ,hop,he]
  have hrt:=hr (x,e.size) (by rw[heats];simp)
  obtain⟨v,w',p',hrun,hrep,hrt',hev,hz',hblk⟩:=zd7 hu hT hpos (zht hrx h1) (zht hry h2) hrt hz hlim o.type;have heat:∀b,zlm L S o a b↔zar (a.eval x)=some b:=fun b=>by simp[zlm,heats]
  refine zaN (v:=v) (w':=w') (by simp[execOp,hop,resolve,invoke,builtin,hrun]) ⟨p',?_⟩
  refine zgq (e0:=(0,e.size)) (hev.weaken fun b _ hb=>(heat b).2 hb) hz' (zbO hsz (x:=.v (.cell _)) hrep) (zh3 (by intro _ h;cases h)) (zdc (by intro h;cases h)) (by simp[zaI,hop,he]) (by simp[zaL,hop]) (u:=v) ?_ hrt' (fun b hb=>?_)
  ·rw[zbm (x:=.cell _) hrep,hrep.cells];rfl
  ·rcases hblk b hb with h|h
   ·exact .inr ((heat b).2 h)
   ·exact .inl (by omega)
 ·cases hs
end
end
end Go.Proofs.Ytcpcagdialnbeaa
