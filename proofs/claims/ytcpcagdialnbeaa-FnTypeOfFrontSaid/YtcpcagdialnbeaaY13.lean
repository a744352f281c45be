/- Generic texts and models for the proofs of this seat: part 13. -/
import Derived.Test.YtcpcagdialnbeaaY12
set_option linter.unusedVariables false
set_option linter.unusedSimpArgs false
namespace Go.Proofs.Ytcpcagdialnbeaa
section
open Go Go.RowKit
def zbe (ops:List Oper) (o:Oper):List Nat :=
 (o.op.operands.toList.filterMap fun|.tmp t=>some t|_=>none)++(match o.guard with|some g=>((ops[g.1]?).bind (·.dst)).toList|none=>[])
def zcx (o:Oper) (i:Nat):Bool:=o.after.toList.any fun e=>e.on==i&&Region.binds .any e
def zpu (ops:List Oper):Bool :=
 let ds:=ops.zipIdx.filterMap fun e=>e.1.dst.map fun d=>(d,e.2)
 ops.zipIdx.all fun e =>
  !zaA e.1&&e.1.dst.isSome &&
  ds.all (fun x=>x.2==e.2||!(e.1.dst==some x.1)) &&
  (zbe ops e.1).all (fun t=>ds.all fun x=>!(x.1==t)||(zcx e.1 x.2&&decide (x.2<e.2))) &&
  (match e.1.op with
  | .fieldAddr _ (.tmp t) _=>ds.all fun x=>!(x.1==t)||((ops[x.2]?).map zkv).getD false
  | _=>true)
structure znY (ops:List Oper):Prop where
 store:∀(j:Nat) (o:Oper),ops[j]?=some o→zaA o=false∧∃d,o.dst=some d
 once:∀(i j:Nat) (o o':Oper) (d:Nat),ops[i]?=some o→ops[j]?=some o'→o.dst=some d→o'.dst=some d→i=j
 looks:∀(i j:Nat) (o o':Oper) (t:Nat),ops[i]?=some o→ops[j]?=some o'→o.dst=some t→t∈zbe ops o'→zcx o' i=true∧i<j
 ptr:∀(i j:Nat) (o o':Oper) (t ty f:Nat),ops[i]?=some o→ops[j]?=some o'→o.dst=some t→o'.op=.fieldAddr ty (.tmp t) f→zkv o=true
theorem zc1 {α:Type}{l:List α}{i:Nat}{x:α} (h:l[i]?=some x):(x,i)∈l.zipIdx:=by
 rw[List.mem_zipIdx_iff_getElem?];exact h
theorem zmW {ops:List Oper} (h:zpu ops=true):znY ops:=by
 unfold zpu at h;simp only[List.all_eq_true,Bool.and_eq_true,Bool.or_eq_true,Bool.not_eq_true',beq_eq_false_iff_ne,decide_eq_true_eq,beq_iff_eq] at h;have hds:∀(i:Nat) (o:Oper) (d:Nat),ops[i]?=some o→o.dst=some d→(d,i)∈ops.zipIdx.filterMap fun e=>e.1.dst.map fun d=>(d,e.2):=fun i o d hi hd=>by
  rw[List.mem_filterMap];exact⟨(o,i),zc1 hi,by simp[hd]⟩
 refine⟨fun j o hj=>?_,fun i j o o' d hi hj hd hd'=>?_,fun i j o o' t hi hj hd ht=>?_,fun i j o o' t ty f hi hj hd hop=>?_⟩
 ·obtain⟨⟨⟨⟨h1,h2⟩,_⟩,_⟩,_⟩:=h _ (zc1 hj)
  exact⟨h1,Option.isSome_iff_exists.1 h2⟩
 ·obtain⟨⟨⟨_,h4⟩,_⟩,_⟩:=h _ (zc1 hj)
  rcases h4 _ (hds i o d hi hd) with h|h
  ·exact h
  ·exact absurd hd' h
 ·obtain⟨⟨_,h5⟩,_⟩:=h _ (zc1 hj)
  rcases h5 t ht _ (hds i o t hi hd) with h|h
  ·exact absurd rfl h
  ·exact h
 ·obtain⟨_,h6⟩:=h _ (zc1 hj)
  rw[hop] at h6;simp only[List.all_eq_true,Bool.or_eq_true,Bool.not_eq_true',beq_eq_false_iff_ne] at h6;rcases h6 _ (hds i o t hi hd) with h|h
  ·exact absurd rfl h
  ·simpa [hi] using h
section
variable {P:Program}{L:Lay}{S:Sig}{call:Orc}{all:List Oper}{tr:List Rec}{s0 sm:VS}{t0 tm:Stt}{b0:Nat}{Own:Nat→Prop}
theorem zfq {ops:List Oper} (hops:tr.map (·.o)=ops) {j:Nat}{r:Rec} (h:tr[j]?=some r):ops[j]?=some r.o:=by
 rw[←hops,List.getElem?_map,h];rfl
theorem zu1 {o:Oper}{s s':VS} (hs:zaK L call o s=some s') (hst:zaA o=false) {t b off:Nat} (h:s'.pe.lookup t=some (.box b off)) (hn:NoTwice s.pe) :
  s.pe.lookup t=some (.box b off)∨∃ty x f off',o.op=.fieldAddr ty x f∧zgU s x=some (.box b off'):=by
 by_cases hd:o.dst=some t
 ·right
  unfold zaK at hs;have plain:∀x,s'=s.put o.dst x→False:=fun x e=>by
   rw[e,hd,zcD] at h;cases h
  split at hs <;> try simp only[zzOb,zzOm] at hs
  ·obtain⟨v,_,rfl⟩:=hs;exact(plain _ rfl).elim
  ·obtain⟨v,_,rfl⟩:=hs;exact(plain _ rfl).elim
  ·obtain⟨_,_,v,_,rfl⟩:=hs;exact(plain _ rfl).elim
  ·obtain⟨_,_,rfl⟩:=hs;exact(plain _ rfl).elim
  ·obtain⟨_,_,_,_,hs⟩:=hs;split at hs <;> cases hs;exact(plain _ rfl).elim
  ·obtain⟨_,_,hs⟩:=hs;split at hs
   ·simp only[zzOm] at hs;obtain⟨_,_,rfl⟩:=hs;exact(plain _ rfl).elim
   ·cases hs
  ·obtain⟨_,_,_,_,hs⟩:=hs;split at hs <;> cases hs;exact(plain _ rfl).elim
  ·obtain⟨_,_,_,_,hs⟩:=hs
   split at hs
   ·split at hs
    ·simp only[zzOm] at hs;obtain⟨_,_,rfl⟩:=hs;exact(plain _ rfl).elim
    ·cases hs
   ·split at hs
    ·split at hs
     ·simp only[zzOm] at hs;obtain⟨_,_,rfl⟩:=hs;exact(plain _ rfl).elim
     ·cases hs
    ·cases hs
   ·cases hs
  ·rename_i hop;simp[zaA,hop] at hst
  ·split at hs
   ·simp only[zzOb] at hs
    obtain⟨_,_,hs⟩:=hs;split at hs
    ·simp only[zzOb,zzOm] at hs
     obtain⟨_,_,_,_,rfl⟩:=hs;exact(plain _ rfl).elim
    ·cases hs
   ·simp only[zzOb,zzOm] at hs
    obtain⟨_,_,_,_,_,_,rfl⟩:=hs;exact(plain _ rfl).elim
  ·obtain⟨_,_,rfl⟩:=hs;exact(plain _ rfl).elim
  ·rename_i ty x f hop
   obtain⟨_,_,r,hr,e,_,hs⟩:=hs;rw[hd] at hs;simp only at hs;split at hs
   ·cases hs
    simp only[List.lookup,beq_self_eq_true] at h;cases r with
    | ref cs=>cases h
    | box b' off'=>cases h;exact⟨ty,x,f,off',hop,hr⟩
    | el _ _ _ _=>cases h
   ·cases hs
  ·obtain⟨_,_,_,_,_,_,hs⟩:=hs
   rw[hd] at hs;simp only at hs;split at hs
   ·split at hs
    ·cases hs
     simp only[List.lookup,beq_self_eq_true] at h;cases h
    ·cases hs
   ·cases hs
  ·obtain⟨_,_,_,_,_,_,_,_,hs⟩:=hs;split at hs <;> cases hs;exact(plain _ rfl).elim
  ·split at hs
   ·simp only[zzOm] at hs;obtain⟨_,_,rfl⟩:=hs;exact(plain _ rfl).elim
   ·cases hs
  ·obtain⟨_,_,_,_,_,_,hs⟩:=hs;split at hs <;> cases hs;exact(plain _ rfl).elim
  ·split at hs
   ·split at hs
    ·simp only[zzOb,zzOm] at hs;obtain⟨_,_,_,_,rfl⟩:=hs;exact(plain _ rfl).elim
    ·cases hs
   ·cases hs
  ·split at hs
   ·simp only[zzOb] at hs
    obtain⟨_,_,_,_,_,_,hs⟩:=hs;split at hs <;> cases hs;exact(plain _ rfl).elim
   ·cases hs
  ·split at hs
   ·simp only[zzOb,zzOm] at hs;obtain⟨_,_,_,_,rfl⟩:=hs;exact(plain _ rfl).elim
   ·cases hs
  ·obtain⟨_,_,_,_,rfl⟩:=hs;exact(plain _ rfl).elim
  ·cases hs
 ·left
  exact((zd4 hs hst hn).1.pe t _ hd h).1
theorem zxU {o:Oper}{s s':VS} (hs:zc8 L call all o s=some s') (hp:zkv o=true) {d:Nat} (hd:o.dst=some d):s'.get d=.und:=by
 have hput:∀r:Ptr,VS.get {(s.put (some d) .und) with pe:=(d,r)::(s.put (some d) .und).pe} d=.und:=fun r=>by
  show(s.put (some d) .und).get d=.und
  rw[zb1];split <;> rfl
 have hv:zaK L call o s=some s'→s'.get d=.und:=by
  intro hs;unfold zkv at hp;split at hp
  ·rename_i ty x f hop
   simp only[zaK,hop,zzOb] at hs;obtain⟨_,_,r,_,e,_,hs⟩:=hs;rw[hd] at hs;simp only at hs;split at hs
   ·cases hs;exact hput _
   ·cases hs
  ·rename_i ty x ix hop
   simp only[zaK,hop,zzOb] at hs;obtain⟨_,_,_,_,_,_,hs⟩:=hs;rw[hd] at hs;simp only at hs;split at hs
   ·split at hs
    ·cases hs;exact hput _
    ·cases hs
   ·cases hs
  ·cases hp
 unfold zc8 at hs;split at hs
 ·exact hv hs
 ·simp only[zzOb] at hs
  obtain⟨t,_,hs⟩:=hs;cases t with
  | true=>exact hv hs
  | false =>
   cases hs;rw[hd,zb1];split <;> rfl
theorem Tr.targets (h:Tr L S call all tr s0 t0 b0 sm tm) {ops:List Oper} (hops:tr.map (·.o)=ops) (hA:znY ops) (hpe:s0.pe=[]):∀(j:Nat),j≤tr.length→∀t b off,(atR tr sm tm j).1.pe.lookup t=some (.box b off) →
  ∀(i:Nat) (r:Rec),tr[i]?=some r→r.o.dst≠some b
 | 0,_,t,b,off,hl=>by
  rw[h.zero] at hl;simp only[hpe] at hl;cases hl
 | j+1,hle,t,b,off,hl=>by
  obtain⟨r,hr⟩:∃r,tr[j]?=some r:=⟨tr[j]'(by omega),List.getElem?_eq_getElem _⟩
  rw[h.step hr] at hl;simp only at hl;obtain⟨hok,hst⟩:=h.ok j r hr;have h1:atR tr sm tm j=(r.s,r.st):=by unfold atR;rw[hr]
  have ih:=Tr.targets h hops hA hpe j (by omega)
  rw[h1] at ih;simp only at ih;have hcase:r.s.pe.lookup t=some (.box b off)∨∃ty x f off',r.o.op=.fieldAddr ty x f∧zgU r.s x=some (.box b off'):=by
   rcases hok.run with hrun|⟨⟨z,hz⟩,_⟩
   case inr =>
    left
    rw[hz] at hl;by_cases hd:r.o.dst=some t
    ·rw[hd,zcD] at hl
     cases z <;> cases hl
    ·exact((zap hok.once _).1.pe t _ hd hl).1
   unfold zc8 at hrun;split at hrun
   ·exact zu1 hrun hst hl hok.once
   ·simp only[zzOb] at hrun
    obtain⟨u,_,hrun⟩:=hrun;cases u with
    | true=>exact zu1 hrun hst hl hok.once
    | false =>
     simp only[Bool.false_eq_true,if_false,Option.some.injEq] at hrun;rw[←hrun] at hl
     left
     by_cases hd:r.o.dst=some t
     ·rw[hd,zcD] at hl;cases hl
     ·exact((zap hok.once _).1.pe t _ hd hl).1
  rcases hcase with hc|⟨ty,x,f,off',hop,hp⟩
  ·exact ih t b off hc
  ·unfold zgU at hp
   split at hp
   case h_2=>cases hp
   rename_i y;split at hp
   ·rename_i q hq
    cases hp;exact ih y b off' hq
   ·split at hp
    case h_2=>cases hp
    rename_i cs hcs;cases hp;intro i r' hr' hd;have hptr:=hA.ptr i j r'.o r.o b ty f (zfq hops hr') (zfq hops hr) hd hop
    have hlt:=(hA.looks i j r'.o r.o b (zfq hops hr') (zfq hops hr) hd (by simp[zbe,hop,Op.operands])).2
    -- it was written by a pointer's operation: no box
    obtain⟨hok',hst'⟩:=h.ok i r' hr';have hund:r'.s'.get b=.und:=by
     rcases hok'.run with hrun|⟨_,hnp⟩
     ·exact zxU hrun hptr hd
     ·rw[hptr] at hnp;cases hnp
    have hk:=h.keeps (t:=b) (j-(i+1)) (i+1) (by omega) (fun x rx h1 h2 hrx hdx=>by
     have:=hA.once i x r'.o rx.o b (zfq hops hr') (zfq hops hrx) hd hdx
     omega)
    rw[show i+1+(j-(i+1))=j by omega,h1,h.step hr'] at hk
    have:=hk.1
    simp only at this;rw[this,hund] at hcs;cases hcs
def Vis (tr:List Rec) (D:Nat→Prop) (t:Nat):Prop:=∀(j:Nat) (r:Rec),tr[j]?=some r→r.o.dst=some t→D j
def Cre (L:Lay) (S:Sig) (tr:List Rec) (b0:Nat) (D:Nat→Prop) (id:Nat):Prop:=id<b0∨∃(j:Nat) (r:Rec),D j∧tr[j]?=some r∧∃k,(id,k)∈zbG L S r.base r.o
def Al (L:Lay) (S:Sig) (tr:List Rec) (t0:Stt) (D:Nat→Prop) (id k:Nat):Prop :=
 ((id,k)∈t0.alive∨∃(j:Nat) (r:Rec),D j∧tr[j]?=some r∧(id,k)∈zbG L S r.base r.o)∧∀(i:Nat) (r:Rec),D i→tr[i]?=some r→id ∉ zic L S r
structure InvD (L:Lay) (S:Sig) (tr:List Rec) (s0 sm:VS) (t0 tm:Stt) (b0:Nat) (D:Nat→Prop) (p:Stb) (w:World) (m:Array Value) (Own:Nat→Prop):Prop where
 size:m.size=sm.σ.length
 slots:∀t,Vis tr D t→zcM p w m sm t
 zp:Zp p w
 own:∀b,w.heap.size≤b→Own b
 box:∀d cs,Vis tr D d→sm.get d=.box cs→∃b,m.getD d undef=.pointer (some ⟨b,0,none⟩)∧p b=0∧Own b∧b<w.heap.size
 boxd:∀d d' cs cs' b,Vis tr D d→Vis tr D d'→d≠d'→sm.get d=.box cs→sm.get d'=.box cs'→m.getD d undef=.pointer (some ⟨b,0,none⟩)→m.getD d' undef≠.pointer (some ⟨b,0,none⟩)
 ate:∀(i:Nat) (r:Rec),D i→tr[i]?=some r→∀id∈zic L S r,Cre L S tr b0 D id
 rooms:∃val:Nat→Value,
  (∀q id,(q,id)∈tm.pid→Vis tr D q.1→zax w (m.getD q.1 undef) q.2=some (val id)∧sm.get q.1≠.und∧Cre L S tr b0 D id) ∧
  (∀id k,Al L S tr t0 D id k→Rt p w (val id) k) ∧
  (∀id k b,Al L S tr t0 D id k→zar (val id)=some b→Own b∧∀d cs,Vis tr D d→sm.get d=.box cs→m.getD d undef≠.pointer (some ⟨b,0,none⟩)) ∧
  (∀id k id' k' b,Al L S tr t0 D id k→Al L S tr t0 D id' k'→id≠id'→zar (val id)=some b→zar (val id')≠some b)
end
end
section
open Go Go.RowKit
section
variable {P:Program}{L:Lay}{S:Sig}{call:Orc}{p p':Stb}{w w':World}{a:Act}{s s':VS}{q:SPe}{o:Oper}{st st':Stt}{Own:Nat→Prop}{base:Nat}
theorem zvA (hs:zaK L call o s=some s') (hst:zaA o=false):(∃x,s'=s.put o.dst x)∨∃d r,o.dst=some d∧s'={(s.put (some d) .und) with pe:=(d,r)::(s.put (some d) .und).pe}:=by
 unfold zaK at hs;split at hs <;> try simp only[zzOb,zzOm] at hs
 ·obtain⟨v,_,rfl⟩:=hs;exact .inl ⟨_,rfl⟩
 ·obtain⟨v,_,rfl⟩:=hs;exact .inl ⟨_,rfl⟩
 ·obtain⟨_,_,v,_,rfl⟩:=hs;exact .inl ⟨_,rfl⟩
 ·obtain⟨_,_,rfl⟩:=hs;exact .inl ⟨_,rfl⟩
 ·obtain⟨_,_,_,_,hs⟩:=hs;split at hs <;> cases hs;exact .inl ⟨_,rfl⟩
 ·obtain⟨_,_,hs⟩:=hs;split at hs
  ·simp only[zzOm] at hs;obtain⟨_,_,rfl⟩:=hs;exact .inl ⟨_,rfl⟩
  ·cases hs
 ·obtain⟨_,_,_,_,hs⟩:=hs;split at hs <;> cases hs;exact .inl ⟨_,rfl⟩
 ·obtain⟨_,_,_,_,hs⟩:=hs
  split at hs
  ·split at hs
   ·simp only[zzOm] at hs;obtain⟨_,_,rfl⟩:=hs;exact .inl ⟨_,rfl⟩
   ·cases hs
  ·split at hs
   ·split at hs
    ·simp only[zzOm] at hs;obtain⟨_,_,rfl⟩:=hs;exact .inl ⟨_,rfl⟩
    ·cases hs
   ·cases hs
  ·cases hs
 ·rename_i hop;simp[zaA,hop] at hst
 ·split at hs
  ·simp only[zzOb] at hs
   obtain⟨_,_,hs⟩:=hs;split at hs
   ·simp only[zzOb,zzOm] at hs
    obtain⟨_,_,_,_,rfl⟩:=hs;exact .inl ⟨_,rfl⟩
   ·cases hs
  ·simp only[zzOb,zzOm] at hs
   obtain⟨_,_,_,_,_,_,rfl⟩:=hs;exact .inl ⟨_,rfl⟩
 ·obtain⟨_,_,rfl⟩:=hs;exact .inl ⟨_,rfl⟩
 ·obtain⟨_,_,r,_,e,_,hs⟩:=hs
  split at hs
  ·rename_i d hd
   split at hs
   ·cases hs;exact .inr ⟨d,_,hd,rfl⟩
   ·cases hs
  ·cases hs
 ·obtain⟨_,_,_,_,_,_,hs⟩:=hs
  split at hs
  ·split at hs
   ·rename_i d hd
    split at hs
    ·cases hs;exact .inr ⟨d,_,hd,rfl⟩
    ·cases hs
   ·cases hs
  ·cases hs
 ·obtain⟨_,_,_,_,_,_,_,_,hs⟩:=hs;split at hs <;> cases hs;exact .inl ⟨_,rfl⟩
 ·split at hs
  ·simp only[zzOm] at hs;obtain⟨_,_,rfl⟩:=hs;exact .inl ⟨_,rfl⟩
  ·cases hs
 ·obtain⟨_,_,_,_,_,_,hs⟩:=hs;split at hs <;> cases hs;exact .inl ⟨_,rfl⟩
 ·split at hs
  ·split at hs
   ·simp only[zzOb,zzOm] at hs;obtain⟨_,_,_,_,rfl⟩:=hs;exact .inl ⟨_,rfl⟩
   ·cases hs
  ·cases hs
 ·split at hs
  ·simp only[zzOb] at hs
   obtain⟨_,_,_,_,_,_,hs⟩:=hs;split at hs <;> cases hs;exact .inl ⟨_,rfl⟩
  ·cases hs
 ·split at hs
  ·simp only[zzOb,zzOm] at hs;obtain⟨_,_,_,_,rfl⟩:=hs;exact .inl ⟨_,rfl⟩
  ·cases hs
 ·obtain⟨_,_,_,_,rfl⟩:=hs;exact .inl ⟨_,rfl⟩
 ·cases hs
theorem zwB {all:List Oper} (hs:zc8 L call all o s=some s') (hst:zaA o=false) (hn:NoTwice s.pe) {t:Nat}{r:Ptr} (hl:s.pe.lookup t=some r) (hd:o.dst≠some t) (hr:∀d,o.dst=some d→r.at d=false):s'.pe.lookup t=some r:=by
 have hput:∀x,(s.put o.dst x).pe.lookup t=some r:=fun x=>by
  cases ho:o.dst with
  | none=>exact hl
  | some d =>
   have hne:t≠d:=fun e=>hd (by rw[ho,e])
   show(s.pe.filter _).lookup t=some r
   rw[zcy _ hn,hl];simp only;rw[if_pos];simp[hne,hr d ho]
 have hv:zaK L call o s=some s'→s'.pe.lookup t=some r:=fun hs=>by
  rcases zvA hs hst with ⟨x,rfl⟩|⟨d,r',ho,rfl⟩
  ·exact hput x
  ·have hne:t≠d:=fun e=>hd (by rw[ho,e])
   have:=hput .und
   rw[ho] at this;simp only[List.lookup,show(t==d)=false by simpa using hne]
   exact this
 unfold zc8 at hs;split at hs
 ·exact hv hs
 ·simp only[zzOb] at hs
  obtain⟨u,_,hs⟩:=hs;cases u with
  | true=>exact hv hs
  | false =>
   simp only[Bool.false_eq_true,if_false,Option.some.injEq] at hs;rw[←hs];exact hput _
theorem zxG {all:List Oper} (hs:zyi L call all o s s') (hst:zaA o=false) (hn:NoTwice s.pe) {t:Nat}{r:Ptr} (hl:s.pe.lookup t=some r) (hd:o.dst≠some t) (hr:∀d,o.dst=some d→r.at d=false):s'.pe.lookup t=some r:=by
 rcases hs with hs|⟨⟨x,rfl⟩,_⟩
 ·exact zwB hs hst hn hl hd hr
 ·cases ho:o.dst with
  | none=>exact hl
  | some d =>
   have hne:t≠d:=fun e=>hd (by rw[ho,e])
   show(s.pe.filter _).lookup t=some r
   rw[zcy _ hn,hl];simp only;rw[if_pos];simp[hne,hr d ho]
theorem zvY {e:Nat×(Nat×Nat)} (h:e∈zaL L q o):Operand.tmp e.2.1∈o.op.operands.toList∨∃x∈o.op.operands.toList,∃off,zlQ q x=some (e.2.1,off):=by
 unfold zaL at h;split at h
 ·rename_i x hop
  split at h
  ·simp only[List.mem_map] at h;obtain⟨n,_,rfl⟩:=h;exact .inl (by simp[hop,Op.operands])
  ·cases h
 ·rename_i x hop
  split at h
  ·simp only[List.mem_map] at h;obtain⟨n,_,rfl⟩:=h;exact .inl (by simp[hop,Op.operands])
  ·cases h
 ·rename_i t x hop
  split at h
  ·simp only[List.mem_map] at h;obtain⟨n,_,rfl⟩:=h;exact .inl (by simp[hop,Op.operands])
  ·cases h
 ·rename_i t x hop
  split at h
  ·rename_i i d off hi hps
   simp only[List.mem_map] at h;obtain⟨n,_,rfl⟩:=h;exact .inr ⟨x,by simp[hop,Op.operands],off,hps⟩
  ·cases h
 ·rename_i t ps hop
  split at h
  ·simp only[List.mem_filterMap] at h
   obtain⟨n,_,h⟩:=h;split at h
   ·rename_i r hr
    cases h
    left
    simp only[hop,Op.operands];clear hop;generalize ps.toList=l at hr
    induction l with
    | nil=>simp[zbS] at hr
    | cons y l ih =>
     obtain⟨f',x'⟩:=y;unfold zbS at hr;split at hr
     ·rename_i r' hr'
      cases hr;exact List.mem_cons_of_mem _ (ih hr')
     ·split at hr
      ·split at hr
       ·cases x' with
        | tmp y =>
         simp only[Option.some.injEq] at hr;subst hr;exact List.mem_cons_self
        | const c=>simp at hr
        | global g=>simp at hr
        | func g=>simp at hr
       ·cases hr
      ·cases hr
   ·cases h
  ·cases h
 ·rename_i x j hop
  split at h
  ·split at h
   ·simp only[List.mem_map] at h;obtain⟨n,_,rfl⟩:=h;exact .inl (by simp[hop,Op.operands])
   ·cases h
  ·cases h
 ·cases h
theorem zjp {val:Nat→Value}{A:Nat→Nat→Prop} (hA1:∀id k,A id k→Rt p w (val id) k) (hA2:∀id k id' k' b,A id k→A id' k'→id≠id'→zar (val id)=some b→zar (val id')≠some b) :
  ∀{l:List (Operand×Nat)}{E:List Nat},zbJ st l=some E→(∀x∈l,∃c,Rep p w (a.eval x.1) c) →
  (∀x∈l,∀t,x.1=.tmp t→∀id k,st.pid.lookup (t,0)=some id→st.alive.lookup id=some k→id∈E→zax w (a.tmps.getD t undef) 0=some (val id)∧A id k) →
  (∀x∈l,Rt p w (a.eval x.1) x.2∧∀b,zar (a.eval x.1)=some b→∃id∈E,∃k,A id k∧zar (val id)=some b) ∧
  (∀(i j:Nat) (x y:Operand×Nat) (b:Nat),i≠j→l[i]?=some x→l[j]?=some y→zar (a.eval x.1)=some b→zar (a.eval y.1)≠some b)
 | [],E,_,_,_=>⟨fun x hx=>(by cases hx),fun i j x y b _ hx=>(by simp at hx)⟩
 | (.tmp t,k)::r,E,h,hrep,hp=>by
  unfold zbJ at h;split at h
  ·rename_i id hid
   split at h
   ·rename_i hk
    simp only[zzOb] at h;obtain⟨l,hl,h⟩:=h;split at h
    ·cases h
    ·rename_i hnot
     cases h;obtain⟨ih1,ih2⟩:=zjp hA1 hA2 hl (fun x hx=>hrep x (List.mem_cons_of_mem _ hx)) (fun x hx t ht id k h1 h2 h3=>hp x (List.mem_cons_of_mem _ hx) t ht id k h1 h2 (List.mem_cons_of_mem _ h3))
     obtain⟨hc,hm⟩:=hp (.tmp t,k) List.mem_cons_self t rfl id k hid hk List.mem_cons_self;have hrt:=hA1 _ _ hm
     have hval:a.eval (.tmp t)=val id:=by
      obtain⟨c,hc0⟩:=hrep (.tmp t,k) List.mem_cons_self;have hc':RepS p w (a.eval (.tmp t)) (.cell c):=hc0
      have h2:zax w (a.eval (.tmp t)) 0=some (val id):=hc
      rw[zbm hc',hc0.cells] at h2
      simpa using h2
     have hcross:∀(j:Nat) (y:Operand×Nat) (b:Nat),r[j]?=some y→zar (val id)=some b→zar (a.eval y.1)≠some b:=by
      intro j y b hy hb hb';obtain⟨id',hid',k',hm',hb2⟩:=(ih1 y (List.mem_of_getElem? hy)).2 b hb';have hne:id≠id':=fun e=>hnot (by rw[e];simpa using hid')
      exact hA2 id k id' k' b hm hm' hne hb hb2
     refine⟨fun x hx=>?_,fun i j x y b hij hx hy hb=>?_⟩
     ·rcases List.mem_cons.1 hx with rfl|hx
      ·refine⟨by rw[hval];exact hrt,fun b hb=>⟨id,List.mem_cons_self,k,hm,by rw[←hval];exact hb⟩⟩
      ·obtain⟨h1,h2⟩:=ih1 x hx
       exact⟨h1,fun b hb=>by obtain⟨id',hi,rest⟩:=h2 b hb;exact⟨id',List.mem_cons_of_mem _ hi,rest⟩⟩
     ·match i,j with
      | 0,0=>exact absurd rfl hij
      | 0,j+1 =>
       simp at hx
       subst hx;exact hcross j y b (by simpa using hy) (by rw[←hval];exact hb)
      | i+1,0 =>
       simp at hy
       subst hy;intro hb';rw[hval] at hb';exact hcross i x b (by simpa using hx) hb' hb
      | i+1,j+1=>exact ih2 i j x y b (by omega) (by simpa using hx) (by simpa using hy) hb
   ·cases h
  ·cases h
 | (.const c,k)::r,E,h,hrep,hp=>by
  unfold zbJ at h;split at h
  ·rename_i heq;cases heq
  ·rename_i heq;cases heq
  ·rename_i heq
   cases heq;obtain⟨ih1,ih2⟩:=zjp hA1 hA2 h (fun x hx=>hrep x (List.mem_cons_of_mem _ hx)) (fun x hx=>hp x (List.mem_cons_of_mem _ hx))
   refine⟨fun x hx=>?_,fun i j x y b hij hx hy hb=>?_⟩
   ·rcases List.mem_cons.1 hx with rfl|hx
    ·exact⟨.inl rfl,fun b hb=>by cases hb⟩
    ·exact ih1 x hx
   ·match i,j with
    | 0,0=>exact absurd rfl hij
    | 0,j+1 =>
     simp at hx
     subst hx;cases hb
    | i+1,0 =>
     simp at hy
     subst hy;intro hb';cases hb'
    | i+1,j+1=>exact ih2 i j x y b (by omega) (by simpa using hx) (by simpa using hy) hb
  ·cases h
 | (.global g,k)::r,E,h,_,_=>by simp[zbJ] at h
 | (.func g,k)::r,E,h,_,_=>by simp[zbJ] at h
end
end
end Go.Proofs.Ytcpcagdialnbeaa
