/- Generic texts and models for the proofs of this seat: part 17. -/
import Derived.Test.YtcpcagdialnbeaaY16
set_option linter.unusedVariables false
set_option linter.unusedSimpArgs false
namespace Go.Proofs.Ytcpcagdialnbeaa
section
open Go Go.RowKit
def RepQ (p:Stb) (w:World) (v:Value) (c:AC):Prop:=Rep p w v c∨∃A n cap,v=.slice A n cap∧n≤cap∧∃ns:List Nat,ns.length=n∧c=.sl 1 (ns.map fun(u:Nat)=>[.bool true,.int (u:Int)])∧(0<n→∃b o,A=some ⟨b,o,none⟩∧b<w.heap.size∧o+n≤p b∧(∀k,¬p.ok b k)∧∀(i u:Nat),ns[i]?=some u→u≤255∧w.cell? ⟨b,o+i,none⟩=some (.int .u8 (u:Int)))
theorem RepQ.evo {B:Nat→Prop}{p p':Stb}{w w':World} (h:Evo B p w p' w') {v:Value}{c:AC}:RepQ p w v c→RepQ p' w' v c
 | .inl hr=>.inl (hr.evo h)
 | .inr ⟨A,n,cap,e,hc,ns,hl,hq,hr⟩=>.inr ⟨A,n,cap,e,hc,ns,hl,hq,fun hn=>by
   obtain⟨b,o,hA,hb,hp,hok,hx⟩:=hr hn;refine⟨b,o,hA,Nat.lt_of_lt_of_le hb h.size,Nat.le_trans hp (h.keepP b hb),fun k hk=>hok k (by rw[←h.okk b hb];exact hk),fun i u hu=>?_⟩
   obtain⟨h1,h2⟩:=hx i u hu;have:=(List.getElem?_eq_some_iff.1 hu).1
   exact⟨h1,by rw[h.stable b _ hb (by omega)];exact h2⟩⟩
def RepQs (p:Stb) (w:World):List Value→List AC→Prop
 | [],[]=>True
 | v::vs,c::cs=>RepQ p w v c∧RepQs p w vs cs
 | _,_=>False
theorem RepQs.evo {B:Nat→Prop}{p p':Stb}{w w':World} (h:Evo B p w p' w'):∀{vs:List Value}{cs:List AC},RepQs p w vs cs→RepQs p' w' vs cs
 | [],[],_=>trivial
 | _::_,_::_,⟨a,b⟩=>⟨a.evo h,RepQs.evo h b⟩
structure TK (p:Stb) (w:World) (Own:Nat→Prop) (b:Nat) (q:List AC):Prop where
 not:¬Own b
 lt:b<w.heap.size
 pz:p b=0
 cells:∃a T,w.heap[b]?=some (.cells a T (0,0))∧RepQs p w a.toList q
theorem TK.evo {p p':Stb}{w w':World}{Own:Nat→Prop}{b:Nat}{q:List AC} (h:TK p w Own b q) (he:Evo Own p w p' w'):TK p' w' Own b q:=by
 obtain⟨a,T,h1,h2⟩:=h.cells;exact⟨h.not,Nat.lt_of_lt_of_le h.lt he.size,by rw[he.same b h.lt h.not];exact h.pz,a,T,by rw[he.block b h.lt h.not];exact h1,h2.evo he⟩
theorem TK.own {p:Stb}{w:World}{Own Own':Nat→Prop}{b:Nat}{q:List AC} (h:TK p w Own b q) (hn:¬Own' b):TK p w Own' b q:=⟨hn,h.lt,h.pz,h.cells⟩
def zaU (b:Nat):Value:=.pointer (some ⟨b,0,none⟩)
def zpY (P:Program) (S:Sig) (f:FuncId) (run:List AC→List SV→Option (AV×List AC)):Prop:=∀q args r,run q args=some r→(zix r.1=true∧∃fn,P.funcs[f]?=some fn∧fn.body.isSome=true∧(fn.name == "runtime.NumGoroutine")=false) ∧
 ∀p w b (vals:List Value),RepSs p w vals args→Zp p w→TK p w (fun _=>False) b q →
 Calls P f (zaU b::vals).toArray w fun e w'=>∃v,e=.returned v∧∃p',SR p' w' v r.1∧(∀cs,r.1≠.box cs)∧r.1≠.und∧Evo (·=b) p w p' w'∧Zp p' w'∧TK p' w' (fun _=>False) b r.2 ∧
  (∀e∈(S.sg f).gives,∃u,zax w' v e.1=some u∧Rt p' w' u e.2∧∀c,zar u=some c→w.heap.size≤c) ∧
  (∀(e e':Nat×Nat) (u u':Value) (c:Nat),e∈(S.sg f).gives→e'∈(S.sg f).gives→e.1≠e'.1→zax w' v e.1=some u→zax w' v e'.1=some u'→zar u=some c→zar u'≠some c)
def zcR (P:Program) (S:Sig) (T:Nat→Bool) (ct:TOrc):Prop:=∀f,T f=true→(S.sg f).takes=[]∧zpY P S f (ct f)
def World.withBlock (w:World) (b:Nat) (o:Obj):World:={w with heap:=w.heap.setIfInBounds b o}
section
variable {P:Program}{L:Lay}{S:Sig}{T:Nat→Bool}{call:Orc}{ct:TOrc}{p p':Stb}{w w' w1:World}{a:Act}{s s':VS}{q:SPe}{o:Oper}{st st':Stt}{Own:Nat→Prop}{base b:Nat}
theorem ziU (w:World) (b c:Nat) (x:Obj):(World.withBlock w b x).heap[c]?=if b=c∧c<w.heap.size then some x else w.heap[c]?:=by
 simp only[World.withBlock,Array.getElem?_setIfInBounds];by_cases h:b=c
 ·subst h
  by_cases h2:b<w.heap.size
  ·simp[h2]
  ·simp[h2]
 ·simp[h]
theorem zhV (w:World) (b:Nat) (x:Obj):(World.withBlock w b x).heap.size=w.heap.size:=by simp[World.withBlock]
theorem zv4 (x:Obj) (hp:p b=0):Evo (·=b) p w p (World.withBlock w b x) :=
 zbw hp (zhV w b x) (fun y hy=>by rw[ziU,if_neg (fun h=>hy h.1.symm)]) rfl rfl rfl
theorem zzg {x:Obj} (h:Evo (·=b) p w p' w') (hlt:b<w.heap.size) (hp:p b=0) (hp':p' b=0) (hx:w'.heap[b]?=some x):Evo (fun _=>False) p (World.withBlock w b x) p' w':=by
 have hs:=zhV w b x
 refine⟨h.os,h.tape,h.output,by rw[hs];exact h.size,fun c hc _=>?_,fun c hc=>h.keepP c (by rw[hs] at hc;exact hc),fun c hc _=>?_,fun c o hc ho=>?_,fun c hc=>h.okk c (by rw[hs] at hc;exact hc),fun c h1 h2=>h.uq c (by rw[hs] at h1;exact h1) h2⟩
 ·rw[hs] at hc
  rw[ziU];by_cases hb:b=c
  ·subst hb;rw[if_pos ⟨rfl,hc⟩];exact hx
  ·rw[if_neg (fun e=>hb e.1)];exact h.block c hc (fun e=>hb e.symm)
 ·rw[hs] at hc
  by_cases hb:c=b
  ·subst hb;rw[hp,hp']
  ·exact h.same c hc hb
 ·rw[hs] at hc
  have hb:c≠b:=fun e=>by subst e;rw[hp] at ho;omega
  rw[h.stable c o hc ho];exact(World.cell?_of_block (w:=w) (by rw[ziU,if_neg (fun e=>hb e.1.symm)])).symm
theorem Inv.off {m:Array Value} (hI:Inv st p w m s Own) (he:Evo (·=b) p w p w1) (hs:w1.heap.size=w.heap.size) (hb:¬Own b):Inv st p w1 m s Own:=by
 obtain⟨val,hR⟩:=hI.rooms;have hbox:∀d cs,s.get d=.box cs→m.getD d undef≠.pointer (some ⟨b,0,none⟩):=fun d cs hd e=>by
  obtain⟨c,e1,_,h1,_⟩:=hI.box d cs hd;rw[e] at e1;cases e1;exact hb h1
 have harr:∀d k rows,s.get d=.arr k rows→zar (m.getD d undef)≠some b:=fun d k rows hd e=>hb (hI.arr d k rows b hd e).2.1
 have hzp:Zp p w1:=⟨fun c hc=>hI.zp.1 c (by rw[←hs];exact hc),fun c hc=>hI.zp.2 c (by rw[←hs];exact hc)⟩
 refine⟨hI.size,hI.len,hI.nbk,hI.sonce,fun t=>?_,hzp,hI.once,hI.spe,fun c hc=>hI.own c (by rw[←hs];exact hc),fun d cs hd=>?_,hI.boxd,fun d k rows c hd hc=>?_,hI.al,hI.mks,val,⟨fun z id hm=>?_,fun id k hm=>?_,hR.own,hR.apart,hR.row⟩⟩
 ·obtain⟨g1,g2⟩:=hI.slots t
  refine⟨zeH he (fun cs hcs c hc e=>by subst e;exact hbox t cs hcs hc) (fun k rows hk c hc e=>by subst e;exact harr t k rows hk hc) g1,fun r hr=>?_⟩
  have:=g2 r hr
  cases r with
  | ref cs=>exact PRef.evo he this
  | box d off=>exact this
  | el d k n j=>exact this
 ·obtain⟨c,h1,h2,h3,h4⟩:=hI.box d cs hd
  exact⟨c,h1,h2,h3,by rw[hs];exact h4⟩
 ·obtain⟨h1,h2,h3,h4⟩:=hI.arr d k rows c hd hc
  exact⟨h1,h2,by rw[hs];exact h3,h4⟩
 ·obtain⟨h1,h2⟩:=hR.place z id hm
  refine⟨?_,h2⟩
  have hsl:=(hI.slots z.1).1
  cases hx:s.get z.1 with
  | und=>exact absurd hx h2
  | v x=>rw[hx] at hsl;rw[zbm hsl] at h1 ⊢;exact h1
  | tup xs=>rw[hx] at hsl;obtain⟨arr,e,_⟩:=hsl;rw[e] at h1 ⊢;exact h1
  | al d=>rw[hx] at hsl;obtain⟨_,_,_,e⟩:=hsl;rw[e] at h1 ⊢;exact h1
  | arr k rows =>
   rw[hx] at hsl;rcases hsl.2.2 with ⟨e,_⟩|⟨_,_,_,_,_,_,e,_⟩
   ·rw[e] at h1 ⊢;exact h1
   ·rw[e] at h1 ⊢;exact h1
  | box cs =>
   obtain⟨c,e,_,h3,hlt⟩:=hI.box z.1 cs hx;rw[e] at h1 ⊢;show w1.cell? ⟨c,z.2,none⟩=_
   rw[World.cell?_of_block (w:=w) (he.block c hlt (fun e=>hb (by rw[←e];exact h3)))]
   exact h1
 ·exact(hR.alive id k hm).evo he (fun c hc e=>by subst e;exact hb (hR.own id k _ hm hc).1)
theorem zjA {d:Option Nat}{tk:List Nat}{t:Nat} (h:t∈zgT d tk):t∈tk∧d≠some t:=by
 unfold zgT at h;split at h
 ·rename_i d
  rw[List.mem_filter] at h;simp only[Bool.not_eq_true'] at h;exact⟨h.1,fun e=>by cases e;rw[Nat.beq_refl] at h;cases h.2⟩
 ·exact⟨h,by simp⟩
theorem zpm {tk:List Nat}{x:Operand} (h:zwy tk x=true):∃i,x=.tmp i∧i∈tk:=by
 unfold zwy at h;split at h
 ·rename_i i
  simp only[List.any_eq_true] at h;obtain⟨t,ht,he⟩:=h;exact⟨i,rfl,by rw[←Nat.eq_of_beq_eq_true he];exact ht⟩
 ·cases h
theorem zqj (hC:zcR P S T ct) {f:FuncId}{xs:Array Operand}{ts:Array TypeId} (hop:o.op=.call {callee:=.value (.func f),args:=xs,argTypes:=ts}) (hf:T f=true) {x:Operand}{xs':List Operand} (hxs:xs.toList=x::xs')
  (hx:a.eval x=zaU b) {vs:List SV} (hreps:RepSs p w (xs'.map a.eval) vs) {q0 q1:List AC}{r:AV} (hcall:ct f q0 vs=some (r,q1)) (htk:TK p w Own b q0) (hz:Zp p w) (hsz:a.tmps.size=s.σ.length) :
  Does P o a w fun v w'=>∃p' w1,zhx L S q o a p w1 (s.put o.dst r) v p' w'∧Evo (·=b) p w p w1∧w1.heap.size=w.heap.size∧TK p' w' Own b q1:=by
 obtain⟨htakes,hC1⟩:=hC f hf;obtain⟨⟨_,fn,f1,f2,f3⟩,hc⟩:=hC1 q0 vs (r,q1) hcall;have hcalls:=hc p w b (xs'.map a.eval) hreps hz (htk.own (fun h=>h))
 have hargs:xs.map a.eval=(zaU b::xs'.map a.eval).toArray:=by
  apply Array.ext'
  simp[hxs,hx]
 refine znw (f:=f) (args:=xs.map a.eval) ?_ ?_
 ·have f3':¬fn.name = "runtime.NumGoroutine":=by simpa using f3
  have hne:fn.body≠none:=by cases h:fn.body <;> simp[h] at f2 ⊢
  simp[execOp,hop,resolve,invoke,Act.eval,Deferred.ofValue,callFunc,f1,f3',hne]
 ·rw[hargs]
  refine hcalls.mono ?_
  rintro e w' ⟨v,rfl,p',hsr,hnb,hnu,hev,hz',hT',hg1,hg2⟩
  obtain⟨arr,ty,hx',_⟩:=hT'.cells;have heats:zbQ L S o=[]:=by simp[zbQ,hop,htakes]
  have hfr:zaI L S o=(S.sg f).gives:=by simp[zaI,hop]
  have hmv:zaL L q o=[]:=by simp[zaL,hop]
  have he1:=zzg hev htk.lt htk.pz hT'.pz hx'
  have hs1:=zhV w b (.cells arr ty (0,0))
  refine⟨v,rfl,p',World.withBlock w b (.cells arr ty (0,0)),⟨he1.weaken (fun _ _ h=>h.elim),hz',zbO hsz hsr,zh3 hnb,zdc hnu,?_,?_,by rw[hmv];simp⟩,zv4 _ htk.pz,hs1,hT'.own htk.not⟩
  ·rw[hfr]
   intro e he;obtain⟨u,h1,h2,h3⟩:=hg1 e he;exact⟨u,h1,h2,fun c hc=>.inl (by rw[hs1];exact h3 c hc)⟩
  ·rw[hfr]
   intro e e' u u' c he he' hne h1 h2 h3;exact hg2 e e' u u' c he he' hne h1 h2 h3
end
end
section
open Go Go.RowKit
def zl3 (b:Nat) (m:Array Value) (tk:List Nat):Prop:=∀t∈tk,m.getD t undef=zaU b
section
variable {P:Program}{L:Lay}{S:Sig}{T:Nat→Bool}{call:Orc}{ct:TOrc}{p p':Stb}{w w' w1:World}{a:Act}{s s':VS}{t t':TS}{o:Oper}{st st':Stt}{Own:Nat→Prop}{base b:Nat}
theorem zfO (h:zgu T o=true):∃f xs ts,o.op=.call {callee:=.value (.func f),args:=xs,argTypes:=ts}∧T f=true:=by
 unfold zgu at h;split at h
 ·rename_i f xs ts hop
  exact⟨f,xs,ts,hop,h⟩
 ·cases h
theorem zkM {r:AV×List AC} (h:zlf L ct o t=some r):∃f xs ts x xs' t0 ts' vs i,o.op=.call {callee:=.value (.func f),args:=xs,argTypes:=ts}∧xs.toList=x::xs'∧ts.toList=t0::ts'∧x=.tmp i∧i∈t.tk∧ze4 L t.s xs' ts'=some vs∧ct f t.q vs=some r:=by
 unfold zlf at h;split at h
 ·rename_i f xs ts hop
  split at h
  ·rename_i x xs' t0 ts' h1 h2
   split at h
   ·rename_i hx
    simp only[zzOb] at h;obtain⟨vs,hvs,h⟩:=h;obtain⟨i,hi,him⟩:=zpm hx;exact⟨f,xs,ts,x,xs',t0,ts',vs,i,hop,h1,h2,hi,him,hvs,h⟩
   ·cases h
  ·cases h
 ·cases h
theorem zfP {tk:List Nat} (h:zld L tk o=true):∃i,(o.op=.move (.tmp i)∨o.op=.assign (.tmp i))∧i∈tk∧L.ti o.type=none:=by
 unfold zld at h;split at h
 ·rename_i x hop
  simp only[Bool.and_eq_true,Option.isNone_iff_eq_none] at h;obtain⟨i,rfl,hi⟩:=zpm h.1;exact⟨i,.inl hop,hi,h.2⟩
 ·rename_i x hop
  simp only[Bool.and_eq_true,Option.isNone_iff_eq_none] at h;obtain⟨i,rfl,hi⟩:=zpm h.1;exact⟨i,.inr hop,hi,h.2⟩
 ·cases h
theorem ztW {q:SPe}{i d:Nat} (hop:o.op=.move (.tmp i)∨o.op=.assign (.tmp i)) (hti:L.ti o.type=none) (hv:a.tmps.getD i undef=zaU b) (hz:Zp p w) (hsz:a.tmps.size=s.σ.length) (hd:o.dst=some d) :
  Does P o a w fun v w'=>v=zaU b∧w'=w∧zhx L S q o a p w (s.put (some d) .und) v p w:=by
 have hfr:zaI L S o=[]:=by
  rcases hop with hop|hop <;> simp[zaI,hop]
 have hmv:zaL L q o=[]:=by
  rcases hop with hop|hop <;> simp[zaL,hop,hti]
 have hev:(execOp a.eval o).run P w=.ok (.value (zaU b)) w:=by
  have:a.eval (.tmp i)=zaU b:=hv
  rcases hop with hop|hop <;> simp[execOp,hop,this]
 refine zaN hev ⟨rfl,rfl,.refl _ _ _,hz,?_,?_,fun _ _ _=>.inr ⟨hfr,hmv⟩,by rw[hfr];simp,by rw[hfr];simp,by rw[hmv];simp⟩
 ·have:=zbO (o:=o) (w:=w) (p:=p) (a:=a) (s:=s) (x:=.und) (v:=zaU b) hsz (by intro c h;cases h)
  intro d' hd';have h1:=this d' hd'
  rw[hd] at hd';cases hd';rw[hd] at h1 ⊢;exact h1
 ·intro d' cs hd' h
  rw[hd] at hd';cases hd';rw[zb1] at h;split at h <;> cases h
theorem zxk (hC:zcR P S T ct) (hI:Inv st p w a.tmps t.s Own) (htk:zl3 b a.tmps t.tk) (hK:TK p w Own b t.q) (hk:zgu T o=true∨zld L t.tk o=true) {bop:Oper→VS→Option VS} (hs:zfc bop L T ct o t=some t') (hstep:zdF L S base o st=some st')
  (hb1:∀q id,(q,id)∈st.pid→id<base) (hb2:∀id k,(id,k)∈st.alive→id<base) :
  Does P o a w fun v w'=>∃p',Inv st' p' w' (a.put o.dst v).tmps t'.s Own∧Evo (fun c=>Own c∨c=b) p w p' w'∧TK p' w' Own b t'.q∧zl3 b (a.put o.dst v).tmps t'.tk:=by
 have hkeep:∀v,zl3 b (a.put o.dst v).tmps (zgT o.dst t.tk):=fun v x hx=>by
  obtain⟨h1,h2⟩:=zjA hx;rw[zaM h2];exact htk x h1
 unfold zfc at hs;split at hs
 ·rename_i hT
  simp only[zzOm] at hs;obtain⟨r,hcall,rfl⟩:=hs;obtain⟨f,xs,ts,x,xs',t0,ts',vs,i,hop,hxs,hts,hx,him,hvs,hct⟩:=zkM hcall;obtain⟨f',xs2,ts2,hop',hTf⟩:=zfO hT;rw[hop] at hop';cases hop';have hreps:=zkD (p:=p) (w:=w) (a:=a) _ _ _ hvs (fun x _ t _=>hI.slots t)
  have htakes:=(hC f hTf).1
  have heats:zbQ L S o=[]:=by simp[zbQ,hop,htakes]
  have hmv:zaL L st.spe o=[]:=by simp[zaL,hop]
  refine(zqj (L:=L) (q:=st.spe) (s:=t.s) hC hop hTf hxs (by rw[hx];exact htk i him) hreps hct hK hI.zp hI.size).mono ?_
  rintro v w' ⟨p',w1,hp,he1,hs1,hT'⟩
  obtain⟨hF,ho⟩:=zap (o:=o) hI.once r.1;have hsp:zbR (zbI L o st.spe) (t.s.put o.dst r.1):=zg6 hI.spe hI.sonce hI.once r.1 (by simp[hop]) (by simp[hop])
  have hval:zbH r.1=false:=by
   have:=((hC f hTf).2 _ _ _ hct).1.1
   cases hr:r.1 <;> simp_all [zix,zbH]
  obtain⟨g1,g2⟩:=zny (hI.off he1 hs1 hK.not) hF ho hsp hstep (by rw[heats];intro x hx;cases hx) (by rw[heats];intro x hx;cases hx) hb1 hb2 hp (.plain (za5 hval) (by rw[hmv];intro e he;cases he))
  exact⟨p',g1,he1.trans g2 (fun _ _ h=>.inr h) (fun _ _ h=>.inl h),hT',hkeep v⟩
 ·rename_i hnT
  split at hs
  case isFalse h=>rcases hk with hk|hk <;> contradiction
  rename_i hto;split at hs
  case h_2=>cases hs
  rename_i d hd;cases hs;obtain⟨i,hop,him,hti⟩:=zfP hto;refine(ztW (S:=S) (q:=st.spe) (s:=t.s) hop hti (htk i him) hI.zp hI.size hd).mono ?_
  rintro v w' ⟨hv,rfl,hp⟩
  have heats:zbQ L S o=[]:=by rcases hop with hop|hop <;> simp[zbQ,hop]
  have hmv:zaL L st.spe o=[]:=by rcases hop with hop|hop <;> simp[zaL,hop,hti]
  obtain⟨hF,ho⟩:=zap (o:=o) hI.once .und;have hsp:zbR (zbI L o st.spe) (t.s.put o.dst .und):=zg6 hI.spe hI.sonce hI.once .und (by rcases hop with hop|hop <;> simp[hop]) (by rcases hop with hop|hop <;> simp[hop])
  rw[hd] at hF ho hsp;obtain⟨g1,g2⟩:=zny hI hF ho hsp hstep (by rw[heats];intro x hx;cases hx) (by rw[heats];intro x hx;cases hx) hb1 hb2 hp (.plain (by
   intro d' hd';rw[hd] at hd';cases hd';rw[zb1];split <;> rfl) (by rw[hmv];intro e he;cases he))
  refine⟨p,g1,g2.weaken (fun _ _ h=>.inl h),hK,fun x hx=>?_⟩
  by_cases hxd:o.dst=some x
  ·rw[hxd,zft]
   ·exact hv
   ·have:=(znf hI hstep).2 x hxd
    rw[hI.size];exact this
  ·rw[zaM hxd]
   rcases List.mem_cons.1 hx with rfl|hx
   ·exact absurd hd hxd
   ·exact htk x hx
theorem zxf (hL:LayOk P L) (hC:za4 P S call) (hT:zcR P S T ct) {ops:Array Oper}{i:Nat} (hi:ops[i]?=some o) (hI:Inv st p w a.tmps t.s Own) (hids:zcG st base) (htk:zl3 b a.tmps t.tk) (hK0:TK p w Own b t.q)
  (hs:zc3 (vop L call) L T ct ops.toList o t=some t') (hstep:zn6 L S base o st=some st')
  {Q:Exit→Act→World→Prop}{K:Act→World→Prop} (hK:∀a' w' p',Inv st' p' w' a'.tmps t'.s Own→zl3 b a'.tmps t'.tk→TK p' w' Own b t'.q→Evo (fun c=>Own c∨c=b) p w p' w'→a'.defers=a.defers→K a' w'):wpOp P ops Q i K a w:=by
 have hkeep:∀(m:Array Value),(∀t,o.dst≠some t→m.getD t undef=a.tmps.getD t undef)→zl3 b m (zgT o.dst t.tk):=fun m hm x hx=>by
  obtain⟨h1,h2⟩:=zjA hx;rw[hm x h2];exact htk x h1
 by_cases hk:zgu T o=true∨zld L t.tk o=true
 ·have hst:zaA o=false:=by
   rcases hk with hk|hk
   ·obtain⟨f,xs,ts,hop,_⟩:=zfO hk
    simp[zaA,hop]
   ·obtain⟨j,hop,_⟩:=zfP hk
    rcases hop with hop|hop <;> simp[zaA,hop]
  have hel:zlW o st=false:=by
   unfold zlW;split
   ·rename_i hop
    simp[zaA,hop] at hst
   ·rfl
  have hstep0:=hstep
  unfold zn6 at hstep0;rw[if_neg (by rw[hel];simp)] at hstep0
  simp only[zzOm] at hstep0;obtain⟨st1,hstep1,rfl⟩:=hstep0;have hstep':=zbp hst hstep1
  have hni:∀x y z,o.op≠.indexAddr x y z:=fun x y z e=>by
   rcases hk with hk|hk
   ·obtain⟨f,xs,ts,hop,_⟩:=zfO hk
    rw[hop] at e;cases e
   ·obtain⟨j,hop,_⟩:=zfP hk
    rcases hop with hop|hop <;> (rw[hop] at e;cases e)
  have hnbF:∀s',ze1 o t.s s'→zs9 (zkC o st.nb) s':=fun s' hF=>zmY hF hI.nbk fun d _ ⟨x,y,z,e⟩=>absurd e (hni x y z)
  have hsF:∀t',zfc (vop L call) L T ct o t=some t'→ze1 o t.s t'.s:=fun t' h=>by
   unfold zfc at h;split at h
   ·simp only[zzOm] at h
    obtain⟨r,_,rfl⟩:=h;exact(zap hI.once _).1
   ·split at h
    ·split at h
     ·rename_i d hd
      cases h;have:=(zap (o:=o) hI.once .und).1
      rw[hd] at this;exact this
     ·cases h
    ·rename_i h1 h2
     rcases hk with hk|hk <;> contradiction
  unfold wpOp;rw[hi];simp only;have hdef:∀v,(a.put o.dst v).defers=a.defers:=fun v=>by cases o.dst <;> rfl
  have hdo:zfc (vop L call) L T ct o t=some t'→o.wp P a w K Q:=by
   intro hs;exact zxk hT hI htk hK0 hk hs hstep' hids.1 hids.2 K Q fun v w' ⟨p',h1,h2,h3,h4⟩=>hK _ _ p' (Inv.withNb (a:=a.put o.dst v) h1 (hnbF _ (hsF _ hs))) h4 h3 h2 (hdef v)
  unfold zc3 at hs;split at hs
  ·rename_i hg
   have hw:Region.wanted o (yielded ops a.tmps)=true:=by unfold Region.wanted;rw[hg]
   rw[if_pos hw];exact .inl (hdo hs)
  ·rename_i g hg
   simp only[zzOb] at hs;obtain⟨u,hu,hs⟩:=hs;have hw:=zka hI.size (fun d _=>hI.slots d) hg hu
   cases u with
   | true =>
    rw[if_pos hw];exact .inl (hdo hs)
   | false =>
    rw[if_neg (by rw[hw];simp)]
    simp only[Bool.false_eq_true,if_false,Option.some.injEq] at hs;subst hs;exact hK _ _ p (Inv.withNb (a:=a.put o.dst undef) (step_skip hI hg hstep') (hnbF _ (zap hI.once .und).1)) (hkeep _ fun t ht=>zaM ht) hK0 (.refl _ _ _) (hdef _)
 ·have hs':zvN L call ops.toList o t.s=some t'.s∧t'.tk=zgT o.dst t.tk∧t'.q=t.q:=by
   have hv:∀t',zfc (vop L call) L T ct o t=some t'→vop L call o t.s=some t'.s∧t'.tk=zgT o.dst t.tk∧t'.q=t.q:=fun t' h=>by
    unfold zfc at h;rw[if_neg (fun e=>hk (.inl e)),if_neg (fun e=>hk (.inr e))] at h
    simp only[zzOm] at h;obtain⟨s',h1,rfl⟩:=h;exact⟨h1,rfl,rfl⟩
   unfold zc3 at hs;unfold zvN;split at hs
   ·rename_i hg
    rw[hg];exact hv t' hs
   ·rename_i g hg
    rw[hg];simp only[zzOb] at hs ⊢;obtain⟨u,hu,hs⟩:=hs;cases u with
    | true=>obtain⟨h1,h2⟩:=hv t' hs;exact⟨⟨true,hu,h1⟩,h2⟩
    | false =>
     simp only[Bool.false_eq_true,if_false,Option.some.injEq] at hs;subst hs;exact⟨⟨false,hu,rfl⟩,rfl,rfl⟩
  obtain⟨hs1,hs2,hs3⟩:=hs';refine zsl hL hC hi hI hids hs1 hstep fun a' w' p' g1 g2 g3 g4=>?_
  exact hK a' w' p' g1 (by rw[hs2];exact hkeep _ g4) (by rw[hs3];exact hK0.evo g2) (g2.weaken fun _ _ h=>.inl h) g3
theorem zvO (hL:LayOk P L) (hC:za4 P S call) (hT:zcR P S T ct) {ops:Array Oper}{i:Nat} (hi:ops[i]?=some o) (hI:Inv st p w a.tmps t.s Own) (hids:zcG st base) (htk:zl3 b a.tmps t.tk) (hK0:TK p w Own b t.q)
  (hs:zc3 (zaK L call) L T ct ops.toList o t=some t') (hstep:zc0 L S base o st=some st')
  {Q:Exit→Act→World→Prop}{K:Act→World→Prop} (hK:∀a' w' p',Inv st' p' w' a'.tmps t'.s Own→zl3 b a'.tmps t'.tk→TK p' w' Own b t'.q→Evo (fun c=>Own c∨c=b) p w p' w'→a'.defers=a.defers→K a' w'):wpOp P ops Q i K a w:=by
 have hkeep:∀(m:Array Value),(∀t,o.dst≠some t→m.getD t undef=a.tmps.getD t undef)→zl3 b m (zgT o.dst t.tk):=fun m hm x hx=>by
  obtain⟨h1,h2⟩:=zjA hx;rw[hm x h2];exact htk x h1
 by_cases hk:zgu T o=true∨zld L t.tk o=true
 ·have hst:zaA o=false:=by
   rcases hk with hk|hk
   ·obtain⟨f,xs,ts,hop,_⟩:=zfO hk
    simp[zaA,hop]
   ·obtain⟨j,hop,_⟩:=zfP hk
    rcases hop with hop|hop <;> simp[zaA,hop]
  have hstep':=zbp hst hstep
  unfold wpOp;rw[hi];simp only;have hdef:∀v,(a.put o.dst v).defers=a.defers:=fun v=>by cases o.dst <;> rfl
  have hdo:zfc (zaK L call) L T ct o t=some t'→o.wp P a w K Q:=by
   intro hs;exact zxk hT hI htk hK0 hk hs hstep' hids.1 hids.2 K Q fun v w' ⟨p',h1,h2,h3,h4⟩=>hK _ _ p' h1 h4 h3 h2 (hdef v)
  unfold zc3 at hs;split at hs
  ·rename_i hg
   have hw:Region.wanted o (yielded ops a.tmps)=true:=by unfold Region.wanted;rw[hg]
   rw[if_pos hw];exact .inl (hdo hs)
  ·rename_i g hg
   simp only[zzOb] at hs;obtain⟨u,hu,hs⟩:=hs;have hw:=zka hI.size (fun d _=>hI.slots d) hg hu
   cases u with
   | true =>
    rw[if_pos hw];exact .inl (hdo hs)
   | false =>
    rw[if_neg (by rw[hw];simp)]
    simp only[Bool.false_eq_true,if_false,Option.some.injEq] at hs;subst hs;exact hK _ _ p (step_skip hI hg hstep') (hkeep _ fun t ht=>zaM ht) hK0 (.refl _ _ _) (hdef _)
 ·have hs':zc8 L call ops.toList o t.s=some t'.s∧t'.tk=zgT o.dst t.tk∧t'.q=t.q:=by
   have hv:∀t',zfc (zaK L call) L T ct o t=some t'→zaK L call o t.s=some t'.s∧t'.tk=zgT o.dst t.tk∧t'.q=t.q:=fun t' h=>by
    unfold zfc at h;rw[if_neg (fun e=>hk (.inl e)),if_neg (fun e=>hk (.inr e))] at h
    simp only[zzOm] at h;obtain⟨s',h1,rfl⟩:=h;exact⟨h1,rfl,rfl⟩
   unfold zc3 at hs;unfold zc8;split at hs
   ·rename_i hg
    rw[hg];exact hv t' hs
   ·rename_i g hg
    rw[hg];simp only[zzOb] at hs ⊢;obtain⟨u,hu,hs⟩:=hs;cases u with
    | true=>obtain⟨h1,h2⟩:=hv t' hs;exact⟨⟨true,hu,h1⟩,h2⟩
    | false =>
     simp only[Bool.false_eq_true,if_false,Option.some.injEq] at hs;subst hs;exact⟨⟨false,hu,rfl⟩,rfl,rfl⟩
  obtain⟨hs1,hs2,hs3⟩:=hs';refine zsT hL hC hi hI hids hs1 hstep fun a' w' p' g1 g2 g3 g4=>?_
  exact hK a' w' p' g1 (by rw[hs2];exact hkeep _ g4) (by rw[hs3];exact hK0.evo g2) (g2.weaken fun _ _ h=>.inl h) g3
theorem zth (hL:LayOk P L) (hC:za4 P S call) (hT:zcR P S T ct) {ops:Array Oper}{Q:Exit→Act→World→Prop}:∀(l:List Nat) (os:List Oper),l.map (ops[·]?)=os.map some→∀(base base':Nat) (st st':Stt) (p:Stb) (w:World) (a:Act) (t t':TS),
  Inv st p w a.tmps t.s Own→zcG st base→zl3 b a.tmps t.tk→TK p w Own b t.q→zdb (vop L call) L T ct ops.toList os t=some t'→zjC L S base os st=some (base',st') →
  (∀a' w' p',Inv st' p' w' a'.tmps t'.s Own→zl3 b a'.tmps t'.tk→TK p' w' Own b t'.q→Evo (fun c=>Own c∨c=b) p w p' w'→a'.defers=a.defers→Q .normal a' w')→wpOps P ops Q l a w
 | [],os,hl,base,base',st,st',p,w,a,t,t',hI,hids,htk,hK,hs,hst,hQ=>by
  have:os=[]:=by simpa using hl.symm
  subst this;cases hs;cases hst;exact hQ a w p hI htk hK (.refl _ _ _) rfl
 | i::l,[],hl,_,_,_,_,_,_,_,_,_,_,_,_,_,_,_,_=>by simp at hl
 | i::l,o::os,hl,base,base',st,st',p,w,a,t,t',hI,hids,htk,hK,hs,hst,hQ=>by
  simp only[List.map_cons,List.cons.injEq] at hl;simp only[zdb,zzOb] at hs;obtain⟨t1,hs1,hs⟩:=hs;simp only[zjC,zzOb] at hst;obtain⟨st1,hst1,hst⟩:=hst;rw[wpOps_cons];refine zxf hL hC hT hl.1 hI hids htk hK hs1 hst1 fun a1 w1 p1 hI1 htk1 hK1 hev1 hd1=>?_
  exact zth hL hC hT l os hl.2 _ base' st1 st' p1 w1 a1 t1 t' hI1 (zo2 hids hst1) htk1 hK1 hs hst fun a' w' p' h1 h2 h3 h4 h5=>hQ a' w' p' h1 h2 h3 (hev1.trans h4 (fun _ _ h=>h) (fun _ _ h=>h)) (h5.trans hd1)
end
end
section
open Go Go.RowKit
section
variable {P:Program}{L:Lay}{S:Sig}{T:Nat→Bool}{call:Orc}{ct:TOrc}{p p':Stb}{w w' w1:World}{a:Act}{s s':VS}{t t':TS}{o:Oper}{st st':Stt}{Own:Nat→Prop}{base b:Nat}{all:List Oper}{q:SPe}
theorem zvx (hn:NoTwice s.pe) (h:zeD s) {x:AV} (hx:zbH x=false):zeD (s.put o.dst x):=by
 have hF:=(zap (o:=o) hn x).1
 have key:∀u,(s.put o.dst x).get u=s.get u∨(s.put o.dst x).get u=x∨(s.put o.dst x).get u=.und:=fun u=>by
  by_cases hd:o.dst=some u
  ·rw[hd,zb1]
   split
   ·exact .inr (.inl rfl)
   ·exact .inr (.inr rfl)
  ·exact .inl (hF.get u hd)
 refine⟨fun u d k n j hl=>?_,fun u k r hr=>?_,fun u d hr=>?_⟩
 ·by_cases hd:o.dst=some u
  ·rw[hd,zcD] at hl;cases hl
  ·exact h.1 u d k n j (hF.pe u _ hd hl).1
 ·rcases key u with e|e|e
  ·rw[e] at hr;exact h.2.1 u k r hr
  ·rw[e] at hr;rw[hr] at hx;cases hx
  ·rw[e] at hr;cases hr
 ·rcases key u with e|e|e
  ·rw[e] at hr;exact h.2.2 u d hr
  ·rw[e] at hr;rw[hr] at hx;cases hx
  ·rw[e] at hr;cases hr
theorem zlv (hC:zcR P S T ct) (h:zc3 (zaK L call) L T ct all o t=some t'):(zc8 L call all o t.s=some t'.s)∨(∃x,t'.s=t.s.put o.dst x∧zbH x=false∧zkv o=false):=by
 have hv:∀t',zfc (zaK L call) L T ct o t=some t'→zaK L call o t.s=some t'.s∨(∃x,t'.s=t.s.put o.dst x∧zbH x=false∧zkv o=false):=fun t' h=>by
  unfold zfc at h;split at h
  ·rename_i hT
   simp only[zzOm] at h;obtain⟨r,hcall,rfl⟩:=h;obtain⟨f,xs,ts,x,xs',t0,ts',vs,i,hop,_,_,_,_,_,hct⟩:=zkM hcall;obtain⟨f',xs2,ts2,hop',hTf⟩:=zfO hT;rw[hop] at hop';cases hop';have:=((hC f hTf).2 _ _ _ hct).1.1
   exact .inr ⟨r.1,rfl,by cases hr:r.1 <;> simp_all [zix,zbH],by simp[zkv,hop]⟩
  ·split at h
   ·rename_i hto
    split at h
    ·rename_i d hd
     cases h;obtain⟨j,hop,_⟩:=zfP hto;exact .inr ⟨.und,by rw[hd],rfl,by rcases hop with hop|hop <;> simp[zkv,hop]⟩
    ·cases h
   ·simp only[zzOm] at h
    obtain⟨s',h1,rfl⟩:=h;exact .inl h1
 unfold zc3 at h;unfold zc8;split at h
 ·rename_i hg
  rw[hg];exact hv t' h
 ·rename_i g hg
  rw[hg];simp only[zzOb] at h ⊢;obtain⟨u,hu,h⟩:=h;cases u with
  | true =>
   rcases hv t' h with h1|h1
   ·exact .inl ⟨true,hu,h1⟩
   ·exact .inr h1
  | false =>
   simp only[Bool.false_eq_true,if_false,Option.some.injEq] at h;subst h;exact .inl ⟨false,hu,rfl⟩
theorem zyA (hC:zcR P S T ct) (h:zc3 (zaK L call) L T ct all o t=some t'):zyi L call all o t.s t'.s:=by
 rcases zlv hC h with h1|⟨x,h1,_,h2⟩
 ·exact .inl h1
 ·exact .inr ⟨⟨x,h1⟩,h2⟩
theorem zwn (hC:zcR P S T ct) (hval:∀f args r,call f args=some r→zix r=true):∀(os:List Oper) (base bm:Nat) (t tm:TS) (st stm:Stt),(∀o∈os,zaA o=false)→zdb (zaK L call) L T ct all os t=some tm→zcl L S base os st=some (bm,stm)→zcG st base→NoTwice t.s.pe→NoTwice st.spe→zbR st.spe t.s→zeD t.s →
  ∃(tr:List Rec) (ts:Nat→TS),tr.map (·.o)=os∧(∀r∈tr,ztP L S call all r)∧(∀r,tr[0]?=some r→r.s=t.s∧r.st=st∧r.base=base) ∧
   (∀(j:Nat) (r r':Rec),tr[j]?=some r→tr[j+1]?=some r'→r'.s=r.s'∧r'.st=r.st'∧r'.base=r.base+zgG L S r.o) ∧
   (∀r,tr.getLast?=some r→tm.s=r.s'∧stm=r.st')∧(tr=[]→tm.s=t.s∧stm=st)∧NoTwice tm.s.pe∧NoTwice stm.spe∧zbR stm.spe tm.s∧zcG stm bm∧zeD tm.s ∧
   ts 0=t∧ts tr.length=tm∧∀(j:Nat) (r:Rec),tr[j]?=some r→r.s=(ts j).s∧r.s'=(ts (j+1)).s∧zc3 (zaK L call) L T ct all r.o (ts j)=some (ts (j+1))
 | [],base,bm,t,tm,st,stm,_,hv,hst,hids,h1,h2,h3,h4=>by
  cases hv;cases hst;exact⟨[],fun _=>t,rfl,fun r h=>(by cases h),fun r h=>(by cases h),fun j r r' h=>(by simp at h),fun r h=>(by cases h),fun _=>⟨rfl,rfl⟩,h1,h2,h3,hids,h4,rfl,rfl,fun j r h=>(by simp at h)⟩
 | o::os,base,bm,t,tm,st,stm,hns,hv,hst,hids,h1,h2,h3,h4=>by
  simp only[zdb,zzOb] at hv;obtain⟨t1,hv1,hv⟩:=hv;simp only[zcl,zzOb] at hst;obtain⟨st1,hst1,hst⟩:=hst;have hso:=hns o List.mem_cons_self
  have hsv:=zne (zbp hso hst1)
  have hids1:=znE hids hst1
  have hR:=zyA hC hv1
  have hsp1:zbR (zbI L o st.spe) t1.s:=by
   rcases zlv hC hv1 with h|⟨x,h,_,hp⟩
   ·exact ztr h hso h3 h2 h1
   ·rw[h]
    exact zg6 h3 h2 h1 x (fun a b c e=>by simp[zkv,e] at hp) (fun a b c e=>by simp[zkv,e] at hp)
  have hnr1:zeD t1.s:=by
   rcases zlv hC hv1 with h|⟨x,h,hx,_⟩
   ·exact zn5 h hso hval h1 h4
   ·rw[h];exact zvx h1 h4 hx
  obtain⟨tr,ts,k1,k2,k3,k4,k5,k6,k7,k8,k9,k10,k11,k12,k13,k14⟩:=zwn hC hval os _ bm t1 tm st1 stm (fun o ho=>hns o (List.mem_cons_of_mem _ ho)) hv hst hids1 (ziA hR hso h1).2 (by rw[hsv.1];exact zkY L o h2) (by rw[hsv.1];exact hsp1) hnr1
  refine⟨⟨o,t.s,t1.s,base,st,st1⟩::tr,fun|0=>t|n+1=>ts n,by simp[k1],fun r hr=>?_,fun r hr=>?_,fun j r r' hr hr'=>?_,fun r hr=>?_,fun h=>(by cases h),k7,k8,k9,k10,k11,rfl,by simpa using k13,fun j r hr=>?_⟩
  ·rcases List.mem_cons.1 hr with rfl|hr
   ·exact⟨hR,hst1,hids,h1,h2,h3,h4⟩
   ·exact k2 r hr
  ·simp at hr
   subst hr;exact⟨rfl,rfl,rfl⟩
  ·match j with
   | 0 =>
    simp at hr hr'
    subst hr;obtain⟨e1,e2,e3⟩:=k3 r' hr';exact⟨e1,e2,e3⟩
   | j+1=>exact k4 j r r' (by simpa using hr) (by simpa using hr')
  ·cases htr:tr with
   | nil =>
    rw[htr] at hr;simp at hr
    subst hr;exact k6 htr
   | cons x l =>
    rw[htr] at hr;rw[List.getLast?_cons_cons] at hr;exact k5 r (by rw[htr];exact hr)
  ·match j with
   | 0 =>
    simp at hr
    subst hr;simp only[k12];exact⟨trivial,trivial,hv1⟩
   | j+1=>exact k14 j r (by simpa using hr)
variable {tr:List Rec}{s0 sm:VS}{t0 tm:Stt}{b0:Nat}{D:Nat→Prop}
theorem InvD.off {m:Array Value} (hI:InvD L S tr s0 sm t0 tm b0 D p w m Own) (he:Evo (·=b) p w p w1) (hs:w1.heap.size=w.heap.size) (hb:¬Own b) (hnr:zeD sm):InvD L S tr s0 sm t0 tm b0 D p w1 m Own:=by
 obtain⟨val,hpl,hal,hown,hap⟩:=hI.rooms;have hbox:∀d cs,Vis tr D d→sm.get d=.box cs→m.getD d undef≠.pointer (some ⟨b,0,none⟩):=fun d cs hv hd e=>by
  obtain⟨c,e1,_,h1,_⟩:=hI.box d cs hv hd;rw[e] at e1;cases e1;exact hb h1
 have hzp:Zp p w1:=⟨fun c hc=>hI.zp.1 c (by rw[←hs];exact hc),fun c hc=>hI.zp.2 c (by rw[←hs];exact hc)⟩
 refine⟨hI.size,fun t ht=>?_,hzp,fun c hc=>hI.own c (by rw[←hs];exact hc),fun d cs hv hd=>?_,hI.boxd,hI.ate,val,fun z id hm hv=>?_,fun id k hm=>?_,hown,hap⟩
 ·obtain⟨g1,g2⟩:=hI.slots t ht
  refine⟨zeH he (fun cs hcs c hc e=>by subst e;exact hbox t cs ht hcs hc) (fun k rows hk=>absurd hk (hnr.2.1 t k rows)) g1,fun r hr=>?_⟩
  have:=g2 r hr
  cases r with
  | ref cs=>exact PRef.evo he this
  | box d off=>exact this
  | el d k n j=>exact this
 ·obtain⟨c,h1,h2,h3,h4⟩:=hI.box d cs hv hd
  exact⟨c,h1,h2,h3,by rw[hs];exact h4⟩
 ·obtain⟨h1,h2,h3⟩:=hpl z id hm hv
  refine⟨?_,h2,h3⟩
  have hsl:=(hI.slots z.1 hv).1
  cases hx:sm.get z.1 with
  | und=>exact absurd hx h2
  | v x=>rw[hx] at hsl;rw[zbm hsl] at h1 ⊢;exact h1
  | tup xs=>rw[hx] at hsl;obtain⟨arr,e,_⟩:=hsl;rw[e] at h1 ⊢;exact h1
  | al d=>rw[hx] at hsl;obtain⟨_,_,_,e⟩:=hsl;rw[e] at h1 ⊢;exact h1
  | arr k rows=>exact absurd hx (hnr.2.1 z.1 k rows)
  | box cs =>
   obtain⟨c,e,_,h3,hlt⟩:=hI.box z.1 cs hv hx;rw[e] at h1 ⊢;show w1.cell? ⟨c,z.2,none⟩=_
   rw[World.cell?_of_block (w:=w) (he.block c hlt (fun e=>hb (by rw[←e];exact h3)))]
   exact h1
 ·exact(hal id k hm).evo he (fun c hc e=>by subst e;exact hb (hown id k _ hm hc).1)
def zB5 (o:Oper):Bool:=match o.op with
 | .call _=>true
 | _=>false
def zlR:Nat→List Oper→Oper→Nat→Bool
 | 0,_,o,i=>zcx o i
 | n+1,ops,o,i=>zcx o i||(List.range ops.length).any fun k=>zcx o k&&match ops[k]? with
  | some o'=>zB5 o'&&zlR n ops o' i
  | none=>false
def zul (T:Nat→Bool) (ops:List Oper):Bool:=ops.zipIdx.all fun e=>!zgu T e.1||(List.range e.2).all fun i=>match ops[i]? with
 | some o=>!zgu T o||zlR 8 ops e.1 i
 | none=>true
theorem zvk {ops:List Oper} (h:zul T ops=true):∀(i j:Nat) (o o':Oper),i<j→ops[i]?=some o→ops[j]?=some o'→zgu T o=true→zgu T o'=true→zlR 8 ops o' i=true:=by
 intro i j o o' hij hi hj h1 h2;unfold zul at h;have:=List.all_eq_true.1 h _ (zc1 hj)
 simp only[h2,Bool.not_true,Bool.false_or,List.all_eq_true,List.mem_range] at this;have:=this i hij
 rw[hi] at this
 simpa [h1] using this
theorem zq8 {ops:List Oper}{D:Nat→Prop} (hcl:∀(k:Nat) (o:Oper),ops[k]?=some o→D k→∀i,zcx o i=true→D i):∀(n:Nat) (o:Oper) (i:Nat),zlR n ops o i=true→(∀k,zcx o k=true→D k)→D i
 | 0,o,i,h,hw=>hw i h
 | n+1,o,i,h,hw=>by
  simp only[zlR,Bool.or_eq_true,List.any_eq_true,Bool.and_eq_true] at h;rcases h with h|⟨k,_,h1,h2⟩
  ·exact hw i h
  ·split at h2
   ·rename_i o' ho
    rw[Bool.and_eq_true] at h2;exact zq8 hcl n o' i h2.2 (fun m hm=>hcl k o' ho (hw k h1) m hm)
   ·cases h2
theorem zsL (h:zc3 (zaK L call) L T ct all o t=some t'):(zgu T o=false→t'.q=t.q)∧(t'.tk=zgT o.dst t.tk∨∃d,o.dst=some d∧zld L t.tk o=true∧t'.tk=d::t.tk∧zfc (zaK L call) L T ct o t=some t'):=by
 have hv:∀t',zfc (zaK L call) L T ct o t=some t'→(zgu T o=false→t'.q=t.q)∧(t'.tk=zgT o.dst t.tk∨∃d,o.dst=some d∧zld L t.tk o=true∧t'.tk=d::t.tk∧zfc (zaK L call) L T ct o t=some t'):=fun t' h=>by
  have h0:=h
  unfold zfc at h;split at h
  ·rename_i hT
   simp only[zzOm] at h;obtain⟨r,_,rfl⟩:=h;exact⟨(fun e=>by rw[e] at hT;cases hT),.inl rfl⟩
  ·split at h
   ·rename_i hto
    split at h
    ·rename_i d hd
     cases h;exact⟨fun _=>rfl,.inr ⟨d,hd,hto,rfl,h0⟩⟩
    ·cases h
   ·simp only[zzOm] at h
    obtain⟨s',_,rfl⟩:=h;exact⟨fun _=>rfl,.inl rfl⟩
 unfold zc3 at h;split at h
 ·exact hv t' h
 ·simp only[zzOb] at h
  obtain⟨u,hu,h⟩:=h;cases u with
  | true=>exact hv t' h
  | false =>
   simp only[Bool.false_eq_true,if_false,Option.some.injEq] at h;subst h;exact⟨fun _=>rfl,.inl rfl⟩
theorem zlY {ts:Nat→TS} (hts:∀(j:Nat) (r:Rec),tr[j]?=some r→zc3 (zaK L call) L T ct all r.o (ts j)=some (ts (j+1))) {x:Nat}:∀(k i:Nat),i+k≤tr.length→(∀(y:Nat) (r:Rec),i≤y→y<i+k→tr[y]?=some r→r.o.dst≠some x)→(x∈(ts (i+k)).tk↔x∈(ts i).tk)
 | 0,i,_,_=>Iff.rfl
 | k+1,i,hle,hd=>by
  have ih:=zlY hts (x:=x) k i (by omega) (fun y r h1 h2 hr=>hd y r h1 (by omega) hr)
  obtain⟨r,hr⟩:∃r,tr[i+k]?=some r:=⟨tr[i+k]'(by omega),List.getElem?_eq_getElem _⟩
  rw[←ih,show i+(k+1)=i+k+1 by omega]
  have hne:=hd (i+k) r (by omega) (by omega) hr
  rcases(zsL (hts _ r hr)).2 with h|⟨d,hd',_,h,_⟩
  ·rw[h]
   constructor
   ·intro hx;exact(zjA hx).1
   ·intro hx
    unfold zgT;split
    ·rename_i d hdd
     rw[List.mem_filter];refine⟨hx,?_⟩
     simp only[Bool.not_eq_true'];cases hb:Nat.beq x d with
     | false=>rfl
     | true=>exact absurd (by rw[hdd,Nat.eq_of_beq_eq_true hb]) hne
    ·exact hx
  ·rw[h,List.mem_cons]
   constructor
   ·rintro(rfl|hx)
    ·exact absurd hd' hne
    ·exact hx
   ·exact .inr
theorem zsq {ts:Nat→TS} (hts:∀(j:Nat) (r:Rec),tr[j]?=some r→zc3 (zaK L call) L T ct all r.o (ts j)=some (ts (j+1))):∀(k i:Nat),i+k≤tr.length→(∀(y:Nat) (r:Rec),i≤y→y<i+k→tr[y]?=some r→zgu T r.o=false)→(ts (i+k)).q=(ts i).q
 | 0,i,_,_=>rfl
 | k+1,i,hle,hd=>by
  have ih:=zsq hts k i (by omega) (fun y r h1 h2 hr=>hd y r h1 (by omega) hr)
  obtain⟨r,hr⟩:∃r,tr[i+k]?=some r:=⟨tr[i+k]'(by omega),List.getElem?_eq_getElem _⟩
  rw[←ih,show i+(k+1)=i+k+1 by omega]
  exact(zsL (hts _ r hr)).1 (hd (i+k) r (by omega) (by omega) hr)
end
end
end Go.Proofs.Ytcpcagdialnbeaa
