/- Generic texts and models for the proofs of this seat: part 4. -/
import Derived.Test.YtcpcagdialnbeaaY03
import Derived.Below
import Derived.ArgAppend
import Derived.Laws.MakeOwn
import Derived.Laws.Rows
import Derived.Lib.Hide
set_option linter.unusedVariables false
set_option linter.unusedSimpArgs false
namespace Go.Proofs.Ytcpcagdialnbeaa
section
open Go Go.RowKit
structure Stb where
 f:Nat→Nat
 ok:Nat→Nat→Prop
instance:CoeFun Stb fun _=>Nat→Nat:=⟨Stb.f⟩
inductive Rep (p:Stb) (w:World):Value→AC→Prop
 | int (n:Int):Rep p w (.int .i64 n) (.int n)
 | bool (b:Bool):Rep p w (.bool b) (.bool b)
 | nil (a:Option Addr) (k:Nat):Rep p w (.slice a 0 0) (.sl k [])
 | sl (b o cap k:Nat) (rows:List (List AC)) (f:Nat→Nat→Value) (hk:0<k) (hrows:∀r∈rows,r.length=k) (hb:b<w.heap.size)
   (hp:o+rows.length*k≤p b) (hok:p.ok b k) (hcap:rows.length≤cap)
   (hc:∀i j c,(rows.getD i [])[j]?=some c→w.cell? ⟨b,o+i*k+j,none⟩=some (f i j))
   (hr:∀i j c,(rows.getD i [])[j]?=some c→Rep p w (f i j) c):Rep p w (.slice (some ⟨b,o,none⟩) rows.length cap) (.sl k rows)
structure Evo (B:Nat→Prop) (p:Stb) (w:World) (p':Stb) (w':World):Prop where
 os:w'.os=w.os
 tape:w'.tape=w.tape
 output:w'.output=w.output
 size:w.heap.size≤w'.heap.size
 block:∀b,b<w.heap.size→¬B b→w'.heap[b]?=w.heap[b]?
 keepP:∀b,b<w.heap.size→p b≤p' b
 same:∀b,b<w.heap.size→¬B b→p' b=p b
 stable:∀b o,b<w.heap.size→o<p b→w'.cell? ⟨b,o,none⟩=w.cell? ⟨b,o,none⟩
 okk:∀b,b<w.heap.size→p'.ok b=p.ok b
 uq:∀b,w.heap.size≤b→b<w'.heap.size→∀i j,p'.ok b i→p'.ok b j→i=j
theorem Evo.refl (B:Nat→Prop) (p:Stb) (w:World):Evo B p w p w:=⟨rfl,rfl,rfl,Nat.le_refl _,fun _ _ _=>rfl,fun _ _=>Nat.le_refl _,fun _ _ _=>rfl,fun _ _ _ _=>rfl,fun _ _=>rfl,fun _ h1 h2=>absurd h1 (Nat.not_le.2 h2)⟩
theorem Evo.trans {B B' C:Nat→Prop}{p p' p'':Stb}{w w' w'':World} (h:Evo B p w p' w') (k:Evo B' p' w' p'' w'')
  (h1:∀b,b<w.heap.size→B b→C b) (h2:∀b,b<w.heap.size→B' b→C b):Evo C p w p'' w'' :=
 ⟨k.os.trans h.os,k.tape.trans h.tape,k.output.trans h.output,Nat.le_trans h.size k.size,
  fun b hb hC=>(k.block b (Nat.lt_of_lt_of_le hb h.size) (fun e=>hC (h2 b hb e))).trans (h.block b hb (fun e=>hC (h1 b hb e))),
  fun b hb=>Nat.le_trans (h.keepP b hb) (k.keepP b (Nat.lt_of_lt_of_le hb h.size)),
  fun b hb hC=>(k.same b (Nat.lt_of_lt_of_le hb h.size) (fun e=>hC (h2 b hb e))).trans (h.same b hb (fun e=>hC (h1 b hb e))),
  fun b o hb ho=>(k.stable b o (Nat.lt_of_lt_of_le hb h.size) (Nat.lt_of_lt_of_le ho (h.keepP b hb))).trans (h.stable b o hb ho),fun b hb=>(k.okk b (Nat.lt_of_lt_of_le hb h.size)).trans (h.okk b hb),fun b h1 h2 i j hi hj=>by
   rcases Nat.lt_or_ge b w'.heap.size with hlt|hge
   ·rw[k.okk b hlt] at hi hj
    exact h.uq b h1 hlt i j hi hj
   ·exact k.uq b hge h2 i j hi hj⟩
theorem Evo.weaken {B C:Nat→Prop}{p p':Stb}{w w':World} (h:Evo B p w p' w') (h1:∀b,b<w.heap.size→B b→C b):Evo C p w p' w' :=
 ⟨h.os,h.tape,h.output,h.size,fun b hb hC=>h.block b hb (fun e=>hC (h1 b hb e)),h.keepP,fun b hb hC=>h.same b hb (fun e=>hC (h1 b hb e)),h.stable,h.okk,h.uq⟩
theorem Evo.drew {B:Nat→Prop}{p p':Stb}{w w':World} (h:Evo B p w p' w'):Evo B p w p' w'.drew :=
 ⟨h.os,h.tape,h.output,h.size,h.block,h.keepP,h.same,h.stable,h.okk,h.uq⟩
theorem Rep.evo {B:Nat→Prop}{p p':Stb}{w w':World} (h:Evo B p w p' w') {v:Value}{c:AC} (hr:Rep p w v c):Rep p' w' v c:=by
 induction hr with
 | int n=>exact .int n
 | bool b=>exact .bool b
 | nil a k=>exact .nil a k
 | sl b o cap k rows f hk hrows hb hp hok hcap hc _ ih =>
  refine .sl b o cap k rows f hk hrows (Nat.lt_of_lt_of_le hb h.size) (Nat.le_trans hp (h.keepP b hb)) (by rw[h.okk b hb];exact hok) hcap (fun i j c hx=>?_) ih
  rw[h.stable b _ hb ?_]
  ·exact hc i j c hx
  ·have hi:i<rows.length:=by
    rcases Nat.lt_or_ge i rows.length with hi|hi
    ·exact hi
    ·simp[List.getD,List.getElem?_eq_none hi] at hx
   have hj:j<k:=by
    have hm:rows.getD i []∈rows:=by simp[List.getD,List.getElem?_eq_getElem hi]
    rw[←hrows _ hm];exact(List.getElem?_eq_some_iff.1 hx).1
   have:i*k+k≤rows.length*k:=by rw[←Nat.succ_mul];exact Nat.mul_le_mul_right _ hi
   omega
def RepL (p:Stb) (w:World):List Value→List AC→Prop
 | [],[]=>True
 | v::vs,c::cs=>Rep p w v c∧RepL p w vs cs
 | _,_=>False
theorem RepL.evo {B:Nat→Prop}{p p':Stb}{w w':World} (h:Evo B p w p' w'):∀{vs:List Value}{cs:List AC},RepL p w vs cs→RepL p' w' vs cs
 | [],[],_=>trivial
 | _::_,_::_,⟨a,b⟩=>⟨a.evo h,RepL.evo h b⟩
theorem RepL.length {p:Stb}{w:World}:∀{vs:List Value}{cs:List AC},RepL p w vs cs→vs.length=cs.length
 | [],[],_=>rfl
 | _::_,_::_,⟨_,b⟩=>by simp[RepL.length b]
theorem RepL.get {p:Stb}{w:World}:∀{vs:List Value}{cs:List AC},RepL p w vs cs→∀{j:Nat}{c:AC},cs[j]?=some c→∃v,vs[j]?=some v∧Rep p w v c
 | [],[],_,j,c,h=>by simp at h
 | v::_,_::_,⟨a,_⟩,0,c,h=>by simp at h;subst h;exact⟨v,rfl,a⟩
 | _::_,_::_,⟨_,b⟩,j+1,c,h=>by simpa using RepL.get b (by simpa using h)
theorem RepL.of {p:Stb}{w:World}:∀{vs:List Value}{cs:List AC},vs.length=cs.length→(∀(j:Nat) (v:Value) (c:AC),vs[j]?=some v→cs[j]?=some c→Rep p w v c)→RepL p w vs cs
 | [],[],_,_=>trivial
 | v::vs,c::cs,hl,h=>⟨h 0 v c rfl rfl,RepL.of (by simpa using hl) fun j v c hv hc=>h (j+1) v c (by simpa using hv) (by simpa using hc)⟩
theorem RepL.take {p:Stb}{w:World}:∀{vs:List Value}{cs:List AC} (n:Nat),RepL p w vs cs→RepL p w (vs.take n) (cs.take n)
 | _,_,0,_=>by simp[RepL]
 | [],[],n+1,h=>h
 | _::_,_::_,n+1,⟨a,b⟩=>⟨a,RepL.take n b⟩
theorem RepL.drop {p:Stb}{w:World}:∀{vs:List Value}{cs:List AC} (n:Nat),RepL p w vs cs→RepL p w (vs.drop n) (cs.drop n)
 | _,_,0,h=>by simpa using h
 | [],[],n+1,h=>h
 | _::_,_::_,n+1,⟨_,b⟩=>by simpa using RepL.drop n b
theorem RepL.append {p:Stb}{w:World}:∀{vs us:List Value}{cs ds:List AC},RepL p w vs cs→RepL p w us ds→RepL p w (vs++us) (cs++ds)
 | [],_,[],_,_,h=>h
 | _::_,_,_::_,_,⟨a,b⟩,h=>⟨a,RepL.append b h⟩
theorem RepL.set {p:Stb}{w:World}{v:Value}{c:AC} (hv:Rep p w v c):∀{vs:List Value}{cs:List AC} (j:Nat),RepL p w vs cs→RepL p w (vs.set j v) (cs.set j c)
 | [],[],_,h=>h
 | _::_,_::_,0,⟨_,b⟩=>⟨hv,b⟩
 | _::_,_::_,j+1,⟨a,b⟩=>⟨a,RepL.set hv j b⟩
def RepS (p:Stb) (w:World) (v:Value):SV→Prop
 | .cell c=>Rep p w v c
 | .agg cs=>∃a,v=.agg a∧RepL p w a.toList cs
theorem RepS.evo {B:Nat→Prop}{p p':Stb}{w w':World} (h:Evo B p w p' w') {v:Value}:∀{x:SV},RepS p w v x→RepS p' w' v x
 | .cell _,hr=>Rep.evo h hr
 | .agg _,⟨a,e,hr⟩=>⟨a,e,hr.evo h⟩
theorem Rep.cells {p:Stb}{w:World}{v:Value}{c:AC} (h:Rep p w v c):v.cells=#[v]:=by cases h <;> rfl
theorem Rep.oneCell {p:Stb}{w:World}{v:Value}{c:AC} (h:Rep p w v c):v.oneCell'=true:=by cases h <;> rfl
theorem RepL.oneCell {p:Stb}{w:World}:∀{vs:List Value}{cs:List AC},RepL p w vs cs→∀u∈vs,u.oneCell'=true
 | [],[],_,_,h=>by cases h
 | _::_,_::_,⟨a,b⟩,u,h=>by
  rcases List.mem_cons.1 h with rfl|h
  ·exact a.oneCell
  ·exact RepL.oneCell b u h
theorem RepS.cells {p:Stb}{w:World}{v:Value}{x:SV} (h:RepS p w v x):RepL p w v.cells.toList x.cells:=by
 cases x with
 | cell c=>rw[Rep.cells h];exact⟨h,trivial⟩
 | agg cs=>obtain⟨a,rfl,h⟩:=h;exact h
def RepSs (p:Stb) (w:World):List Value→List SV→Prop
 | [],[]=>True
 | v::vs,c::cs=>RepS p w v c∧RepSs p w vs cs
 | _,_=>False
theorem RepSs.evo {B:Nat→Prop}{p p':Stb}{w w':World} (h:Evo B p w p' w'):∀{vs:List Value}{cs:List SV},RepSs p w vs cs→RepSs p' w' vs cs
 | [],[],_=>trivial
 | _::_,_::_,⟨a,b⟩=>⟨a.evo h,RepSs.evo h b⟩
theorem RepSs.length {p:Stb}{w:World}:∀{vs:List Value}{cs:List SV},RepSs p w vs cs→vs.length=cs.length
 | [],[],_=>rfl
 | _::_,_::_,⟨_,b⟩=>by simp[RepSs.length b]
theorem RepSs.get {p:Stb}{w:World}:∀{vs:List Value}{cs:List SV},RepSs p w vs cs→∀{j:Nat}{c:SV},cs[j]?=some c→∃v,vs[j]?=some v∧RepS p w v c
 | [],[],_,j,c,h=>by simp at h
 | v::_,_::_,⟨a,_⟩,0,c,h=>by simp at h;subst h;exact⟨v,rfl,a⟩
 | _::_,_::_,⟨_,b⟩,j+1,c,h=>by simpa using RepSs.get b (by simpa using h)
def SR (p:Stb) (w:World) (v:Value):AV→Prop
 | .und=>∀b,v≠.bool b
 | .v x=>RepS p w v x
 | .tup xs=>∃a,v=.tuple a∧RepSs p w a.toList xs
 | .box cs=>∃b a T,v=.pointer (some ⟨b,0,none⟩)∧w.heap[b]?=some (.cells a T (0,0))∧RepL p w a.toList cs
 | .arr k rows=>0<k∧(∀r∈rows,r.length=k)∧((v=.slice none 0 0∧rows=[])∨∃b o cap a T us,v=.slice (some ⟨b,o,none⟩) rows.length cap∧((p.ok b k∧∀j,p.ok b j→j=k)∧rows.length≤cap∧o+cap*k≤a.size)∧w.heap[b]?=some (.cells a T (0,0)) ∧
   us.length=rows.length*k∧RepL p w us rows.flatten∧∀(j:Nat) (u:Value),us[j]?=some u→a[o+j]?=some u)
 | .al _=>∃a l c,v=.slice a l c
def zar:Value→Option Nat
 | .slice (some a) _ _=>some a.block
 | _=>none
theorem SR.evo {B:Nat→Prop}{p p':Stb}{w w':World} (h:Evo B p w p' w') {v:Value}:∀{x:AV},(∀cs,x=.box cs→∀b,v=.pointer (some ⟨b,0,none⟩)→¬B b)→(∀k r,x=.arr k r→∀b,zar v=some b→¬B b)→SR p w v x→SR p' w' v x
 | .und,_,_,h=>h
 | .al _,_,_,h=>h
 | .v _,_,_,hr=>RepS.evo h hr
 | .tup _,_,_,⟨a,e,hr⟩=>⟨a,e,hr.evo h⟩
 | .arr _ _,_,hA,⟨hk,hl,hr⟩=>⟨hk,hl,by
   rcases hr with hr|⟨b,o,cap,a,T,us,e,hc,hh,h1,h2,h3⟩
   ·exact .inl hr
   ·have hlt:b<w.heap.size:=by
     rcases Nat.lt_or_ge b w.heap.size with hlt|hge
     ·exact hlt
     ·rw[Array.getElem?_eq_none hge] at hh;cases hh
    exact .inr ⟨b,o,cap,a,T,us,e,⟨(by rw[h.okk b hlt];exact hc.1),hc.2⟩,by rw[h.block b hlt (hA _ _ rfl b (by rw[e];rfl))];exact hh,h1,h2.evo h,h3⟩⟩
 | .box _,hB,_,⟨b,a,T,e,hh,hr⟩=>⟨b,a,T,e,by
   have hlt:b<w.heap.size:=by
    rcases Nat.lt_or_ge b w.heap.size with hlt|hge
    ·exact hlt
    ·rw[Array.getElem?_eq_none hge] at hh;cases hh
   rw[h.block b hlt (hB _ rfl b e)];exact hh,hr.evo h⟩
end
section
open Go Go.RowKit
def ZV:Value→AC→Bool
 | .int .i64 n,.int m=>n==0&&m==0
 | .bool b,.bool c=>!b&&!c
 | .slice none l c,.sl _ r=>l==0&&c==0&&r.isEmpty
 | _,_=>false
def ZL:List Value→List AC→Bool
 | [],[]=>true
 | v::vs,c::cs=>ZV v c&&ZL vs cs
 | _,_=>false
theorem ZV.rep {v:Value}{c:AC} (h:ZV v c=true) (p:Stb) (w:World):Rep p w v c:=by
 unfold ZV at h;split at h
 ·simp at h;obtain⟨rfl,rfl⟩:=h;exact .int 0
 ·simp at h;obtain⟨rfl,rfl⟩:=h;exact .bool false
 ·simp at h;obtain⟨⟨rfl,rfl⟩,rfl⟩:=h;exact .nil _ _
 ·cases h
theorem ZL.rep:∀{vs:List Value}{cs:List AC},ZL vs cs=true→∀(p:Stb) (w:World),RepL p w vs cs
 | [],[],_,_,_=>trivial
 | _::_,_::_,h,p,w=>by
  simp only[ZL,Bool.and_eq_true] at h;exact⟨ZV.rep h.1 p w,ZL.rep h.2 p w⟩
structure TOk (P:Program) (t:Nat) (i:TI):Prop where
 info:∃inf z,P.info? t=some inf∧inf.size=i.size∧inf.bytes≤2048∧inf.zero=some z∧ZL z.cells.toList i.zero=true∧z.cells.size=i.size
 int:i.kind=0→P.underlying t=some (.int .i64)
 bool:i.kind=1→P.underlying t=some .bool
 slice:i.kind=2→P.underlying t=some (.slice i.elem)
 struct:i.kind=3→∃fs,P.underlying t=some (.struct fs)∧fs.size=i.fields.length ∧
  ∀(f o n:Nat),i.fields[f]?=some (o,n)→∃(fd:Field) (fi:TypeInfo),fs[f]?=some fd∧fd.offset=o∧P.info? fd.type=some fi∧fi.size=n∧n≠0
 kinds:i.kind≤3
 one:i.kind≠3→i.size=1
def zuE (P:Program):List Field→List (Nat×Nat)→Bool
 | [],[]=>true
 | f::fs,(o,n)::r=>(f.offset==o&&(match P.info? f.type with|some i=>i.size==n|none=>false)&&!(n==0))&&zuE P fs r
 | _,_=>false
def zA4 (P:Program) (t:Nat) (i:TI):Bool :=
 (match P.info? t with
 | some inf=>inf.size==i.size&&decide (inf.bytes≤2048)&&(match inf.zero with|some z=>ZL z.cells.toList i.zero&&z.cells.size==i.size|none=>false)
 | none=>false) &&
 (match P.underlying t with
 | some (.int .i64)=>i.kind==0&&i.size==1
 | some .bool=>i.kind==1&&i.size==1
 | some (.slice e)=>i.kind==2&&i.size==1&&i.elem==e
 | some (.struct fs)=>i.kind==3&&zuE P fs.toList i.fields
 | _=>false)
theorem ztH {P:Program}:∀{fs:List Field}{r:List (Nat×Nat)},zuE P fs r=true→fs.length=r.length
 | [],[],_=>rfl
 | _::fs,_::r,h=>by simp only[zuE,Bool.and_eq_true] at h;simp[ztH h.2]
theorem ztV {P:Program}:∀{fs:List Field}{r:List (Nat×Nat)},zuE P fs r=true→∀{f o n:Nat},r[f]?=some (o,n) →
  ∃(fd:Field) (fi:TypeInfo),fs[f]?=some fd∧fd.offset=o∧P.info? fd.type=some fi∧fi.size=n∧n≠0
 | [],[],_,f,o,n,h=>by simp at h
 | g::fs,(o',n')::r,h,0,o,n,hr=>by
  simp at hr
  obtain⟨rfl,rfl⟩:=hr;simp only[zuE,Bool.and_eq_true] at h;obtain⟨⟨⟨h1,h2⟩,h3⟩,_⟩:=h;cases hi:P.info? g.type with
  | none=>rw[hi] at h2;cases h2
  | some fi=>rw[hi] at h2;exact⟨g,fi,rfl,by simpa using h1,hi,by simpa using h2,by simpa using h3⟩
 | _::fs,_::r,h,f+1,o,n,hr=>by
  simp only[zuE,Bool.and_eq_true] at h
  simpa using ztV h.2 (by simpa using hr)
theorem zAu {P:Program}{t:Nat}{i:TI} (h:zA4 P t i=true):TOk P t i:=by
 unfold zA4 at h;rw[Bool.and_eq_true] at h;obtain⟨h1,h2⟩:=h;have hinfo:∃inf z,P.info? t=some inf∧inf.size=i.size∧inf.bytes≤2048∧inf.zero=some z∧ZL z.cells.toList i.zero=true∧z.cells.size=i.size:=by
  cases hi:P.info? t with
  | none=>rw[hi] at h1;cases h1
  | some inf =>
   rw[hi] at h1;simp only[Bool.and_eq_true,decide_eq_true_eq,beq_iff_eq] at h1;obtain⟨⟨a,b⟩,c⟩:=h1;cases hz:inf.zero with
   | none=>rw[hz] at c;cases c
   | some z=>rw[hz] at c;simp only[Bool.and_eq_true,beq_iff_eq] at c;exact⟨inf,z,rfl,a,b,hz,c.1,c.2⟩
 split at h2
 ·rename_i hu
  simp only[Bool.and_eq_true,beq_iff_eq] at h2;exact⟨hinfo,fun _=>hu,fun e=>by omega,fun e=>by omega,fun e=>by omega,by omega,fun _=>h2.2⟩
 ·rename_i hu
  simp only[Bool.and_eq_true,beq_iff_eq] at h2;exact⟨hinfo,fun e=>by omega,fun _=>hu,fun e=>by omega,fun e=>by omega,by omega,fun _=>h2.2⟩
 ·rename_i e hu
  simp only[Bool.and_eq_true,beq_iff_eq] at h2;exact⟨hinfo,fun e=>by omega,fun e=>by omega,fun _=>by rw[h2.2];exact hu,fun e=>by omega,by omega,fun _=>h2.1.2⟩
 ·rename_i fs hu
  simp only[Bool.and_eq_true,beq_iff_eq] at h2;refine⟨hinfo,fun e=>by omega,fun e=>by omega,fun e=>by omega,fun _=>⟨fs,hu,by simpa using ztH h2.2,fun f o n hf=>?_⟩,by omega,fun e=>absurd h2.1 e⟩
  simpa using ztV h2.2 hf
 ·cases h2
def LayOk (P:Program) (L:Lay):Prop:=∀t i,L.ti t=some i→TOk P t i
def zB6 (P:Program) (L:Lay):Bool:=L.tys.all fun e=>zA4 P e.1 e.2
theorem za2 {β:Type}{t:Nat}{i:β}:∀{l:List (Nat×β)},l.lookup t=some i→(t,i)∈l
 | [],h=>by cases h
 | (u,j)::l,h=>by
  simp only[List.lookup] at h;split at h
  ·rename_i he
   cases h;rw[show t=u by simpa using he]
   exact List.mem_cons_self
  ·exact List.mem_cons_of_mem _ (za2 h)
theorem zvT {P:Program}{L:Lay} (h:zB6 P L=true):LayOk P L:=fun t i hi=>by
 have:(t,i)∈L.tys:=by
  unfold Lay.ti at hi;exact za2 hi
 exact zAu (by simpa using List.all_eq_true.1 h _ this)
theorem LayOk.el {P:Program}{L:Lay} (h:LayOk P L) {t:Nat}{e:TI} (he:L.el t=some e):∃u,P.underlying t=some (.slice u)∧TOk P u e:=by
 unfold Lay.el at he;simp only[zzOb] at he;obtain⟨i,h1,h2⟩:=he;split at h2
 ·rename_i hk
  exact⟨i.elem,(h t i h1).slice hk,h _ _ h2⟩
 ·cases h2
def PRef (p:Stb) (w:World) (v:Value) (cs:List AC):Prop :=
 ∃b o,v=.pointer (some ⟨b,o,none⟩)∧b<w.heap.size∧o+cs.length≤p b∧∀j c,cs[j]?=some c→∃u,w.cell? ⟨b,o+j,none⟩=some u∧Rep p w u c
theorem PRef.evo {B:Nat→Prop}{p p':Stb}{w w':World} (h:Evo B p w p' w') {v:Value}{cs:List AC}:PRef p w v cs→PRef p' w' v cs
 | ⟨b,o,e,hb,hp,hc⟩=>⟨b,o,e,Nat.lt_of_lt_of_le hb h.size,Nat.le_trans hp (h.keepP b hb),fun j c hj=>by
   obtain⟨u,hu,hr⟩:=hc j c hj;have:=(List.getElem?_eq_some_iff.1 hj).1
   exact⟨u,by rw[h.stable b _ hb (by omega)];exact hu,hr.evo h⟩⟩
def zvd (p:Stb) (w:World) (m:Array Value) (v:Value):Ptr→Prop
 | .ref cs=>PRef p w v cs
 | .box d off=>∃b,m.getD d undef=.pointer (some ⟨b,0,none⟩)∧v=.pointer (some ⟨b,off,none⟩)
 | .el d k n j=>∃b o len cap,m.getD d undef=.slice (some ⟨b,o,none⟩) len cap∧v=.pointer (some ⟨b,o+n*k+j,none⟩)
def zcM (p:Stb) (w:World) (m:Array Value) (s:VS) (t:Nat):Prop :=
 SR p w (m.getD t undef) (s.get t)∧∀q,s.pe.lookup t=some q→zvd p w m (m.getD t undef) q
def looks (s:VS):Operand→List Nat
 | .tmp t=>match s.pe.lookup t with
  | some (.box d _)=>[t,d]
  | _=>[t]
 | _=>[]
theorem zfU (s:VS) (i:Nat):i∈looks s (.tmp i):=by
 show i∈(match s.pe.lookup i with|some (.box d _)=>[i,d]|_=>[i])
 split <;> simp
theorem zvg {s:VS}{i d off:Nat} (h:s.pe.lookup i=some (.box d off)):d∈looks s (.tmp i):=by
 show d∈(match s.pe.lookup i with|some (.box d _)=>[i,d]|_=>[i])
 rw[h];simp
def zcK (p:Stb) (w:World) (m:Array Value) (s:VS) (x:Operand):Prop:=∀t∈looks s x,zcM p w m s t
section
variable {L:Lay}{p:Stb}{w:World}{a:Act}{s:VS}
theorem zt7 {t:Nat}{v:Value}{x:SV} (h:zsj L t v=some x):RepS p w v x:=by
 unfold zsj at h;split at h
 ·cases h;exact .int _
 ·cases h;exact .bool _
 ·simp only[zzOm] at h
  obtain⟨e,_,rfl⟩:=h;exact .nil _ _
 ·cases h
theorem zcV {t:Nat}{x:Operand}{v:SV} (h:zhl L s t x=some v) (hs:zcK p w a.tmps s x):RepS p w (a.eval x) v:=by
 cases x with
 | tmp i =>
  have h1:zcM p w a.tmps s i:=hs i (zfU s i)
  simp only[zhl] at h;split at h
  ·rename_i y hy
   cases h;have h2:=h1.1
   rw[hy] at h2;exact h2
  ·cases h
 | const c=>exact zt7 h
 | global g=>cases h
 | func f=>cases h
theorem zw8 {t:Nat}{x:Operand}{v:AV} (h:zl0 L s t x=some v) (hs:zcK p w a.tmps s x):SR p w (a.eval x) v:=by
 cases x with
 | tmp i =>
  have h1:zcM p w a.tmps s i:=hs i (zfU s i)
  have h2:=h1.1
  simp only[zl0] at h;split at h
  ·rename_i y hy
   cases h;rw[hy] at h2;exact h2
  ·rename_i y hy
   cases h;rw[hy] at h2;exact h2
  ·cases h
 | _ =>
  simp only[zl0,zzOm] at h;obtain⟨y,hy,rfl⟩:=h;exact zcV hy hs
theorem znx {t:Nat}{x:Operand}{v:AV} (h:zl0 L s t x=some v):zbH v=false∧(∀cs,v≠.box cs)∧v≠.und:=by
 have fin:(∃y,v=.v y)∨(∃ys,v=.tup ys):=by
  cases x with
  | tmp i =>
   simp only[zl0] at h;split at h
   ·cases h;exact .inl ⟨_,rfl⟩
   ·cases h;exact .inr ⟨_,rfl⟩
   ·cases h
  | _ =>
   simp only[zl0,zzOm] at h;obtain⟨y,_,rfl⟩:=h;exact .inl ⟨_,rfl⟩
 rcases fin with ⟨y,rfl⟩|⟨ys,rfl⟩ <;> exact⟨rfl,(fun _ h=>by cases h),(fun h=>by cases h)⟩
theorem zdG {x:Operand}{n:Int} (h:ze9 L s x=some n) (hs:zcK p w a.tmps s x):a.eval x=.int .i64 n:=by
 unfold ze9 at h;split at h
 ·rename_i m hm
  cases h;have h:=zcV hm hs
  generalize a.eval x=v at h
  cases h;rfl
 ·cases h
theorem zhu {x:Operand}{b:Bool} (h:zfk L s x=some b) (hs:zcK p w a.tmps s x):a.eval x=.bool b:=by
 unfold zfk at h;split at h
 ·rename_i m hm
  cases h;have h:=zcV hm hs
  generalize a.eval x=v at h
  cases h;rfl
 ·cases h
theorem zht {t:Nat}{x:Operand}{k:Nat}{r:List (List AC)} (h:zhL L s t x=some (k,r)) (hs:zcK p w a.tmps s x):Rep p w (a.eval x) (.sl k r):=by
 unfold zhL at h;split at h
 ·rename_i k' r' hm
  cases h;exact zcV hm hs
 ·cases h
theorem zj8 {x:Operand}{q:Ptr} (h:zgU s x=some q) (hs:zcK p w a.tmps s x):zvd p w a.tmps (a.eval x) q:=by
 unfold zgU at h;split at h
 ·rename_i i
  have h1:zcM p w a.tmps s i:=hs i (zfU s i)
  split at h
  ·rename_i q' hq
   cases h;exact h1.2 _ hq
  ·split at h
   ·rename_i cs hb
    cases h;have h2:=h1.1
    rw[hb] at h2;obtain⟨b,_,_,e,_,_⟩:=h2;exact⟨b,e,e⟩
   ·cases h
 ·cases h
theorem zxr {x:Operand}{d off:Nat} (h:zgU s x=some (.box d off)) (hs:zcK p w a.tmps s x):zcM p w a.tmps s d:=by
 unfold zgU at h;split at h
 ·rename_i i
  split at h
  ·rename_i q' hq
   cases h;exact hs d (zvg hq)
  ·split at h
   ·cases h;exact hs _ (zfU s _)
   ·cases h
 ·cases h
end
end
section
open Go Go.RowKit
section
variable {P:Program}{p:Stb}{w:World}
theorem zfm {t:Nat}{i:TI} (hT:TOk P t i) {b o:Nat}{us:List Value} (hl:us.length=i.size)
  (hc:∀(j:Nat) (u:Value),us[j]?=some u→w.cell? ⟨b,o+j,none⟩=some u) :
  (loadVar t ⟨b,o,none⟩).run P w=.ok (if i.kind=3 then .agg us.toArray else us.getD 0 undef) w:=by
 obtain⟨inf,z,h1,h2,_,_,_,_⟩:=hT.info;have hk:=hT.kinds
 by_cases h3:i.kind=3
 ·obtain⟨fs,hu,_⟩:=hT.struct h3
  have hcs:=run_loadCells_list (P:=P) w ⟨b,o,none⟩ us (fun j v hj=>by rw[Addr.add_lit];exact hc j v hj)
  simp[loadVar,isAgg,run_underlying hu,sizeOf,typeInfo,h1,h2,←hl,hcs,h3]
 ·have h1':=hT.one h3
  obtain⟨u,rfl⟩:∃u,us=[u]:=by
   match us,hl with
   | [u],_=>exact⟨u,rfl⟩
   | [],h=>simp at h;omega
   | _::_::_,h=>simp at h;omega
  have hu:=hc 0 u rfl
  simp only[Nat.add_zero] at hu;have:(isAgg t).run P w=.ok false w:=by
   rcases(by omega:i.kind=0∨i.kind=1∨i.kind=2) with h|h|h
   ·simp[isAgg,run_underlying (hT.int h)]
   ·simp[isAgg,run_underlying (hT.bool h)]
   ·simp[isAgg,run_underlying (hT.slice h)]
  simp[loadVar,this,run_load,hu,h3]
theorem zr5 {i:TI}{us:List Value}{cs:List AC}{x:SV} (h:RepL p w us cs) (hx:mkV i cs=some x):RepS p w (if i.kind=3 then .agg us.toArray else us.getD 0 undef) x:=by
 unfold mkV at hx;split at hx
 ·rename_i h3
  cases hx;rw[if_pos h3];exact⟨_,rfl,by simpa using h⟩
 ·rename_i h3
  rw[if_neg h3];split at hx
  ·cases hx
   match us,h with
   | [u],h=>exact h.1
  ·cases hx
theorem PRef.cells {v:Value}{cs:List AC} (h:PRef p w v cs):∃b o us,v=.pointer (some ⟨b,o,none⟩)∧RepL p w us cs∧(∀(j:Nat) (u:Value),us[j]?=some u→w.cell? ⟨b,o+j,none⟩=some u):=by
 obtain⟨b,o,e,_,_,hc⟩:=h;have key:∀(n:Nat) (o:Nat) (cs:List AC),cs.length=n→(∀(j:Nat) (c:AC),cs[j]?=some c→∃u,w.cell? ⟨b,o+j,none⟩=some u∧Rep p w u c) →
   ∃us,RepL p w us cs∧(∀(j:Nat) (u:Value),us[j]?=some u→w.cell? ⟨b,o+j,none⟩=some u):=by
  intro n;induction n with
  | zero=>intro o cs hl _;exact⟨[],by rw[List.eq_nil_of_length_eq_zero hl];trivial,fun j u h=>by simp at h⟩
  | succ n ih =>
   intro o cs hl hc
   match cs,hl with
   | c::cs,hl =>
    obtain⟨u,hu,hr⟩:=hc 0 c rfl;obtain⟨us,h1,h2⟩:=ih (o+1) cs (by simpa using hl) (fun j d hj=>by
     obtain⟨u,hu,hr⟩:=hc (j+1) d (by simpa using hj)
     exact⟨u,by rw[←hu];congr 2;omega,hr⟩)
    refine⟨u::us,⟨hr,h1⟩,fun j x hj=>?_⟩
    match j with
    | 0=>simp at hj;subst hj;simpa using hu
    | j+1=>rw[←h2 j x (by simpa using hj)];congr 2;omega
 obtain⟨us,h1,h2⟩:=key cs.length o cs rfl hc;exact⟨b,o,us,e,h1,h2⟩
theorem zdp {α:Type}{l:List α}{n j:Nat}{x:α} (h:(l.take n)[j]?=some x):l[j]?=some x:=by
 rw[List.getElem?_take] at h;split at h
 ·exact h
 ·cases h
theorem zsi {t:Nat}{i:TI} (hT:TOk P t i) {v:Value}{cs:List AC}{x:SV} (h:PRef p w v cs) (hl:i.size≤cs.length) (hx:mkV i (cs.take i.size)=some x) :
  ∃u,(Instr.loadAt t v).run P w=.ok u w∧RepS p w u x:=by
 obtain⟨b,o,us,rfl,hr,hc⟩:=h.cells;have hlen:=hr.length
 have:=zfm (w:=w) hT (b:=b) (o:=o) (us:=us.take i.size) (by rw[List.length_take];omega) (fun j u hj=>hc j u (zdp hj))
 exact⟨_,by simp[Instr.loadAt,Instr.sureAddr,this],zr5 (hr.take _) hx⟩
theorem zaV {b:Nat}{a:Array Value}{T:Nat}{fz:Nat×Nat} (h:w.heap[b]?=some (.cells a T fz)) (o:Nat):w.cell? ⟨b,o,none⟩=a[o]?:=by
 simp[World.cell?,h]
theorem zmr {t:Nat}{i:TI} (hT:TOk P t i) {b off:Nat}{a:Array Value}{T:Nat}{cs:List AC}{x:SV} (hb:w.heap[b]?=some (.cells a T (0,0))) (hr:RepL p w a.toList cs)
  (hl:off+i.size≤cs.length) (hx:mkV i ((cs.drop off).take i.size)=some x) :
  ∃u,(Instr.loadAt t (.pointer (some ⟨b,off,none⟩))).run P w=.ok u w∧RepS p w u x∧u.cells.toList=(a.toList.drop off).take i.size:=by
 have hlen:=hr.length
 have hr':=(hr.drop off).take i.size
 have:=zfm (w:=w) hT (b:=b) (o:=off) (us:=(a.toList.drop off).take i.size) (by rw[List.length_take,List.length_drop];omega) (fun j u hj=>by
  have hj:=zdp hj
  rw[List.getElem?_drop] at hj;rw[zaV hb]
  simpa using hj)
 have hs:=zr5 hr' hx
 refine⟨_,by simp[Instr.loadAt,Instr.sureAddr,this],hs,?_⟩
 have hk:=hT.kinds
 split
 ·simp[Value.cells]
 ·rename_i h3
  have h1':=hT.one h3
  have hle:((a.toList.drop off).take i.size).length=1:=by rw[List.length_take,List.length_drop];omega
  match hm:(a.toList.drop off).take i.size,hle with
  | [u],_ =>
   rw[hm] at hr'
   match hcs:(cs.drop off).take i.size,hr' with
   | [c],hr'=>simp[Rep.cells hr'.1]
def Zp (p:Stb) (w:World):Prop:=(∀b,w.heap.size≤b→p b=0)∧∀b,w.heap.size≤b→Nat→True
def upP (p:Stb) (b n:Nat) (k:Nat:=0):Stb:=⟨fun x=>if x=b then n else p x,fun x=>if x=b then(·=k) else p.ok x⟩
def raP (p:Stb) (b n:Nat):Stb:=⟨fun x=>if x=b then n else p x,p.ok⟩
theorem zep (p:Stb) (b n x:Nat):raP p b n x=if x=b then n else p x:=rfl
theorem zlx {p:Stb}{b n x:Nat} (h:x≠b):raP p b n x=p x:=by rw[zep,if_neg h]
theorem za0 (p:Stb) (b n x k:Nat):upP p b n k x=if x=b then n else p x:=rfl
theorem zt2 (p:Stb) (b n x k:Nat):(upP p b n k).ok x=if x=b then(·=k) else p.ok x:=rfl
theorem zd2 (p:Stb) (b n k:Nat):(upP p b n k).ok b k:=by rw[zt2,if_pos rfl]
def okP (p:Stb) (w:World) (k:Nat):Stb:=⟨p.f,fun x=>if x<w.heap.size then p.ok x else(·=k)⟩
theorem zwM {p:Stb}{w:World}{k x:Nat} (h:w.heap.size≤x):(okP p w k).ok x=(·=k):=if_neg (by omega)
theorem zuG {p:Stb}{w:World}{k x:Nat} (h:x<w.heap.size):(okP p w k).ok x=p.ok x:=if_pos h
theorem zx6 {p:Stb}{w:World}{k b:Nat} (h1:w.heap.size≤b) {i j:Nat} (hi:(okP p w k).ok b i) (hj:(okP p w k).ok b j):i=j:=by
 rw[zwM h1] at hi hj;exact hi.trans hj.symm
theorem zav (o:Obj) (n:Nat) (B:Nat→Prop) (k:Nat:=0):Evo B p w (upP p w.heap.size n k) (w.alloc o) :=
 ⟨rfl,rfl,rfl,by simp,fun b hb _=>Below.heap_alloc _ _ _ hb,fun b hb=>by rw[za0,if_neg (by omega)];exact Nat.le_refl _,
  fun b hb _=>by rw[za0,if_neg (by omega)],
  fun b o' hb _=>World.cell?_of_block (w:=w) (Below.heap_alloc w o b hb),fun b hb=>by rw[zt2,if_neg (by omega)],fun b h1 h2 i j hi hj=>by
   have:b=w.heap.size:=by simp at h2;omega
   rw[zt2,if_pos this] at hi hj;exact hi.trans hj.symm⟩
theorem zpv (hz:Zp p w) (o:Obj) (n:Nat) (k:Nat:=0):Zp (upP p w.heap.size n k) (w.alloc o):=⟨fun b hb=>by
 simp at hb
 rw[za0,if_neg (by omega)]
 exact hz.1 b (by omega),fun b hb=>by
 simp at hb
 exact hz.2 b (by omega)⟩
theorem zfj (B:Nat→Prop):Evo B p w p w.drew:=(Evo.refl B p w).drew
theorem zl9 {b o cap k:Nat}{rows:List (List AC)}{us:List Value} (hk:0<k) (hrows:∀r∈rows,r.length=k) (hb:b<w.heap.size) (hp:o+rows.length*k≤p b) (hok:p.ok b k) (hcap:rows.length≤cap)
  (hr:RepL p w us rows.flatten) (hc:∀(j:Nat) (u:Value),us[j]?=some u→w.cell? ⟨b,o+j,none⟩=some u):Rep p w (.slice (some ⟨b,o,none⟩) rows.length cap) (.sl k rows):=by
 have hget:∀(rows:List (List AC)),(∀r∈rows,r.length=k)→∀(i j:Nat) (c:AC),(rows.getD i [])[j]?=some c→rows.flatten[i*k+j]?=some c:=by
  intro rows;induction rows with
  | nil=>intro _ i j c h;simp at h
  | cons r rows ih =>
   intro hrows i j c h;have hrk:=hrows r List.mem_cons_self
   match i with
   | 0 =>
    simp at h
    have:=(List.getElem?_eq_some_iff.1 h).1
    simp only[List.flatten_cons,Nat.zero_mul,Nat.zero_add];rw[List.getElem?_append_left this];exact h
   | i+1 =>
    simp only[List.flatten_cons];rw[List.getElem?_append_right (by rw[hrk,Nat.succ_mul];omega),hrk]
    have:=ih (fun r hr=>hrows r (List.mem_cons_of_mem _ hr)) i j c (by simpa using h)
    rw[←this]
    congr 1
    rw[Nat.succ_mul];omega
 refine .sl b o cap k rows (fun i j=>us.getD (i*k+j) undef) hk hrows hb hp hok hcap (fun i j c h=>?_) (fun i j c h=>?_)
 ·obtain⟨u,hu,_⟩:=hr.get (hget rows hrows i j c h)
  have:=hc _ u hu
  rw[←Nat.add_assoc] at this;simp only[List.getD,hu,Option.getD_some];exact this
 ·obtain⟨u,hu,hr'⟩:=hr.get (hget rows hrows i j c h)
  simp only[List.getD,hu,Option.getD_some];exact hr'
theorem Rep.row {v:Value}{k:Nat}{rows:List (List AC)} (h:Rep p w v (.sl k rows)) :
  ((∃a,v=.slice a 0 0)∧rows=[])∨∃b o cap us,v=.slice (some ⟨b,o,none⟩) rows.length cap∧0<k∧(∀r∈rows,r.length=k)∧b<w.heap.size∧(p.ok b k∧o+rows.length*k≤p b)∧rows.length≤cap ∧
   us.length=rows.length*k∧RepL p w us rows.flatten∧(∀(j:Nat) (u:Value),us[j]?=some u→w.cell? ⟨b,o+j,none⟩=some u):=by
 cases h with
 | nil a=>exact .inl ⟨⟨a,rfl⟩,rfl⟩
 | sl b o cap k rows f hk hrows hb hp hok hcap hc hr =>
  refine .inr ⟨b,o,cap,?_⟩
  have key:∀(rows:List (List AC)) (o:Nat) (f:Nat→Nat→Value),(∀r∈rows,r.length=k)→(∀(i j:Nat) (c:AC),(rows.getD i [])[j]?=some c→w.cell? ⟨b,o+i*k+j,none⟩=some (f i j)) →
    (∀(i j:Nat) (c:AC),(rows.getD i [])[j]?=some c→Rep p w (f i j) c)→∃us,us.length=rows.length*k∧RepL p w us rows.flatten∧(∀(j:Nat) (u:Value),us[j]?=some u→w.cell? ⟨b,o+j,none⟩=some u):=by
   intro rows;induction rows with
   | nil=>intro o f _ _ _;exact⟨[],by simp,trivial,fun j u h=>by simp at h⟩
   | cons r rows ih =>
    intro o f hrows hc hr;have hrk:=hrows r List.mem_cons_self
    obtain⟨us,h0,h1,h2⟩:=ih (o+k) (fun i j=>f (i+1) j) (fun r hr=>hrows r (List.mem_cons_of_mem _ hr)) (fun i j c h=>by
     have:=hc (i+1) j c (by simpa using h)
     rw[←this];congr 2;rw[Nat.succ_mul];omega) (fun i j c h=>hr (i+1) j c (by simpa using h))
    refine⟨(List.range k).map (f 0)++us,by simp[h0,Nat.succ_mul];omega,?_,?_⟩
    ·simp only[List.flatten_cons]
     refine RepL.append (RepL.of (by simp[hrk]) fun j v c hv hcj=>?_) h1
     have:=hr 0 j c (by simpa using hcj)
     have hj:=(List.getElem?_eq_some_iff.1 hcj).1
     rw[List.getElem?_map,List.getElem?_range (by omega)] at hv
     simp at hv
     subst hv;exact this
    ·intro j u hj
     rcases Nat.lt_or_ge j k with hlt|hge
     ·rw[List.getElem?_append_left (by simpa using hlt),List.getElem?_map,List.getElem?_range hlt] at hj
      simp at hj
      subst hj;obtain⟨c,hcj⟩:∃c,r[j]?=some c:=⟨r[j]'(by omega),List.getElem?_eq_getElem _⟩
      simpa using hc 0 j c (by simpa using hcj)
     ·rw[List.getElem?_append_right (by simpa using hge)] at hj
      simp only[List.length_map,List.length_range] at hj;rw[←h2 _ u hj];congr 2;omega
  obtain⟨us,h0,h1,h2⟩:=key rows o f hrows hc hr;exact⟨us,rfl,hk,hrows,hb,⟨hok,hp⟩,hcap,h0,h1,h2⟩
end
end
end Go.Proofs.Ytcpcagdialnbeaa
