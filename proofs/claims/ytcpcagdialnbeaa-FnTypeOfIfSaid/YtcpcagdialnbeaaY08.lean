/- Generic texts and models for the proofs of this seat: part 8. -/
import Derived.Test.YtcpcagdialnbeaaY07
set_option linter.unusedVariables false
set_option linter.unusedSimpArgs false
namespace Go.Proofs.Ytcpcagdialnbeaa
section
open Go Go.RowKit
structure Stt where
 pid:List ((Nat×Nat)×Nat)
 alive:List (Nat×Nat)
 spe:SPe
 len:Nat
 nb:List Nat:=[]
 made:List Nat:=[]
def zbJ (st:Stt):List (Operand×Nat)→Option (List Nat)
 | []=>some []
 | (.tmp t,k)::r=>match st.pid.lookup (t,0) with
  | some id=>if st.alive.lookup id=some k then(zbJ st r).bind fun l=>if l.contains id then none else some (id::l) else none
  | none=>none
 | (.const (.slice none 0 0),_)::r=>zbJ st r
 | _=>none
def znr (d:Nat) (q:SPe):SPe:=q.filter fun e=>!(e.1==d)&&!(match e.2 with|some r=>r.1==d|none=>false)
def zbI (L:Lay) (o:Oper) (q:SPe):SPe :=
 match o.dst with
 | none=>q
 | some d=>match o.op with
  | .fieldAddr t x f=>(d,if o.guard.isSome then none else match zlQ q x,(L.ti t).bind (·.fields[f]?) with
   | some r,some e=>some (r.1,r.2+e.1)
   | _,_=>none)::znr d q
  | .indexAddr _ _ _=>(d,none)::znr d q
  | _=>znr d q
def zgF (L:Lay) (S:Sig) (base:Nat) (o:Oper) (st:Stt):List ((Nat×Nat)×Nat) :=
 match o.dst with
 | some d=>if o.guard.isSome then[] else(zaI L S o).map (fun e=>((d,e.1),base+e.1))++(zaL L st.spe o).filterMap (fun e=>(st.pid.lookup e.2).map fun id=>((d,e.1),id))
 | none=>[]
def zbG (L:Lay) (S:Sig) (base:Nat) (o:Oper):List (Nat×Nat) :=
 match o.dst with
 | some _=>if o.guard.isSome then[] else(zaI L S o).map fun e=>(base+e.1,e.2)
 | none=>[]
def zqt (n:Nat) (o:Oper):Bool:=match o.dst with|some d=>decide (d<n)|none=>true
def zqd (L:Lay) (o:Oper):Bool:=match o.op with
 | .makeSlice _ _ _=>L.home 0 o.dst
 | .call {callee:=.value (.func f),..}=>L.home (f+1) o.dst
 | _=>false
def zuq (L:Lay) (o:Oper) (made:List Nat):Bool:=!zqd L o||(match o.dst with
 | some d=>!(made.any fun e=>Nat.beq e d)&&Nat.blt d zbK
 | none=>true)
def zii (L:Lay) (o:Oper) (made:List Nat):List Nat:=if zqd L o then(match o.dst with
 | some d=>d::made
 | none=>made) else made
def zdF (L:Lay) (S:Sig) (base:Nat) (o:Oper) (st:Stt):Option Stt :=
 if zkZ L S o&&zqt st.len o then(zbJ st (zbQ L S o)).bind fun E =>
  if o.guard.isSome&&!E.isEmpty||!zuq L o st.made then none else
   some {made:=zii L o st.made,pid:=zgF L S base o st++st.pid.filter (fun e=>!(o.dst==some e.1.1)),alive:=zbG L S base o++st.alive.filter (fun e=>!E.contains e.1),spe:=zbI L o st.spe,len:=st.len}
 else none
theorem zau {α β:Type} [BEq α] [LawfulBEq α] {t:α}{i:β}:∀{l:List (α×β)},l.lookup t=some i→(t,i)∈l
 | [],h=>by cases h
 | (u,j)::l,h=>by
  simp only[List.lookup] at h;split at h
  ·rename_i he
   cases h;rw[show t=u by simpa using he]
   exact List.mem_cons_self
  ·exact List.mem_cons_of_mem _ (zau h)
structure zCh (st:Stt) (p:Stb) (w:World) (m:Array Value) (s:VS) (Own:Nat→Prop) (val:Nat→Value):Prop where
 place:∀q id,(q,id)∈st.pid→zax w (m.getD q.1 undef) q.2=some (val id)∧s.get q.1≠.und
 alive:∀id k,(id,k)∈st.alive→Rt p w (val id) k
 own:∀id k b,(id,k)∈st.alive→zar (val id)=some b→Own b∧∀d cs,s.get d=.box cs→m.getD d undef≠.pointer (some ⟨b,0,none⟩)
 apart:∀id k id' k' b,(id,k)∈st.alive→(id',k')∈st.alive→id≠id'→zar (val id)=some b→zar (val id')≠some b
 row:∀q id k d k' rows b,(q,id)∈st.pid→(id,k)∈st.alive→s.get d=.arr k' rows→zar (m.getD d undef)=some b→zar (val id)=some b→q.2=0∧(q.1=d∨s.get q.1=.al d)∧k=k'
structure Inv (st:Stt) (p:Stb) (w:World) (m:Array Value) (s:VS) (Own:Nat→Prop):Prop where
 size:m.size=s.σ.length
 len:st.len=s.σ.length
 nbk:∀t∈st.nb,(∀d off,s.pe.lookup t≠some (.box d off))∧∀cs,s.get t≠.box cs
 sonce:NoTwice st.spe
 slots:∀t,zcM p w m s t
 zp:Zp p w
 once:NoTwice s.pe
 spe:zbR st.spe s
 own:∀b,w.heap.size≤b→Own b
 box:∀d cs,s.get d=.box cs→∃b,m.getD d undef=.pointer (some ⟨b,0,none⟩)∧p b=0∧Own b∧b<w.heap.size
 boxd:∀d d' cs cs' b,d≠d'→s.get d=.box cs→s.get d'=.box cs'→m.getD d undef=.pointer (some ⟨b,0,none⟩)→m.getD d' undef≠.pointer (some ⟨b,0,none⟩)
 arr:∀d k rows b,s.get d=.arr k rows→zar (m.getD d undef)=some b→p b=0∧Own b∧b<w.heap.size∧(∀d' cs,s.get d'=.box cs→m.getD d' undef≠.pointer (some ⟨b,0,none⟩))∧(∀d' k' rows',s.get d'=.arr k' rows'→zar (m.getD d' undef)=some b→d'=d)
 al:∀t d k rows,s.get t=.al d→s.get d=.arr k rows→m.getD t undef=m.getD d undef
 mks:(∀t d,s.get t=.al d→d∈st.made∨d=zbK)∧∀d k rows,s.get d=.arr k rows→d∈st.made
 rooms:∃val,zCh st p w m s Own val
section
variable {P:Program}{L:Lay}{S:Sig}{call:Orc}{p p':Stb}{w w':World}{a:Act}{s s':VS}{q:SPe}{o:Oper}{st st':Stt}{Own:Nat→Prop}
theorem zkT {val:Nat→Value} (hR:zCh st p w a.tmps s Own val):∀{l:List (Operand×Nat)}{E:List Nat},zbJ st l=some E→(∀x∈l,∃c,Rep p w (a.eval x.1) c) →
  (∀x∈l,Rt p w (a.eval x.1) x.2∧∀b,zar (a.eval x.1)=some b→∃id∈E,∃k,(id,k)∈st.alive∧zar (val id)=some b) ∧
  (∀(i j:Nat) (x y:Operand×Nat) (b:Nat),i≠j→l[i]?=some x→l[j]?=some y→zar (a.eval x.1)=some b→zar (a.eval y.1)≠some b)
 | [],E,_,_=>⟨fun x hx=>(by cases hx),fun i j x y b _ hx=>(by simp at hx)⟩
 | (.tmp t,k)::r,E,h,hrep=>by
  unfold zbJ at h;split at h
  ·rename_i id hid
   split at h
   ·rename_i hk
    simp only[zzOb] at h;obtain⟨l,hl,h⟩:=h;split at h
    ·cases h
    ·rename_i hnot
     cases h;obtain⟨ih1,ih2⟩:=zkT hR hl (fun x hx=>hrep x (List.mem_cons_of_mem _ hx))
     have hm:=za2 hk
     have hp:=(hR.place _ _ (zau hid)).1
     have hrt:=hR.alive _ _ hm
     have hval:a.eval (.tmp t)=val id:=by
      obtain⟨c,hc⟩:=hrep (.tmp t,k) List.mem_cons_self;have hc':RepS p w (a.eval (.tmp t)) (.cell c):=hc
      have h2:zax w (a.eval (.tmp t)) 0=some (val id):=hp
      rw[zbm hc',hc.cells] at h2
      simpa using h2
     have hcross:∀(j:Nat) (y:Operand×Nat) (b:Nat),r[j]?=some y→zar (val id)=some b→zar (a.eval y.1)≠some b:=by
      intro j y b hy hb hb';obtain⟨id',hid',k',hm',hb2⟩:=(ih1 y (List.mem_of_getElem? hy)).2 b hb';have hne:id≠id':=fun e=>hnot (by rw[e];simpa using hid')
      exact hR.apart id k id' k' b hm hm' hne hb hb2
     refine⟨fun x hx=>?_,fun i j x y b hij hx hy hb=>?_⟩
     ·rcases List.mem_cons.1 hx with rfl|hx
      ·refine⟨by rw[hval];exact hrt,fun b hb=>⟨id,List.mem_cons_self,k,hm,by rw[←hval];exact hb⟩⟩
      ·obtain⟨h1,h2⟩:=ih1 x hx
       exact⟨h1,fun b hb=>by obtain⟨id',hi,rest⟩:=h2 b hb;exact⟨id',List.mem_cons_of_mem _ hi,rest⟩⟩
     ·match i,j with
      | 0,0=>exact absurd rfl hij
      | 0,j+1 =>
       simp at hx
       subst hx;exact hcross j y b (by simpa using hy) (by rw[←hval];exact hb)
      | i+1,0 =>
       simp at hy
       subst hy;intro hb';rw[hval] at hb';exact hcross i x b (by simpa using hx) hb' hb
      | i+1,j+1=>exact ih2 i j x y b (by omega) (by simpa using hx) (by simpa using hy) hb
   ·cases h
  ·cases h
 | (.const c,k)::r,E,h,hrep=>by
  unfold zbJ at h;split at h
  ·rename_i heq;cases heq
  ·rename_i heq;cases heq
  ·rename_i heq
   cases heq;obtain⟨ih1,ih2⟩:=zkT hR h (fun x hx=>hrep x (List.mem_cons_of_mem _ hx))
   refine⟨fun x hx=>?_,fun i j x y b hij hx hy hb=>?_⟩
   ·rcases List.mem_cons.1 hx with rfl|hx
    ·exact⟨.inl rfl,fun b hb=>by cases hb⟩
    ·exact ih1 x hx
   ·match i,j with
    | 0,0=>exact absurd rfl hij
    | 0,j+1 =>
     simp at hx
     subst hx;cases hb
    | i+1,0 =>
     simp at hy
     subst hy;intro hb';cases hb'
    | i+1,j+1=>exact ih2 i j x y b (by omega) (by simpa using hx) (by simpa using hy) hb
  ·cases h
 | (.global g,k)::r,E,h,_=>by simp[zbJ] at h
 | (.func g,k)::r,E,h,_=>by simp[zbJ] at h
theorem zly:∀{l:List (Operand×Nat)}{E:List Nat},zbJ st l=some E→∀x∈l,(∃t id,x.1=.tmp t∧((t,0),id)∈st.pid∧(id,x.2)∈st.alive)∨x.1=.const (.slice none 0 0)
 | [],_,_,x,hx=>by cases hx
 | (.tmp t,k)::r,E,h,x,hx=>by
  unfold zbJ at h;split at h
  ·rename_i id hid
   split at h
   ·rename_i hk
    simp only[zzOb] at h;obtain⟨l,hl,_⟩:=h;rcases List.mem_cons.1 hx with rfl|hx
    ·exact .inl ⟨t,id,rfl,zau hid,za2 hk⟩
    ·exact zly hl x hx
   ·cases h
  ·cases h
 | (.const c,k)::r,E,h,x,hx=>by
  unfold zbJ at h;split at h
  ·rename_i heq;cases heq
  ·rename_i heq;cases heq
  ·rename_i heq
   cases heq;rcases List.mem_cons.1 hx with rfl|hx
   ·exact .inr rfl
   ·exact zly h x hx
  ·cases h
 | (.global g,k)::r,E,h,_,_=>by simp[zbJ] at h
 | (.func g,k)::r,E,h,_,_=>by simp[zbJ] at h
end
end
section
open Go Go.RowKit
section
variable {P:Program}{L:Lay}{S:Sig}{call:Orc}{p p':Stb}{w w':World}{a:Act}{s s':VS}{q:SPe}{o:Oper}{st st':Stt}{Own:Nat→Prop}
theorem zcy {β:Type} (f:Nat×β→Bool) {t:Nat}:∀{l:List (Nat×β)},NoTwice l→(l.filter f).lookup t=match l.lookup t with|some r=>if f (t,r) then some r else none|none=>none
 | [],_=>rfl
 | (k,v)::l,⟨h1,h2⟩=>by
  have ih:=zcy f (t:=t) h2
  by_cases hk:t=k
  ·subst hk
   have hnone:l.lookup t=none:=by
    rcases h:l.lookup t with _|r
    ·rfl
    ·exact absurd rfl (h1 (t,r) (za2 h))
   rw[hnone] at ih;rcases hf:f (t,v) with _|_
   ·rw[List.filter_cons_of_neg (by simp[hf])]
    simp only[List.lookup,beq_self_eq_true,hf];exact ih
   ·rw[List.filter_cons_of_pos (by simp[hf])]
    simp[List.lookup,hf]
  ·have hb:(t==k)=false:=by simpa using hk
   rcases hf:f (k,v) with _|_
   ·rw[List.filter_cons_of_neg (by simp[hf])]
    simp only[List.lookup,hb];exact ih
   ·rw[List.filter_cons_of_pos (by simp[hf])]
    simp only[List.lookup,hb];exact ih
def zsN (d t:Nat) (r:Option (Nat×Nat)):Bool:=!(t==d)&&!(match r with|some r=>r.1==d|none=>false)
def keepP (d t:Nat) (r:Ptr):Bool:=!(t==d)&&!r.at d
theorem zqg (d t b off:Nat):zsN d t (some (b,off))=keepP d t (.box b off):=rfl
theorem zjL (h:zbR q s) (h1:NoTwice q) (h2:NoTwice s.pe) (d:Nat) (x:AV):zbR (znr d q) (s.put (some d) x):=by
 have hl:∀t,(znr d q).lookup t=match q.lookup t with|some r=>if zsN d t r then some r else none|none=>none:=fun t=>by
  unfold znr;rw[zcy _ h1];cases q.lookup t <;> rfl
 have hr:∀t,(s.put (some d) x).pe.lookup t=match s.pe.lookup t with|some r=>if keepP d t r then some r else none|none=>none:=fun t=>by
  unfold VS.put;simp only;rw[zcy _ h2];cases s.pe.lookup t <;> rfl
 constructor
 ·intro t ht
  rw[hl] at ht;rw[hr];cases hq:q.lookup t with
  | none=>rw[h.1 t hq]
  | some r =>
   rw[hq] at ht;simp only at ht;by_cases hc:zsN d t r=true
   ·rw[if_pos hc] at ht;cases ht
   ·cases r with
    | none =>
     have hd:t=d:=by
      rcases hb:(t==d) with _|_
      ·simp[zsN,hb] at hc
      ·simpa using hb
     subst hd;cases s.pe.lookup t <;> simp[keepP]
    | some r =>
     rw[h.2 t r.1 r.2 hq];simp only;rw[if_neg (by rw[←zqg];exact hc)]
 ·intro t b off ht
  rw[hl] at ht;rw[hr];cases hq:q.lookup t with
  | none=>rw[hq] at ht;cases ht
  | some r =>
   rw[hq] at ht;simp only at ht;by_cases hc:zsN d t r=true
   ·rw[if_pos hc] at ht
    cases ht;rw[h.2 t b off hq];simp only;rw[if_pos (by rw[←zqg];exact hc)]
   ·rw[if_neg hc] at ht;cases ht
theorem zsw {d:Nat} (h:zbR (znr d q) (s.put (some d) .und)) (r:Ptr) (r':Option (Nat×Nat)) (hr:∀b off,r'=some (b,off)→r=.box b off) :
  zbR ((d,r')::znr d q) {(s.put (some d) .und) with pe:=(d,r)::(s.put (some d) .und).pe}:=by
 constructor
 ·intro t ht
  simp only[List.lookup] at ht ⊢;split at ht
  ·cases ht
  ·rename_i hb;exact h.1 t ht
 ·intro t b off ht
  simp only[List.lookup] at ht ⊢;split at ht
  ·cases ht
   rw[hr b off rfl]
  ·rename_i hb;exact h.2 t b off ht
theorem zng (hq:zbR q s) {x:Operand}{b off:Nat} (h:zlQ q x=some (b,off)) {r:Ptr} (hr:zgU s x=some r):r=.box b off:=by
 unfold zlQ at h;unfold zgU at hr;split at h
 ·rename_i i
  simp only at hr;cases hqi:q.lookup i with
  | none =>
   rw[hqi] at h;cases h;rw[hq.1 _ hqi] at hr;simp only at hr;split at hr <;> cases hr
   rfl
  | some z =>
   rw[hqi] at h;simp only at h;subst h;rw[hq.2 _ _ _ hqi] at hr;cases hr;rfl
 ·cases h
theorem znu (hs:zaK L call o s=some s') (hst:zaA o=false) (hq:zbR q s) (h1:NoTwice q) (h2:NoTwice s.pe):zbR (zbI L o q) s':=by
 have plain:∀x,s'=s.put o.dst x→(∀t y f,o.op≠.fieldAddr t y f)→(∀t y f,o.op≠.indexAddr t y f)→zbR (zbI L o q) s':=by
  rintro x rfl hf hi
  unfold zbI;cases hd:o.dst with
  | none=>exact hq
  | some d =>
   have hc:=zjL hq h1 h2 d x
   cases ho:o.op <;> first|exact hc|exact absurd ho (hf _ _ _)|exact absurd ho (hi _ _ _)
 unfold zaK at hs;split at hs <;> try simp only[zzOb,zzOm] at hs
 ·rename_i hop;obtain⟨v,_,rfl⟩:=hs;exact plain _ rfl (by simp[hop]) (by simp[hop])
 ·rename_i hop;obtain⟨v,_,rfl⟩:=hs;exact plain _ rfl (by simp[hop]) (by simp[hop])
 ·rename_i hop;obtain⟨_,_,v,_,rfl⟩:=hs;exact plain _ rfl (by simp[hop]) (by simp[hop])
 ·rename_i hop;obtain⟨_,_,rfl⟩:=hs;exact plain _ rfl (by simp[hop]) (by simp[hop])
 ·rename_i hop;obtain⟨_,_,_,_,hs⟩:=hs;split at hs <;> cases hs;exact plain _ rfl (by simp[hop]) (by simp[hop])
 ·rename_i hop;obtain⟨_,_,hs⟩:=hs;split at hs
  ·simp only[zzOm] at hs;obtain⟨_,_,rfl⟩:=hs;exact plain _ rfl (by simp[hop]) (by simp[hop])
  ·cases hs
 ·rename_i hop;obtain⟨_,_,_,_,hs⟩:=hs;split at hs <;> cases hs;exact plain _ rfl (by simp[hop]) (by simp[hop])
 ·rename_i hop
  obtain⟨_,_,_,_,hs⟩:=hs;split at hs
  ·split at hs
   ·simp only[zzOm] at hs;obtain⟨_,_,rfl⟩:=hs;exact plain _ rfl (by simp[hop]) (by simp[hop])
   ·cases hs
  ·split at hs
   ·split at hs
    ·simp only[zzOm] at hs;obtain⟨_,_,rfl⟩:=hs;exact plain _ rfl (by simp[hop]) (by simp[hop])
    ·cases hs
   ·cases hs
  ·cases hs
 ·rename_i hop;simp[zaA,hop] at hst
 ·rename_i hop;split at hs
  ·simp only[zzOb] at hs
   obtain⟨_,_,hs⟩:=hs;split at hs
   ·simp only[zzOb,zzOm] at hs
    obtain⟨_,_,_,_,rfl⟩:=hs;exact plain _ rfl (by simp[hop]) (by simp[hop])
   ·cases hs
  ·simp only[zzOb,zzOm] at hs
   obtain⟨_,_,_,_,_,_,rfl⟩:=hs;exact plain _ rfl (by simp[hop]) (by simp[hop])
 ·rename_i hop;obtain⟨_,_,rfl⟩:=hs;exact plain _ rfl (by simp[hop]) (by simp[hop])
 ·rename_i t x f hop
  obtain⟨i,hi,r,hr,e,he,hs⟩:=hs;split at hs
  ·rename_i d hd
   split at hs
   ·cases hs
    unfold zbI;rw[hd];simp only[hop];refine zsw (zjL hq h1 h2 d .und) _ _ (fun b off h=>?_)
    split at h
    ·cases h
    ·rw[hi] at h
     simp only[Option.bind_some,he] at h;split at h
     ·rename_i r0 e0 hp hee
      cases h;cases hee;have:=zng hq (b:=r0.1) (off:=r0.2) hp hr
      subst this;rfl
     ·cases h
   ·cases hs
  ·cases hs
 ·rename_i t x ix hop
  obtain⟨_,_,_,_,_,_,hs⟩:=hs;split at hs
  ·split at hs
   ·rename_i d hd
    split at hs
    ·cases hs
     unfold zbI;rw[hd];simp only[hop];exact zsw (zjL hq h1 h2 d .und) _ _ (fun b off h=>by cases h)
    ·cases hs
   ·cases hs
  ·cases hs
 ·rename_i hop;obtain⟨_,_,_,_,_,_,_,_,hs⟩:=hs;split at hs <;> cases hs;exact plain _ rfl (by simp[hop]) (by simp[hop])
 ·rename_i hop;split at hs
  ·simp only[zzOm] at hs;obtain⟨_,_,rfl⟩:=hs;exact plain _ rfl (by simp[hop]) (by simp[hop])
  ·cases hs
 ·rename_i hop;obtain⟨_,_,_,_,_,_,hs⟩:=hs;split at hs <;> cases hs;exact plain _ rfl (by simp[hop]) (by simp[hop])
 ·rename_i hop;split at hs
  ·split at hs
   ·simp only[zzOb,zzOm] at hs;obtain⟨_,_,_,_,rfl⟩:=hs;exact plain _ rfl (by simp[hop]) (by simp[hop])
   ·cases hs
  ·cases hs
 ·rename_i hop;split at hs
  ·simp only[zzOb] at hs
   obtain⟨_,_,_,_,_,_,hs⟩:=hs;split at hs <;> cases hs;exact plain _ rfl (by simp[hop]) (by simp[hop])
  ·cases hs
 ·rename_i hop;split at hs
  ·simp only[zzOb,zzOm] at hs;obtain⟨_,_,_,_,rfl⟩:=hs;exact plain _ rfl (by simp[hop]) (by simp[hop])
  ·cases hs
 ·rename_i hop;obtain⟨_,_,_,_,rfl⟩:=hs;exact plain _ rfl (by simp[hop]) (by simp[hop])
 ·cases hs
theorem zkY (L:Lay) (o:Oper) (h1:NoTwice q):NoTwice (zbI L o q):=by
 unfold zbI;cases o.dst with
 | none=>exact h1
 | some d =>
  have hc:NoTwice (znr d q):=h1.filter _
  have hh:∀r:Option (Nat×Nat),NoTwice ((d,r)::znr d q):=fun r=>⟨fun y hy=>by
   simp only[znr,List.mem_filter,Bool.and_eq_true,Bool.not_eq_true',beq_eq_false_iff_ne] at hy;exact hy.2.1,hc⟩
  simp only;split
  ·exact hh _
  ·exact hh _
  ·exact hc
end
end
section
open Go Go.RowKit
section
variable {P:Program}{L:Lay}{S:Sig}{call:Orc}{p p':Stb}{w w':World}{a:Act}{s s':VS}{q:SPe}{o:Oper}{st st':Stt}{Own:Nat→Prop}{base:Nat}
theorem zeH {B:Nat→Prop} (h:Evo B p w p' w') {v:Value}{x:AV} (hB:∀cs,x=.box cs→∀b,v=.pointer (some ⟨b,0,none⟩)→¬B b) (hA:∀k r,x=.arr k r→∀b,zar v=some b→¬B b) (hs:SR p w v x):SR p' w' v x:=SR.evo h hB hA hs
theorem zxo {d t:Nat}{v:Value} (hne:d≠t):(a.put (some d) v).tmps.getD t undef=a.tmps.getD t undef:=by
 simp[Act.put,hne]
theorem zmf (d:Option Nat) (v:Value):(a.put d v).tmps.size=a.tmps.size:=by cases d <;> simp[Act.put]
theorem zaM {t:Nat} (hd:o.dst≠some t) {v:Value}:(a.put o.dst v).tmps.getD t undef=a.tmps.getD t undef:=by
 cases ho:o.dst with
 | none=>rfl
 | some d=>exact zxo (fun e=>hd (by rw[ho,e]))
theorem zn4 {B:Nat→Prop} (hI:Inv st p w a.tmps s Own) (hev:Evo B p w p' w') (hB:∀b d cs,B b→s.get d=.box cs→a.tmps.getD d undef≠.pointer (some ⟨b,0,none⟩)) (hBA:∀b d k rows,B b→s.get d=.arr k rows→zar (a.tmps.getD d undef)≠some b) (hF:ze1 o s s') {v:Value}{t:Nat} (hd:o.dst≠some t) :
  zcM p' w' (a.put o.dst v).tmps s' t:=by
 obtain⟨h1,h2⟩:=hI.slots t;rw[zcM,zaM hd,hF.get t hd];refine⟨zeH hev (fun cs hcs b hb hBb=>hB b t cs hBb hcs hb) (fun k rows hk b hb hBb=>hBA b t k rows hBb hk hb) h1,fun r hr=>?_⟩
 obtain⟨hr1,hr2⟩:=hF.pe t r hd hr;have:=h2 r hr1
 cases r with
 | ref cs=>exact PRef.evo hev this
 | box d off =>
  obtain⟨b,e1,e2⟩:=this;refine⟨b,?_,e2⟩
  have hne:o.dst≠some d:=fun e=>by
   have:=hr2 d e
   simp[Ptr.at] at this
  rw[zaM hne];exact e1
 | el d k n j =>
  obtain⟨b,o',len,cap,e1,e2⟩:=this;refine⟨b,o',len,cap,?_,e2⟩
  have hne:o.dst≠some d:=fun e=>by
   have:=hr2 d e
   simp[Ptr.at] at this
  rw[zaM hne];exact e1
theorem zjP {B:Nat→Prop} (hI:Inv st p w a.tmps s Own) (hev:Evo B p w p' w') {t n:Nat} (hB:∀b cs,B b→s.get t=.box cs→a.tmps.getD t undef≠.pointer (some ⟨b,0,none⟩)) (hu:s.get t≠.und) {u:Value}
  (h:zax w (a.tmps.getD t undef) n=some u):zax w' (a.tmps.getD t undef) n=some u:=by
 have hs:=(hI.slots t).1
 cases hx:s.get t with
 | und=>exact absurd hx hu
 | v x=>rw[hx] at hs;rw[zbm hs] at h ⊢;exact h
 | tup xs=>rw[hx] at hs;obtain⟨arr,e,_⟩:=hs;rw[e] at h ⊢;exact h
 | al d=>rw[hx] at hs;obtain⟨_,_,_,e⟩:=hs;rw[e] at h ⊢;exact h
 | arr k rows =>
  rw[hx] at hs;rcases hs.2.2 with ⟨e,_⟩|⟨_,_,_,_,_,_,e,_⟩
  ·rw[e] at h ⊢;exact h
  ·rw[e] at h ⊢;exact h
 | box cs =>
  rw[hx] at hs;obtain⟨b,arr,T,e,hb,_⟩:=hs;have hlt:b<w.heap.size:=by
   rcases Nat.lt_or_ge b w.heap.size with hlt|hge
   ·exact hlt
   ·rw[Array.getElem?_eq_none hge] at hb;cases hb
  rw[e] at h ⊢;show w'.cell? ⟨b,n,none⟩=some u
  rw[World.cell?_of_block (w:=w) (hev.block b hlt (fun hBb=>hB b cs hBb hx e))]
  exact h
structure ArrOk (L:Lay) (S:Sig) (q:SPe) (o:Oper) (m:Array Value) (s s':VS) (v:Value) (w:World) (p':Stb) (w':World):Prop where
 arr:∀d k rows,o.dst=some d→s'.get d=.arr k rows→zqd L o=true∧(∀e∈zaI L S o,e=(0,k))∧zaL L q o=[]∧∀b,zar v=some b→w.heap.size≤b∧p' b=0∧b<w'.heap.size
 al:∀d d0,o.dst=some d→s'.get d=.al d0→d0≠d∧v=m.getD d0 undef∧(∃k rows,s.get d0=.arr k rows)∧zaI L S o=[]∧∀e∈zaL L q o,e.1=e.2.2∧(e.2.1=d0∨s.get e.2.1=.al d0)
 pl:∀d,o.dst=some d→zbH (s'.get d)=false→∀e∈zaL L q o,zbH (s.get e.2.1)=false
theorem ArrOk.plain {q:SPe}{m:Array Value}{v:Value} (h1:∀d,o.dst=some d→zbH (s'.get d)=false) (h2:∀e∈zaL L q o,zbH (s.get e.2.1)=false):ArrOk L S q o m s s' v w p' w' :=
 ⟨fun d k rows hd h=>(by have:=h1 d hd;rw[h] at this;cases this),fun d d0 hd h=>(by have:=h1 d hd;rw[h] at this;cases this),fun _ _ _=>h2⟩
theorem zny (hI:Inv st p w a.tmps s Own) (hF:ze1 o s s') (honce:NoTwice s'.pe) (hspe:zbR (zbI L o st.spe) s') (hstep:zdF L S base o st=some st')
  (hrep:∀x∈zbQ L S o,∃c,Rep p w (a.eval x.1) c) (hpl:∀x∈zbQ L S o,∀t,x.1=.tmp t→zbH (s.get t)=false)
  (hb1:∀q id,(q,id)∈st.pid→id<base) (hb2:∀id k,(id,k)∈st.alive→id<base) {v:Value} (hp:zhx L S st.spe o a p w s' v p' w') (hA:ArrOk L S st.spe o a.tmps s s' v w p' w') :
  Inv st' p' w' (a.put o.dst v).tmps s' Own∧Evo Own p w p' w':=by
 obtain⟨val,hR⟩:=hI.rooms;unfold zdF at hstep;split at hstep
 case isFalse=>cases hstep
 rename_i htk;simp only[Bool.and_eq_true] at htk;simp only[zzOb] at hstep;obtain⟨E,hE,hstep⟩:=hstep;split at hstep
 ·cases hstep
 rename_i hmake;have hmake:zuq L o st.made=true:=by
  simp only[Bool.or_eq_true,not_or,Bool.not_eq_true',Bool.not_eq_false] at hmake;exact hmake.2
 cases hstep;obtain⟨hk1,hk2⟩:=zkT (a:=a) hR hE hrep
 -- blocks whose room was used up are no boxes
 have heat:∀b,zlm L S o a b→∃id∈E,∃k,(id,k)∈st.alive∧zar (val id)=some b:=by
  rintro b ⟨x,hx,hb⟩
  exact(hk1 x hx).2 b hb
 have hB:∀b d cs,zlm L S o a b→s.get d=.box cs→a.tmps.getD d undef≠.pointer (some ⟨b,0,none⟩):=by
  intro b d cs hb hd;obtain⟨id,_,k,hm,hv⟩:=heat b hb;exact(hR.own id k b hm hv).2 d cs hd
 have hBA:∀b d k rows,zlm L S o a b→s.get d=.arr k rows→zar (a.tmps.getD d undef)≠some b:=by
  rintro b d k rows ⟨x,hx,hb⟩ hd hb'
  rcases zly hE x hx with ⟨t,id,ht,hpid,hal⟩|hc
  ·obtain⟨c,hc⟩:=hrep x hx
   have hval:a.eval x.1=val id:=by
    have h1:=(hR.place _ _ hpid).1
    have hc':RepS p w (a.eval x.1) (.cell c):=hc
    have h2:zax w (a.eval x.1) 0=some (val id):=by rw[ht];exact h1
    rw[zbm hc',hc.cells] at h2
    simpa using h2
   rw[hval] at hb;obtain⟨_,h1,_⟩:=hR.row _ _ _ d k rows b hpid hal hd hb' hb;have h2:=hpl x hx t ht
   rcases h1 with h1|h1
   ·simp only at h1
    rw[h1,hd] at h2;cases h2
   ·simp only at h1
    rw[h1] at h2;cases h2
  ·rw[hc] at hb
   cases hb
 have hltE:∀b,zlm L S o a b→b<w.heap.size:=by
  intro b hb;obtain⟨id,_,k,hm,hv⟩:=heat b hb;exact(hR.alive id k hm).lt hv
 have hslots:∀t,zcM p' w' (a.put o.dst v).tmps s' t:=by
  intro t;by_cases hd:o.dst=some t
  ·exact hp.slot t hd
  ·exact zn4 hI hp.evo hB hBA hF hd
 have hlen':∀d,o.dst=some d→d<s'.σ.length:=by
  intro d hd;have:=htk.2
  unfold zqt at this;rw[hd] at this;simp only[decide_eq_true_eq] at this;rw[hF.len,←hI.len];exact this
 have hput:∀d,o.dst=some d→(a.put o.dst v).tmps.getD d undef=v:=by
  intro d hd;have:=hlen' d hd
  rw[hd];exact zft (by rw[hI.size,←hF.len];exact this)
 have hbox:∀d cs,s'.get d=.box cs→∃b,(a.put o.dst v).tmps.getD d undef=.pointer (some ⟨b,0,none⟩)∧p' b=0∧Own b∧b<w'.heap.size∧(o.dst=some d→b=w.heap.size)∧(o.dst≠some d→b<w.heap.size∧s.get d=.box cs∧a.tmps.getD d undef=.pointer (some ⟨b,0,none⟩)):=by
  intro d cs hd;by_cases hdst:o.dst=some d
  ·obtain⟨e,hp0,_⟩:=hp.bx d cs hdst hd
   have hsr:=(hp.slot d hdst).1
   rw[hd] at hsr;obtain⟨b,arr,T,e',hb,_⟩:=hsr;rw[hput d hdst,e] at e';cases e';refine⟨w.heap.size,by rw[hput d hdst,e],hp0,hI.own _ (Nat.le_refl _),?_,fun _=>rfl,fun h=>absurd hdst h⟩
   rcases Nat.lt_or_ge w.heap.size w'.heap.size with hlt|hge
   ·exact hlt
   ·rw[Array.getElem?_eq_none hge] at hb;cases hb
  ·rw[hF.get d hdst] at hd
   obtain⟨b,e,hp0,hown,hlt⟩:=hI.box d cs hd;refine⟨b,by rw[zaM hdst];exact e,?_,hown,Nat.lt_of_lt_of_le hlt hp.evo.size,fun h=>absurd h hdst,fun _=>⟨hlt,hd,e⟩⟩
   rw[hp.evo.same b hlt (fun hb=>hB b d cs hb hd e)]
   exact hp0
 let val':Nat→Value:=fun id=>if id<base then val id else(zax w' v (id-base)).getD undef
 have hvold:∀id,id<base→val' id=val id:=fun id h=>by simp only[val',if_pos h]
 have hvnew:∀n u,zax w' v n=some u→val' (base+n)=u:=fun n u h=>by
  simp only[val',if_neg (show ¬base+n<base by omega),Nat.add_sub_cancel_left,h,Option.getD_some]
 have hnewA:∀id k,(id,k)∈zbG L S base o→∃n,(n,k)∈zaI L S o∧id=base+n:=by
  intro id k h;unfold zbG at h;split at h
  ·split at h
   ·cases h
   ·simp only[List.mem_map,Prod.mk.injEq] at h
    obtain⟨⟨n,k'⟩,hm,rfl,rfl⟩:=h;exact⟨n,hm,rfl⟩
  ·cases h
 have hevo:Evo Own p w p' w':=hp.evo.weaken (fun b _ hb=>by
  obtain⟨id,_,k,hm,hv⟩:=heat b hb;exact(hR.own id k b hm hv).1)
 have hnoal:∀d k rows,o.dst=some d→s'.get d=.arr k rows→∀t,s.get t≠.al d:=fun d k rows hd h t ht=>by
  have hm:=(hA.arr d k rows hd h).1
  unfold zuq at hmake;rw[hm,hd] at hmake;simp only[Bool.not_true,Bool.false_or,Bool.and_eq_true,Bool.not_eq_true',Nat.blt_eq] at hmake;rcases hI.mks.1 t d ht with h1|h1
  ·have h2:=hmake.1
   rw[List.any_eq_false] at h2;exact h2 d h1 (Nat.beq_refl d)
  ·omega
 have hmade:∀d,d∈st.made→d∈zii L o st.made:=fun d hd=>by
  unfold zii;split
  ·split
   ·exact List.mem_cons_of_mem _ hd
   ·exact hd
  ·exact hd
 refine⟨⟨by rw[zmf,hI.size,hF.len],by rw[hF.len];exact hI.len,fun t ht=>(by cases ht),zkY L o hI.sonce,hslots,hp.zp,honce,hspe,fun b hb=>hI.own b (Nat.le_trans hp.evo.size hb),?_,?_,?_,?_,⟨fun t d ht=>?_,fun d k rows hd=>?_⟩,val',?_⟩,hevo⟩
 ·intro d cs hd
  obtain⟨b,h1,h2,h3,h4,_⟩:=hbox d cs hd;exact⟨b,h1,h2,h3,h4⟩
 ·intro d d' cs cs' b hne hd hd' hb hb'
  obtain⟨b1,e1,_,_,_,n1,o1⟩:=hbox d cs hd;obtain⟨b2,e2,_,_,_,n2,o2⟩:=hbox d' cs' hd';rw[hb] at e1;cases e1;rw[hb'] at e2;cases e2;by_cases h1:o.dst=some d
  ·have h2:o.dst≠some d':=fun e=>hne (by rw[h1] at e;cases e;rfl)
   have:=n1 h1
   have:=(o2 h2).1
   omega
  ·obtain⟨x1,x2,x3⟩:=o1 h1
   by_cases h2:o.dst=some d'
   ·have:=n2 h2
    omega
   ·obtain⟨y1,y2,y3⟩:=o2 h2
    exact hI.boxd d d' cs cs' b hne x2 y2 x3 y3
 ·intro d k rows b hd hb
  by_cases h1:o.dst=some d
  ·rw[hput d h1] at hb
   obtain⟨_,_,_,h2⟩:=hA.arr d k rows h1 hd;obtain⟨h3,h4,h5⟩:=h2 b hb;refine⟨h4,hI.own b h3,h5,fun d' cs hd' hp'=>?_,fun d' k' rows' hd' hb'=>?_⟩
   ·obtain⟨b',e',_,_,_,n',o'⟩:=hbox d' cs hd'
    rw[hp'] at e';cases e';by_cases h6:o.dst=some d'
    ·rw[h1] at h6;cases h6;rw[hd] at hd';cases hd'
    ·have:=(o' h6).1;omega
   ·by_cases h6:o.dst=some d'
    ·rw[h1] at h6;cases h6;rfl
    ·rw[hF.get d' h6] at hd'
     rw[zaM h6] at hb';have:=(hI.arr d' k' rows' b hd' hb').2.2.1
     omega
  ·rw[hF.get d h1] at hd
   rw[zaM h1] at hb;obtain⟨h3,h4,h5,h6,h7⟩:=hI.arr d k rows b hd hb;have hnb:¬zlm L S o a b:=fun he=>hBA b d k rows he hd hb
   refine⟨by rw[hp.evo.same b h5 hnb];exact h3,h4,Nat.lt_of_lt_of_le h5 hp.evo.size,fun d' cs hd' hp'=>?_,fun d' k' rows' hd' hb'=>?_⟩
   ·obtain⟨b',e',_,_,_,n',o'⟩:=hbox d' cs hd'
    rw[hp'] at e';cases e';by_cases h8:o.dst=some d'
    ·have:=n' h8;omega
    ·obtain⟨_,g1,g2⟩:=o' h8
     exact h6 d' cs g1 g2
   ·by_cases h8:o.dst=some d'
    ·rw[hput d' h8] at hb'
     obtain⟨_,_,_,h9⟩:=hA.arr d' k' rows' h8 hd';have:=(h9 b hb').1
     omega
    ·rw[hF.get d' h8] at hd'
     rw[zaM h8] at hb';exact h7 d' k' rows' hd' hb'
 ·intro t d k rows ht hd
  by_cases h1:o.dst=some t
  ·obtain⟨g1,g2,_⟩:=hA.al t d h1 ht
   have h2:o.dst≠some d:=fun e=>by rw[h1] at e;cases e;exact g1 rfl
   rw[hput t h1,zaM h2];exact g2
  ·rw[hF.get t h1] at ht
   by_cases h2:o.dst=some d
   ·exact absurd ht (hnoal d k rows h2 hd t)
   ·rw[hF.get d h2] at hd
    rw[zaM h1,zaM h2];exact hI.al t d k rows ht hd
 ·by_cases h1:o.dst=some t
  ·obtain⟨_,_,⟨k,rows,h2⟩,_⟩:=hA.al t d h1 ht
   exact .inl (hmade d (hI.mks.2 d k rows h2))
  ·rw[hF.get t h1] at ht
   exact(hI.mks.1 t d ht).imp (hmade d) fun h=>h
 ·by_cases h1:o.dst=some d
  ·have hm:=(hA.arr d k rows h1 hd).1
   show d∈zii L o st.made
   unfold zii;rw[hm,h1];exact List.mem_cons_self
  ·rw[hF.get d h1] at hd
   exact hmade d (hI.mks.2 d k rows hd)
 ·refine⟨fun x id hm=>?_,fun id k hm=>?_,fun id k b hm hb=>?_,fun id k id' k' b hm hm' hne hb=>?_,fun x id k d k' rows b hm hal hd hbd hb=>?_⟩
  ·rcases List.mem_append.1 hm with hm|hm
   ·unfold zgF at hm
    split at hm
    ·rename_i d hd
     split at hm
     ·cases hm
     ·rcases List.mem_append.1 hm with hm|hm
      ·simp only[List.mem_map,Prod.mk.injEq] at hm
       obtain⟨e,he,rfl,rfl⟩:=hm;obtain⟨u,hu,_,_⟩:=hp.fr e he;simp only;rw[hput d hd];refine⟨by rw[hvnew _ _ hu];exact hu,?_⟩
       rcases hp.kind d hd (hlen' d hd) with h|⟨h,_⟩
       ·exact h
       ·rw[h] at he;cases he
      ·simp only[List.mem_filterMap,zzOm,Prod.mk.injEq] at hm
       obtain⟨e,he,id',hid,rfl,rfl⟩:=hm;have hmem:=zau hid
       obtain⟨hc,_⟩:=hR.place _ _ hmem;simp only;rw[hput d hd,hvold _ (hb1 _ _ hmem)];refine⟨hp.mv e he _ hc,?_⟩
       rcases hp.kind d hd (hlen' d hd) with h|⟨_,h⟩
       ·exact h
       ·rw[h] at he;cases he
    ·cases hm
   ·obtain⟨hm,hd⟩:=List.mem_filter.1 hm
    simp only[Bool.not_eq_true',beq_eq_false_iff_ne] at hd;obtain⟨hc,hu⟩:=hR.place _ _ hm;rw[hvold _ (hb1 _ _ hm),zaM hd,hF.get _ hd];exact⟨zjP hI hp.evo (fun b cs hb hx=>hB b _ cs hb hx) hu hc,hu⟩
  ·rcases List.mem_append.1 hm with hm|hm
   ·obtain⟨n,he,rfl⟩:=hnewA id k hm
    obtain⟨u,hu,hrt,_⟩:=hp.fr _ he;rw[hvnew _ _ hu];exact hrt
   ·obtain⟨hm,hnE⟩:=List.mem_filter.1 hm
    rw[hvold _ (hb2 _ _ hm)];refine(hR.alive id k hm).evo hp.evo (fun b hb he=>?_)
    obtain⟨id',hid',k',hm',hv'⟩:=heat b he;have hne:id≠id':=fun e=>by subst e;simp at hnE;exact hnE hid'
    exact hR.apart id k id' k' b hm hm' hne hb hv'
  ·rcases List.mem_append.1 hm with hm|hm
   ·obtain⟨n,he,rfl⟩:=hnewA id k hm
    obtain⟨u,hu,_,hblk⟩:=hp.fr _ he;rw[hvnew _ _ hu] at hb;refine⟨?_,fun d cs hd hptr=>?_⟩
    ·rcases hblk b hb with h|h
     ·exact hI.own b h
     ·obtain⟨id',_,k',hm',hv'⟩:=heat b h
      exact(hR.own id' k' b hm' hv').1
    ·obtain⟨b',e,_,_,_,n1,o1⟩:=hbox d cs hd
     rw[hptr] at e;cases e;by_cases hdst:o.dst=some d
     ·have:=(hp.bx d cs hdst hd).2.2 _ he
      rw[hu] at this;cases this;cases hb
     ·obtain⟨x1,x2,x3⟩:=o1 hdst
      rcases hblk b hb with h|h
      ·omega
      ·exact hB b d cs h x2 x3
   ·obtain⟨hm,hnE⟩:=List.mem_filter.1 hm
    rw[hvold _ (hb2 _ _ hm)] at hb;obtain⟨h1,h2⟩:=hR.own id k b hm hb;refine⟨h1,fun d cs hd hptr=>?_⟩
    obtain⟨b',e,_,_,_,n1,o1⟩:=hbox d cs hd;rw[hptr] at e;cases e;by_cases hdst:o.dst=some d
    ·have:=n1 hdst
     have:=(hR.alive id k hm).lt hb
     omega
    ·obtain⟨x1,x2,x3⟩:=o1 hdst
     exact h2 d cs x2 x3
  ·-- no two in one block
   have hcross:∀n k0 id1 k1 u,(n,k0)∈zaI L S o→zax w' v n=some u→(id1,k1)∈st.alive→id1 ∉ E→∀b,zar u=some b→zar (val id1)≠some b:=by
    intro n k0 id1 k1 u he hu hm1 hnE b hbu hb1';obtain⟨u',hu',_,hblk⟩:=hp.fr _ he;rw[hu] at hu';cases hu';rcases hblk b hbu with h|h
    ·have:=(hR.alive id1 k1 hm1).lt hb1'
     omega
    ·obtain⟨id2,hid2,k2,hm2,hv2⟩:=heat b h
     exact hR.apart id1 k1 id2 k2 b hm1 hm2 (fun e=>hnE (by rw[e];exact hid2)) hb1' hv2
   rcases List.mem_append.1 hm with hm|hm
   ·obtain⟨n,he,rfl⟩:=hnewA id k hm
    obtain⟨u,hu,_,_⟩:=hp.fr _ he;rw[hvnew _ _ hu] at hb;rcases List.mem_append.1 hm' with hm'|hm'
    ·obtain⟨n',he',rfl⟩:=hnewA id' k' hm'
     obtain⟨u',hu',_,_⟩:=hp.fr _ he';rw[hvnew _ _ hu'];exact hp.ap _ _ u u' b he he' (fun e=>hne (by simp only at e;rw[e])) hu hu' hb
    ·obtain⟨hm',hnE⟩:=List.mem_filter.1 hm'
     rw[hvold _ (hb2 _ _ hm')];exact hcross n k id' k' u he hu hm' (by simpa using hnE) b hb
   ·obtain⟨hm,hnE⟩:=List.mem_filter.1 hm
    rw[hvold _ (hb2 _ _ hm)] at hb;rcases List.mem_append.1 hm' with hm'|hm'
    ·obtain⟨n',he',rfl⟩:=hnewA id' k' hm'
     obtain⟨u',hu',_,_⟩:=hp.fr _ he';rw[hvnew _ _ hu'];intro hb';exact hcross n' k' id k u' he' hu' hm (by simpa using hnE) b hb' hb
    ·obtain⟨hm',_⟩:=List.mem_filter.1 hm'
     rw[hvold _ (hb2 _ _ hm')];exact hR.apart id k id' k' b hm hm' hne hb
  ·-- written rows and their names
   have hold:id<base→(id,k)∈st.alive∧id ∉ E:=fun h=>by
    rcases List.mem_append.1 hal with hal|hal
    ·obtain⟨n,_,rfl⟩:=hnewA id k hal
     omega
    ·obtain⟨h1,h2⟩:=List.mem_filter.1 hal
     exact⟨h1,by simpa using h2⟩
   have hnewrow:o.dst=some d→∀id k,id<base→(id,k)∈st.alive→zar (val' id)=some b→False:=fun h1 id k hid hm' hb'=>by
    rw[hput d h1] at hbd;obtain⟨_,_,_,h2⟩:=hA.arr d k' rows h1 hd;rw[hvold _ hid] at hb';have:=(hR.alive id k hm').lt hb'
    have:=(h2 b hbd).1
    omega
   rcases List.mem_append.1 hm with hm|hm
   ·unfold zgF at hm
    split at hm
    ·rename_i d1 hd1
     split at hm
     ·cases hm
     ·rename_i hgu
      rcases List.mem_append.1 hm with hm|hm
      ·simp only[List.mem_map,Prod.mk.injEq] at hm
       obtain⟨e,he,rfl,rfl⟩:=hm;obtain⟨u,hu,hrt,hblk⟩:=hp.fr e he;rw[hvnew _ _ hu] at hb;have hk:∃n,(n,k)∈zaI L S o∧base+e.1=base+n:=by
        rcases List.mem_append.1 hal with hal|hal
        ·exact hnewA _ k hal
        ·have:=hb2 _ _ (List.mem_filter.1 hal).1
         omega
       obtain⟨n,hn,hen⟩:=hk;by_cases h1:o.dst=some d
       ·obtain⟨_,h2,_,_⟩:=hA.arr d k' rows h1 hd
        have e1:=h2 _ hn
        have e2:=h2 _ he
        rw[hd1] at h1;cases h1;cases e1;rw[e2];exact⟨rfl,.inl rfl,rfl⟩
       ·rw[hF.get d h1] at hd
        rw[zaM h1] at hbd;have:=(hI.arr d k' rows b hd hbd).2.2.1
        rcases hblk b hb with h|h
        ·omega
        ·exact absurd hbd (hBA b d k' rows h hd)
      ·simp only[List.mem_filterMap,zzOm,Prod.mk.injEq] at hm
       obtain⟨e,he,id',hid,rfl,rfl⟩:=hm;have hmem:=zau hid
       have hlt:=hb1 _ _ hmem
       obtain⟨hal',_⟩:=hold hlt;by_cases h1:o.dst=some d
       ·exact(hnewrow h1 _ k hlt hal' hb).elim
       ·have hd0:=hd
        rw[hF.get d h1] at hd;rw[zaM h1] at hbd;rw[hvold _ hlt] at hb;obtain⟨r1,r2,r3⟩:=hR.row _ _ k d k' rows b hmem hal' hd hbd hb;have hsrc:zbH (s.get e.2.1)=true:=by
         rcases r2 with r2|r2
         ·rw[r2,hd];rfl
         ·rw[r2];rfl
        rcases hx:s'.get d1 with _|y|ys|cs|⟨kk,rr⟩|d0
        ·have:=hA.pl d1 hd1 (by rw[hx];rfl) e he
         rw[hsrc] at this;cases this
        ·have:=hA.pl d1 hd1 (by rw[hx];rfl) e he
         rw[hsrc] at this;cases this
        ·have:=hA.pl d1 hd1 (by rw[hx];rfl) e he
         rw[hsrc] at this;cases this
        ·have:=hA.pl d1 hd1 (by rw[hx];rfl) e he
         rw[hsrc] at this;cases this
        ·have:=(hA.arr d1 kk rr hd1 hx).2.2.1
         rw[this] at he;cases he
        ·obtain⟨_,_,⟨k0,rows0,g0⟩,_,g1⟩:=hA.al d1 d0 hd1 hx
         obtain⟨g2,g3⟩:=g1 e he;have hdd:d0=d:=by
          rcases r2 with r2|r2
          ·rcases g3 with g3|g3
           ·rw[←g3,r2]
           ·rw[r2,hd] at g3;cases g3
          ·rcases g3 with g3|g3
           ·rw[g3,g0] at r2;cases r2
           ·rw[g3] at r2;cases r2;rfl
         subst hdd;exact⟨g2.trans r1,.inr rfl,r3⟩
    ·cases hm
   ·obtain⟨hm,hdq⟩:=List.mem_filter.1 hm
    simp only[Bool.not_eq_true',beq_eq_false_iff_ne] at hdq;have hlt:=hb1 _ _ hm
    obtain⟨hal',_⟩:=hold hlt;by_cases h1:o.dst=some d
    ·exact(hnewrow h1 _ k hlt hal' hb).elim
    ·rw[hF.get d h1] at hd
     rw[zaM h1] at hbd;rw[hvold _ hlt] at hb;obtain⟨r1,r2,r3⟩:=hR.row _ _ k d k' rows b hm hal' hd hbd hb;exact⟨r1,by rw[hF.get _ hdq];exact r2,r3⟩
theorem zrg (hI:Inv st p w a.tmps s Own) (hF:ze1 o s s') (honce:NoTwice s'.pe) (hspe:zbR (zbI L o st.spe) s') (hstep:zdF L S base o st=some st')
  (hrep:∀x∈zbQ L S o,∃c,Rep p w (a.eval x.1) c) (hpl:∀x∈zbQ L S o,∀t,x.1=.tmp t→zbH (s.get t)=false)
  (hop:(∀x∈zbQ L S o,Rt p w (a.eval x.1) x.2)→znP ((zbQ L S o).map fun x=>a.eval x.1)→Does P o a w fun v w'=>∃p',zhx L S st.spe o a p w s' v p' w'∧ArrOk L S st.spe o a.tmps s s' v w p' w')
  (hb1:∀q id,(q,id)∈st.pid→id<base) (hb2:∀id k,(id,k)∈st.alive→id<base):Does P o a w fun v w'=>∃p',Inv st' p' w' (a.put o.dst v).tmps s' Own∧Evo Own p w p' w':=by
 have hop:=hop
 obtain⟨val,hR⟩:=hI.rooms;have hstep':=hstep
 unfold zdF at hstep';split at hstep'
 case isFalse=>cases hstep'
 simp only[zzOb] at hstep';obtain⟨E,hE,_⟩:=hstep';obtain⟨hk1,hk2⟩:=zkT (a:=a) hR hE hrep;have hop:=hop (fun x hx=>(hk1 x hx).1) (fun i j u v b hij hi hj hb=>by
  rw[List.getElem?_map] at hi hj;simp only[zzOm] at hi hj;obtain⟨x,hx,rfl⟩:=hi;obtain⟨y,hy,rfl⟩:=hj;exact hk2 i j x y b hij hx hy hb)
 refine hop.mono ?_
 rintro v w' ⟨p',hp,hA⟩
 exact⟨p',zny hI hF honce hspe hstep hrep hpl hb1 hb2 hp hA⟩
theorem znU (hL:LayOk P L) (hC:za4 P S call) (hI:Inv st p w a.tmps s Own) (hs:zaK L call o s=some s') (hst:zaA o=false) (hstep:zdF L S base o st=some st')
  (hb1:∀q id,(q,id)∈st.pid→id<base) (hb2:∀id k,(id,k)∈st.alive→id<base):Does P o a w fun v w'=>∃p',Inv st' p' w' (a.put o.dst v).tmps s' Own∧Evo Own p w p' w':=by
 have htk:zeE L S o=true:=by
  unfold zdF at hstep;split at hstep
  case isFalse=>cases hstep
  rename_i htk;simp only[Bool.and_eq_true] at htk;have h:=htk.1
  unfold zkZ at h;simp only[Bool.and_eq_true] at h;exact h.1
 have hsee:∀x∈o.op.operands.toList,zcK p w a.tmps s x:=fun x _ t _=>hI.slots t
 obtain⟨hF,honce⟩:=zd4 hs hst hI.once;have hval:∀f args r,call f args=some r→zix r=true:=fun f args r h=>(hC f args r h).1.1
 refine zrg hI hF honce (znu hs hst hI.spe hI.sonce hI.once) hstep (zpM (a:=a) hs hsee htk) (zuz hs) (fun h1 h2=>?_) hb1 hb2
 refine(zwJ hL hC hs hst hsee hI.size hI.zp hI.spe h1 h2 htk).mono ?_
 rintro v w' ⟨p',hp⟩
 exact⟨p',hp,.plain (zpb hs hst hval) (zsP hs hI.spe)⟩
end
end
end Go.Proofs.Ytcpcagdialnbeaa
