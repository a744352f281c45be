/- Generic texts and models for the proofs of this seat: part 5. -/
import Derived.Test.YtcpcagdialnbeaaY04
set_option linter.unusedVariables false
set_option linter.unusedSimpArgs false
namespace Go.Proofs.Ytcpcagdialnbeaa
section
open Go Go.RowKit
section
variable {P:Program}{p:Stb}{w:World}
theorem zky (o:Obj):(w.alloc o).heap[w.heap.size]?=some o:=by
 show(w.heap.push o)[w.heap.size]?=some o
 simp
theorem zpB {t:Nat}{i:TI} (hT:TOk P t i):∃a,(Instr.alloc t true (.tuple #[])).run P w=.ok (.pointer (some ⟨w.heap.size,0,none⟩)) (w.alloc (.cells a t))∧ZL a.toList i.zero=true:=by
 obtain⟨inf,z,h1,_,_,h4,h5,_⟩:=hT.info;exact⟨z.cells,by simp[Instr.alloc,zeroValue,typeInfo,h1,h4,newVar,newRow],h5⟩
theorem zyO {t:Nat} (v:Value):(Instr.box t v).run P w=.ok (.pointer (some ⟨w.heap.size,0,none⟩)) (w.alloc (.cells v.cells t)):=by
 simp[Instr.box,newVar,newRow]
theorem zeM {b:Nat}{T:Nat}:∀(vs:List Value) (i:Nat) (off:Nat) (a:Array Value) (w:World),w.heap[b]?=some (.cells a T (0,0))→off+i+vs.length≤a.size→(∀v∈vs,v.oneCell'=true) →
  ∃w' a',(storeCells ⟨b,off,none⟩ vs i).run P w=.ok () w'∧w'.heap[b]?=some (.cells a' T (0,0))∧a'.size=a.size ∧
   (∀j,j<vs.length→a'[off+i+j]?=vs[j]?)∧(∀j,(j<off+i∨off+i+vs.length≤j)→a'[j]?=a[j]?) ∧
   w'.heap.size=w.heap.size∧(∀x,x≠b→w'.heap[x]?=w.heap[x]?)∧w'.os=w.os∧w'.tape=w.tape∧w'.output=w.output
 | [],i,off,a,w,hb,_,_=>⟨w,a,by simp[storeCells],hb,rfl,fun j h=>by simp at h,fun _ _=>rfl,rfl,fun _ _=>rfl,rfl,rfl,rfl⟩
 | v::vs,i,off,a,w,hb,hl,h1=>by
  simp only[List.length_cons] at hl;have hc:w.cell? ⟨b,off+i,none⟩=some (a[off+i]'(by omega)):=by rw[zaV hb];exact Array.getElem?_eq_getElem _
  have hf:w.frozen? ⟨b,off+i,none⟩=false:=by simp[World.frozen?,hb]
  have hb':(w.setCell ⟨b,off+i,none⟩ v).heap[b]?=some (.cells (a.setIfInBounds (off+i) v) T (0,0)):=by
   simp[World.setCell,Array.getElem?_modify,hb]
  obtain⟨w',a',r,r1,r2,r3,r4,r5,r6,r7,r8,r9⟩:=zeM vs (i+1) off _ _ hb' (by simp;omega) (fun u hu=>h1 u (List.mem_cons_of_mem _ hu))
  refine⟨w',a',?_,r1,by rw[r2];simp,fun j hj=>?_,fun j hj=>?_,by rw[r5];simp[World.setCell],fun x hx=>by rw[r6 x hx];exact Below.heap_setCell _ _ _ _ hx,r7,r8,r9⟩
  ·simp only[storeCells,Sem.run_bind,Addr.add_lit,run_store P _ _ _ _ (h1 v List.mem_cons_self),hc,hf]
   simpa using r
  ·match j with
   | 0 =>
    rw[r4 _ (.inl (by omega))]
    simp only[Nat.add_zero,List.getElem?_cons_zero];rw[Array.getElem?_setIfInBounds];simp;omega
   | j+1 =>
    simp only[List.length_cons] at hj;rw[show off+i+(j+1)=off+(i+1)+j by omega,r3 j (by omega)]
    simp
  ·simp only[List.length_cons] at hj
   rw[r4 j (by omega),Array.getElem?_setIfInBounds]
   rw[if_neg (by omega)]
theorem zjK:∀(xs cs:List AC) (off:Nat),(zbY cs off xs).length=cs.length
 | [],_,_=>rfl
 | x::xs,cs,off=>by rw[zbY,zjK xs];simp
theorem zq6:∀(xs cs:List AC) (off j:Nat),off+xs.length≤cs.length→(zbY cs off xs)[j]?=if off≤j∧j<off+xs.length then xs[j-off]? else cs[j]?
 | [],cs,off,j,_=>by simp only[zbY,List.length_nil];rw[if_neg (by omega)]
 | x::xs,cs,off,j,h=>by
  simp only[List.length_cons] at h ⊢;rw[zbY,zq6 xs _ _ j (by rw[List.length_set];omega)]
  by_cases h1:off+1≤j∧j<off+1+xs.length
  ·rw[if_pos h1,if_pos (by omega),show j-off=(j-(off+1))+1 by omega];simp
  ·rw[if_neg h1]
   by_cases h2:j=off
   ·rw[h2,if_pos ⟨Nat.le_refl _,by omega⟩,Nat.sub_self,List.getElem?_set_self (by omega)]
    rfl
   ·have hn:¬(off≤j∧j<off+(xs.length+1)):=by omega
    rw[if_neg hn,List.getElem?_set_ne (by omega)]
theorem zqP {t:Nat}{i:TI} (hT:TOk P t i) {b off:Nat}{a:Array Value}{T:Nat}{cs:List AC}{v:Value}{x:SV} (hb:w.heap[b]?=some (.cells a T (0,0))) (hr:RepL p w a.toList cs)
  (hl:off+i.size≤cs.length) (hx:x.cells.length=i.size) (hv:RepS p w v x) :
  ∃w' a',(Instr.storeAt t (.pointer (some ⟨b,off,none⟩)) v).run P w=.ok () w'∧w'.heap[b]?=some (.cells a' T (0,0))∧RepL p w a'.toList (zbY cs off x.cells) ∧
   (∀j,j<v.cells.size→a'[off+j]?=v.cells[j]?)∧(∀j,(j<off∨off+v.cells.size≤j)→a'[j]?=a[j]?) ∧
   w'.heap.size=w.heap.size∧(∀y,y≠b→w'.heap[y]?=w.heap[y]?)∧w'.os=w.os∧w'.tape=w.tape∧w'.output=w.output:=by
 obtain⟨inf,z,h1,h2,_,_,_,_⟩:=hT.info;have hvc:=hv.cells
 have hlen:=hvc.length
 have hla:=hr.length
 obtain⟨w',a',r,r1,r2,r3,r4,r5,r6,r7,r8,r9⟩:=zeM (P:=P) (b:=b) (T:=T) v.cells.toList 0 off a w hb (by simp at hlen hla ⊢;omega) (RepL.oneCell hvc)
 refine⟨w',a',?_,r1,?_,fun j hj=>by simpa using r3 j (by simpa using hj),fun j hj=>r4 j (by simpa using hj),r5,r6,r7,r8,r9⟩
 ·have hsz:v.cells.size=inf.size:=by rw[h2,←hx,←hlen];simp
  simp[Instr.storeAt,Instr.sureAddr,storeVar,sizeOf,typeInfo,h1,hsz,r]
 ·refine RepL.of (by rw[zjK];simp at hla ⊢;omega) fun j u c hu hc=>?_
  rw[zq6 _ _ _ _ (by omega)] at hc
  simp only[Array.getElem?_toList] at hu;split at hc
  ·rename_i hj
   obtain⟨u',hu',hr'⟩:=hvc.get hc;have:=r3 (j-off) (by rw[hlen];omega)
   rw[show off+0+(j-off)=j by omega,hu,hu'] at this
   cases this;exact hr'
  ·rename_i hj
   rw[r4 j (by rw[hlen];omega)] at hu
   obtain⟨u',hu',hr'⟩:=hr.get hc;simp only[Array.getElem?_toList] at hu';rw[hu] at hu';cases hu';exact hr'
theorem zbw {w':World}{b:Nat} (hp:p b=0) (hs:w'.heap.size=w.heap.size) (h:∀y,y≠b→w'.heap[y]?=w.heap[y]?) (h1:w'.os=w.os) (h2:w'.tape=w.tape) (h3:w'.output=w.output):Evo (·=b) p w p w' :=
 ⟨h1,h2,h3,by omega,fun x _ hx=>h x hx,fun _ _=>Nat.le_refl _,fun _ _ _=>rfl,(fun x o _ ho=>by
  by_cases hx:x=b
  ·subst hx;omega
  ·exact World.cell?_of_block (w:=w) (h x hx)),fun _ _=>rfl,fun _ h1 h2=>by omega⟩
def Rt (p:Stb) (w:World) (v:Value) (k:Nat):Prop :=
 v=.slice none 0 0∨∃b off len cap a T,v=.slice (some ⟨b,off,none⟩) len cap∧w.heap[b]?=some (.cells a T (0,0))∧len≤cap∧off+cap*k≤a.size∧p b≤off+len*k∧p.ok b k
theorem Rt.evo {B:Nat→Prop}{p':Stb}{w':World} (h:Evo B p w p' w') {v:Value}{k:Nat} (hB:∀b,zar v=some b→¬B b) (hr:Rt p w v k):Rt p' w' v k:=by
 rcases hr with rfl|⟨b,off,len,cap,a,T,rfl,h1,h2,h3,h4⟩
 ·exact .inl rfl
 ·have:=hB b rfl
  have hlt:b<w.heap.size:=by
   rcases Nat.lt_or_ge b w.heap.size with hlt|hge
   ·exact hlt
   ·rw[Array.getElem?_eq_none hge] at h1;cases h1
  exact .inr ⟨b,off,len,cap,a,T,rfl,by rw[h.block b hlt this];exact h1,h2,h3,by rw[h.same b hlt this];exact h4.1,by rw[h.okk b hlt];exact h4.2⟩
theorem Rt.lt {v:Value}{k b:Nat} (hr:Rt p w v k) (h:zar v=some b):b<w.heap.size:=by
 rcases hr with rfl|⟨b',off,len,cap,a,T,rfl,h1,h2,h3,h4⟩
 ·cases h
 ·cases h
  rcases Nat.lt_or_ge b' w.heap.size with hlt|hge
  ·exact hlt
  ·rw[Array.getElem?_eq_none hge] at h1;cases h1
theorem Rt.okAt {v:Value}{k b:Nat} (hr:Rt p w v k) (h:zar v=some b):p.ok b k:=by
 rcases hr with rfl|⟨b',off,len,cap,a,T,rfl,h1,h2,h3,h4,h5⟩
 ·cases h
 ·cases h;exact h5
theorem zoY {k cap T:Nat}{rows:List (List AC)}{us rest:List Value} (hk:0<k) (hrows:∀r∈rows,r.length=k) (hcap:rows.length≤cap) (hr:RepL p w us rows.flatten) (hlen:us.length=rows.length*k) (hz:Zp p w)
  (hrest:us.length+rest.length=cap*k):let w':=w.alloc (.cells (us++rest).toArray T)
  let p':=upP p w.heap.size (rows.length*k) k
  Rep p' w' (.slice (some ⟨w.heap.size,0,none⟩) rows.length cap) (.sl k rows)∧Rt p' w' (.slice (some ⟨w.heap.size,0,none⟩) rows.length cap) k∧Evo (fun _=>False) p w p' w'∧Zp p' w':=by
 intro w' p';have he:Evo (fun _=>False) p w p' w':=zav _ _ _ k
 have hb:w'.heap[w.heap.size]?=some (.cells (us++rest).toArray T (0,0)):=zky _
 have hok:p'.ok w.heap.size k:=zd2 _ _ _ _
 refine⟨zl9 hk hrows (by simp[w']) (by simp[p',za0]) hok hcap (hr.evo he) (fun j u hj=>?_),.inr ⟨_,_,_,_,_,_,rfl,hb,hcap,?_,by simp[p',za0],hok⟩,he,zpv hz _ _ k⟩
 ·rw[zaV hb,Nat.zero_add]
  have:=(List.getElem?_eq_some_iff.1 hj).1
  rw[List.getElem?_toArray,List.getElem?_append_left this];exact hj
 ·simp;omega
theorem zd7 {t u:Nat}{e:TI} (hu:P.underlying t=some (.slice u)) (hT:TOk P u e) {x y:Value}{r r':List (List AC)} (hk:0<e.size) (hx:Rep p w x (.sl e.size r)) (hy:Rep p w y (.sl e.size r'))
  (ht:Rt p w x e.size) (hz:Zp p w) (hl:(r++r').length≤zgY) (ty:Nat) :
  ∃v w' p',(Builtin.append_ #[t,t] ty #[x,y]).run P w=.ok v w'∧Rep p' w' v (.sl e.size (r++r'))∧Rt p' w' v e.size∧Evo (fun b=>zar x=some b) p w p' w'∧Zp p' w' ∧
   (∀b,zar v=some b→zar x=some b∨b=w.heap.size):=by
 obtain⟨inf,z,h1,h2,h3,h4,h5,h6⟩:=hT.info;have hl':r.length+r'.length≤68719476736:=by simpa [zgY] using hl
 -- what the second one's cells are
 rcases hy.row with ⟨⟨ay,rfl⟩,rfl⟩|⟨by_,oy,capy,us',rfl,_,hrows',_,_,hcapy,hus',hrep',hcells'⟩
 ·-- nothing is appended
  rcases hx.row with ⟨⟨ax,rfl⟩,rfl⟩|⟨b,o,cap,us,rfl,_,hrows,hb,⟨hok,hp⟩,hcap,hus,hrep,hcells⟩
  ·refine⟨.slice ax 0 0,w,p,?_,by simpa using hx,ht,.refl _ _ _,hz,fun b h=>.inl h⟩
   cases ax <;> cases ay <;> simp[Builtin.append_,run_underlying hu,sizeOf,typeInfo,h1,Builtin.lenOf,Builtin.firstCells,loadCells,loadCellsFrom,storeCells]
  ·refine⟨_,w,p,?_,by simpa using hx,ht,.refl _ _ _,hz,fun b h=>.inl h⟩
   cases ay <;> simp[Builtin.append_,run_underlying hu,sizeOf,typeInfo,h1,Builtin.lenOf,Builtin.firstCells,hcap,storeCells,loadCells,loadCellsFrom]
 ·rcases hx.row with ⟨⟨ax,rfl⟩,rfl⟩|⟨b,o,cap,us,rfl,_,hrows,hb,⟨hok,hp⟩,hcap,hus,hrep,hcells⟩
  ·rcases Nat.eq_zero_or_pos r'.length with h0|h0
   ·have hr0:r'=[]:=List.eq_nil_of_length_eq_zero h0
    subst hr0;refine⟨.slice ax 0 0,w,p,?_,.nil _ _,ht,.refl _ _ _,hz,(fun b h=>.inl h)⟩
    cases ax <;> simp[Builtin.append_,run_underlying hu,sizeOf,typeInfo,h1,Builtin.lenOf,Builtin.firstCells,loadCells,loadCellsFrom,storeCells]
   ·have hrun:(Builtin.append_ #[t,t] ty #[.slice ax 0 0,.slice (some ⟨by_,oy,none⟩) r'.length capy]).run P w=.ok (.slice (some ⟨w.heap.size,0,none⟩) r'.length (grownCap w r'.length 0 u)) (w.drew.alloc (.cells (us'.toArray++Builtin.zeroCells z.cells (grownCap w r'.length 0 u-r'.length)) u)):=by
     cases ax with
     | none=>exact run_append_nil (P:=P) w t ty u inf z hu h1 h4 ⟨by_,oy,none⟩ r'.length capy us' (by rw[h2];exact hus') (fun j v hj=>by rw[Addr.add_lit];exact hcells' j v hj) h0 (by omega) (Nat.le_trans (Nat.mul_le_mul (show r'.length≤68719476736 by omega) h3) (by decide))
     | some a =>
      have:=run_append_grow (P:=P) w t ty u inf z hu h1 h4 a 0 0 [] (by simp) (fun j v hj=>by simp at hj) ⟨by_,oy,none⟩ r'.length capy us' (by rw[h2];exact hus') (fun j v hj=>by rw[Addr.add_lit];exact hcells' j v hj) (by omega) (by omega) (growslice_fits (by omega) (Nat.le_trans (Nat.mul_le_mul (show 0+r'.length≤68719476736 by omega) h3) (by decide)))
      simpa using this
    have hge:=grownCap_ge w r'.length 0 u
    have hnew:=zoY (p:=p) (w:=w.drew) (k:=e.size) (cap:=grownCap w r'.length 0 u) (T:=u) (rows:=r') (us:=us') (rest:=(Builtin.zeroCells z.cells (grownCap w r'.length 0 u-r'.length)).toList) hk hrows' hge (hrep'.evo (zfj (fun _=>False))) hus' hz
     (by simp only[Array.length_toList,size_zeroCells,hus',h6,←Nat.add_mul];congr 1;omega)
    obtain⟨a1,a2,a3,a4⟩:=hnew;have harr:us'.toArray++Builtin.zeroCells z.cells (grownCap w r'.length 0 u-r'.length)=(us'++(Builtin.zeroCells z.cells (grownCap w r'.length 0 u-r'.length)).toList).toArray:=by
     apply Array.ext'
     simp
    rw[harr] at hrun;refine⟨_,_,upP p w.heap.size (r'.length*e.size) e.size,hrun,?_,?_,?_,?_,(fun b hb=>.inr (by cases hb;rfl))⟩
    ·exact a1
    ·exact a2
    ·exact(((zfj (fun _=>False)).trans a3 (C:=fun _=>False) (fun _ _ h=>h) (fun _ _ h=>h)).weaken (fun _ _ h=>h.elim))
    ·exact a4
  ·by_cases hroom:r.length+r'.length≤cap
   ·-- in its own room
    rcases ht with ht|⟨b',off,len,cap',a,T,he,hb',hlc,hfit,hpb,hok'⟩
    ·cases ht
    ·cases he
     have hmul:r.length*e.size+r'.length*e.size≤cap*e.size:=by rw[←Nat.add_mul];exact Nat.mul_le_mul_right _ hroom
     have hst:=zeM (P:=P) (b:=b) (T:=T) us' 0 (o+r.length*e.size) a w hb' (by rw[hus'];omega) (RepL.oneCell hrep')
     obtain⟨w',a',q,q1,q2,q3,q4,q5,q6,q7,q8,q9⟩:=hst;have hf:=run_firstCells_some (P:=P) w inf.size r'.length ⟨by_,oy,none⟩ r'.length capy us' (by rw[h2];exact hus') (fun j v hj=>by rw[Addr.add_lit];exact hcells' j v hj)
     rw[h2] at hf
     let p':Stb:=⟨fun x=>if x=b then o+(r.length+r'.length)*e.size else p x,p.ok⟩
     have hev:Evo (fun x=>x=b) p w p' w':=by
      refine⟨q7,q8,q9,by omega,fun x _ hx=>q6 x hx,fun x _=>?_,fun x _ hx=>?_,fun x o' _ ho=>?_,fun _ _=>rfl,fun _ h1 h2=>by omega⟩
      ·simp only[p']
       split
       ·rename_i hx;subst hx;rw[Nat.add_mul];omega
       ·exact Nat.le_refl _
      ·simp only[p',if_neg hx]
      ·by_cases hx:x=b
       ·subst hx
        rw[zaV q1,zaV hb',q4 o' (.inl (by omega))]
       ·exact World.cell?_of_block (w:=w) (q6 x hx)
     refine⟨.slice (some ⟨b,o,none⟩) (r.length+r'.length) cap,w',p',?_,?_,?_,?_,?_,fun _ h=>.inl h⟩
     ·simp[Builtin.append_,run_underlying hu,sizeOf,typeInfo,h1,Builtin.lenOf,hroom,hf,Addr.add_lit,h2,q]
     ·have hall:RepL p' w' (us++us') (r++r').flatten:=by rw[List.flatten_append];exact(hrep.evo hev).append (hrep'.evo hev)
      have:=zl9 (p:=p') (w:=w') (b:=b) (o:=o) (cap:=cap) (k:=e.size) (rows:=r++r') (us:=us++us') hk (fun x hx=>by rcases List.mem_append.1 hx with h|h;exact hrows x h;exact hrows' x h) (by omega)
       (by simp[p']) hok (by simpa using hroom) hall (fun j v hj=>by
        rw[zaV q1];rcases Nat.lt_or_ge j us.length with hlt|hge
        ·rw[List.getElem?_append_left hlt] at hj
         rw[q4 _ (.inl (by omega)),←zaV hb']
         exact hcells j v hj
        ·rw[List.getElem?_append_right hge] at hj
         have hlt:=(List.getElem?_eq_some_iff.1 hj).1
         rw[←hj,←q3 (j-us.length) hlt]
         congr 1;omega)
      simpa using this
     ·exact .inr ⟨b,o,_,cap,a',T,rfl,q1,hroom,by omega,by simp[p'],hok⟩
     ·exact hev.weaken (fun x _ h=>by subst h;rfl)
     ·refine⟨fun x hx=>?_,fun x hx k=>hz.2 x (by omega) k⟩
      have:x≠b:=by omega
      simp only[p',if_neg this];exact hz.1 x (by omega)
   ·-- a new row
    have hrun:=run_append_grow (P:=P) w t ty u inf z hu h1 h4 ⟨b,o,none⟩ r.length cap us (by rw[h2];exact hus) (fun j v hj=>by rw[Addr.add_lit];exact hcells j v hj) ⟨by_,oy,none⟩ r'.length capy us' (by rw[h2];exact hus') (fun j v hj=>by rw[Addr.add_lit];exact hcells' j v hj) (by omega) (by omega)
     (growslice_fits (by omega) (Nat.le_trans (Nat.mul_le_mul hl' h3) (by decide)))
    have hge:=grownCap_ge w (r.length+r'.length) cap u
    have hall:RepL p w (us++us') (r++r').flatten:=by rw[List.flatten_append];exact hrep.append hrep'
    have hnew:=zoY (p:=p) (w:=w.drew) (k:=e.size) (cap:=grownCap w (r.length+r'.length) cap u) (T:=u) (rows:=r++r') (us:=us++us') (rest:=(Builtin.zeroCells z.cells (grownCap w (r.length+r'.length) cap u-(r.length+r'.length))).toList) hk
     (fun x hx=>by rcases List.mem_append.1 hx with h|h;exact hrows x h;exact hrows' x h) (by simpa using hge) (hall.evo (zfj (fun _=>False))) (by simp[hus,hus',Nat.add_mul]) hz
     (by simp only[List.length_append,Array.length_toList,size_zeroCells,hus,hus',h6,←Nat.add_mul];congr 1;omega)
    obtain⟨a1,a2,a3,a4⟩:=hnew;have harr:us.toArray++us'.toArray++Builtin.zeroCells z.cells (grownCap w (r.length+r'.length) cap u-(r.length+r'.length))=(us++us'++(Builtin.zeroCells z.cells (grownCap w (r.length+r'.length) cap u-(r.length+r'.length))).toList).toArray:=by
     apply Array.ext'
     simp[List.append_assoc]
    rw[harr] at hrun;refine⟨_,_,upP p w.heap.size ((r++r').length*e.size) e.size,hrun,?_,?_,?_,?_,(fun b hb=>.inr (by cases hb;rfl))⟩
    ·rw[List.length_append] at a1 ⊢
     exact a1
    ·rw[List.length_append] at a2 ⊢
     exact a2
    ·exact(((zfj (fun _=>False)).trans a3 (C:=fun _=>False) (fun _ _ h=>h) (fun _ _ h=>h)).weaken (fun _ _ h=>h.elim))
    ·exact a4
end
end
section
open Go Go.RowKit
section
variable {P:Program}{p:Stb}{w:World}
theorem zlh {α β:Type} (g:α→Sem β) (h:α→β):∀(l:List α),(∀f∈l,(g f).run P w=.ok (h f) w)→(l.mapM g).run P w=.ok (l.map h) w
 | [],_=>by simp
 | x::xs,hh=>by
  simp only[List.mapM_cons,Sem.run_bind,hh x List.mem_cons_self,Result.andThen,zlh g h xs (fun f hf=>hh f (List.mem_cons_of_mem _ hf)),Sem.run_pure,List.map_cons]
theorem zye {α β:Type} (g:α→Sem β) (h:α→β) (arr:Array α) (hh:∀f∈arr,(g f).run P w=.ok (h f) w):(arr.mapM g).run P w=.ok (arr.toList.map h).toArray w:=by
 rw[Array.mapM_eq_mapM_toList];have:=zlh (P:=P) (w:=w) g h arr.toList (fun f hf=>hh f (by simpa using hf))
 rw[map_eq_pure_bind];simp only[Sem.run_bind,this,Result.andThen,Sem.run_pure]
def zgZ (us:List Value) (off:Nat):List Value→List Value
 | []=>us
 | x::xs=>zgZ (us.set off x) (off+1) xs
theorem zjz:∀(xs us:List Value) (off:Nat),(zgZ us off xs).length=us.length
 | [],_,_=>rfl
 | x::xs,us,off=>by rw[zgZ,zjz xs];simp
theorem zpJ (off:Nat):∀(xs:List Value) (j:Nat) (arr:Array Value),((xs.zipIdx j).foldl (fun cs (c,j)=>cs.setIfInBounds (off+j) c) arr).toList=zgZ arr.toList (off+j) xs
 | [],_,_=>rfl
 | x::xs,j,arr=>by
  simp only[List.zipIdx_cons,List.foldl_cons];rw[zpJ off xs (j+1),zgZ];simp[Nat.add_assoc]
theorem RepL.fill:∀{vs:List Value}{xs:List AC}{us:List Value}{cs:List AC} (off:Nat),RepL p w us cs→RepL p w vs xs→RepL p w (zgZ us off vs) (zbY cs off xs)
 | [],[],_,_,_,h,_=>h
 | _::_,_::_,_,_,off,h,⟨a,b⟩=>RepL.fill (off+1) (h.set a off) b
theorem zk4:∀(xs us:List Value) (off j:Nat),off+xs.length≤us.length→(zgZ us off xs)[j]?=if off≤j∧j<off+xs.length then xs[j-off]? else us[j]?
 | [],us,off,j,_=>by simp only[zgZ,List.length_nil];rw[if_neg (by omega)]
 | x::xs,us,off,j,h=>by
  simp only[List.length_cons] at h ⊢;rw[zgZ,zk4 xs _ _ j (by rw[List.length_set];omega)]
  by_cases h1:off+1≤j∧j<off+1+xs.length
  ·rw[if_pos h1,if_pos (by omega),show j-off=(j-(off+1))+1 by omega];simp
  ·rw[if_neg h1]
   by_cases h2:j=off
   ·rw[h2,if_pos ⟨Nat.le_refl _,by omega⟩,Nat.sub_self,List.getElem?_set_self (by omega)]
    rfl
   ·have hn:¬(off≤j∧j<off+(xs.length+1)):=by omega
    rw[if_neg hn,List.getElem?_set_ne (by omega)]
theorem zrJ (place:Nat→Option (Nat×Nat)) (cells:Array Value) (i:Nat) (v:Value) (rest:List (Nat×Value)) (off n:Nat) (h:place i=some (off,n)) (hv:v.cells.size=n) (hf:off+n≤cells.size) :
  Instr.fill place cells ((i,v)::rest)=Instr.fill place (zgZ cells.toList off v.cells.toList).toArray rest:=by
 have e:v.cells.zipIdx.foldl (fun cs (c,j)=>cs.setIfInBounds (off+j) c) cells=(zgZ cells.toList off v.cells.toList).toArray:=by
  rw[←Array.foldl_toList,Array.toList_zipIdx];apply Array.ext'
  rw[zpJ];simp
 rw[Instr.fill,h];simp only[hv];rw[if_neg (by simp;omega),e]
inductive Built (p:Stb) (w:World) (i:TI):List (Nat×Value)→List Value→List AC→List AC→List Value→Prop
 | nil (us cs):Built p w i [] us cs cs us
 | cons {f v rest us cs cs' us' off n x} (hf:i.fields[f]?=some (off,n)) (hv:RepS p w v x) (hx:x.cells.length=n) (hl:off+n≤cs.length)
   (h:Built p w i rest (zgZ us off v.cells.toList) (zbY cs off x.cells) cs' us'):Built p w i ((f,v)::rest) us cs cs' us'
theorem Built.rep {i:TI}{parts:List (Nat×Value)}{us us':List Value}{cs cs':List AC} (h:Built p w i parts us cs cs' us') (hr:RepL p w us cs):RepL p w us' cs':=by
 induction h with
 | nil=>exact hr
 | cons hf hv hx hl h ih=>exact ih (hr.fill _ hv.cells)
theorem Built.fill {i:TI}{parts:List (Nat×Value)}{us us':List Value}{cs cs':List AC} (h:Built p w i parts us cs cs' us') (hr:RepL p w us cs) (place:Nat→Option (Nat×Nat))
  (hp:∀f o n,i.fields[f]?=some (o,n)→place f=some (o,n)):Instr.fill place us.toArray parts=some us'.toArray:=by
 induction h with
 | nil=>rfl
 | cons hf hv hx hl h ih =>
  have h1:=hv.cells.length
  have h2:=hr.length
  rw[zrJ place _ _ _ _ _ _ (hp _ _ _ hf) (by simp at h1;omega) (by simp;omega)]
  exact ih (hr.fill _ hv.cells)
theorem run_build {t:Nat}{i:TI} (hT:TOk P t i) (h3:i.kind=3) {parts:List (Nat×Value)}{cs':List AC}{us':List Value}{z:Value} (hz:∃inf,P.info? t=some inf∧inf.zero=some z)
  (hb:Built p w i parts z.cells.toList i.zero cs' us') (hr:RepL p w z.cells.toList i.zero):(Instr.build t parts.toArray).run P w=.ok (.agg us'.toArray) w:=by
 obtain⟨inf,h1,h4⟩:=hz;obtain⟨fs,hu,hsz,hf⟩:=hT.struct h3;have hfs:∀f∈fs,(do pure (f.offset,←sizeOf f.type):Sem (Nat×Nat)).run P w=.ok (f.offset,((P.info? f.type).map (·.size)).getD 0) w:=by
  intro f hm;obtain⟨j,hj,he⟩:=Array.mem_iff_getElem.1 hm;obtain⟨⟨o,n⟩,hon⟩:∃on,i.fields[j]?=some on:=⟨i.fields[j]'(by omega),List.getElem?_eq_getElem _⟩
  obtain⟨fd,fi,e1,_,e3,e4,_⟩:=hf j o n hon;rw[Array.getElem?_eq_getElem hj,he] at e1;cases e1;simp[sizeOf,typeInfo,e3]
 have hfill:=hb.fill hr (fun x=>(fs.toList.map fun f=>(f.offset,((P.info? f.type).map (·.size)).getD 0)).toArray[x]?) (fun f o n hon=>by
  obtain⟨fd,fi,e1,e2,e3,e4,_⟩:=hf f o n hon;simp[e1,e2,e3,e4])
 simp only[Array.toArray_toList] at hfill;have hm:=zye (P:=P) (w:=w) _ _ fs hfs
 simp only[bind_pure_comp] at hm;simp[Instr.build,zeroValue,typeInfo,h1,h4,run_underlying hu,hm]
 simp at hfill
 rw[hfill];simp
theorem zq5 {k:Nat} (hk:0<k):∀(parts:List (Nat×Value)) (rows:List (List AC)) (j:Nat) (cells:List Value),parts.map (·.1)=(List.range parts.length).map (j+·)→parts.length=rows.length →
  (∀(i:Nat) (e:Nat×Value) (r:List AC),parts[i]?=some e→rows[i]?=some r→RepL p w e.2.cells.toList r∧r.length=k)→cells.length=(j+rows.length)*k →
  ∃us,Instr.fill (fun i=>some (i*k,k)) cells.toArray parts=some (cells.take (j*k)++us).toArray∧RepL p w us rows.flatten∧us.length=rows.length*k
 | [],[],j,cells,_,_,_,hc=>⟨[],by rw[Instr.fill,List.append_nil,List.take_of_length_le (by rw[hc];simp)],trivial,by simp⟩
 | (i,v)::parts,r::rows,j,cells,hi,hl,h,hc=>by
  obtain⟨hv,hrk⟩:=h 0 (i,v) r rfl rfl;have hij:i=j:=by
   have:=congrArg (·[0]?) hi
   simpa [List.range_succ_eq_map] using this
  subst hij;have hvl:v.cells.toList.length=k:=by rw[←hrk];exact hv.length
  have hge:(i+1)*k≤cells.length:=by rw[hc];exact Nat.mul_le_mul_right _ (by simp)
  rw[Nat.succ_mul] at hge;rw[zrJ _ _ _ _ _ (i*k) k rfl (by simp at hvl;omega) (by simp;omega)]
  obtain⟨us,h1,h2,h3⟩:=zq5 hk parts rows (i+1) (zgZ cells (i*k) v.cells.toList) (by
   have:=congrArg List.tail hi
   simp only[List.map_cons,List.tail_cons,List.length_cons,List.range_succ_eq_map] at this;rw[this];simp[Function.comp_def,Nat.add_assoc,Nat.add_comm 1]) (by simpa using hl) (fun i' e r' he hr'=>h (i'+1) e r' (by simpa using he) (by simpa using hr')) (by rw[zjz,hc];simp[Nat.add_assoc,Nat.add_comm 1])
  have htake:(zgZ cells (i*k) v.cells.toList).take ((i+1)*k)=cells.take (i*k)++v.cells.toList:=by
   apply List.ext_getElem?
   intro x;rw[List.getElem?_take];by_cases hx:x<(i+1)*k
   ·rw[if_pos hx,zk4 _ _ _ _ (by omega)]
    rw[Nat.succ_mul] at hx;by_cases hx2:i*k≤x
    ·rw[if_pos ⟨hx2,by omega⟩,List.getElem?_append_right (by rw[List.length_take];omega),List.length_take,Nat.min_eq_left (by omega)]
    ·rw[if_neg (by omega),List.getElem?_append_left (by rw[List.length_take];omega),List.getElem?_take,if_pos (by omega)]
   ·rw[if_neg hx]
    rw[Nat.succ_mul] at hx;rw[List.getElem?_eq_none];rw[List.length_append,List.length_take];omega
  refine⟨v.cells.toList++us,?_,?_,?_⟩
  ·simp only[] at h1 ⊢
   rw[h1,htake,List.append_assoc]
  ·simp only[List.flatten_cons]
   exact hv.append h2
  ·simp only[List.length_append,List.length_cons,Nat.succ_mul]
   omega
theorem zqf {t u:Nat}{e:TI} (hu:P.underlying t=some (.slice u)) (hT:TOk P u e) (hk:0<e.size) {parts:List (Nat×Value)}{rows:List (List AC)} (hi:parts.map (·.1)=List.range parts.length) (hl:parts.length=rows.length)
  (h:∀(i:Nat) (x:Nat×Value) (r:List AC),parts[i]?=some x→rows[i]?=some r→RepL p w x.2.cells.toList r∧r.length=e.size) (hz:Zp p w) (hn:rows.length≤65536) (he:e.size≤256) :
  ∃v w' p',(Instr.buildSlice t rows.length parts.toArray).run P w=.ok v w'∧Rep p' w' v (.sl e.size rows)∧Rt p' w' v e.size∧Evo (fun _=>False) p w p' w'∧Zp p' w'∧(∀b,zar v=some b→b=w.heap.size):=by
 obtain⟨inf,z,h1,h2,_,h4,_,h6⟩:=hT.info;have hcell:∀r∈rows,r.length=e.size:=fun r hr=>by
  obtain⟨j,hj,hjr⟩:=List.mem_iff_getElem.1 hr;exact(h j (parts[j]'(by omega)) r (List.getElem?_eq_getElem _) (by rw[List.getElem?_eq_getElem hj,hjr])).2
 have hsm:rows.length*e.size≤16777216:=Nat.le_trans (Nat.mul_le_mul hn he) (by decide)
 obtain⟨us,f1,f2,f3⟩:=zq5 (p:=p) (w:=w) hk parts rows 0 (if rows.length*e.size=0 then[] else((List.range (rows.length*e.size)).map (fun x=>z.cells[x % z.cells.size]!))) (by simp[hi]) hl h (by
  split
  ·simp;omega
  ·simp)
 obtain⟨a1,a2,a3,a4⟩:=zoY (p:=p) (w:=w) (k:=e.size) (cap:=rows.length) (T:=u) (rows:=rows) (us:=us) (rest:=[]) hk hcell (Nat.le_refl _) f2 f3 hz (by simp[f3])
 simp only[Nat.zero_mul,List.take_zero,List.nil_append,List.append_nil] at f1 a1 a2 a3 a4;refine⟨_,_,_,?_,a1,a2,a3,a4,fun b hb=>by cases hb;rfl⟩
 by_cases h0:rows.length*e.size=0
 ·have hr0:rows=[]:=by
   rcases Nat.eq_zero_or_pos rows.length with hr|hr
   ·exact List.eq_nil_of_length_eq_zero hr
   ·have:=Nat.mul_pos hr hk;omega
  subst hr0;have hp0:parts=[]:=List.eq_nil_of_length_eq_zero (by simpa using hl)
  subst hp0;have hus:us=[]:=List.eq_nil_of_length_eq_zero (by simpa using f3)
  subst hus;simp[Instr.buildSlice,run_underlying hu,sizeOf,typeInfo,h1,Array.range_zero',Instr.fill,newRow]
 ·rw[if_neg h0] at f1
  have:¬16777216<rows.length*e.size:=by omega
  have harr:(Array.range (rows.length*e.size)).map (fun x=>z.cells[x % z.cells.size]!)=((List.range (rows.length*e.size)).map (fun x=>z.cells[x % z.cells.size]!)).toArray:=by
   apply Array.ext'
   simp
  rw[←harr] at f1;simp[Instr.buildSlice,run_underlying hu,sizeOf,typeInfo,zeroValue,h1,h2,h4,h0,this,f1,newRow]
theorem zte {t u:Nat}{e:TI} (hu:P.underlying t=some (.slice u)) (hT:TOk P u e) {x:Value}{r:List (List AC)} (hx:Rep p w x (.sl e.size r)) {n:Int} (h0:0≤n) (hn:n<r.length) :
  ∃v,(Instr.indexAt t x (.int .i64 n)).run P w=.ok v w∧PRef p w v (r.getD n.toNat []):=by
 obtain⟨inf,z,h1,h2,_,_,_,_⟩:=hT.info;rcases hx with _|_|_|⟨b,o,cap,k,rows,f,hk,hrows,hb,hp,_,hcap,hc,hr⟩
 ·simp at hn;omega
 ·have hlt:n.toNat<r.length:=by omega
  have hm:r.getD n.toNat []∈r:=by simp[List.getD,List.getElem?_eq_getElem hlt]
  refine⟨.pointer (some ⟨b,o+n.toNat*e.size,none⟩),?_,⟨b,_,rfl,hb,?_,fun j c hj=>⟨f n.toNat j,?_,hr _ _ _ hj⟩⟩⟩
  ·simp[Instr.indexAt,run_underlying hu,asIntOf,h0,hn,sizeOf,typeInfo,h1,h2,Addr.add_lit]
  ·rw[hrows _ hm]
   have:n.toNat*e.size+e.size≤r.length*e.size:=by rw[←Nat.succ_mul];exact Nat.mul_le_mul_right _ hlt
   omega
  ·exact hc _ _ _ hj
theorem znV {t:Nat}{i:TI} (hT:TOk P t i) {b o f off n:Nat} (hf:i.fields[f]?=some (off,n)) (h3:i.kind=3) :
  (Instr.fieldAt t (.pointer (some ⟨b,o,none⟩)) f).run P w=.ok (.pointer (some ⟨b,o+off,none⟩)) w:=by
 obtain⟨fs,hu,hsz,hfs⟩:=hT.struct h3;obtain⟨fd,fi,e1,e2,e3,e4,e5⟩:=hfs f off n hf;have:¬fi.size=0:=by omega
 simp[Instr.fieldAt,run_underlying hu,e1,Instr.sureAddr,fieldPlace,sizeOf,typeInfo,e3,this,e2,Addr.add_lit]
theorem PRef.drop {cs:List AC}{b o:Nat} (h:PRef p w (.pointer (some ⟨b,o,none⟩)) cs) (n:Nat) (hn:n≤cs.length):PRef p w (.pointer (some ⟨b,o+n,none⟩)) (cs.drop n):=by
 obtain⟨b',o',e,hb,hp,hc⟩:=h;cases e;refine⟨b,o+n,rfl,hb,by rw[List.length_drop];omega,fun j c hj=>?_⟩
 rw[List.getElem?_drop] at hj;obtain⟨u,hu,hr⟩:=hc _ _ hj;exact⟨u,by rw[Nat.add_assoc];exact hu,hr⟩
end
end
section
open Go Go.RowKit
section
variable {P:Program}{p:Stb}{w:World}
theorem zjH {k:Nat}:∀(r:List (List AC)) (l:Nat),(∀x∈r,x.length=k)→(r.drop l).flatten=r.flatten.drop (l*k)
 | r,0,_=>by simp
 | [],l+1,_=>by simp
 | x::r,l+1,h=>by
  have hx:=h x List.mem_cons_self
  simp only[List.drop_succ_cons,List.flatten_cons];rw[zjH r l (fun y hy=>h y (List.mem_cons_of_mem _ hy)),Nat.succ_mul,Nat.add_comm,←hx,List.drop_length_add_append]
theorem zmB {k:Nat}:∀(r:List (List AC)) (l:Nat),(∀x∈r,x.length=k)→(r.take l).flatten=r.flatten.take (l*k)
 | r,0,_=>by simp
 | [],l+1,_=>by simp
 | x::r,l+1,h=>by
  have hx:=h x List.mem_cons_self
  simp only[List.take_succ_cons,List.flatten_cons];rw[zmB r l (fun y hy=>h y (List.mem_cons_of_mem _ hy)),Nat.succ_mul,Nat.add_comm,←hx,List.take_length_add_append]
theorem zsS {t u:Nat}{e:TI} (hu:P.underlying t=some (.slice u)) (hT:TOk P u e) {x:Value}{r:List (List AC)} (hx:Rep p w x (.sl e.size r)) {lo hi:Option Value}{l h:Int}
  (hlo:(lo=none∧l=0)∨lo=some (.int .i64 l)) (hhi:(hi=none∧h=r.length)∨hi=some (.int .i64 h)) (h0:0≤l) (h1:l≤h) (h2:h≤r.length) :
  ∃v,(Instr.sliceAt t x lo hi none).run P w=.ok v w∧Rep p w v (.sl e.size ((r.drop l.toNat).take (h.toNat-l.toNat))):=by
 obtain⟨inf,z,i1,i2,_,_,_,_⟩:=hT.info;have hb:∀(a:Option Addr) (cap:Nat),r.length≤cap→(Instr.sliceAt t (.slice a r.length cap) lo hi none).run P w=.ok (.slice (if cap=l.toNat then a else a.map (·.add (l.toNat*e.size))) (h.toNat-l.toNat) (cap-l.toNat)) w:=by
  intro a cap hc;have c1:h≤(cap:Int):=by omega
  have c2:(0:Int)≤h:=by omega
  have c3:((h.toNat:Nat):Int)=h:=by omega
  rcases hhi with ⟨rfl,rfl⟩|rfl
  ·rcases hlo with ⟨rfl,rfl⟩|rfl
   ·simp[Instr.sliceAt,run_underlying hu,Instr.slice,Instr.sliceBounds,sizeOf,typeInfo,i1]
   ·simp[Instr.sliceAt,run_underlying hu,Instr.slice,Instr.sliceBounds,Instr.sliceBound,asIntOf,h0,h1,sizeOf,typeInfo,i1,i2]
  ·rcases hlo with ⟨rfl,rfl⟩|rfl
   ·simp[Instr.sliceAt,run_underlying hu,Instr.slice,Instr.sliceBounds,Instr.sliceBound,asIntOf,c1,c2,sizeOf,typeInfo,i1]
   ·simp[Instr.sliceAt,run_underlying hu,Instr.slice,Instr.sliceBounds,Instr.sliceBound,asIntOf,c1,c2,c3,h0,h1,sizeOf,typeInfo,i1,i2]
 rcases hx.row with ⟨⟨ax,rfl⟩,rfl⟩|⟨b,o,cap,us,rfl,hk,hrows,hlt,⟨hok,hp⟩,hcap,hus,hrep,hcells⟩
 ·have hl0:l=0:=by simp at h2;omega
  have hh0:h=0:=by simp at h2;omega
  subst hl0;subst hh0;refine⟨_,hb ax 0 (by simp),?_⟩
  simp
  exact .nil _ _
 ·refine⟨_,hb (some ⟨b,o,none⟩) cap hcap,?_⟩
  have hlen:((r.drop l.toNat).take (h.toNat-l.toNat)).length=h.toNat-l.toNat:=by rw[List.length_take,List.length_drop];omega
  have hsub:∀y∈(r.drop l.toNat).take (h.toNat-l.toNat),y.length=e.size:=fun y hy=>hrows y (List.mem_of_mem_drop (List.mem_of_mem_take hy))
  have hmul:h.toNat*e.size≤r.length*e.size:=Nat.mul_le_mul_right _ (by omega)
  have hsum:l.toNat*e.size+(h.toNat-l.toNat)*e.size=h.toNat*e.size:=by rw[←Nat.add_mul];congr 1;omega
  by_cases hc:cap=l.toNat
  ·rw[if_pos hc]
   have:=zl9 (p:=p) (w:=w) (b:=b) (o:=o) (cap:=cap-l.toNat) (rows:=(r.drop l.toNat).take (h.toNat-l.toNat)) (us:=[]) hk hsub hlt (by rw[hlen,show h.toNat-l.toNat=0 by omega];omega) hok (by rw[hlen];omega)
    (by rw[show h.toNat-l.toNat=0 by omega];simp[RepL]) (fun j u h=>by simp at h)
   rw[hlen] at this;exact this
  ·rw[if_neg hc]
   have:=zl9 (p:=p) (w:=w) (b:=b) (o:=o+l.toNat*e.size) (cap:=cap-l.toNat) (rows:=(r.drop l.toNat).take (h.toNat-l.toNat)) (us:=(us.drop (l.toNat*e.size)).take ((h.toNat-l.toNat)*e.size)) hk hsub hlt (by rw[hlen];omega) hok (by rw[hlen];omega)
    (by rw[zmB _ _ (fun y hy=>hrows y (List.mem_of_mem_drop hy)),zjH _ _ hrows];exact(hrep.drop _).take _) (fun j u h=>by
     have h:=zdp h
     rw[List.getElem?_drop] at h;rw[Nat.add_assoc];exact hcells _ u h)
   rw[hlen] at this
   simpa [Addr.add_lit] using this
theorem zri (z:Array Value) {k:Nat} (hz:z.size=k) (hk:0<k):∀c:Nat,(List.range (c*k)).map (fun x=>z[x % z.size]!)=(List.replicate c z.toList).flatten
 | 0=>by simp
 | c+1=>by
  rw[List.replicate_succ,List.flatten_cons,←zri z hz hk c,Nat.succ_mul,Nat.add_comm,List.range_add,List.map_append,List.map_map]
  congr 1
  ·apply List.ext_getElem?
   intro j;rw[List.getElem?_map];rcases Nat.lt_or_ge j k with hj|hj
   ·rw[List.getElem?_range hj]
    simp[Nat.mod_eq_of_lt (show j<z.size by omega),show j<z.size by omega]
   ·rw[List.getElem?_eq_none (by simpa using hj),List.getElem?_eq_none (by simp;omega)]
    rfl
  ·apply List.map_congr_left
   intro x _;simp[←hz]
theorem RepL.replicate {z:List Value}{c:List AC} (h:RepL p w z c):∀n:Nat,RepL p w (List.replicate n z).flatten (List.replicate n c).flatten
 | 0=>trivial
 | n+1=>by simp only[List.replicate_succ,List.flatten_cons];exact h.append (RepL.replicate h n)
theorem ziv {t u:Nat}{e:TI} (hu:P.underlying t=some (.slice u)) (hT:TOk P u e) (hk:0<e.size) {l c:Int} (h0:0≤l) (h1:l≤c) (h2:c≤zgY) (hz:Zp p w) :
  ∃v w' p',(Instr.makeSlice t (.int .i64 l) (.int .i64 c)).run P w=.ok v w'∧Rep p' w' v (.sl e.size (List.replicate l.toNat e.zero))∧Rt p' w' v e.size∧Evo (fun _=>False) p w p' w'∧Zp p' w' ∧
   (∀b,zar v=some b→b=w.heap.size):=by
 obtain⟨inf,z,i1,i2,i3,i4,i5,i6⟩:=hT.info;have h2':c≤68719476736:=h2
 have hbytes:(inf.bytes:Int)*c≤281474976710656:=by
  have a1:(inf.bytes:Int)≤2048:=by omega
  have a2:(inf.bytes:Int)*c≤2048*68719476736:=Int.mul_le_mul a1 h2' (by omega) (by omega)
  omega
 have hrun:=run_make (P:=P) w t u inf z hu i1 i4 .i64 .i64 l c h0 h1 hbytes (by omega)
 have hzlen:=(ZL.rep i5 p w).length
 have hcl:madeCells z.cells (c.toNat*inf.size)=((List.replicate l.toNat z.cells.toList).flatten++(List.replicate (c.toNat-l.toNat) z.cells.toList).flatten).toArray:=by
  apply Array.ext'
  have:=zri z.cells i6 hk c.toNat
  rw[show c.toNat=l.toNat+(c.toNat-l.toNat) by omega,←List.replicate_append_replicate,List.flatten_append,show l.toNat+(c.toNat-l.toNat)=c.toNat by omega] at this
  simpa [madeCells,i2] using this
 have hflen:∀n:Nat,(List.replicate n z.cells.toList).flatten.length=n*e.size:=fun n=>by
  induction n with
  | zero=>simp
  | succ n ih=>rw[List.replicate_succ,List.flatten_cons,List.length_append,ih,Nat.succ_mul];simp[i6];omega
 have hzk:e.zero.length=e.size:=by rw[←hzlen,←i6];simp
 have hnew:=zoY (p:=p) (w:=w) (k:=e.size) (cap:=c.toNat) (T:=u) (rows:=List.replicate l.toNat e.zero) (us:=(List.replicate l.toNat z.cells.toList).flatten) (rest:=(List.replicate (c.toNat-l.toNat) z.cells.toList).flatten) hk
  (fun r hr=>by rw[(List.mem_replicate.1 hr).2];exact hzk) (by simp;omega) (RepL.replicate (ZL.rep i5 p w) _) (by rw[hflen];simp) hz (by rw[hflen,hflen,←Nat.add_mul];congr 1;omega)
 obtain⟨a1,a2,a3,a4⟩:=hnew;rw[hcl] at hrun;simp only[List.length_replicate] at a1 a2 a3 a4;exact⟨_,_,_,hrun,a1,a2,a3,a4,fun b hb=>by cases hb;rfl⟩
def Does (P:Program) (o:Oper) (a:Act) (w:World) (R:Value→World→Prop):Prop :=
 ∀(K:Act→World→Prop) (Q:Exit→Act→World→Prop),(∀v w',R v w'→K (a.put o.dst v) w')→o.wp P a w K Q
theorem zaN {o:Oper}{a:Act}{v:Value}{w':World}{R:Value→World→Prop} (h:(execOp a.eval o).run P w=.ok (.value v) w') (hR:R v w'):Does P o a w R:=fun K Q hK=>by
 unfold Oper.wp;rw[h];exact hK v w' hR
theorem zrn {o:Oper}{a:Act}{w':World}{R:Value→World→Prop} (h:(execOp a.eval o).run P w=.ok .skip w') (hR:R undef w'):Does P o a w R:=fun K Q hK=>by
 unfold Oper.wp;rw[h];exact hK undef w' hR
theorem znw {o:Oper}{a:Act}{f:FuncId}{args:Array Value}{R:Value→World→Prop} (h:(execOp a.eval o).run P w=.ok (.enter f args) w) (hc:Calls P f args w fun e w'=>∃v,e=.returned v∧R v w'):Does P o a w R:=fun K Q hK=>by
 unfold Oper.wp;rw[h,Oper.upon_enter];refine hc.mono fun e w' he=>?_
 obtain⟨v,rfl,hR⟩:=he;exact hK v w' hR
theorem Does.mono {o:Oper}{a:Act}{R R':Value→World→Prop} (h:Does P o a w R) (hr:∀v w',R v w'→R' v w'):Does P o a w R':=fun K Q hK=>h K Q fun v w' hR=>hK v w' (hr v w' hR)
end
end
end Go.Proofs.Ytcpcagdialnbeaa
