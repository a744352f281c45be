/- Generic texts and models for the proofs of this seat: part 35. -/
import Derived.Test.YtcpcagdialnbeaaY34
set_option linter.unusedVariables false
set_option linter.unusedSimpArgs false
namespace Go.Proofs.Ytcpcagdialnbeaa
section
open Go Go.RowKit
theorem zww {p:Stb}{w:World}{B o n cap k:Nat}{rows:List (List AC)}{a:Array Value}{T:TypeId} (hb:w.heap[B]?=some (.cells a T (0,0))) (hs:o+n*3≤a.size) (hu:∀j,p.ok B j→j=3) (h:Rep p w (.slice (some ⟨B,o,none⟩) n cap) (.sl 3 rows)) (ha:∀r∈rows,apL 3 r=true) (hk:k<rows.length)
  {x0 x1 x2:Value}{c0 c1 c2:AC} (hr:RepL p w [x0,x1,x2] [c0,c1,c2]) (hc:apL 3 [c0,c1,c2]=true) :
  Rep p (ziY w B (o+k*3) x0 x1 x2) (.slice (some ⟨B,o,none⟩) n cap) (.sl 3 (rows.set k [c0,c1,c2])):=by
 obtain⟨rfl,h5,hrows,hB,hp,hok,hcap,f,hcc,hrr⟩:=zcU h (by intro e;rw[e] at hk;simp at hk)
 have hev:=zks (w:=w) (B:=B) (o:=o+k*3) (x0:=x0) (x1:=x1) (x2:=x2) (raP p B 0) (by rw[zep,if_pos rfl])
 have hl:=fun {v:Value}{c:AC} (hr:Rep p w v c) (ha:apC 3 c=true)=>zhh hu hev hr ha
 have hlen:(rows.set k [c0,c1,c2]).length=rows.length:=by simp
 simp only[RepL] at hr;obtain⟨r0,r1,r2,_⟩:=hr;simp only[apL,Bool.and_eq_true] at hc;obtain⟨a0,a1,a2,_⟩:=hc;have hget:∀(i j:Nat) (c:AC),((rows.set k [c0,c1,c2]).getD i [])[j]?=some c→(i=k∧[c0,c1,c2][j]?=some c)∨(i≠k∧(rows.getD i [])[j]?=some c):=fun i j c h=>by
  by_cases hik:i=k
  ·subst hik
   simp only[List.getD,List.getElem?_set_self hk,Option.getD_some] at h;exact .inl ⟨rfl,h⟩
  ·simp only[List.getD,List.getElem?_set_ne (fun e=>hik e.symm)] at h
   exact .inr ⟨hik,h⟩
 rw[←hlen];refine .sl B o cap 3 _ (fun i j=>if i=k then[x0,x1,x2].getD j undef else f i j) h5 (fun r hr=>?_) (by rw[ze7];exact hB) (by rw[hlen];exact hp) hok (by rw[hlen];exact hcap) (fun i j c h=>?_) (fun i j c h=>?_)
 ·rcases List.mem_or_eq_of_mem_set hr with h|rfl
  ·exact hrows r h
  ·rfl
 ·rw[zro hb (by omega)]
  rcases hget i j c h with ⟨rfl,hj⟩|⟨hik,hj⟩
  ·have hj5:=(List.getElem?_eq_some_iff.1 hj).1
   simp only[List.length_cons,List.length_nil] at hj5;rcases(by omega:j=0∨j=1∨j=2) with rfl|rfl|rfl <;> simp
  ·have hlt:i<rows.length:=by
    rcases Nat.lt_or_ge i rows.length with h|h
    ·exact h
    ·simp[List.getD,List.getElem?_eq_none h] at hj
   have hj5:=(List.getElem?_eq_some_iff.1 hj).1
   rw[hrows _ (by simp[List.getD,hlt])] at hj5
   rw[if_neg (by omega),if_neg (by omega),if_neg (by omega),if_neg hik]
   exact hcc i j c hj
 ·rcases hget i j c h with ⟨rfl,hj⟩|⟨hik,hj⟩
  ·have hj5:=(List.getElem?_eq_some_iff.1 hj).1
   simp only[List.length_cons,List.length_nil] at hj5;rw[if_pos rfl];rcases(by omega:j=0∨j=1∨j=2) with rfl|rfl|rfl <;> simp only[List.getElem?_cons_zero,List.getElem?_cons_succ,Option.some.injEq] at hj <;> subst hj
   ·exact hl r0 a0
   ·exact hl r1 a1
   ·exact hl r2 a2
  ·have hlt:i<rows.length:=by
    rcases Nat.lt_or_ge i rows.length with h|h
    ·exact h
    ·simp[List.getD,List.getElem?_eq_none h] at hj
   rw[if_neg hik];have hap:=ha (rows.getD i []) (by simp[List.getD,hlt])
   exact hl (hrr i j c hj) (zjy hap c (List.mem_of_getElem? hj))
theorem zwv {p:Stb}{w:World} (T:TypeId) {vs:List Value}{cs:List AC} (h:RepL p w vs cs) (hz:p w.heap.size=0):Rep (upP p w.heap.size vs.length 1) (w.alloc (.cells vs.toArray T)) (.slice (some ⟨w.heap.size,0,none⟩) vs.length vs.length) (.sl 1 (cs.map fun c=>[c])):=by
 have hev:=zav (p:=p) (w:=w) (.cells vs.toArray T) vs.length (fun _=>False) 1
 have hl:(cs.map fun c=>[c]).length=vs.length:=by rw[List.length_map];exact h.length.symm
 have hget:∀(i j:Nat) (c:AC),((cs.map fun c=>[c]).getD i [])[j]?=some c→j=0∧∃v,vs[i]?=some v∧Rep p w v c:=fun i j c hh=>by
  rcases Nat.lt_or_ge i cs.length with hi|hi
  ·have e:(cs.map fun c=>[c]).getD i []=[cs[i]]:=by simp[List.getD,hi]
   rw[e] at hh;have hj:=(List.getElem?_eq_some_iff.1 hh).1
   simp at hj
   subst hj;simp at hh
   subst hh;exact⟨rfl,h.get (by simp[hi])⟩
  ·have e:(cs.map fun c=>[c]).getD i []=[]:=by simp[List.getD,List.getElem?_eq_none (show(cs.map fun c=>[c]).length≤i by rw[List.length_map];exact hi)]
   rw[e] at hh;simp at hh
 rw[show Value.slice (some ⟨w.heap.size,0,none⟩) vs.length vs.length=Value.slice (some ⟨w.heap.size,0,none⟩) (cs.map fun c=>[c]).length vs.length by rw[hl]]
 refine .sl w.heap.size 0 vs.length 1 _ (fun i _=>vs.getD i undef) (by omega) (fun r hr=>?_) (by simp) (by rw[hl,za0,if_pos rfl];omega) (zd2 _ _ _ _) (by omega) (fun i j c hh=>?_) (fun i j c hh=>?_)
 ·obtain⟨x,_,rfl⟩:=List.mem_map.1 hr
  rfl
 ·obtain⟨rfl,v,hv,_⟩:=hget i j c hh
  rw[Nat.zero_add,Nat.mul_one,Nat.add_zero,cell_of_row _ _ _ _ _ _ (heap_alloc_new w _)];simp[List.getD,hv]
 ·obtain⟨rfl,v,hv,hr⟩:=hget i j c hh
  have:vs.getD i undef=v:=by simp[List.getD,hv]
  rw[this];exact hr.evo hev
theorem zCf {p:Stb}{w:World} (T C:TypeId) (hz:Zp p w) (xs:List Int):∃p2,Rep p2 ((w.alloc (.cells (xs.map (Value.int .i64)).toArray T)).alloc (.cells #[.slice (some ⟨w.heap.size,0,none⟩) xs.length xs.length] C)) (.slice (some ⟨w.heap.size,0,none⟩) xs.length xs.length) (.sl 1 (zab xs)) ∧
  Evo (fun _=>False) p w p2 ((w.alloc (.cells (xs.map (Value.int .i64)).toArray T)).alloc (.cells #[.slice (some ⟨w.heap.size,0,none⟩) xs.length xs.length] C))∧Zp p2 ((w.alloc (.cells (xs.map (Value.int .i64)).toArray T)).alloc (.cells #[.slice (some ⟨w.heap.size,0,none⟩) xs.length xs.length] C)):=by
 have h1:=zmE (p:=p) (w:=w) T xs
 have e1:=zav (p:=p) (w:=w) (.cells (xs.map (Value.int .i64)).toArray T) xs.length (fun _=>False) 1
 have e2:=zav (p:=upP p w.heap.size xs.length 1) (w:=w.alloc (.cells (xs.map (Value.int .i64)).toArray T)) (.cells #[.slice (some ⟨w.heap.size,0,none⟩) xs.length xs.length] C) 0 (fun _=>False)
 refine⟨_,h1.evo e2,e1.trans e2 (fun _ _ h=>h) (fun _ _ h=>h),⟨fun c hc=>?_,fun _ _ _=>trivial⟩⟩
 simp at hc
 rw[za0];split
 ·rfl
 ·rw[za0,if_neg (by omega)]
  exact hz.1 c (by omega)
structure AD (p0:Stb) (w0:World) (b B o n cap:Nat) (rows:List (List AC)) (q:List AC) (p:Stb) (w:World):Prop where
 rep:Rep p w (.slice (some ⟨B,o,none⟩) n cap) (.sl 3 rows)
 ne:rows≠[]
 xB:∃a T,w.heap[B]?=some (.cells a T (0,0))∧o+cap*3≤a.size
 pB:p B≤o+n*3
 okB:p.ok B 3
 uq:∀j,p.ok B j→j=3
 gB:w0.heap.size≤B
 gb:b<w0.heap.size
 fit:∀r∈rows,Fit .decl r
 ap:∀r∈rows,apL 3 r=true
 tk:TK p w (fun _=>False) b q
 zp:Zp p w
 evo:Evo (·=b) p0 w0 p w
section
variable {p0 p p':Stb}{w0 w w':World}{b B o n cap k:Nat}{rows:List (List AC)}{q q':List AC}{ns:List Nat}{q0:Nat}
theorem AD.ltB (h:AD p0 w0 b B o n cap rows q p w):B<w.heap.size:=by obtain⟨_,_,h,_⟩:=h.xB;exact zaD h
theorem AD.len (h:AD p0 w0 b B o n cap rows q p w):n=rows.length:=zsr h.rep
theorem AD.capn (h:AD p0 w0 b B o n cap rows q p w):n≤cap:=by
 have:=(zcU h.rep h.ne).2.2.2.2.2.2.1
 have:=h.len
 omega
theorem AD.on (h:AD p0 w0 b B o n cap rows q p w) (hev:Evo (·=b) p w p' w') (hz:Zp p' w') (ht:TK p' w' (fun _=>False) b q'):AD p0 w0 b B o n cap rows q' p' w':=by
 have nb:B≠b:=fun e=>by have:=h.gB;have:=h.gb;omega
 refine {h with rep:=h.rep.evo hev,xB:=?_,pB:=by rw[hev.same B h.ltB nb];exact h.pB,okB:=by rw[hev.okk B h.ltB];exact h.okB,uq:=fun j hj=>h.uq j (by rw[←hev.okk B h.ltB];exact hj),tk:=ht,zp:=hz,evo:=h.evo.trans hev (fun _ _ e=>e) (fun _ _ e=>e)}
 rw[hev.block B h.ltB nb];exact h.xB
theorem AD.put (h:AD p0 w0 b B o n cap rows (Qr ns q0) p w) (hk:k<n) {x0 x1 x2:Value}{c0 c1 c2:AC} (hr:RepL p w [x0,x1,x2] [c0,c1,c2]) (hc:apL 3 [c0,c1,c2]=true) (hf:Fit .decl [c0,c1,c2]) :
  AD p0 w0 b B o n cap (rows.set k [c0,c1,c2]) (Qr ns q0) p (ziY w B (o+k*3) x0 x1 x2):=by
 have hlen:=h.len
 have hcap:=h.capn
 have nb:B≠b:=fun e=>by have:=h.gB;have:=h.gb;omega
 obtain⟨a,T,hB,hs⟩:=h.xB;have hev:=zks (w:=w) (B:=B) (o:=o+k*3) (x0:=x0) (x1:=x1) (x2:=x2) (raP p B 0) (by rw[zep,if_pos rfl])
 have he:=h.evo
 refine {h with rep:=zww hB (by have:=Nat.mul_le_mul_right 3 hcap;omega) h.uq h.rep h.ap (by omega) hr hc,ne:=fun e=>?_,xB:=⟨_,T,zrl hB,by simpa using hs⟩,fit:=fun r hr=>?_,ap:=fun r hr=>?_,tk:=?_,zp:=⟨fun c hc=>h.zp.1 c (by rw[ze7] at hc;exact hc),fun _ _ _=>trivial⟩,evo:=?_}
 ·have:=congrArg List.length e
  simp at this
  exact h.ne (by simpa using this)
 ·rcases List.mem_or_eq_of_mem_set hr with h'|rfl
  ·exact h.fit r h'
  ·exact hf
 ·rcases List.mem_or_eq_of_mem_set hr with h'|rfl
  ·exact h.ap r h'
  ·exact hc
 ·obtain⟨a1,T1,g1,g2⟩:=h.tk.cells
  refine⟨h.tk.not,by rw[ze7];exact h.tk.lt,h.tk.pz,a1,T1,by rw[zjx (fun e=>nb e.symm)];exact g1,?_⟩
  match hl:a1.toList,g2 with
  | [v0,v1],⟨r0,r1,_⟩ =>
   refine⟨zpE h.uq h.okB (by omega) hev r0,?_,trivial⟩
   rcases r1 with r1|⟨_,_,_,_,_,_,_,e,_⟩
   ·exact .inl (zhh h.uq hev r1 rfl)
   ·cases e
 ·refine⟨by simpa [ziY,World.setCell] using he.os,by simpa [ziY,World.setCell] using he.tape,by simpa [ziY,World.setCell] using he.output,by rw[ze7];exact he.size,fun c hc hn=>?_,he.keepP,he.same,fun c x hc hx=>?_,he.okk,fun c h1 h2=>he.uq c h1 (by rw[ze7] at h2;exact h2)⟩
  ·exact(zjx (Nat.ne_of_lt (Nat.lt_of_lt_of_le hc h.gB))).trans (he.block c hc hn)
  ·exact(World.cell?_of_block (w:=w) (zjx (Nat.ne_of_lt (Nat.lt_of_lt_of_le hc h.gB)))).trans (he.stable c x hc hx)
end
end
section
open Go Go.RowKit
theorem zuI:∀D∈zb9,D≠[]∧∀d∈D,(-10≤d.f∧d.f≤10∧-10≤d.t∧d.t≤10∧d.cs.length≤10∧∀c∈d.cs,c.length≤10∧∀x∈c,-10≤x∧x≤10):=by decide
theorem ziC {d:DM} (hf:-10≤d.f∧d.f≤10) (ht:-10≤d.t∧d.t≤10) (hl:d.cs.length≤10) (hc:∀c∈d.cs,c.length≤10∧∀x∈c,-10≤x∧x≤10):Fit .decl (zj6 d):=by
 refine .decl _ _ _ (by unfold inI;omega) (by unfold inI;omega) (by simp only[zcS,List.length_map];unfold za9;omega) fun c h=>?_
 obtain⟨x,hx,rfl⟩:=List.mem_map.1 h;obtain⟨h1,h2⟩:=hc x hx;exact .con x ⟨by unfold za9;omega,fun y hy=>by have:=h2 y hy;unfold inI;omega⟩
theorem zqF (d:DM):apL 3 (zj6 d)=true:=by
 have:∀cs:List (List Int),apR 3 (zcS cs)=true:=by
  intro cs;induction cs with
  | nil=>rfl
  | cons c cs ih =>
   have h:=zmo 3 c
   simp only[zcS,zBI,List.map_cons,apR,apL,apC,h,Bool.and_true] at ih ⊢;simp only[ih,Bool.and_true];rfl
 simp only[zj6,apL,apC,this d.cs,Bool.and_true,Bool.true_and];rfl
theorem zrm {D:List DM} (hD:D∈zb9):zah D≠[]∧(∀r∈zah D,Fit .decl r)∧(∀r∈zah D,apL 3 r=true)∧(zah D).length≤4:=by
 obtain⟨h0,h1⟩:=zuI D hD;refine⟨fun e=>h0 (List.map_eq_nil_iff.1 e),fun r hr=>?_,fun r hr=>?_,by simp only[zah,List.length_map];exact zfy hD⟩
 ·obtain⟨d,hd,rfl⟩:=List.mem_map.1 hr
  obtain⟨a,b,c,e,f,g⟩:=h1 d hd;exact ziC ⟨a,b⟩ ⟨c,e⟩ f g
 ·obtain⟨d,hd,rfl⟩:=List.mem_map.1 hr
  exact zqF d
def zfE (T C:TypeId):World→List (List Int)→World×List Value
 | w,[]=>(w,[])
 | w,xs::css=>((zfE T C ((w.alloc (.cells (xs.map (Value.int .i64)).toArray T)).alloc (.cells #[.slice (some ⟨w.heap.size,0,none⟩) xs.length xs.length] C)) css).1,
   .slice (some ⟨w.heap.size,0,none⟩) xs.length xs.length::(zfE T C ((w.alloc (.cells (xs.map (Value.int .i64)).toArray T)).alloc (.cells #[.slice (some ⟨w.heap.size,0,none⟩) xs.length xs.length] C)) css).2)
theorem ztj (T C:TypeId):∀(css:List (List Int)) {p:Stb}{w:World},Zp p w→∃p2,RepL p2 (zfE T C w css).1 (zfE T C w css).2 (css.map fun xs=>.sl 1 (zab xs))∧Evo (fun _=>False) p w p2 (zfE T C w css).1∧Zp p2 (zfE T C w css).1
 | [],p,w,hz=>⟨p,trivial,Evo.refl _ _ _,hz⟩
 | xs::css,p,w,hz=>by
  obtain⟨p1,h1,e1,z1⟩:=zCf (p:=p) (w:=w) T C hz xs;obtain⟨p2,h2,e2,z2⟩:=ztj T C css z1;exact⟨p2,⟨h1.evo e2,h2⟩,e1.trans e2 (fun _ _ h=>h) (fun _ _ h=>h),z2⟩
theorem zpr (T C:TypeId) (css:List (List Int)) {p:Stb}{w:World} (hz:Zp p w):∃p2,Rep p2 ((zfE T C w css).1.alloc (.cells (zfE T C w css).2.toArray C)) (.slice (some ⟨(zfE T C w css).1.heap.size,0,none⟩) css.length css.length) (.sl 1 (zcS css)) ∧
  Evo (fun _=>False) p w p2 ((zfE T C w css).1.alloc (.cells (zfE T C w css).2.toArray C))∧Zp p2 ((zfE T C w css).1.alloc (.cells (zfE T C w css).2.toArray C)):=by
 obtain⟨p1,h1,e1,z1⟩:=ztj T C css hz;have hr:=zwv C h1 (z1.1 _ (Nat.le_refl _))
 have hl:(zfE T C w css).2.length=css.length:=by rw[h1.length,List.length_map]
 rw[hl] at hr;have e2:=zav (p:=p1) (w:=(zfE T C w css).1) (.cells (zfE T C w css).2.toArray C) css.length (fun _=>False) 1
 refine⟨_,?_,e1.trans e2 (fun _ _ h=>h) (fun _ _ h=>h),⟨fun c hc=>?_,fun _ _ _=>trivial⟩⟩
 ·rw[List.map_map] at hr
  exact hr
 ·simp at hc
  rw[za0,if_neg (by omega)]
  exact z1.1 c (by omega)
theorem zwD {p:Stb}{w:World}{b n cap k:Nat}{rows:List (List AC)} (h:Rep p w (.slice (some ⟨b,0,none⟩) n cap) (.sl k rows)) (j:Nat) (hj:j<rows.length):Rep p w (.slice (some ⟨b,j*k,none⟩) (n-j) (cap-j)) (.sl k (rows.drop j)):=by
 obtain⟨hn,hk,hrows,hb,hp,hok,hcap,f,hcc,hrr⟩:=zcU h (by intro e;rw[e] at hj;simp at hj)
 have hl:(rows.drop j).length=n-j:=by rw[List.length_drop];omega
 have hget:∀(i x:Nat) (c:AC),((rows.drop j).getD i [])[x]?=some c→(rows.getD (j+i) [])[x]?=some c:=fun i x c h=>by
  simpa only [List.getD,List.getElem?_drop] using h
 rw[←hl];refine .sl b (j*k) (cap-j) k _ (fun i x=>f (j+i) x) hk (fun r hr=>hrows r (List.mem_of_mem_drop hr)) hb ?_ hok (by rw[hl];omega) (fun i x c h=>?_) (fun i x c h=>hrr _ x c (hget i x c h))
 ·rw[hl,←Nat.add_mul]
  have:(j+(n-j))*k=n*k:=by congr 1;omega
  rw[this];have:=hp
  rw[←hn] at this;omega
 ·have:=hcc (j+i) x c (hget i x c h)
  rw[←this,Nat.add_mul];simp only[Nat.zero_add,Nat.add_assoc]
section
variable {p0 p p':Stb}{w0 w w':World}{b B o n cap k:Nat}{rows:List (List AC)}{q q':List AC}{ns:List Nat}{q0:Nat}
theorem AD.row (h:AD p0 w0 b B o n cap rows q p w) (hk:k<n):∃u0 u1 u2,w.cell? ⟨B,o+k*3,none⟩=some u0∧w.cell? ⟨B,o+k*3+1,none⟩=some u1∧w.cell? ⟨B,o+k*3+2,none⟩=some u2∧w.frozen? ⟨B,o+k*3,none⟩=false∧w.frozen? ⟨B,o+k*3+1,none⟩=false∧w.frozen? ⟨B,o+k*3+2,none⟩=false:=by
 obtain⟨a,T,hB,hs⟩:=h.xB;have hcap:=h.capn
 have hle:=Nat.mul_le_mul_right 3 hcap
 have hc:∀j,j<3→w.cell? ⟨B,o+k*3+j,none⟩=some (a.getD (o+k*3+j) undef):=fun j hj=>by
  simp only[World.cell?,hB];rw[Array.getD_eq_getD_getElem?,Array.getElem?_eq_getElem (by omega)]
  rfl
 exact⟨_,_,_,hc 0 (by omega),hc 1 (by omega),hc 2 (by omega),frozen_of_row w B _ a T hB,frozen_of_row w B _ a T hB,frozen_of_row w B _ a T hB⟩
theorem AD.big (h:AD p0 w0 b B o n cap rows q p w):∃aB TB,w.heap[B]?=some (.cells aB TB (0,0))∧o+n*3≤aB.size:=by
 obtain⟨a,T,hB,hs⟩:=h.xB;have hle:=Nat.mul_le_mul_right 3 h.capn
 exact⟨a,T,hB,by omega⟩
theorem AD.app (h:AD p0 w0 b B o n cap rows (Qr ns q0) p w) {y:Value}{new:List (List AC)} (hy:Rep p w y (.sl 3 new)) (hl:rows.length+new.length≤100):∃G g1 g2 w' p',(Builtin.append_ #[23,23] 23 #[.slice (some ⟨B,o,none⟩) n cap,y]).run Try.prog w=.ok (.slice G g1 g2) w'∧Rep p' w' (.slice G g1 g2) (.sl 3 (rows++new))∧Evo (·=b) p0 w0 p' w'∧Zp p' w'∧TK p' w' (fun _=>False) b (Qr ns q0):=by
 obtain⟨a,T,hB,hs⟩:=h.xB;have nb:B≠b:=fun e=>by have:=h.gB;have:=h.gb;omega
 have hu:Try.prog.underlying 23=some (.slice 83):=Try.underlying23
 obtain⟨e,he,hsz⟩:∃e,lay.ti 83=some e∧e.size=3:=⟨_,rfl,rfl⟩;have hrt:Rt p w (.slice (some ⟨B,o,none⟩) n cap) e.size:=.inr ⟨B,o,n,cap,a,T,rfl,hB,h.capn,by rw[hsz];exact hs,by rw[hsz];exact h.pB,by rw[hsz];exact h.okB⟩
 obtain⟨v,w',p',hrun,hrep,_,hev,hz',_⟩:=zd7 (P:=Try.prog) (p:=p) (w:=w) hu (zeY _ _ he) (by omega) (by rw[hsz];exact h.rep) (by rw[hsz];exact hy) hrt h.zp (by simp[zgY];omega) 23
 rw[hsz] at hrep;obtain⟨G,g1,g2,rfl⟩:=zbd hrep;have hev':Evo (·=B) p w p' w':=hev.weaken fun c _ e=>by
  have:some B=some c:=e
  exact(Option.some.inj this).symm
 exact⟨G,g1,g2,w',p',hrun,hrep,h.evo.trans hev' (fun _ _ e=>e) (fun c hc e=>absurd hc (by have:c=B:=e;have:=h.gB;omega)),hz',((h.tk.own (Own':=(·=B)) (fun e=>nb e.symm)).evo hev').own (fun h=>h)⟩
end
end
section
open Go Go.RowKit
theorem zrH {p:Stb}{w:World} (T:TypeId) (hz:Zp p w) (xs:List (Int×Int)):∃p2,Rep p2 (w.alloc (.cells ((xs.map fun x=>[Value.int .i64 x.1,.int .i64 x.2,.slice none 0 0]).flatten).toArray T)) (.slice (some ⟨w.heap.size,0,none⟩) xs.length xs.length) (.sl 3 (xs.map fun x=>zj6 ⟨x.1,x.2,[]⟩)) ∧
  Evo (fun _=>False) p w p2 (w.alloc (.cells ((xs.map fun x=>[Value.int .i64 x.1,.int .i64 x.2,.slice none 0 0]).flatten).toArray T))∧Zp p2 (w.alloc (.cells ((xs.map fun x=>[Value.int .i64 x.1,.int .i64 x.2,.slice none 0 0]).flatten).toArray T)):=by
 refine⟨upP p w.heap.size (xs.length*3) 3,?_,zav _ _ _ 3,⟨fun c hc=>?_,fun _ _ _=>trivial⟩⟩
 ·have hl:(xs.map fun x=>zj6 ⟨x.1,x.2,[]⟩).length=xs.length:=by simp
  have hget:∀(i j:Nat) (c:AC),((xs.map fun x=>zj6 ⟨x.1,x.2,[]⟩).getD i [])[j]?=some c→i<xs.length∧j<3∧∃v,((xs.map fun x=>[Value.int .i64 x.1,.int .i64 x.2,.slice none 0 0]).flatten)[i*3+j]?=some v∧∀p w,Rep p w v c:=fun i j c hh=>by
   rcases Nat.lt_or_ge i xs.length with hi|hi
   ·have e:(xs.map fun x=>zj6 ⟨x.1,x.2,[]⟩).getD i []=zj6 ⟨xs[i].1,xs[i].2,[]⟩:=by simp[List.getD,hi]
    rw[e] at hh;have hj:=(List.getElem?_eq_some_iff.1 hh).1
    simp[zj6] at hj
    have hflat:∀(l:List (Int×Int)) (i:Nat) (hi:i<l.length),((l.map fun x=>[Value.int .i64 x.1,.int .i64 x.2,.slice none 0 0]).flatten)[i*3+j]?=[Value.int .i64 l[i].1,.int .i64 l[i].2,.slice none 0 0][j]?:=by
     intro l;induction l with
     | nil=>intro i hi;simp at hi
     | cons y l ih =>
      intro i hi;cases i with
      | zero =>
       simp only[List.map_cons,List.flatten_cons,Nat.zero_mul,Nat.zero_add,List.getElem_cons_zero];rw[List.getElem?_append_left (by simp;omega)]
      | succ i =>
       rw[List.map_cons,List.flatten_cons,List.getElem?_append_right (by simp;omega)]
       have:=ih i (by simpa using hi)
       rw[List.getElem_cons_succ,←this]
       congr 1
       simp
       omega
    refine⟨hi,hj,?_⟩
    rw[hflat xs i hi];rcases(by omega:j=0∨j=1∨j=2) with rfl|rfl|rfl <;> simp[zj6,zcS] at hh <;> subst hh
    ·exact⟨_,rfl,fun _ _=>.int _⟩
    ·exact⟨_,rfl,fun _ _=>.int _⟩
    ·exact⟨_,rfl,fun _ _=>.nil _ _⟩
   ·have e:(xs.map fun x=>zj6 ⟨x.1,x.2,[]⟩).getD i []=[]:=by simp[List.getD,List.getElem?_eq_none (show(xs.map fun x=>zj6 ⟨x.1,x.2,[]⟩).length≤i by rw[hl];exact hi)]
    rw[e] at hh;simp at hh
  rw[show Value.slice (some ⟨w.heap.size,0,none⟩) xs.length xs.length=Value.slice (some ⟨w.heap.size,0,none⟩) (xs.map fun x=>zj6 ⟨x.1,x.2,[]⟩).length xs.length by rw[hl]]
  refine .sl w.heap.size 0 xs.length 3 _ (fun i j=>(((xs.map fun x=>[Value.int .i64 x.1,.int .i64 x.2,.slice none 0 0]).flatten)[i*3+j]?).getD undef) (by omega) (fun r hr=>?_) (by simp) (by rw[hl,za0,if_pos rfl];omega) (zd2 _ _ _ _) (by omega) (fun i j c hh=>?_) (fun i j c hh=>?_)
  ·obtain⟨x,_,rfl⟩:=List.mem_map.1 hr
   rfl
  ·obtain⟨_,_,v,hv,_⟩:=hget i j c hh
   rw[Nat.zero_add,cell_of_row _ _ _ _ _ _ (heap_alloc_new w _)];simp only[List.getElem?_toArray,hv,Option.getD_some]
  ·obtain⟨_,_,v,hv,hr⟩:=hget i j c hh
   rw[hv];exact hr _ _
 ·simp at hc
  rw[za0,if_neg (by omega)]
  exact hz.1 c (by omega)
section
variable {ns:List Nat} (hns:ns.length≤2000)
include hns
set_option maxHeartbeats 4000000 in
theorem zsy {p0:Stb}{w0:World}{b pos:Nat} (hpos:pos+100≤800000) (hz:Zp p0 w0) (ht:TK p0 w0 (fun _=>False) b (Qr ns pos)):Calls Try.prog 52 #[zaU b] w0 fun e w'=>∃A n c p' ds pos',e=.returned (.slice A n c)∧Rep p' w' (.slice A n c) (.sl 3 ds)∧(∀d∈ds,Fit .decl d)∧ds.length≤6 ∧
  Evo (·=b) p0 w0 p' w'∧Zp p' w'∧TK p' w' (fun _=>False) b (Qr ns pos')∧pos'≤pos+10:=by
 have hb:=ht.lt
 refine calls_of_wp Try.func52 (c:=cOf Try.f52) (by kernel_rfl) ?_
 rw[zzw];have hs0:(#[zaU b]++Array.replicate (Try.f52.ntmps-(#[zaU b]:Array Value).size) undef).size=89:=by simp[Try.ntmps52]
 have h0:(#[zaU b]++Array.replicate (Try.f52.ntmps-(#[zaU b]:Array Value).size) undef).getD 0 undef=zaU b:=by simp[Array.getD]
 generalize (#[zaU b]++Array.replicate (Try.f52.ntmps-(#[zaU b]:Array Value).size) undef)=m0 at hs0 h0
 refine wp_seq (zCN hs0 _ fun a1 hd1 hs1 h1=>?_)
 obtain⟨m1,dd⟩:=a1;have hd1:dd=[]:=hd1
 subst hd1;have hs1:m1.size=89:=hs1
 have h1:m1.getD 0 undef=zaU b:=h1.trans h0
 obtain⟨D,hD,hgd⟩:=zn0 hns (p:=pos) (by omega)
 obtain⟨hne,hfit,hap,hlen⟩:=zrm hD;refine wp_seq (zCC (post:=fun A n c w'=>∃p' B o,A=some ⟨B,o,none⟩∧AD p0 w0 b B o n c (zah D) (Qr ns (pos+1)) p' w') ?_ hs1 _ ?_)
 ·rw[h1]
  refine(((tok 67 (by kernel_rfl)).2 (Qr ns pos) [] _ hgd).2 p0 w0 b [] trivial hz ht).mono ?_
  rintro e w' ⟨v,rfl,p',hsr,_,_,hev',hz',ht',hgv,_⟩
  have hsr:Rep p' w' v (.sl 3 (zah D)):=hsr
  obtain⟨A,n,c,rfl⟩:=zbd hsr;obtain⟨B,o,rfl⟩:=ztc hsr hne;obtain⟨u,hu,hrt,hblk⟩:=hgv (0,3) (List.mem_of_elem_eq_true (by kernel_rfl))
  have hu:u=.slice (some ⟨B,o,none⟩) n c:=by
   have:(Value.slice (some ⟨B,o,none⟩) n c).cells[0]?=some u:=hu
   simpa [Value.cells] using this.symm
  subst hu;have hB:=hblk B rfl
  rcases hrt with e|⟨B',o',n',c',a,T,e,hx,h2,h3,h4,h5⟩
  ·cases e
  cases e;exact⟨_,_,_,rfl,p',B,o,rfl,{rep:=hsr,ne:=hne,xB:=⟨a,T,hx,h3⟩,pB:=h4,okB:=h5,uq:=fun j hj=>hev'.uq B hB (zaD hx) j 3 hj h5,gB:=hB,gb:=hb,fit:=hfit,ap:=hap,tk:=ht',zp:=hz',evo:=hev'}⟩
 rintro A n c w1 ⟨p1,B,o,rfl,hA1⟩ a2 hd2 hs2 h2 h23
 obtain⟨m2,dd⟩:=a2;have hd2:dd=[]:=hd2
 subst hd2;have hs2:m2.size=89:=hs2
 have h2:m2.getD 0 undef=zaU b:=h2.trans h1
 have h23:m2.getD 3 undef=.slice (some ⟨B,o,none⟩) n c:=h23
 have hn:=hA1.len
 have hn0:0<n:=by have:=List.length_pos_iff.2 hne;omega
 obtain⟨k,hk,hpk⟩:=zd8 hns (K:=n) (pos:=pos+1) (by omega) (by omega) hA1.zp hA1.tk
 refine wp_seq (zCB (post:=fun y w'=>y=k∧∃p',AD p0 w0 b B o n c (zah D) (Qr ns (pos+2)) p' w') (by omega) (by rw[h2];exact hpk.mono fun e w' ⟨e1,p',e2,e3,e4⟩=>⟨k,e1,rfl,p',hA1.on e2 e3 e4⟩) hs2 h23 _ ?_)
 rintro k w2 ⟨rfl,p2,hA2⟩ a3 hd3 hs3 h3 h33 h34
 obtain⟨m3,dd⟩:=a3;have hd3:dd=[]:=hd3
 subst hd3;have hs3:m3.size=89:=hs3
 have h3:m3.getD 0 undef=zaU b:=h3.trans h2
 have h33:m3.getD 3 undef=.slice (some ⟨B,o,none⟩) n c:=h33
 have h34:m3.getD 4 undef=.int .i64 (k:Int):=h34
 obtain⟨x,hx,hpk⟩:=zd8 hns (K:=14) (pos:=pos+2) (by omega) (by omega) hA2.zp hA2.tk
 refine wp_seq (wp_seq (zCP (post:=fun y w'=>y=x∧∃p',AD p0 w0 b B o n c (zah D) (Qr ns (pos+3)) p' w') (by rw[h3];exact hpk.mono fun e w' ⟨e1,p',e2,e3,e4⟩=>⟨x,e1,rfl,p',hA2.on e2 e3 e4⟩) hs3 _ ?_))
 rintro x w3 ⟨rfl,p3,hA⟩ a4 hd4 hs4 g0 g3 g4 g12
 obtain⟨m,dd⟩:=a4;have hd4:dd=[]:=hd4
 subst hd4;have hs:m.size=89:=hs4
 have e0:m.getD 0 undef=zaU b:=g0.trans h3
 have e3:m.getD 3 undef=.slice (some ⟨B,o,none⟩) n c:=g3.trans h33
 have e4:m.getD 4 undef=.int .i64 (k:Int):=g4.trans h34
 have e12:m.getD 12 undef=.int .i64 (x:Int):=g12
 clear hA1 hA2 hpk hs4 g0 g3 g4 g12 h33 h34 h3 hs3 h23 h2 hs2 h1 hs1 h0 hs0;have fin:∀{m':Array Value}{w:World}{p:Stb}{ds:List (List AC)}{A:Option Addr}{n c q1:Nat},m'.size=89→m'.getD 3 undef=.slice A n c→Rep p w (.slice A n c) (.sl 3 ds)→(∀d∈ds,Fit .decl d)→ds.length≤6→Evo (·=b) p0 w0 p w→Zp p w→TK p w (fun _=>False) b (Qr ns q1)→q1≤pos+10 →
   (Code.seq zwm .ret).wp Try.prog (bodyPost Try.prog Try.f52 fun e w'=>∃A n c p' ds pos',e=.returned (.slice A n c)∧Rep p' w' (.slice A n c) (.sl 3 ds)∧(∀d∈ds,Fit .decl d)∧ds.length≤6∧Evo (·=b) p0 w0 p' w'∧Zp p' w'∧TK p' w' (fun _=>False) b (Qr ns pos')∧pos'≤pos+10) {tmps:=m',defers:=[]} w:=fun f1 f2 f3 f4 f5 f6 f7 f8 f9 =>
  zBV f1 f2 _ fun a' hd hres=>⟨hd,_,hres,_,_,_,_,_,_,rfl,f3,f4,f5,f6,f7,f8,f9⟩
 have finA:∀{m':Array Value}{w:World}{p:Stb}{rows:List (List AC)}{q1:Nat},m'.size=89→m'.getD 3 undef=.slice (some ⟨B,o,none⟩) n c→AD p0 w0 b B o n c rows (Qr ns q1) p w→q1≤pos+10 →
   (Code.seq zwm .ret).wp Try.prog (bodyPost Try.prog Try.f52 fun e w'=>∃A n c p' ds pos',e=.returned (.slice A n c)∧Rep p' w' (.slice A n c) (.sl 3 ds)∧(∀d∈ds,Fit .decl d)∧ds.length≤6∧Evo (·=b) p0 w0 p' w'∧Zp p' w'∧TK p' w' (fun _=>False) b (Qr ns pos')∧pos'≤pos+10) {tmps:=m',defers:=[]} w:=fun f1 f2 h f9 =>
  fin f1 f2 h.rep h.fit (by have:=h.len;omega) h.evo h.zp h.tk f9
 refine wp_block ?_
 refine wp_seq (zCl hs e12 _ fun a4 hd4 hs4 g0 g3 g4 g12 g13=>?_)
 clear hs;obtain⟨m0,dd⟩:=a4;have hd4:dd=[]:=hd4
 subst hd4;have hs:m0.size=89:=hs4
 replace e0:m0.getD 0 undef=zaU b:=g0.trans e0
 replace e3:m0.getD 3 undef=.slice (some ⟨B,o,none⟩) n c:=g3.trans e3
 replace e4:m0.getD 4 undef=.int .i64 (k:Int):=g4.trans e4
 replace e12:m0.getD 12 undef=.int .i64 (x:Int):=g12
 refine wp_cond (t:=((x:Int)==0)) g13 ?_
 clear hs4 g0 g3 g4 g12 g13;by_cases hx0:x=0
 ·rw[show((x:Int)==0)=true from beq_iff_eq.2 (by omega)]
  simp only[if_true];obtain⟨y,hy,ho1⟩:=zf4 hns (pos:=pos+3) (by omega) 3 (xs:=[-1,5,0,2]) (by simp) (by simp) hA.zp hA.tk
  refine zCK (B:=B) (o:=o) (n:=n) (cap:=c) (k:=k) (post:=fun y z w'=>(-10≤y∧y≤10∧-10≤z∧z≤10)∧∃p',AD p0 w0 b B o n c (zah D) (Qr ns (pos+5)) p' w') hk (by omega) ?_ hs e3 e4 _ ?_
  ·rw[e0]
   refine Calls.mono (ho1 _ (.inl rfl)) ?_
   rintro e w4 ⟨rfl,p4,hev4,hz4,ht4⟩
   have hA4:=hA.on hev4 hz4 ht4
   obtain⟨z,hz,ho2⟩:=zf4 hns (pos:=pos+3+1) (by omega) 3 (xs:=[0,1,5]) (by simp) (by simp) hA4.zp hA4.tk
   refine⟨y,rfl,Calls.mono (ho2 _ (.inl rfl)) ?_⟩
   rintro e w5 ⟨rfl,p5,hev5,hz5,ht5⟩
   have hA5:=hA4.on hev5 hz5 ht5
   simp only[List.mem_cons,List.not_mem_nil,or_false] at hy hz;exact⟨z,rfl,⟨by omega,p5,hA5⟩,hA5.row hk⟩
  rintro y z w5 ⟨hyz,p5,hA5⟩ a' hd hs' f0 f3
  obtain⟨m',dd⟩:=a';have hd:dd=[]:=hd
  subst hd;exact finA hs' f3 (hA5.put hk (x0:=.int .i64 y) (x1:=.int .i64 z) (x2:=.slice none 0 0) (c0:=.int y) (c1:=.int z) (c2:=.sl 1 (zcS [])) ⟨.int _,.int _,.nil _ _,trivial⟩ (zqF ⟨y,z,[]⟩) (ziC (d:=⟨y,z,[]⟩) (by simp;omega) (by simp;omega) (by simp) (by simp))) (by omega)
 rw[show((x:Int)==0)=false from beq_eq_false_iff_ne.2 (by omega)]
 simp only[Bool.false_eq_true,if_false];refine wp_seq (zC5 hs e12 _ fun a4 hd4 hs4 g0 g3 g4 g12 g13=>?_)
 clear hs;obtain⟨m1,dd⟩:=a4;have hd4:dd=[]:=hd4
 subst hd4;have hs:m1.size=89:=hs4
 replace e0:m1.getD 0 undef=zaU b:=g0.trans e0
 replace e3:m1.getD 3 undef=.slice (some ⟨B,o,none⟩) n c:=g3.trans e3
 replace e4:m1.getD 4 undef=.int .i64 (k:Int):=g4.trans e4
 replace e12:m1.getD 12 undef=.int .i64 (x:Int):=g12
 refine wp_cond (t:=((x:Int)==1)) g13 ?_
 clear hs4 g0 g3 g4 g12 g13;by_cases hx1:x=1
 ·rw[show((x:Int)==1)=true from beq_iff_eq.2 (by omega)]
  simp only[if_true];obtain⟨y,hy,ho1⟩:=zf4 hns (pos:=pos+3) (by omega) 3 (xs:=[-1,0,4,5]) (by simp) (by simp) hA.zp hA.tk
  refine zCT (B:=B) (o:=o) (n:=n) (cap:=c) (k:=k) (post:=fun y w'=>(-10≤y∧y≤10)∧∃p',AD p0 w0 b B o n c (zah D) (Qr ns (pos+4)) p' w') hk (by omega) ?_ hs e3 e4 _ ?_
  ·rw[e0]
   refine Calls.mono (ho1 _ (.inl rfl)) ?_
   rintro e w4 ⟨rfl,p4,hev4,hz4,ht4⟩
   have hA4:=hA.on hev4 hz4 ht4
   simp only[List.mem_cons,List.not_mem_nil,or_false] at hy;exact⟨y,rfl,⟨by omega,p4,hA4⟩,hA4.big⟩
  rintro y w4 ⟨hy,p4,hA4⟩ a' hd hs' f0 f3
  obtain⟨m',dd⟩:=a';have hd:dd=[]:=hd
  subst hd;obtain⟨p5,hr5,hev5,hz5⟩:=zpr 3 94 [[y],[0,0,0,0],[]] hA4.zp;have hA5:=hA4.on (hev5.weaken fun _ _ h=>h.elim) hz5 (hA4.tk.evo hev5)
  have hA6:=hA5.put hk (x0:=.int .i64 0) (x1:=.int .i64 0) (c0:=.int 0) (c1:=.int 0) ⟨.int _,.int _,hr5,trivial⟩ (zqF ⟨0,0,[[y],[0,0,0,0],[]]⟩) (ziC (d:=⟨0,0,[[y],[0,0,0,0],[]]⟩) (by simp) (by simp) (by simp) (by simp;omega))
  simp only[zfE,World.size_alloc,List.map_cons,List.map_nil,List.length_cons,List.length_nil] at hA6;exact finA hs' f3 hA6 (by omega)
 rw[show((x:Int)==1)=false from beq_eq_false_iff_ne.2 (by omega)]
 simp only[Bool.false_eq_true,if_false];refine wp_seq (zCG hs e12 _ fun a4 hd4 hs4 g0 g3 g4 g12 g13=>?_)
 clear hs;obtain⟨m2,dd⟩:=a4;have hd4:dd=[]:=hd4
 subst hd4;have hs:m2.size=89:=hs4
 replace e0:m2.getD 0 undef=zaU b:=g0.trans e0
 replace e3:m2.getD 3 undef=.slice (some ⟨B,o,none⟩) n c:=g3.trans e3
 replace e4:m2.getD 4 undef=.int .i64 (k:Int):=g4.trans e4
 replace e12:m2.getD 12 undef=.int .i64 (x:Int):=g12
 refine wp_cond (t:=((x:Int)==2)) g13 ?_
 clear hs4 g0 g3 g4 g12 g13;by_cases hx2:x=2
 ·rw[show((x:Int)==2)=true from beq_iff_eq.2 (by omega)]
  simp only[if_true];obtain⟨aB,TB,hB,hsB⟩:=hA.big;refine zC4 (B:=B) (o:=o) (n:=n) (cap:=c) (k:=k) hk (by omega) hB hsB hs e3 e4 _ fun a' hd hs' f0 f3=>?_
  obtain⟨m',dd⟩:=a';have hd:dd=[]:=hd
  subst hd;obtain⟨p5,hr5,hev5,hz5⟩:=zpr 3 94 [[(k:Int)+1]] hA.zp;have hA5:=hA.on (hev5.weaken fun _ _ h=>h.elim) hz5 (hA.tk.evo hev5)
  have hA6:=hA5.put hk (x0:=.int .i64 0) (x1:=.int .i64 0) (c0:=.int 0) (c1:=.int 0) ⟨.int _,.int _,hr5,trivial⟩ (zqF ⟨0,0,[[(k:Int)+1]]⟩) (ziC (d:=⟨0,0,[[(k:Int)+1]]⟩) (by simp) (by simp) (by simp) (by simp;omega))
  simp only[zfE,World.size_alloc,List.map_cons,List.map_nil,List.length_cons,List.length_nil] at hA6;exact finA hs' f3 hA6 (by omega)
 rw[show((x:Int)==2)=false from beq_eq_false_iff_ne.2 (by omega)]
 simp only[Bool.false_eq_true,if_false];refine wp_seq (zBd hs e12 _ fun a4 hd4 hs4 g0 g3 g4 g12 g13=>?_)
 clear hs;obtain⟨m3,dd⟩:=a4;have hd4:dd=[]:=hd4
 subst hd4;have hs:m3.size=89:=hs4
 replace e0:m3.getD 0 undef=zaU b:=g0.trans e0
 replace e3:m3.getD 3 undef=.slice (some ⟨B,o,none⟩) n c:=g3.trans e3
 replace e4:m3.getD 4 undef=.int .i64 (k:Int):=g4.trans e4
 replace e12:m3.getD 12 undef=.int .i64 (x:Int):=g12
 refine wp_cond (t:=((x:Int)==3)) g13 ?_
 clear hs4 g0 g3 g4 g12 g13;by_cases hx3:x=3
 ·rw[show((x:Int)==3)=true from beq_iff_eq.2 (by omega)]
  simp only[if_true];obtain⟨y,hy,ho1⟩:=zf4 hns (pos:=pos+3) (by omega) 3 (xs:=[0,2,1]) (by simp) (by simp) hA.zp hA.tk
  refine zBa (B:=B) (o:=o) (n:=n) (cap:=c) (post:=fun y G g1 g2 w'=>(-10≤y∧y≤10)∧∃p',Rep p' w' (.slice G g1 g2) (.sl 3 (zah D++[zj6 ⟨2,y,[]⟩]))∧Evo (·=b) p0 w0 p' w'∧Zp p' w'∧TK p' w' (fun _=>False) b (Qr ns (pos+4))) ?_ hs e3 _ ?_
  ·rw[e0]
   refine Calls.mono (ho1 _ (.inl rfl)) ?_
   rintro e w4 ⟨rfl,p4,hev4,hz4,ht4⟩
   have hA4:=hA.on hev4 hz4 ht4
   obtain⟨p5,hr5,hev5,hz5⟩:=zrH (p:=p4) (w:=w4) 83 hA4.zp [(2,y)];have hA5:=hA4.on (hev5.weaken fun _ _ h=>h.elim) hz5 (hA4.tk.evo hev5)
   obtain⟨G,g1,g2,w6,p6,hrun,hr6,hev6,hz6,ht6⟩:=hA5.app hr5 (by simp;omega)
   simp only[List.mem_cons,List.not_mem_nil,or_false] at hy;exact⟨y,rfl,G,g1,g2,w6,hrun,by omega,p6,hr6,hev6,hz6,ht6⟩
  rintro y G g1 g2 w6 ⟨hy,p6,hr6,hev6,hz6,ht6⟩ a' hd hs' f0 f3
  obtain⟨m',dd⟩:=a';have hd:dd=[]:=hd
  subst hd;refine fin hs' f3 hr6 (fun d hd=>?_) (by simp;omega) hev6 hz6 ht6 (by omega)
  rcases List.mem_append.1 hd with h|h
  ·exact hfit d h
  ·obtain rfl:=List.mem_singleton.1 h
   exact ziC (d:=⟨2,y,[]⟩) (by simp) (by simp;omega) (by simp) (by simp)
 rw[show((x:Int)==3)=false from beq_eq_false_iff_ne.2 (by omega)]
 simp only[Bool.false_eq_true,if_false];refine wp_seq (zBi hs e12 _ fun a4 hd4 hs4 g0 g3 g4 g12 g13=>?_)
 clear hs;obtain⟨m4,dd⟩:=a4;have hd4:dd=[]:=hd4
 subst hd4;have hs:m4.size=89:=hs4
 replace e0:m4.getD 0 undef=zaU b:=g0.trans e0
 replace e3:m4.getD 3 undef=.slice (some ⟨B,o,none⟩) n c:=g3.trans e3
 replace e4:m4.getD 4 undef=.int .i64 (k:Int):=g4.trans e4
 replace e12:m4.getD 12 undef=.int .i64 (x:Int):=g12
 refine wp_cond (t:=((x:Int)==4)) g13 ?_
 clear hs4 g0 g3 g4 g12 g13;by_cases hx4:x=4
 ·rw[show((x:Int)==4)=true from beq_iff_eq.2 (by omega)]
  simp only[if_true];obtain⟨x1,hx1,hpk⟩:=zd8 hns (K:=2) (pos:=pos+3) (by omega) (by omega) hA.zp hA.tk
  refine zBl (B:=B) (o:=o) (n:=n) (cap:=c) (k:=k) (post2:=fun x1 w1 y w2=>x1<2∧∃p',AD p0 w0 b B o n c (zah D) (Qr ns (pos+5)) p' w2∧∃V,Rep p' w2 V (.sl 1 (zcS [[],[2],[],[]]))∧V=.slice (some ⟨w1.heap.size+1+1+1+1+1+1+1+1,0,none⟩) 4 4) hk (by omega) ?_ hs e3 e4 _ ?_
  ·rw[e0]
   refine hpk.mono ?_
   rintro e w4 ⟨rfl,p4,hev4,hz4,ht4⟩
   have hA4:=hA.on hev4 hz4 ht4
   obtain⟨p5,hr5,hev5,hz5⟩:=zpr 3 94 [[],[2],[],[]] hA4.zp;have hA5:=hA4.on (hev5.weaken fun _ _ h=>h.elim) hz5 (hA4.tk.evo hev5)
   simp only[zfE,World.size_alloc,List.map_cons,List.map_nil,List.length_cons,List.length_nil] at hA5 hr5;obtain⟨y,hy,hpk2⟩:=zd8 hns (K:=3) (pos:=pos+3+1) (by omega) (by omega) hA5.zp hA5.tk
   refine⟨x1,rfl,Calls.mono hpk2 ?_⟩
   rintro e w6 ⟨rfl,p6,hev6,hz6,ht6⟩
   have hA6:=hA5.on hev6 hz6 ht6
   exact⟨y,rfl,hy,⟨hx1,p6,hA6,_,hr5.evo hev6,rfl⟩,hA6.row hk⟩
  rintro x1 w4 y w6 hy ⟨hx1,p6,hA6,V,hV,rfl⟩ a' hd hs' f0 f3
  obtain⟨m',dd⟩:=a';have hd:dd=[]:=hd
  subst hd;have hd6:=zwD hV y (by simp[zcS];omega)
  rw[Nat.mul_one] at hd6;have hcd:(zcS [[],[2],[],[]]).drop y=zcS ([[],[2],[],[]].drop y):=by simp only[zcS,List.map_drop]
  rw[hcd] at hd6;refine finA hs' f3 (hA6.put hk (x0:=.int .i64 (x1:Int)) (x1:=.int .i64 0) (c0:=.int (x1:Int)) (c1:=.int 0) ⟨.int _,.int _,hd6,trivial⟩ (zqF ⟨x1,0,[[],[2],[],[]].drop y⟩) (ziC (d:=⟨x1,0,[[],[2],[],[]].drop y⟩) (by simp;omega) (by simp) (by simp;omega) fun q hq=>?_)) (by omega)
  have hq:=List.mem_of_mem_drop hq
  simp only[List.mem_cons,List.not_mem_nil,or_false] at hq;rcases hq with rfl|rfl|rfl|rfl <;> simp
 rw[show((x:Int)==4)=false from beq_eq_false_iff_ne.2 (by omega)]
 simp only[Bool.false_eq_true,if_false];refine wp_seq (zBy hs e12 _ fun a4 hd4 hs4 g0 g3 g4 g12 g13=>?_)
 clear hs;obtain⟨m5,dd⟩:=a4;have hd4:dd=[]:=hd4
 subst hd4;have hs:m5.size=89:=hs4
 replace e0:m5.getD 0 undef=zaU b:=g0.trans e0
 replace e3:m5.getD 3 undef=.slice (some ⟨B,o,none⟩) n c:=g3.trans e3
 replace e4:m5.getD 4 undef=.int .i64 (k:Int):=g4.trans e4
 replace e12:m5.getD 12 undef=.int .i64 (x:Int):=g12
 refine wp_cond (t:=((x:Int)==5)) g13 ?_
 clear hs4 g0 g3 g4 g12 g13;by_cases hx5:x=5
 ·rw[show((x:Int)==5)=true from beq_iff_eq.2 (by omega)]
  simp only[if_true];obtain⟨p5,hr5,hev5,hz5⟩:=zrH (p:=p3) (w:=w3) 83 hA.zp [(0,0),(3,0)];have hA5:=hA.on (hev5.weaken fun _ _ h=>h.elim) hz5 (hA.tk.evo hev5)
  obtain⟨G,g1,g2,w6,p6,hrun,hr6,hev6,hz6,ht6⟩:=hA5.app hr5 (by simp;omega)
  refine zBO (B:=B) (o:=o) (n:=n) (cap:=c) (post:=fun G g1 g2 w'=>∃p',Rep p' w' (.slice G g1 g2) (.sl 3 (zah D++[zj6 ⟨0,0,[]⟩,zj6 ⟨3,0,[]⟩]))∧Evo (·=b) p0 w0 p' w'∧Zp p' w'∧TK p' w' (fun _=>False) b (Qr ns (pos+3))) ⟨G,g1,g2,w6,hrun,p6,hr6,hev6,hz6,ht6⟩ hs e3 _ ?_
  rintro G g1 g2 w6 ⟨p6,hr6,hev6,hz6,ht6⟩ a' hd hs' f0 f3
  obtain⟨m',dd⟩:=a';have hd:dd=[]:=hd
  subst hd;refine fin hs' f3 hr6 (fun d hd=>?_) (by simp;omega) hev6 hz6 ht6 (by omega)
  rcases List.mem_append.1 hd with h|h
  ·exact hfit d h
  ·simp only[List.mem_cons,List.not_mem_nil,or_false] at h
   rcases h with rfl|rfl
   ·exact ziC (d:=⟨0,0,[]⟩) (by simp) (by simp) (by simp) (by simp)
   ·exact ziC (d:=⟨3,0,[]⟩) (by simp) (by simp) (by simp) (by simp)
 rw[show((x:Int)==5)=false from beq_eq_false_iff_ne.2 (by omega)]
 simp only[Bool.false_eq_true,if_false];refine wp_skip ?_
 exact finA hs e3 hA (by omega)
end
end
end Go.Proofs.Ytcpcagdialnbeaa
