/- Generic texts and models for the proofs of this seat: part 37. -/
import Derived.Test.YtcpcagdialnbeaaY36
set_option linter.unusedVariables false
set_option linter.unusedSimpArgs false
namespace Go.Proofs.Ytcpcagdialnbeaa
section
open Go Go.RowKit
structure SD (pz:Stb) (wz:World) (b B o cap c6 c9:Nat) (ns:List Nat) (D:List DM) (R:List PM) (D1:Option Addr) (d1 d2:Nat) (V:Option Addr) (v1 v2:Nat) (xs:List Int) (e0 e1:Int) (A3:Option Addr) (l3 k3:Nat) (kids:List (List AC)) (pos:Nat) (p:Stb) (w:World):Prop where
 fp:FP (·=b) pz wz b B o R.length cap (zaC R) (Qr ns pos) p w
 rD:Rep p w (.slice D1 d1 d2) (.sl 3 (zah D))
 h6:w.heap[c6]?=some (.cells #[.slice D1 d1 d2,.slice (some ⟨B,o,none⟩) R.length cap] 26 (0,0))
 z6:p c6=0
 rV:Rep p w (.slice V v1 v2) (.sl 1 (zab xs))
 tV:Rt p w (.slice V v1 v2) 1
 bV:∀q,zar (.slice V v1 v2)=some q→wz.heap.size≤q∧q≠B∧q≠c6∧q≠c9
 h9:w.heap[c9]?=some (.cells #[.int .i64 e0,.int .i64 e1,.slice A3 l3 k3] 32 (0,0))
 z9:p c9=0
 rK:Rep p w (.slice A3 l3 k3) (.sl 3 kids)
 fe:Fit .expr [.int e0,.int e1,.sl 3 kids]
 sz:1+kids.length+rsS kids≤1900
 n6:wz.heap.size≤c6
 n9:wz.heap.size≤c9
 n69:c6≠c9
def zqy (w:World) (c:Nat) (x0 x1 x2:Value):World:=((w.setCell ⟨c,0,none⟩ x0).setCell ⟨c,1,none⟩ x1).setCell ⟨c,2,none⟩ x2
theorem zrK {w:World}{c:Nat}{x0 x1 x2 y0 y1 y2:Value}{T:TypeId} (h:w.heap[c]?=some (.cells #[y0,y1,y2] T (0,0))):(zqy w c x0 x1 x2).heap[c]?=some (.cells #[x0,x1,x2] T (0,0)) :=
 heap_setCell_same _ _ _ _ _ _ (heap_setCell_same _ _ _ _ _ _ (heap_setCell_same _ _ _ _ _ _ h))
theorem zlC {w:World}{c a:Nat}{x0 x1 x2:Value} (h:a≠c):(zqy w c x0 x1 x2).heap[a]?=w.heap[a]?:=by
 unfold zqy;rw[heap_setCell_other _ _ _ _ h,heap_setCell_other _ _ _ _ h,heap_setCell_other _ _ _ _ h]
theorem zvE {w:World}{c:Nat}{x0 x1 x2:Value}:(zqy w c x0 x1 x2).heap.size=w.heap.size:=by simp[zqy,World.setCell]
theorem zs0 {w:World}{c:Nat}{x0 x1 x2:Value} (p:Stb) (hp:p c=0):Evo (·=c) p w p (zqy w c x0 x1 x2):=by
 refine zbw hp zvE (fun y hy=>zlC hy) ?_ ?_ ?_ <;> simp[zqy,World.setCell]
section
variable {pz:Stb}{wz:World}{b B o cap c6 c9:Nat}{ns:List Nat}{D:List DM}{R:List PM}{D1:Option Addr}{d1 d2:Nat}{V:Option Addr}{v1 v2:Nat}{xs:List Int}{e0 e1:Int}{A3:Option Addr}{l3 k3:Nat}{kids:List (List AC)}{pos:Nat}{p p':Stb}{w w':World}
theorem SD.on {pos':Nat} (h:SD pz wz b B o cap c6 c9 ns D R D1 d1 d2 V v1 v2 xs e0 e1 A3 l3 k3 kids pos p w) (hev:Evo (·=b) p w p' w') (hz:Zp p' w') (ht:TK p' w' (fun _=>False) b (Qr ns pos')):SD pz wz b B o cap c6 c9 ns D R D1 d1 d2 V v1 v2 xs e0 e1 A3 l3 k3 kids pos' p' w':=by
 have hb:=h.fp.gb
 have n6:=h.n6
 have n9:=h.n9
 have g6:c6≠b:=by omega
 have g9:c9≠b:=by omega
 exact {h with
  fp:=h.fp.on hev hz ht
  rD:=h.rD.evo hev
  h6:=(hev.block c6 (zaD h.h6) g6).trans h.h6
  z6:=(hev.same c6 (zaD h.h6) g6).trans h.z6
  rV:=h.rV.evo hev
  tV:=h.tV.evo hev (fun q hq e=>by have:=(h.bV q hq).1;have e:q=b:=e;omega)
  h9:=(hev.block c9 (zaD h.h9) g9).trans h.h9
  z9:=(hev.same c9 (zaD h.h9) g9).trans h.z9
  rK:=h.rK.evo hev}
theorem FP.on9 {n:Nat}{fs:List (List AC)}{q:List AC}{c:Nat} (h:FP (·=b) pz wz b B o n cap fs q p w) (hev:Evo (·=c) p w p w') (hc:wz.heap.size≤c) (hB:B≠c):FP (·=b) pz wz b B o n cap fs q p w':=by
 have hb:=h.gb
 have nb:b≠c:=by omega
 refine {h with rep:=h.rep.evo hev,xB:=?_,tk:=?_,zp:=?_,evo:=h.evo.trans hev (fun _ _ e=>e) (fun x hx e=>absurd hx (by have e:x=c:=e;omega))}
 ·rw[hev.block B h.ltB hB]
  exact h.xB
 ·exact((h.tk.own (Own':=(·= c)) (fun e=>nb e)).evo hev).own (fun h=>h.elim)
 ·exact⟨fun x hx=>h.zp.1 x (Nat.le_trans hev.size hx),fun _ _ _=>trivial⟩
theorem SD.put (h:SD pz wz b B o cap c6 c9 ns D R D1 d1 d2 V v1 v2 xs e0 e1 A3 l3 k3 kids pos p w) {x0 x1:Int}{A4:Option Addr}{l4 k4:Nat}{kids':List (List AC)} (hr:Rep p w (.slice A4 l4 k4) (.sl 3 kids')) (hf:Fit .expr [.int x0,.int x1,.sl 3 kids']) (hs:1+kids'.length+rsS kids'≤1900) :
  SD pz wz b B o cap c6 c9 ns D R D1 d1 d2 V v1 v2 xs x0 x1 A4 l4 k4 kids' pos p (zqy w c9 (.int .i64 x0) (.int .i64 x1) (.slice A4 l4 k4)):=by
 have hev:=zs0 (w:=w) (x0:=.int .i64 x0) (x1:=.int .i64 x1) (x2:=.slice A4 l4 k4) p h.z9
 have hB:B≠c9:=fun e=>by have:=h.fp.pos;rw[e,h.z9] at this;omega
 exact {h with
  fp:=h.fp.on9 hev h.n9 hB
  rD:=h.rD.evo hev
  h6:=(zlC h.n69).trans h.h6
  rV:=h.rV.evo hev
  tV:=h.tV.evo hev (fun q hq e=>(h.bV q hq).2.2.2 e)
  h9:=zrK h.h9
  rK:=hr.evo hev
  fe:=hf
  sz:=hs}
end
end
section
open Go Go.RowKit
def zon (w:World) (B:Nat) (x0 x1:Value):World:=(w.setCell ⟨B,0,none⟩ x0).setCell ⟨B,1,none⟩ x1
theorem zvr {w:World}{B:Nat}{x0 x1 y0 y1:Value}{T:TypeId} (h:w.heap[B]?=some (.cells #[y0,y1] T (0,0))):(zon w B x0 x1).heap[B]?=some (.cells #[x0,x1] T (0,0)) :=
 heap_setCell_same _ _ _ _ _ _ (heap_setCell_same _ _ _ _ _ _ h)
theorem zpy {w:World}{B b:Nat}{x0 x1:Value} (h:b≠B):(zon w B x0 x1).heap[b]?=w.heap[b]?:=by
 unfold zon;rw[heap_setCell_other _ _ _ _ h,heap_setCell_other _ _ _ _ h]
theorem zvm {w:World}{B:Nat}{x0 x1:Value}:(zon w B x0 x1).heap.size=w.heap.size:=by simp[zon,World.setCell]
theorem zxi {w:World}{B:Nat}{x0 x1:Value} (p:Stb) (hp:p B=0):Evo (·=B) p w p (zon w B x0 x1):=by
 refine zbw hp zvm (fun y hy=>zpy hy) ?_ ?_ ?_ <;> simp[zon,World.setCell]
theorem zDa {D:List DM} (hD:D∈zb9):apC 5 (.sl 3 (zah D))=true:=zuY D hD
section
variable {ns:List Nat} (hns:ns.length≤2000) {w0:World}{p0:Stb}{b:Nat}
include hns
end
end
section
open Go Go.RowKit Go.BigFrame
theorem zwi {o n:Int}{kids:List (List AC)} (h:Fit .expr [.int o,.int n,.sl 3 kids]):apC 5 (.sl 3 kids)=true:=by
 have:=zr8 h
 simp only[apL,Bool.and_eq_true] at this;exact this.2.2.1
section
variable {pz:Stb}{wz:World}{b B o cap c6 c9:Nat}{ns:List Nat}{D:List DM}{R:List PM}{D1:Option Addr}{d1 d2:Nat}{V:Option Addr}{v1 v2:Nat}{xs:List Int}{e0 e1:Int}{A3:Option Addr}{l3 k3:Nat}{kids:List (List AC)}{pos:Nat}{p p':Stb}{w w':World}
theorem zvt (p:Stb) (w:World) (b B:Nat):Evo (fun c=>c=b∨c=B) (raP p B 0) w p w :=
 ⟨rfl,rfl,rfl,Nat.le_refl _,fun _ _ _=>rfl,fun c hc=>by rw[zep];split <;> omega,fun c hc hn=>by rw[zep,if_neg (fun e=>hn (.inr e))],fun _ _ _ _=>rfl,fun _ _=>rfl,fun _ h1 h2=>absurd h1 (Nat.not_le.2 h2)⟩
theorem SD.late (h:SD pz wz b B o cap c6 c9 ns D R D1 d1 d2 V v1 v2 xs e0 e1 A3 l3 k3 kids pos p w):FP (fun c=>c=b∨c=B) (raP p B 0) w b B o R.length cap (zaC R) (Qr ns pos) p w :=
 {rep:=h.fp.rep,ne:=h.fp.ne,xB:=h.fp.xB,okB:=h.fp.okB,uq:=h.fp.uq,gB:=.inr ⟨.inr rfl,by rw[zep,if_pos rfl]⟩,gb:=h.fp.tk.lt,nb:=h.fp.nb,cb:=.inl rfl,fit:=h.fp.fit,ap:=h.fp.ap,tk:=h.fp.tk,zp:=h.fp.zp,evo:=zvt p w b B}
theorem SD.low (h:SD pz wz b B o cap c6 c9 ns D R D1 d1 d2 V v1 v2 xs e0 e1 A3 l3 k3 kids pos p w) {v:Value}{c:AC} (hr:Rep p w v c) (ha:apC 5 c=true):Rep (raP p B 0) w v c :=
 hr.low (fun x=>by
  by_cases e:x=B
  ·subst e;exact .inr h.fp.uq
  ·exact .inl (zlx e)) rfl ha
def zmV (w0:World) (v:Value) (w':World):Prop:=∃N p' D1 d1 d2 E1 e1 e2 V v1 v2 x0 x1 A3 l3 k3 ds fs xs kids,v=.tuple #[.agg #[.slice D1 d1 d2,.slice E1 e1 e2],.slice V v1 v2,.agg #[.int .i64 x0,.int .i64 x1,.slice A3 l3 k3]] ∧
 Rep p' w' (.slice D1 d1 d2) (.sl 3 ds)∧Rep p' w' (.slice E1 e1 e2) (.sl 5 fs)∧Rep p' w' (.slice V v1 v2) (.sl 1 (zab xs))∧Rep p' w' (.slice A3 l3 k3) (.sl 3 kids)∧Fit .prog [.sl 3 ds,.sl 5 fs]∧xs.length≤7∧Fit .expr [.int x0,.int x1,.sl 3 kids]∧Evo (fun _=>False) (zdl w0.heap.size N) w0 p' w'∧Zp p' w'
theorem SD.spoil (hns:ns.length≤2000) (h:SD pz wz b B o cap c6 c9 ns D R D1 d1 d2 V v1 v2 xs e0 e1 A3 l3 k3 kids pos p w) (hD:D∈zb9) (hR:GR R) (hbd:∀x∈R,ziG x) (hpos:pos+5000≤800000) :
  Calls Try.prog 31 #[zaU b,.agg #[.slice D1 d1 d2,.slice (some ⟨B,o,none⟩) R.length cap]] w fun e w'=>∃D2 g1 g2 E2 h1 h2,e=.returned (.agg #[.slice D2 g1 g2,.slice E2 h1 h2])∧∃p' ds fs,Rep p' w' (.slice D2 g1 g2) (.sl 3 ds)∧Rep p' w' (.slice E2 h1 h2) (.sl 5 fs)∧Fit .prog [.sl 3 ds,.sl 5 fs] ∧
   Rep p' w' (.slice V v1 v2) (.sl 1 (zab xs))∧Rep p' w' (.slice A3 l3 k3) (.sl 3 kids)∧Evo (·=b) pz wz p' w'∧Zp p' w'∧(∀c,c<w.heap.size→c≠b→c≠B→w'.heap[c]?=w.heap[c]?∧p' c=p c):=by
 obtain⟨hne,hdf,hda,hdl⟩:=zrm hD;have hs:=zmQ hns h.late h.rD hdf (by omega) (zDa hD) hR hbd hpos
 refine hs.mono ?_
 rintro e w' ⟨v,p',ds,fs,pos',rfl,hrep,hf,hl1,hl2,hev,hz,ht,hp⟩
 obtain⟨arr,rfl,hl⟩:=hrep;obtain⟨l⟩:=arr
 match l,hl with
 | [u0,u1],⟨r0,r1,_⟩ =>
 obtain⟨D2,g1,g2,rfl⟩:=zbd r0;obtain⟨E2,h1,h2,rfl⟩:=zbd r1;have hBz:=h.fp.gB
 have hrV:Rep p' w' (.slice V v1 v2) (.sl 1 (zab xs)):=(h.low h.rV (by
  simp only[apC,zmo,Bool.and_true];rfl)).evo hev
 have hrK:Rep p' w' (.slice A3 l3 k3) (.sl 3 kids):=(h.low h.rK (zwi h.fe)).evo hev
 refine⟨D2,g1,g2,E2,h1,h2,rfl,p',ds,fs,r0,r1,hf,hrV,hrK,?_,hz,fun c hc hb hB=>?_⟩
 ·have hBz:wz.heap.size≤B:=by
   rcases h.fp.gB with g|⟨g,_⟩
   ·exact g
   ·exact absurd g h.fp.nb
  have e0:=h.fp.evo
  have e1:Evo (·=b) pz wz (raP p B 0) w:=⟨e0.os,e0.tape,e0.output,e0.size,e0.block,fun c hc=>by rw[zlx (by omega)];exact e0.keepP c hc,fun c hc hn=>by rw[zlx (by omega)];exact e0.same c hc hn,e0.stable,e0.okk,e0.uq⟩
  exact e1.trans hev (fun _ _ e=>e) (fun c hc e=>e.elim id (fun e=>absurd hc (by omega)))
 ·have n:¬(c=b∨c=B):=fun e=>e.elim hb hB
  exact⟨hev.block c hc n,(hev.same c hc n).trans (zlx hB)⟩
end
end
section
open Go Go.RowKit Go.BigFrame
structure ZD (w0:World) (N:Nat) (pz:Stb) (wz:World) (b c2 c4:Nat):Prop where
 evo:Evo (fun _=>False) (zdl w0.heap.size N) w0 pz wz
 h2:wz.heap[c2]?=some (.cells #[.slice none 0 0,.slice none 0 0] 26 (0,0))
 h4:wz.heap[c4]?=some (.cells #[.int .i64 0,.int .i64 0,.slice none 0 0] 32 (0,0))
 z2:pz c2=0
 z4:pz c4=0
 n2b:c2≠b
 n4b:c4≠b
 n24:c2≠c4
 g2:w0.heap.size≤c2
 g4:w0.heap.size≤c4
 gb:w0.heap.size≤b
section
variable {w0:World}{N c2 c4:Nat}{pz:Stb}{wz:World}{b B o cap c6 c9:Nat}{ns:List Nat}{D:List DM}{R:List PM}{D1:Option Addr}{d1 d2:Nat}{V:Option Addr}{v1 v2:Nat}{xs:List Int}{e0 e1:Int}{A3:Option Addr}{l3 k3:Nat}{kids:List (List AC)}{pos:Nat}{p p':Stb}{w w':World}
set_option maxHeartbeats 4000000 in
theorem zCM (hns:ns.length≤2000) (hZ:ZD w0 N pz wz b c2 c4) (h:SD pz wz b B o cap c6 c9 ns D R D1 d1 d2 V v1 v2 xs e0 e1 A3 l3 k3 kids pos p w) (hD:D∈zb9) (hR:GR R) (hbd:∀x∈R,ziG x) (hxl:xs.length≤7) (hpos:pos+5000≤800000) {m:Array Value} (hs:m.size=(Try.f12).ntmps) (m2:m.getD 2 undef=.pointer (some ⟨c2,0,none⟩)) (m4:m.getD 4 undef=.pointer (some ⟨c4,0,none⟩)) (m5:m.getD 5 undef=zaU b) (m6:m.getD 6 undef=.pointer (some ⟨c6,0,none⟩)) (m8:m.getD 8 undef=.slice V v1 v2) (m9:m.getD 9 undef=.pointer (some ⟨c9,0,none⟩)) :
  (Code.seq DT11 .ret).wp Try.prog (bodyPost Try.prog Try.f12 fun e w'=>∃v,e=.returned v∧zmV w0 v w') {tmps:=m,defers:=[]} w:=by
 have hdr:SD pz wz b B o cap c6 c9 ns D R D1 d1 d2 V v1 v2 xs e0 e1 A3 l3 k3 kids pos p w.drew:=h.on ((Evo.refl _ _ _).drew) h.fp.zp (h.fp.tk.evo ((Evo.refl _ _ _).drew))
 have hsp:=hdr.spoil hns hD hR hbd hpos
 have l2:=zaD hZ.h2
 have l4:=zaD hZ.h4
 have q6:=h.n6
 have q9:=h.n9
 have n26:c2≠c6:=by omega
 have n29:c2≠c9:=by omega
 have n46:c4≠c6:=by omega
 have n49:c4≠c9:=by omega
 have nb:=h.fp.gb
 have nB6:c6≠B:=fun e=>by have:=h.fp.pos;rw[←e,h.z6] at this;omega
 have nB9:c9≠B:=fun e=>by have:=h.fp.pos;rw[←e,h.z9] at this;omega
 refine wp_seq (zyY (post:=fun D2 g1 g2 E2 h1 h2 w'=>∃p' ds fs,Rep p' w' (.slice D2 g1 g2) (.sl 3 ds)∧Rep p' w' (.slice E2 h1 h2) (.sl 5 fs)∧Fit .prog [.sl 3 ds,.sl 5 fs]∧Rep p' w' (.slice V v1 v2) (.sl 1 (zab xs))∧Rep p' w' (.slice A3 l3 k3) (.sl 3 kids)∧Evo (·=b) pz wz p' w'∧Zp p' w')
  n26 n29 n46 n49 ⟨zaj (j:=0) h.h6 rfl,zaj (j:=1) h.h6 rfl,zaj (j:=0) h.h9 rfl,zaj (j:=1) h.h9 rfl,zaj (j:=2) h.h9 rfl⟩ ?_ hs m2 m4 m6 m8 m9 _ ?_)
 ·rw[m5]
  refine hsp.mono ?_
  rintro e w' ⟨D2,g1,g2,E2,h1,h2,rfl,p',ds,fs,r0,r1,hf,rV,rK,hev,hz,hkeep⟩
  have x6:=(hkeep c6 (zaD h.h6) (by omega) nB6).1.trans h.h6
  have x9:=(hkeep c9 (zaD h.h9) (by omega) nB9).1.trans h.h9
  have x2:=(hev.block c2 l2 hZ.n2b).trans hZ.h2
  have x4:=(hev.block c4 l4 hZ.n4b).trans hZ.h4
  have x4':((w'.setCell ⟨c2,0,none⟩ (.slice D2 g1 g2)).setCell ⟨c2,1,none⟩ (.slice E2 h1 h2)).heap[c4]?=some (.cells #[.int .i64 0,.int .i64 0,.slice none 0 0] 32 (0,0)):=by
   rw[heap_setCell_other _ _ _ _ (fun e=>hZ.n24 e.symm),heap_setCell_other _ _ _ _ (fun e=>hZ.n24 e.symm)]
   exact x4
  exact⟨D2,g1,g2,E2,h1,h2,rfl,⟨p',ds,fs,r0,r1,hf,rV,rK,hev,hz⟩,zaj (j:=0) x6 rfl,zaj (j:=1) x6 rfl,zaj (j:=0) x9 rfl,zaj (j:=1) x9 rfl,zaj (j:=2) x9 rfl,_,_,_,_,_,
   zaj (j:=0) x2 rfl,zaj (j:=1) x2 rfl,frozen_of_row w' _ 0 _ _ x2,frozen_of_row w' _ 1 _ _ x2,
   zaj (j:=0) x4' rfl,zaj (j:=1) x4' rfl,zaj (j:=2) x4' rfl,frozen_of_row _ _ 0 _ _ x4',frozen_of_row _ _ 1 _ _ x4',frozen_of_row _ _ 2 _ _ x4'⟩
 ·rintro D2 g1 g2 E2 h1 h2 w' ⟨p',ds,fs,r0,r1,hf,rV,rK,hev,hz⟩ a' hd hs' k2 k4 k5 k6 k8 k9 k3'
  have x2:=(hev.block c2 l2 hZ.n2b).trans hZ.h2
  have x4:=(hev.block c4 l4 hZ.n4b).trans hZ.h4
  have y2:=(hev.same c2 l2 hZ.n2b).trans hZ.z2
  have y4:=(hev.same c4 l4 hZ.n4b).trans hZ.z4
  have ev2:=zxi (w:=w') (x0:=.slice D2 g1 g2) (x1:=.slice E2 h1 h2) p' y2
  have ev4:=zs0 (w:=zon w' c2 (.slice D2 g1 g2) (.slice E2 h1 h2)) (x0:=.int .i64 e0) (x1:=.int .i64 e1) (x2:=.slice A3 l3 k3) p' y4
  have X4:=(zpy (w:=w') (x0:=.slice D2 g1 g2) (x1:=.slice E2 h1 h2) (fun e=>hZ.n24 e.symm)).trans x4
  have Z4:=zrK (x0:=.int .i64 e0) (x1:=.int .i64 e1) (x2:=.slice A3 l3 k3) X4
  have Z2:=(zlC (w:=zon w' c2 (.slice D2 g1 g2) (.slice E2 h1 h2)) (x0:=.int .i64 e0) (x1:=.int .i64 e1) (x2:=.slice A3 l3 k3) hZ.n24).trans (zvr (x0:=.slice D2 g1 g2) (x1:=.slice E2 h1 h2) x2)
  have u20:=zaj (j:=0) Z2 rfl
  have u21:=zaj (j:=1) Z2 rfl
  have u40:=zaj (j:=0) Z4 rfl
  have u41:=zaj (j:=1) Z4 rfl
  have u42:=zaj (j:=2) Z4 rfl
  have hE:=((hZ.evo.trans hev (C:=fun _=>False) (fun _ _ e=>e) (fun c hc e=>absurd hc (by have:=hZ.gb;have e:c=b:=e;omega))).trans ev2 (C:=fun _=>False) (fun _ _ e=>e) (fun c hc e=>absurd hc (by have:=hZ.g2;have e:c=c2:=e;omega))).trans ev4 (C:=fun _=>False) (fun _ _ e=>e) (fun c hc e=>absurd hc (by have:=hZ.g4;have e:c=c4:=e;omega))
  have hz':Zp p' (zqy (zon w' c2 (.slice D2 g1 g2) (.slice E2 h1 h2)) c4 (.int .i64 e0) (.int .i64 e1) (.slice A3 l3 k3)):=⟨fun c hc=>hz.1 c (Nat.le_trans (Nat.le_trans ev2.size ev4.size) hc),fun _ _ _=>trivial⟩
  refine wp_ret (bodyPost_ret (v:=.tuple #[.agg #[.slice D2 g1 g2,.slice E2 h1 h2],.slice V v1 v2,.agg #[.int .i64 e0,.int .i64 e1,.slice A3 l3 k3]]) ?_ hd ⟨_,rfl,N,p',D2,g1,g2,E2,h1,h2,V,v1,v2,e0,e1,A3,l3,k3,ds,fs,xs,kids,rfl,(r0.evo ev2).evo ev4,(r1.evo ev2).evo ev4,(rV.evo ev2).evo ev4,(rK.evo ev2).evo ev4,hf,hxl,h.fe,hE,hz'⟩)
  unfold zqy zon at u20 u21 u40 u41 u42;rw[Array.getD_eq_getD_getElem?] at k2 k4 k3';simp[results,Try.results12,go_sem,k2,k4,k3',u20,u21,u40,u41,u42,zqy,zon]
end
end
section
open Go Go.RowKit Go.BigFrame
structure SL (m:Array Value) (b c2 c4 c6 c9:Nat) (V:Option Addr) (v1 v2:Nat):Prop where
 s:m.size=(Try.f12).ntmps
 m2:m.getD 2 undef=.pointer (some ⟨c2,0,none⟩)
 m4:m.getD 4 undef=.pointer (some ⟨c4,0,none⟩)
 m5:m.getD 5 undef=zaU b
 m6:m.getD 6 undef=.pointer (some ⟨c6,0,none⟩)
 m8:m.getD 8 undef=.slice V v1 v2
 m9:m.getD 9 undef=.pointer (some ⟨c9,0,none⟩)
section
variable {w0:World}{N c2 c4:Nat}{pz:Stb}{wz:World}{b B o cap c6 c9:Nat}{ns:List Nat}{D:List DM}{R:List PM}{D1:Option Addr}{d1 d2:Nat}{V:Option Addr}{v1 v2:Nat}{xs:List Int}{e0 e1:Int}{A3:Option Addr}{l3 k3:Nat}{kids:List (List AC)}{pos:Nat}{p p':Stb}{w w':World}
theorem SD.pick (hns:ns.length≤2000) (h:SD pz wz b B o cap c6 c9 ns D R D1 d1 d2 V v1 v2 xs e0 e1 A3 l3 k3 kids pos p w) (hpos:pos≤800000) {n:Nat} (hn:1≤n):Calls Try.prog 27 #[zaU b,.int .i64 (n:Int)] w fun e w'=>∃x:Nat,e=.returned (.int .i64 (x:Int))∧∃p',SD pz wz b B o cap c6 c9 ns D R D1 d1 d2 V v1 v2 xs e0 e1 A3 l3 k3 kids (pos+1) p' w':=by
 obtain⟨x,hx,hpick⟩:=zbq hns (p:=pos) (by omega) (m:=n) hn
 refine(((tok 27 (by kernel_rfl)).2 (Qr ns pos) [.cell (.int (n:Int))] _ hpick).2 p w b [.int .i64 (n:Int)] ⟨.int _,trivial⟩ h.fp.zp h.fp.tk).mono ?_
 rintro e w' ⟨v,rfl,p',hsr,_,_,hev',hz',ht',_⟩
 have hsr:Rep p' w' v (.int (x:Int)):=hsr
 cases hsr;exact⟨x,rfl,p',h.on hev' hz' ht'⟩
theorem SD.bend (hns:ns.length≤2000) (h:SD pz wz b B o cap c6 c9 ns D R D1 d1 d2 V v1 v2 xs e0 e1 A3 l3 k3 kids pos p w) (hsz:1+kids.length+rsS kids≤1800) (hpos:pos+10000≤800000) :
  Calls Try.prog 30 #[zaU b,.agg #[.int .i64 e0,.int .i64 e1,.slice A3 l3 k3]] w fun e w'=>∃x0 x1 A4 l4 k4,e=.returned (.agg #[.int .i64 x0,.int .i64 x1,.slice A4 l4 k4])∧(∃p' kids' pos',SD pz wz b B o cap c6 c9 ns D R D1 d1 d2 V v1 v2 xs e0 e1 A3 l3 k3 kids pos' p' w'∧Rep p' w' (.slice A4 l4 k4) (.sl 3 kids')∧Fit .expr [.int x0,.int x1,.sl 3 kids']∧1+kids'.length+rsS kids'≤1900∧pos'≤pos+8000)∧w'.heap[c9]?=some (.cells #[.int .i64 e0,.int .i64 e1,.slice A3 l3 k3] 32 (0,0)):=by
 refine(zs5 hns _ (by omega) h.fe (Nat.le_refl _) (by omega) h.fp.zp h.fp.tk h.rK).mono ?_
 rintro e w' ⟨v,p',x0,x1,kids',pos',rfl,hrep,hf,hs,hev,hz,ht,hp⟩
 obtain⟨arr,rfl,hl⟩:=hrep;obtain⟨l⟩:=arr
 match l,hl with
 | [u0,u1,u2],⟨r0,r1,r2,_⟩ =>
 cases r0;cases r1;obtain⟨A4,l4,k4,rfl⟩:=zbd r2;have hS:=h.on hev hz ht
 exact⟨x0,x1,A4,l4,k4,rfl,⟨p',kids',pos',hS,r2,hf,by omega,by omega⟩,hS.h9⟩
set_option maxHeartbeats 4000000 in
theorem zCx (hns:ns.length≤2000) (hZ:ZD w0 N pz wz b c2 c4) (h:SD pz wz b B o cap c6 c9 ns D R D1 d1 d2 V v1 v2 xs e0 e1 A3 l3 k3 kids pos p w) (hsz:1+kids.length+rsS kids≤1800) (hD:D∈zb9) (hR:GR R) (hbd:∀x∈R,ziG x) (hxl:xs.length≤7) (hpos:pos+20000≤800000) {m:Array Value} (hS:SL m b c2 c4 c6 c9 V v1 v2) :
  (Code.seq (.seq DT9 (.cond (.tmp 51) DT10 .skip)) (.seq DT11 .ret)).wp Try.prog (bodyPost Try.prog Try.f12 fun e w'=>∃v,e=.returned v∧zmV w0 v w') {tmps:=m,defers:=[]} w:=by
 refine wp_seq (wp_seq (zBh (post:=fun x w'=>∃p',SD pz wz b B o cap c6 c9 ns D R D1 d1 d2 V v1 v2 xs e0 e1 A3 l3 k3 kids (pos+1) p' w') ?_ hS.s _ ?_))
 ·rw[hS.m5]
  exact h.pick hns (by omega) (n:=6) (by omega)
 rintro x w1 ⟨p1,h1⟩ a1 hd1 hs1 k2 k4 k5 k6 k7 k8 k9 k51
 obtain⟨m1,dd⟩:=a1;have hd1:dd=[]:=hd1
 subst hd1;refine wp_cond (t:=((x:Int)==0)) k51 ?_
 have fin:∀{e0 e1:Int}{A3:Option Addr}{l3 k3:Nat}{kids:List (List AC)}{pos':Nat}{p':Stb}{w':World}{m':Array Value},SD pz wz b B o cap c6 c9 ns D R D1 d1 d2 V v1 v2 xs e0 e1 A3 l3 k3 kids pos' p' w'→pos'+5000≤800000→SL m' b c2 c4 c6 c9 V v1 v2 →
   (Code.seq DT11 .ret).wp Try.prog (bodyPost Try.prog Try.f12 fun e w'=>∃v,e=.returned v∧zmV w0 v w') {tmps:=m',defers:=[]} w':=fun hh hp hs=>zCM hns hZ hh hD hR hbd hxl hp hs.s hs.m2 hs.m4 hs.m5 hs.m6 hs.m8 hs.m9
 cases ((x:Int)==0) with
 | false =>
  simp only[Bool.false_eq_true,if_false];exact wp_skip (fin h1 (by omega) ⟨hs1,k2.trans hS.m2,k4.trans hS.m4,k5.trans hS.m5,k6.trans hS.m6,k8.trans hS.m8,k9.trans hS.m9⟩)
 | true =>
  simp only[if_true];refine zzt h1.h9 (post:=fun x0 x1 A4 l4 k4 w'=>∃p' kids' pos',SD pz wz b B o cap c6 c9 ns D R D1 d1 d2 V v1 v2 xs e0 e1 A3 l3 k3 kids pos' p' w'∧Rep p' w' (.slice A4 l4 k4) (.sl 3 kids')∧Fit .expr [.int x0,.int x1,.sl 3 kids']∧1+kids'.length+rsS kids'≤1900∧pos'≤(pos+1)+8000) ?_ hs1 (k9.trans hS.m9) _ ?_
  ·have k5':m1.getD 5 undef=zaU b:=k5.trans hS.m5
   show Calls _ _ #[m1.getD 5 undef,_] _ _
   rw[k5'];exact h1.bend hns hsz (by omega)
  ·rintro x0 x1 A4 l4 kk w2 ⟨p2,kids',pos2,h2,hr,hf,hs',hp2⟩ a2 hd2 hs2 j2 j4 j5 j6 j7 j8 j9
   obtain⟨m2,dd⟩:=a2;have hd2:dd=[]:=hd2
   subst hd2;exact fin (h2.put hr hf hs') (by omega) ⟨hs2,j2.trans (k2.trans hS.m2),j4.trans (k4.trans hS.m4),j5.trans (k5.trans hS.m5),j6.trans (k6.trans hS.m6),j8.trans (k8.trans hS.m8),j9⟩
end
end
section
open Go Go.RowKit Go.BigFrame
section
variable {w0:World}{N c2 c4:Nat}{pz:Stb}{wz:World}{b B o cap c6 c9:Nat}{ns:List Nat}{D:List DM}{R:List PM}{D1:Option Addr}{d1 d2:Nat}{V:Option Addr}{v1 v2:Nat}{xs:List Int}{e0 e1:Int}{A3:Option Addr}{l3 k3:Nat}{kids:List (List AC)}{pos:Nat}{p p':Stb}{w w':World}
theorem SD.off {Z:Nat→Prop} (h:SD pz wz b B o cap c6 c9 ns D R D1 d1 d2 V v1 v2 xs e0 e1 A3 l3 k3 kids pos p w) (hev:Evo Z p w p' w') (hz:Zp p' w') (hZ:∀q,q<w.heap.size→Z q→wz.heap.size≤q∧q≠B∧q≠c6∧q≠c9) {G:Option Addr}{g1 g2:Nat}{ys:List Int} (rV:Rep p' w' (.slice G g1 g2) (.sl 1 (zab ys))) (tV:Rt p' w' (.slice G g1 g2) 1) (bV:∀q,zar (.slice G g1 g2)=some q→zar (.slice V v1 v2)=some q∨w.heap.size≤q) :
  SD pz wz b B o cap c6 c9 ns D R D1 d1 d2 G g1 g2 ys e0 e1 A3 l3 k3 kids pos p' w':=by
 have hb:=h.fp.gb
 have l6:=zaD h.h6
 have l9:=zaD h.h9
 have lB:=h.fp.ltB
 have g6:¬Z c6:=fun e=>(hZ c6 l6 e).2.2.1 rfl
 have g9:¬Z c9:=fun e=>(hZ c9 l9 e).2.2.2 rfl
 have gB:¬Z B:=fun e=>(hZ B lB e).2.1 rfl
 have gz:¬Z b:=fun e=>by have:=(hZ b h.fp.tk.lt e).1;omega
 have hsz:wz.heap.size≤w.heap.size:=h.fp.evo.size
 refine {h with
  fp:={h.fp with rep:=h.fp.rep.evo hev,xB:=?_,okB:=by rw[hev.okk B lB];exact h.fp.okB,uq:=fun j hj=>h.fp.uq j (by rw[←hev.okk B lB];exact hj),tk:=?_,zp:=hz,evo:=h.fp.evo.trans hev (fun _ _ e=>e) (fun x hx e=>absurd hx (by have:=(hZ x (by omega) e).1;omega))}
  rD:=h.rD.evo hev
  h6:=(hev.block c6 l6 g6).trans h.h6
  z6:=(hev.same c6 l6 g6).trans h.z6
  rV:=rV
  tV:=tV
  bV:=fun q hq=>?_
  h9:=(hev.block c9 l9 g9).trans h.h9
  z9:=(hev.same c9 l9 g9).trans h.z9
  rK:=h.rK.evo hev}
 ·rw[hev.block B lB gB]
  exact h.fp.xB
 ·exact((h.fp.tk.own (Own':=Z) gz).evo hev).own (fun h=>h.elim)
 ·rcases bV q hq with e|e
  ·exact h.bV q e
  ·exact⟨by omega,by omega,by omega,by omega⟩
theorem SD.one (hns:ns.length≤2000) (h:SD pz wz b B o cap c6 c9 ns D R D1 d1 d2 V v1 v2 xs e0 e1 A3 l3 k3 kids pos p w) (hpos:pos+10≤800000) (T:TypeId) {zs:List Int} (hx:zs≠[]) (hl:zs.length≤100):∃y∈zs,∀w1,(w1=w∨w1=w.drew)→Calls Try.prog 29 #[zaU b,.slice (some ⟨w.heap.size,0,none⟩) zs.length zs.length] (w1.alloc (.cells (zs.map (Value.int .i64)).toArray T)) fun e w'=>e=.returned (.int .i64 y)∧∃p',SD pz wz b B o cap c6 c9 ns D R D1 d1 d2 V v1 v2 xs e0 e1 A3 l3 k3 kids (pos+1) p' w':=by
 obtain⟨y,hy,hone⟩:=zf4 hns (pos:=pos) hpos T hx hl h.fp.zp h.fp.tk;refine⟨y,hy,fun w1 hw=>Calls.mono (hone w1 hw) ?_⟩
 rintro e w' ⟨rfl,p',hev,hz,ht⟩
 exact⟨rfl,p',h.on hev hz ht⟩
theorem SD.app (h:SD pz wz b B o cap c6 c9 ns D R D1 d1 d2 V v1 v2 xs e0 e1 A3 l3 k3 kids pos p w) (hxl:xs.length≤6) (y:Int):∃G g1 g2 w',(Builtin.append_ #[33,33] 33 #[.slice V v1 v2,.slice (some ⟨w.heap.size,0,none⟩) 1 1]).run Try.prog (w.alloc (.cells #[.int .i64 y] 3))=.ok (.slice G g1 g2) w'∧∃p' ys,ys.length≤7∧SD pz wz b B o cap c6 c9 ns D R D1 d1 d2 G g1 g2 ys e0 e1 A3 l3 k3 kids pos p' w':=by
 have hL:=zav (p:=p) (w:=w) (.cells #[.int .i64 y] 3) 1 (fun _=>False) 1
 have hzL:Zp (upP p w.heap.size 1 1) (w.alloc (.cells #[.int .i64 y] 3)):=⟨fun c hc=>by
  rw[za0,if_neg (by simp at hc;omega)]
  exact h.fp.zp.1 c (by simp at hc;omega),fun _ _ _=>trivial⟩
 have h3:=h.off hL hzL (fun q _ e=>e.elim) (h.rV.evo hL) (h.tV.evo hL (fun _ _ e=>e)) (fun q hq=>.inl hq)
 have hy:Rep (upP p w.heap.size 1 1) (w.alloc (.cells #[.int .i64 y] 3)) (.slice (some ⟨w.heap.size,0,none⟩) 1 1) (.sl 1 (zab [y])):=zmE 3 [y]
 have hu:Try.prog.underlying 33=some (.slice 3):=Try.underlying33
 obtain⟨e,he,hsz⟩:∃e,lay.ti 3=some e∧e.size=1:=⟨_,rfl,rfl⟩;obtain⟨v,w',p',hrun,hrep,hrt,hev,hz',hblk⟩:=zd7 (P:=Try.prog) hu (zeY _ _ he) (by omega) (by rw[hsz];exact h3.rV) (by rw[hsz];exact hy) (by rw[hsz];exact h3.tV) hzL (by simp[zgY,zab];omega) 33
 rw[hsz] at hrep hrt;have e1:zab xs++zab [y]=zab (xs++[y]):=by simp[zab]
 rw[e1] at hrep;obtain⟨G,g1,g2,rfl⟩:=zbd hrep;exact⟨G,g1,g2,w',hrun,p',xs++[y],by simp;omega,h3.off hev hz' (fun q _ e=>h3.bV q e) hrep hrt (fun q hq=>(hblk q hq).imp id (fun e=>by omega))⟩
set_option maxHeartbeats 4000000 in
theorem zCz (hns:ns.length≤2000) (hZ:ZD w0 N pz wz b c2 c4) (h:SD pz wz b B o cap c6 c9 ns D R D1 d1 d2 V v1 v2 xs e0 e1 A3 l3 k3 kids pos p w) (hsz:1+kids.length+rsS kids≤1800) (hD:D∈zb9) (hR:GR R) (hbd:∀x∈R,ziG x) (hxl:xs.length≤6) (hpos:pos+30000≤800000) {m:Array Value} (hS:SL m b c2 c4 c6 c9 V v1 v2) :
  (Code.seq (.seq DT7 (.cond (.tmp 42) DT8 .skip)) (.seq (.seq DT9 (.cond (.tmp 51) DT10 .skip)) (.seq DT11 .ret))).wp Try.prog (bodyPost Try.prog Try.f12 fun e w'=>∃v,e=.returned v∧zmV w0 v w') {tmps:=m,defers:=[]} w:=by
 refine wp_seq (wp_seq (zBG (post:=fun x w'=>∃p',SD pz wz b B o cap c6 c9 ns D R D1 d1 d2 V v1 v2 xs e0 e1 A3 l3 k3 kids (pos+1) p' w') ?_ hS.s _ ?_))
 ·rw[hS.m5]
  exact h.pick hns (by omega) (n:=8) (by omega)
 rintro x w1 ⟨p1,h1⟩ a1 hd1 hs1 j2 j4 j5 j6 j7 j8 j9 j42
 obtain⟨m1,dd⟩:=a1;have hd1:dd=[]:=hd1
 subst hd1;refine wp_cond (t:=((x:Int)==0)) j42 ?_
 cases ((x:Int)==0) with
 | false =>
  simp only[Bool.false_eq_true,if_false];exact wp_skip (zCx hns hZ h1 hsz hD hR hbd (by omega) (by omega) ⟨hs1,j2.trans hS.m2,j4.trans hS.m4,j5.trans hS.m5,j6.trans hS.m6,j8.trans hS.m8,j9.trans hS.m9⟩)
 | true =>
  simp only[if_true];refine zBp (post:=fun G g1 g2 w'=>∃p' ys,ys.length≤7∧SD pz wz b B o cap c6 c9 ns D R D1 d1 d2 G g1 g2 ys e0 e1 A3 l3 k3 kids (pos+1+1) p' w') ?_ hs1 (j8.trans hS.m8) _ ?_
  ·have k5':m1.getD 5 undef=zaU b:=j5.trans hS.m5
   show Calls _ _ #[m1.getD 5 undef,_] _ _
   rw[k5'];obtain⟨y,hy,hone⟩:=h1.one hns (by omega) 3 (zs:=[0,1,9,-1]) (by simp) (by simp)
   refine Calls.mono (hone w1 (.inl rfl)) ?_
   rintro e w' ⟨rfl,p',h2⟩
   obtain⟨G,g1,g2,w2,hrun,hp⟩:=h2.app hxl y;exact⟨y,rfl,G,g1,g2,w2,hrun,hp⟩
  ·rintro G g1 g2 w2 ⟨p2,ys,hyl,h2⟩ a2 hd2 hs2 i2 i4 i5 i6 i7 i9 i8
   obtain⟨m2,dd⟩:=a2;have hd2:dd=[]:=hd2
   subst hd2;exact zCx hns hZ h2 hsz hD hR hbd hyl (by omega) ⟨hs2,i2.trans (j2.trans hS.m2),i4.trans (j4.trans hS.m4),i5.trans (j5.trans hS.m5),i6.trans (j6.trans hS.m6),i8,i9.trans (j9.trans hS.m9)⟩
end
end
section
open Go Go.RowKit Go.BigFrame
section
variable {w0:World}{N c2 c4:Nat}{pz:Stb}{wz:World}{b B o cap c6 c9:Nat}{ns:List Nat}{D:List DM}{R:List PM}{D1:Option Addr}{d1 d2:Nat}{V:Option Addr}{v1 v2:Nat}{xs:List Int}{e0 e1:Int}{A3:Option Addr}{l3 k3:Nat}{kids:List (List AC)}{pos:Nat}{p p':Stb}{w w':World}
theorem SD.fit (hns:ns.length≤2000) (h:SD pz wz b B o cap c6 c9 ns D R D1 d1 d2 V v1 v2 xs e0 e1 A3 l3 k3 kids pos p w) (hD:D∈zb9) (hR:GR R) (hxl:xs.length≤7) (hpos:pos+10000≤800000) {y:Int} (hy:0≤y∧y≤4) :
  Calls Try.prog 28 #[zaU b,.agg #[.slice D1 d1 d2,.slice (some ⟨B,o,none⟩) R.length cap],.slice V v1 v2,.int .i64 y,.int .i64 12] w fun e w'=>∃x0 x1 A4 l4 k4,e=.returned (.agg #[.int .i64 x0,.int .i64 x1,.slice A4 l4 k4])∧(∃p' kids' pos',SD pz wz b B o cap c6 c9 ns D R D1 d1 d2 V v1 v2 xs e0 e1 A3 l3 k3 kids pos' p' w'∧Rep p' w' (.slice A4 l4 k4) (.sl 3 kids')∧Fit .expr [.int x0,.int x1,.sl 3 kids']∧1+kids'.length+rsS kids'≤1800∧pos'≤pos+6100):=by
 obtain⟨x0,x1,kids',pos',hrun,hp,hf,hs⟩:=znz hns hD hR (V:=xs) (by omega) (t:=y) hy (b:=12) (by omega) (p:=pos) hpos
 refine(((tok 28 (by kernel_rfl)).2 (Qr ns pos) [pgC D R,.cell (.sl 1 (zab xs)),.cell (.int y),.cell (.int ((12:Nat):Int))] _ hrun).2 p w b [.agg #[.slice D1 d1 d2,.slice (some ⟨B,o,none⟩) R.length cap],.slice V v1 v2,.int .i64 y,.int .i64 12] ⟨⟨_,rfl,h.rD,h.fp.rep,trivial⟩,h.rV,.int _,.int _,trivial⟩ h.fp.zp h.fp.tk).mono ?_
 rintro e w' ⟨v,rfl,p',hsr,_,_,hev',hz',ht',_⟩
 obtain⟨arr,rfl,hl⟩:=hsr;obtain⟨l⟩:=arr
 match l,hl with
 | [u0,u1,u2],⟨r0,r1,r2,_⟩ =>
 cases r0;cases r1;obtain⟨A4,l4,k4,rfl⟩:=zbd r2;exact⟨x0,x1,A4,l4,k4,rfl,p',kids',pos',h.on hev' hz' ht',r2,hf,by omega,hp⟩
set_option maxHeartbeats 4000000 in
theorem zDb (hns:ns.length≤2000) (hZ:ZD w0 N pz wz b c2 c4) (h:SD pz wz b B o cap c6 c9 ns D R D1 d1 d2 V v1 v2 xs e0 e1 A3 l3 k3 kids pos p w) (hsz:1+kids.length+rsS kids≤1800) (hD:D∈zb9) (hR:GR R) (hbd:∀x∈R,ziG x) (hxl:xs.length≤6) (hpos:pos+50000≤800000) {m:Array Value} (hS:SL m b c2 c4 c6 c9 V v1 v2) :
  (Code.seq (.seq DT5 (.cond (.tmp 32) DT6 .skip)) (.seq (.seq DT7 (.cond (.tmp 42) DT8 .skip)) (.seq (.seq DT9 (.cond (.tmp 51) DT10 .skip)) (.seq DT11 .ret)))).wp Try.prog (bodyPost Try.prog Try.f12 fun e w'=>∃v,e=.returned v∧zmV w0 v w') {tmps:=m,defers:=[]} w:=by
 refine wp_seq (wp_seq (zAU (post:=fun x w'=>∃p',SD pz wz b B o cap c6 c9 ns D R D1 d1 d2 V v1 v2 xs e0 e1 A3 l3 k3 kids (pos+1) p' w') ?_ hS.s _ ?_))
 ·rw[hS.m5]
  exact h.pick hns (by omega) (n:=3) (by omega)
 rintro x w1 ⟨p1,h1⟩ a1 hd1 hs1 j2 j4 j5 j6 j7 j8 j9 j32
 obtain⟨m1,dd⟩:=a1;have hd1:dd=[]:=hd1
 subst hd1;refine wp_cond (t:=((x:Int)==0)) j32 ?_
 cases ((x:Int)==0) with
 | false =>
  simp only[Bool.false_eq_true,if_false];exact wp_skip (zCz hns hZ h1 hsz hD hR hbd hxl (by omega) ⟨hs1,j2.trans hS.m2,j4.trans hS.m4,j5.trans hS.m5,j6.trans hS.m6,j8.trans hS.m8,j9.trans hS.m9⟩)
 | true =>
  simp only[if_true];refine zBw (post:=fun x0 x1 A4 l4 k4 w'=>∃p' kids' pos',SD pz wz b B o cap c6 c9 ns D R D1 d1 d2 V v1 v2 xs e0 e1 A3 l3 k3 kids pos' p' w'∧Rep p' w' (.slice A4 l4 k4) (.sl 3 kids')∧Fit .expr [.int x0,.int x1,.sl 3 kids']∧1+kids'.length+rsS kids'≤1800∧pos'≤(pos+1)+1+6100) (fun e=>h1.n69 e.symm) (zaD h1.h6) ⟨zaj (j:=0) h1.h6 rfl,zaj (j:=1) h1.h6 rfl⟩ ?_ hs1 (j6.trans hS.m6) (j8.trans hS.m8) (j9.trans hS.m9) _ ?_
  ·have k5':m1.getD 5 undef=zaU b:=j5.trans hS.m5
   show Calls _ _ #[m1.getD 5 undef,_] _ _
   rw[k5'];obtain⟨y,hy,hone⟩:=h1.one hns (by omega) 3 (zs:=[0,1,3]) (by simp) (by simp)
   refine Calls.mono (hone w1.drew (.inr rfl)) ?_
   rintro e w2 ⟨rfl,p2,h2⟩
   have hy4:0≤y∧y≤4:=by
    simp only[List.mem_cons,List.not_mem_nil,or_false] at hy;omega
   refine⟨y,rfl,zaD h2.h6,zaj (j:=0) h2.h6 rfl,zaj (j:=1) h2.h6 rfl,?_⟩
   refine(h2.fit hns hD hR (by omega) (by omega) hy4).mono ?_
   rintro e w3 ⟨x0,x1,A4,l4,kk,rfl,p3,kids',pos',h3,hr,hf,hs',hp'⟩
   exact⟨x0,x1,A4,l4,kk,rfl,⟨p3,kids',pos',h3,hr,hf,hs',hp'⟩,zaj (j:=0) h3.h6 rfl,zaj (j:=1) h3.h6 rfl,_,_,_,zaj (j:=0) h3.h9 rfl,zaj (j:=1) h3.h9 rfl,zaj (j:=2) h3.h9 rfl,frozen_of_row _ _ 0 _ _ h3.h9,frozen_of_row _ _ 1 _ _ h3.h9,frozen_of_row _ _ 2 _ _ h3.h9⟩
  ·rintro x0 x1 A4 l4 kk w2 ⟨p2,kids',pos2,h2,hr,hf,hs',hp2⟩ a2 hd2 hs2 i2 i4 i5 i6 i7 i8 i9
   obtain⟨m2,dd⟩:=a2;have hd2:dd=[]:=hd2
   subst hd2;exact zCz hns hZ (h2.put hr hf (by omega)) hs' hD hR hbd hxl (by omega) ⟨hs2,i2.trans (j2.trans hS.m2),i4.trans (j4.trans hS.m4),i5.trans (j5.trans hS.m5),i6,i8,i9⟩
end
end
section
open Go Go.RowKit Go.BigFrame
theorem zrt {p:Stb}{w:World}{B o n cap k:Nat}{R:List PM} (h:Rep p w (.slice (some ⟨B,o,none⟩) n cap) (.sl 5 (zaC R))) (hk:k<R.length):∃A0 l0 k0 A3 l3 k3,w.cell? ⟨B,o+k*5,none⟩=some (.slice A0 l0 k0)∧w.cell? ⟨B,o+k*5+2,none⟩=some (.int .i64 (gP R k).o)∧w.cell? ⟨B,o+k*5+3,none⟩=some (.int .i64 (gP R k).n)∧w.cell? ⟨B,o+k*5+4,none⟩=some (.slice A3 l3 k3) ∧
  Rep p w (.slice A0 l0 k0) (.sl 1 (zab (gP R k).ps))∧Rep p w (.slice A3 l3 k3) (.sl 3 (gP R k).kids):=by
 have hne:zaC R≠[]:=fun e=>by have:=congrArg List.length e;rw[zcj] at this;simp at this;rw[this] at hk;cases hk
 obtain⟨_,_,_,_,_,_,_,f,hcc,hrr⟩:=zcU h hne;have hget:∀(j:Nat) (c:AC),([AC.sl 1 (zab (gP R k).ps),.int (gP R k).r,.int (gP R k).o,.int (gP R k).n,.sl 3 (gP R k).kids])[j]?=some c→w.cell? ⟨B,o+k*5+j,none⟩=some (f k j)∧Rep p w (f k j) c:=fun j c hj=>by
  have e:((zaC R).getD k [])[j]?=some c:=by rw[ztq hk];exact hj
  exact⟨hcc k j c e,hrr k j c e⟩
 obtain⟨b0,r0⟩:=hget 0 _ rfl;obtain⟨b2,r2⟩:=hget 2 _ rfl;obtain⟨b3,r3⟩:=hget 3 _ rfl;obtain⟨b4,r4⟩:=hget 4 _ rfl;have q2:f k 2=.int .i64 (gP R k).o:=by
  generalize f k 2=v at r2
  cases r2;rfl
 have q3:f k 3=.int .i64 (gP R k).n:=by
  generalize f k 3=v at r3
  cases r3;rfl
 obtain⟨A0,l0,k0,q0⟩:=zbd r0;obtain⟨A3,l3,k3,q4⟩:=zbd r4;rw[q0] at b0 r0;rw[q2] at b2;rw[q3] at b3;rw[q4] at b4 r4;exact⟨A0,l0,k0,A3,l3,k3,b0,b2,b3,b4,r0,r4⟩
theorem zpD {p:Stb}{w:World}{A:Option Addr}{l c:Nat}{xs:List Int} (hx:xs.length≤1000) (hr:Rep p w (.slice A l c) (.sl 1 (zab xs))) (hz:Zp p w):Calls Try.prog 26 #[.slice A l c] w fun e w'=>∃V v1 v2,e=.returned (.slice V v1 v2)∧∃p',Rep p' w' (.slice V v1 v2) (.sl 1 (zab xs))∧Rt p' w' (.slice V v1 v2) 1∧Evo (fun _=>False) p w p' w'∧Zp p' w'∧∀q,zar (.slice V v1 v2)=some q→w.heap.size≤q:=by
 have hrun:V Try.prog lay sig.has ext 26 [.cell (.sl 1 (zab xs))]=some (.v (.cell (.sl 1 (zab xs)))):=zpp xs (by omega)
 have htk:(sig.sg 26).takes=[]:=by kernel_rfl
 have hgv:(sig.sg 26).gives=[(0,1)]:=by kernel_rfl
 refine((vok 26 _ _ hrun).2 p w [.slice A l c] ⟨hr,trivial⟩ hz (fun i k h=>by rw[htk] at h;cases i <;> cases h) (by rw[htk];intro i j u v b _ h;simp at h)).mono ?_
 rintro e w' ⟨v,rfl,p',hsr,_,_,hev,hz',hg,_⟩
 have hsr:Rep p' w' v (.sl 1 (zab xs)):=hsr
 obtain⟨V,v1,v2,rfl⟩:=zbd hsr;obtain⟨u,hu,hrt,hbl⟩:=hg (0,1) (by rw[hgv];exact List.mem_cons_self)
 have hu':u=.slice V v1 v2:=by
  have:zax w' (.slice V v1 v2) 0=some u:=hu
  first|exact(Option.some.inj this).symm|(simp[zax] at this;exact this.symm)
 subst hu';refine⟨V,v1,v2,rfl,p',hsr,hrt,hev.weaken (fun b _ ⟨i,k,v,h,_⟩=>by rw[htk] at h;cases i <;> cases h),hz',fun q hq=>?_⟩
 rcases hbl q hq with e|⟨i,k,v,h,_⟩
 ·exact e
 ·rw[htk] at h;cases i <;> cases h
set_option maxHeartbeats 4000000 in
/-- DrawTypeOf: some program,some variables,some expression. -/
theorem zhO {A:Option Addr}{n c:Nat}{w:World} (h:zkJ w A n c):Calls Try.prog 12 #[.slice A n c] w fun e w'=>∃v,e=.returned v∧zmV w v w':=by
 refine calls_of_wp Try.func12 (c:=cOf Try.f12) (by kernel_rfl) ?_
 rw[zyt];have hs0:(#[Value.slice A n c]++Array.replicate (Try.f12.ntmps-(#[.slice A n c]:Array Value).size) undef).size=(Try.f12).ntmps:=by simp[Try.ntmps12]
 have h0:(#[Value.slice A n c]++Array.replicate (Try.f12.ntmps-(#[.slice A n c]:Array Value).size) undef).getD 0 undef=Value.slice A n c:=by simp[Array.getD]
 generalize (#[Value.slice A n c]++Array.replicate (Try.f12.ntmps-(#[.slice A n c]:Array Value).size) undef)=m0 at hs0 h0
 refine wp_seq (zBE hs0 h0 _ fun a1 hd1 hs1 a10 a12 a14=>?_)
 obtain⟨m1,dd⟩:=a1;have hd1:dd=[]:=hd1
 subst hd1;have eA:=ziE w.heap.size 0 w (.cells #[.slice none 0 0,.slice none 0 0] 26) (fun _=>False)
 have hsA:(w.alloc (.cells #[.slice none 0 0,.slice none 0 0] 26)).heap.size=w.heap.size+1:=by simp
 have hsB:((w.alloc (.cells #[.slice none 0 0,.slice none 0 0] 26)).alloc (.cells #[.int .i64 0,.int .i64 0,.slice none 0 0] 32)).heap.size=w.heap.size+2:=by simp
 have xA:((w.alloc (.cells #[.slice none 0 0,.slice none 0 0] 26)).alloc (.cells #[.int .i64 0,.int .i64 0,.slice none 0 0] 32)).heap[w.heap.size]?=some (.cells #[.slice none 0 0,.slice none 0 0] 26 (0,0)):=(Below.heap_alloc _ _ _ (by omega)).trans (heap_alloc_new _ _)
 have xB:((w.alloc (.cells #[.slice none 0 0,.slice none 0 0] 26)).alloc (.cells #[.int .i64 0,.int .i64 0,.slice none 0 0] 32)).heap[w.heap.size+1]?=some (.cells #[.int .i64 0,.int .i64 0,.slice none 0 0] 32 (0,0)):=by rw[←hsA];exact heap_alloc_new _ _
 have hcode:=CodeB.alloc (CodeB.alloc h (Nat.le_refl _) (.cells #[.slice none 0 0,.slice none 0 0] 26)) (by omega) (.cells #[.int .i64 0,.int .i64 0,.slice none 0 0] 32)
 have hev0:∀N,Evo (fun _=>False) (zdl w.heap.size N) w (zdl w.heap.size N) ((w.alloc (.cells #[.slice none 0 0,.slice none 0 0] 26)).alloc (.cells #[.int .i64 0,.int .i64 0,.slice none 0 0] 32)):=fun N=>(ziE w.heap.size N w _ (fun _=>False)).trans (ziE w.heap.size N _ _ (fun _=>False)) (fun _ _ e=>e) (fun _ _ e=>e)
 generalize (w.alloc (.cells #[.slice none 0 0,.slice none 0 0] 26)).alloc (.cells #[.int .i64 0,.int .i64 0,.slice none 0 0] 32)=W at *
 refine wp_seq (zB3 (b:=W.heap.size) (post:=fun w'=>∃N ns,ns.length≤2000∧TK (zdl w.heap.size N) w' (fun _=>False) W.heap.size (Qr ns 0)∧w'.heap.size=W.heap.size+1∧∀C,Evo C (zdl w.heap.size N) W (zdl w.heap.size N) w') (zq2 (by omega) hcode) hs1 a10 _ ?_)
 rintro wz ⟨N,ns,hns,htk,hsz,hevz⟩ a2 hd2 hs2 b0 b2 b4 b5
 obtain⟨m2,dd⟩:=a2;have hd2:dd=[]:=hd2
 subst hd2;have hzz:Zp (zdl w.heap.size N) wz:=zxK (by omega) N
 have hZ:ZD w N (zdl w.heap.size N) wz W.heap.size w.heap.size (w.heap.size+1) :=
  {evo:=(hev0 N).trans (hevz (fun _=>False)) (fun _ _ e=>e) (fun _ _ e=>e)
   h2:=((hevz (fun _=>False)).block _ (by omega) (fun e=>e)).trans xA
   h4:=((hevz (fun _=>False)).block _ (by omega) (fun e=>e)).trans xB
   z2:=zkO (by omega)
   z4:=zkO (by omega)
   n2b:=by omega
   n4b:=by omega
   n24:=by omega
   g2:=by omega
   g4:=by omega
   gb:=by omega}
 have hsb:=zsB hns (pos:=0) (by omega) hzz htk
 refine wp_seq (zA3 (post:=fun D1 d1 d2 E1 e1 e2 y w'=>∃D R p' pos' B o cap,E1=some ⟨B,o,none⟩∧e1=R.length∧e2=cap∧D∈zb9∧GR R∧y<R.length∧(∀x∈R,ziG x)∧Rep p' w' (.slice D1 d1 d2) (.sl 3 (zah D))∧pos'≤54000∧FP (·=W.heap.size) (zdl w.heap.size N) wz W.heap.size B o R.length cap (zaC R) (Qr ns pos') p' w') ?_ hs2 _ ?_)
 ·have k5':m2.getD 5 undef=zaU W.heap.size:=b5
  show Calls _ _ #[m2.getD 5 undef] _ _
  rw[k5'];refine hsb.mono ?_
  rintro e w' ⟨v,p',D,R,pos',f,rfl,hD,hR,hf,hbd,hrep,hev,hz,ht,hp,D1,d1,d2,B,o,cap,rfl,gB,okB,uq,a,T,xB',hl1,hl2⟩
  obtain⟨arr,harr,hl⟩:=hrep;injection harr with harr
  subst harr;obtain⟨r0,r1,_⟩:Rep p' w' (.slice D1 d1 d2) (.sl 3 (zah D))∧Rep p' w' (.slice (some ⟨B,o,none⟩) R.length cap) (.sl 5 (zaC R))∧True:=hl;have hfit:∀r∈zaC R,Fit .func r:=fun r hr=>by
   obtain⟨x,hx,rfl⟩:=List.mem_map.1 hr;exact(ztT hR hx (hbd x hx).1).1
  have hap:∀r∈zaC R,apL 5 r=true:=fun r hr=>by
   obtain⟨x,hx,rfl⟩:=List.mem_map.1 hr;exact zrF (hbd x hx).1
  exact⟨D1,d1,d2,_,_,_,f,rfl,D,R,p',pos',B,o,cap,rfl,rfl,rfl,hD,hR,hf,hbd,r0,by omega,
   ⟨r1,(fun e=>by have:=congrArg List.length e;rw[zcj] at this;simp at this;rw[this] at hf;cases hf),⟨a,T,xB',hl2⟩,okB,uq,.inl gB,by omega,by omega,rfl,hfit,hap,ht,hz,hev⟩⟩
 rintro D1 d1 d2 E1 e1 e2 f w3 ⟨D,R,p3,pos3,B,o,cap,rfl,rfl,rfl,hD,hR,hf,hbd,rD,hp3,hF⟩ a3 hd3 hs3 c2 c4 c5 c6 c7
 obtain⟨m3,dd⟩:=a3;have hd3:dd=[]:=hd3
 subst hd3;have hb:=hF.gb
 have hps:=hR.small hf
 -- the program's box
 have hea:=zav (p:=p3) (w:=w3) (.cells #[.slice D1 d1 d2,.slice (some ⟨B,o,none⟩) R.length e2] 26) 0 (fun _=>False)
 have hz4:Zp (upP p3 w3.heap.size 0) (w3.alloc (.cells #[.slice D1 d1 d2,.slice (some ⟨B,o,none⟩) R.length e2] 26)):=⟨fun q hq=>by
  rw[za0];split
  ·rfl
  ·exact hF.zp.1 q (by simp at hq;omega),fun _ _ _=>trivial⟩
 have hF4:=hF.on (hea.weaken fun _ _ e=>e.elim) hz4 (hF.tk.evo hea)
 have rD4:=rD.evo hea
 have x6:=heap_alloc_new w3 (.cells #[.slice D1 d1 d2,.slice (some ⟨B,o,none⟩) R.length e2] 26)
 have z6:(upP p3 w3.heap.size 0).f w3.heap.size=0:=by rw[za0,if_pos rfl]
 have s4:(w3.alloc (.cells #[.slice D1 d1 d2,.slice (some ⟨B,o,none⟩) R.length e2] 26)).heap.size=w3.heap.size+1:=by simp
 have g6:wz.heap.size≤w3.heap.size:=hF.evo.size
 generalize w3.alloc (.cells #[.slice D1 d1 d2,.slice (some ⟨B,o,none⟩) R.length e2] 26)=w4 at *
 generalize upP p3 w3.heap.size 0=p4 at *
 generalize w3.heap.size=c6v at *
 have hR4:R.length≤1048576:=by have:=hR.len;omega
 obtain⟨A0,l0,k0,A3,l3,k3,u0,u2,u3,u4,q0,q3⟩:=zrt hF4.rep hf;refine wp_seq (zBx (post:=fun V v1 v2 w'=>∃p',Rep p' w' (.slice V v1 v2) (.sl 1 (zab (gP R f).ps))∧Rt p' w' (.slice V v1 v2) 1∧Evo (fun _=>False) p4 w4 p' w'∧Zp p' w'∧∀q,zar (.slice V v1 v2)=some q→w4.heap.size≤q) hf hR4 (zaj (j:=1) x6 rfl) u0 (zpD (by omega) q0 hz4) hs3 c6 c7 _ ?_)
 rintro V v1 v2 w5 ⟨p5,rV,tV,hev5,hz5,hbl⟩ a4 hd4 hs4 e2' e4 e5 e6 e7 e8
 obtain⟨m4,dd⟩:=a4;have hd4:dd=[]:=hd4
 subst hd4;have hF5:=hF4.on (hev5.weaken fun _ _ e=>e.elim) hz5 (hF4.tk.evo hev5)
 have x65:=(hev5.block c6v (by omega) (fun e=>e)).trans x6
 have z65:=(hev5.same c6v (by omega) (fun e=>e)).trans z6
 have s5:=hev5.size
 obtain⟨A0',l0',k0',A3',l3',k3',y0,y2,y3,y4,_,q3'⟩:=zrt hF5.rep hf;refine wp_seq (zB8 hf hR4 (zaj (j:=1) x65 rfl) y2 y3 y4 hs4 e6 e7 _ ?_)
 intro a5 hd5 hs5 j2 j4 j5 j6 j7 j8 j9;obtain⟨m5,dd⟩:=a5;have hd5:dd=[]:=hd5
 subst hd5;have heb:=zav (p:=p5) (w:=w5) (.cells #[.int .i64 (gP R f).o,.int .i64 (gP R f).n,.slice A3' l3' k3'] 32) 0 (fun _=>False)
 have hz6:Zp (upP p5 w5.heap.size 0) (w5.alloc (.cells #[.int .i64 (gP R f).o,.int .i64 (gP R f).n,.slice A3' l3' k3'] 32)):=⟨fun q hq=>by
  rw[za0];split
  ·rfl
  ·exact hz5.1 q (by simp at hq;omega),fun _ _ _=>trivial⟩
 have hF6:=hF5.on (heb.weaken fun _ _ e=>e.elim) hz6 (hF5.tk.evo heb)
 have lB:=hF4.ltB
 have hSD:SD (zdl w.heap.size N) wz W.heap.size B o e2 c6v w5.heap.size ns D R D1 d1 d2 V v1 v2 (gP R f).ps (gP R f).o (gP R f).n A3' l3' k3' (gP R f).kids pos3 (upP p5 w5.heap.size 0) (w5.alloc (.cells #[.int .i64 (gP R f).o,.int .i64 (gP R f).n,.slice A3' l3' k3'] 32)) :=
  {fp:=hF6
   rD:=(rD4.evo hev5).evo heb
   h6:=(heb.block c6v (by omega) (fun e=>e)).trans x65
   z6:=(heb.same c6v (by omega) (fun e=>e)).trans z65
   rV:=rV.evo heb
   tV:=tV.evo heb (fun _ _ e=>e)
   bV:=fun q hq=>by
    have g1:=hbl q hq
    have g2:=tV.lt hq
    exact⟨by omega,by omega,by omega,by omega⟩
   h9:=heap_alloc_new _ _
   z9:=by rw[za0,if_pos rfl]
   rK:=q3'.evo heb
   fe:=(hbd _ (zkf hf)).1
   sz:=by have:=(hbd _ (zkf hf)).2;omega
   n6:=by omega
   n9:=by omega
   n69:=by omega}
 exact zDb hns hZ hSD (by have:=(hbd _ (zkf hf)).2;omega) hD hR hbd (by omega) (by omega) ⟨hs5,j2.trans (e2'.trans (c2.trans (b2.trans a12))),j4.trans (e4.trans (c4.trans (b4.trans a14))),j5.trans (e5.trans (c5.trans b5)),j6,j8.trans e8,j9⟩
end
end Go.Proofs.Ytcpcagdialnbeaa
