/- Generic texts and models for the proofs of this seat: part 40. -/
import Derived.Test.YtkgbadeobdbinaaGreatZ39
import Derived.StillTailTactics
import Derived.Deep.RegionHeld3
import Derived.WalkKit
set_option linter.unusedVariables false
set_option linter.unusedSimpArgs false
namespace Go.Proofs.YtkgbadeobdbinaaGreat
section
open Go Go.RowKit
def zpi (w:World) (B:Nat) (x0 x1:Value):World:=(w.setCell ⟨B,0,none⟩ x0).setCell ⟨B,1,none⟩ x1
theorem zpI {w:World}{B:Nat}{x0 x1 y0 y1:Value}{T:TypeId} (h:w.heap[B]?=some (.cells #[y0,y1] T (0,0))):(zpi w B x0 x1).heap[B]?=some (.cells #[x0,x1] T (0,0)) :=
 heap_setCell_same _ _ _ _ _ _ (heap_setCell_same _ _ _ _ _ _ h)
theorem zxm {w:World}{B b:Nat}{x0 x1:Value} (h:b≠B):(zpi w B x0 x1).heap[b]?=w.heap[b]?:=by
 unfold zpi;rw[heap_setCell_other _ _ _ _ h,heap_setCell_other _ _ _ _ h]
theorem zzT {w:World}{B:Nat}{x0 x1:Value}:(zpi w B x0 x1).heap.size=w.heap.size:=by simp[zpi,World.setCell]
theorem zsu {w:World}{B:Nat}{x0 x1:Value} (p:Stb) (hp:p B=0):Evo (·=B) p w p (zpi w B x0 x1):=by
 refine zcH hp zzT (fun y hy=>zxm hy) ?_ ?_ ?_ <;> simp[zpi,World.setCell]
theorem zHS {D:List DM} (hD:D∈zdO):apC 5 (.sl 3 (zaf D))=true:=zyn D hD
def zwx (ds fs:List (List AC)):Prop:=Fit .prog [.sl 3 ds,.sl 5 fs]∧ds.length≤10∧fs.length≤10
section
variable {ns:List Nat} (hns:ns.length≤2000) {w0:World}{p0:Stb}{b:Nat}
include hns
set_option maxHeartbeats 4000000 in
theorem zsc {pos:Nat} (hpos:pos+110000≤800000) (hz:Zp p0 w0) (ht:TK p0 w0 (fun _=>False) b (Qr ns pos)):Calls Tryz.prog 25 #[zbh b] w0 fun e w'=>∃D1 d1 d2 E1 e1 e2 p' ds fs pos',e=.returned (.agg #[.slice D1 d1 d2,.slice E1 e1 e2])∧Rep p' w' (.slice D1 d1 d2) (.sl 3 ds)∧Rep p' w' (.slice E1 e1 e2) (.sl 5 fs)∧zwx ds fs ∧
  Evo (·=b) p0 w0 p' w'∧Zp p' w'∧TK p' w' (fun _=>False) b (Qr ns pos')∧pos'≤pos+58000:=by
 have hb:=ht.lt
 have hea:=zba (p:=p0) (w:=w0) (.cells #[.slice none 0 0,.slice none 0 0] 26) 0 (·=b)
 have hz1:Zp (upP p0 w0.heap.size 0) (w0.alloc (.cells #[.slice none 0 0,.slice none 0 0] 26)):=⟨fun c hc=>by
  rw[zb5];split
  ·rfl
  ·exact hz.1 c (by simp at hc;omega),fun _ _ _=>trivial⟩
 have hcall:=zrp hns (by omega) hz1 (ht.evo (zba _ 0 _))
 go_enter Tryz.func25,Tryz.ntmps25
 go_wp2_with fail
 refine hcall.mono ?_
 rintro e w1 ⟨v,p1,D,R,pos1,rfl,hD,hR,hR2,hbd,hrep,hev,hz2,ht2,hp1,D1,d1,d2,B,o,cap,rfl,gB,okB,uq,a,T,xB,hl1,hl2⟩
 clear hcall;obtain⟨arr,harr,hl⟩:=hrep;injection harr with harr
 subst harr;obtain⟨r0,r1,_⟩:Rep p1 w1 (.slice D1 d1 d2) (.sl 3 (zaf D))∧Rep p1 w1 (.slice (some ⟨B,o,none⟩) R.length cap) (.sl 5 (zak R))∧True:=hl;obtain⟨hne,hdf,hda,hdl⟩:=zuE hD;have hfit:∀r∈zak R,Fit .func r:=fun r hr=>by
  obtain⟨x,hx,rfl⟩:=List.mem_map.1 hr;exact(zv9 hR hx (hbd x hx).1).1
 have hap:∀r∈zak R,apL 5 r=true:=fun r hr=>by
  obtain⟨x,hx,rfl⟩:=List.mem_map.1 hr;exact zui (hbd x hx).1
 have hFP:FP (·=b) (upP p0 w0.heap.size 0) (w0.alloc (.cells #[.slice none 0 0,.slice none 0 0] 26)) b B o R.length cap (zak R) (Qr ns pos1) p1 w1 :=
  ⟨r1,fun e=>by have:=congrArg List.length e;simp[zak] at this;rw[this] at hR2;simp at hR2,⟨a,T,xB,hl2⟩,okB,uq,.inl (by simpa using gB),by simp;omega,by simp at gB;omega,rfl,hfit,hap,ht2,hz2,hev⟩
 have hsp:=zqn hns hFP r0 hdf (by omega) ((zHS hD)) hR hbd (by omega)
 have hsz1:w0.heap.size<w1.heap.size:=by have:=hev.size;simp at this;omega
 have nb:w0.heap.size≠b:=by omega
 have HS:=Lib.hid hsp
 have HE:=Lib.hid hea
 clear hsp hea hFP hev r0 r1 hfit hap hdf hda
 go_wp2_with fail
 refine HS.out.mono ?_
 rintro e w2 ⟨v,p2,ds,fs,pos2,rfl,hrep,hf,hl3,hl4,hev,hz3,ht3,hp2⟩
 obtain⟨arr,rfl,hl⟩:=hrep;obtain⟨l⟩:=arr
 match l,hl with
 | [u0,u1],⟨r0,r1,_⟩ =>
 obtain⟨D1,d1,d2,rfl⟩:=zb4 r0;obtain⟨E1,e1,e2,rfl⟩:=zb4 r1;have hx:=(hev.block w0.heap.size (by simp) nb).trans (heap_alloc_new w0 (.cells #[.slice none 0 0,.slice none 0 0] 26))
 have hpx:p2 w0.heap.size=0:=by rw[hev.same w0.heap.size (by simp) nb,zb5,if_pos rfl]
 have k0:=zat (j:=0) hx rfl
 have k1:=zat (j:=1) hx rfl
 have f0:=frozen_of_row w2 _ 0 _ _ hx
 have f1:=frozen_of_row w2 _ 1 _ _ hx
 have q1:=zpI (x0:=.slice D1 d1 d2) (x1:=.slice E1 e1 e2) hx
 have y0:=zat (j:=0) q1 rfl
 have y1:=zat (j:=1) q1 rfl
 have hevs:Evo (·=w0.heap.size) p2 w2 p2 (zpi w2 w0.heap.size (.slice D1 d1 d2) (.slice E1 e1 e2)):=zsu p2 hpx
 have hF:Evo (·=b) p0 w0 p2 (zpi w2 w0.heap.size (.slice D1 d1 d2) (.slice E1 e1 e2)) :=
  (HE.out.trans hev (C:=(·=b)) (fun _ _ e=>e) (fun _ _ e=>e)).trans hevs (fun _ _ e=>e) (fun c hc e=>absurd hc (by have:c=w0.heap.size:=e;omega))
 have hfin:=And.intro (r0.evo hevs) (And.intro (r1.evo hevs) (And.intro hF (And.intro (show Zp p2 (zpi w2 w0.heap.size (.slice D1 d1 d2) (.slice E1 e1 e2)) from ⟨fun c hc=>hz3.1 c (Nat.le_trans hevs.size hc),fun _ _ _=>trivial⟩) ((ht3.own (Own':=(·=w0.heap.size)) (fun e=>nb e.symm)).evo hevs))))
 have HF:=Lib.hid hfin
 clear hfin hevs hF hev hz3 ht3 r0 r1 q1 hx HE HS
 go_wp2_with fail
 refine bodyPost_ret (v:=.agg #[.slice D1 d1 d2,.slice E1 e1 e2]) ?_ rfl ⟨D1,d1,d2,E1,e1,e2,p2,ds,fs,pos2,rfl,HF.out.1,HF.out.2.1,⟨hf,hl3,hl4⟩,HF.out.2.2.1,HF.out.2.2.2.1,HF.out.2.2.2.2.own (fun h=>h.elim),by omega⟩
 have y0':(((w2.setCell ⟨w0.heap.size,0,none⟩ (.slice D1 d1 d2)).setCell ⟨w0.heap.size,1,none⟩ (.slice E1 e1 e2))).cell? ⟨w0.heap.size,0,none⟩=some (.slice D1 d1 d2):=y0
 have y1':(((w2.setCell ⟨w0.heap.size,0,none⟩ (.slice D1 d1 d2)).setCell ⟨w0.heap.size,1,none⟩ (.slice E1 e1 e2))).cell? ⟨w0.heap.size,1,none⟩=some (.slice E1 e1 e2):=y1
 simp[results,Tryz.results25,go_sem,y0',y1']
end
end
section
open Go Go.RowKit Go.BigFrame
def zps (w0:World) (v:Value) (w':World):Prop:=∃N p' D1 d1 d2 E1 e1 e2 ds fs,v=.agg #[.slice D1 d1 d2,.slice E1 e1 e2]∧Rep p' w' (.slice D1 d1 d2) (.sl 3 ds)∧Rep p' w' (.slice E1 e1 e2) (.sl 5 fs)∧zwx ds fs∧Evo (fun _=>False) (zkO w0.heap.size N) w0 p' w'∧Zp p' w'
end
section
open Go Go.RowKit Go.BigFrame
def zB0 (B:Nat) (w0:World) (v:Value) (w':World):Prop:=∃N p' D1 d1 d2 E1 e1 e2 ds fs,v=.agg #[.slice D1 d1 d2,.slice E1 e1 e2]∧Rep p' w' (.slice D1 d1 d2) (.sl 3 ds)∧Rep p' w' (.slice E1 e1 e2) (.sl 5 fs)∧zwx ds fs∧Evo (fun _=>False) (zkO B N) w0 p' w'∧Zp p' w'
set_option maxHeartbeats 4000000 in
theorem zrm {B:Nat}{A:Option Addr}{n c:Nat}{w:World} (hB:B≤w.heap.size) (h:CodeB B w A n c) :
  Calls Tryz.prog 40 #[.slice A n c] w fun e w'=>∃v y,e=.returned (.tuple #[v,.int .i64 y])∧(y∈([1,2,3,1,3,0,-1,4]:List Int))∧zB0 B w v w':=by
 have hnr:=ztB (B:=B) (w:=w.alloc (.cells #[.slice none 0 0,.slice none 0 0] 26)) (by simp;omega) (CodeB.alloc h hB _)
 have HR:=Lib.hid hnr
 clear hnr h
 go_enter Tryz.func40,Tryz.ntmps40
 go_wp2_with fail
 refine HR.out.mono ?_
 rintro e w2 ⟨rfl,N,ns,hns,ht,hs2,hev⟩
 have hev0:=(zmI B N w (.cells #[.slice none 0 0,.slice none 0 0] 26) (fun _=>False)).trans (hev (fun _=>False)) (C:=fun _=>False) (fun _ _ h=>h) (fun _ _ h=>h)
 have hx2:=((hev (fun _=>False)).block w.heap.size (by simp) (fun h=>h)).trans (heap_alloc_new w (.cells #[.slice none 0 0,.slice none 0 0] 26))
 have hs1:(w.alloc (.cells #[.slice none 0 0,.slice none 0 0] 26)).heap.size=w.heap.size+1:=by simp
 rw[hs1] at ht hs2 ⊢;have hse:=zsc hns (by omega) (zAZ (by omega) N) ht
 have HS:=Lib.hid hse
 have HE:=Lib.hid hev0
 clear hse hev0 hev HR ht
 go_wp2_with fail
 refine HS.out.mono ?_
 rintro e w3 ⟨D1,d1,d2,E1,e1,e2,p3,ds,fs,pos,rfl,r0,r1,hf,hev3,hz3,ht3,hpos⟩
 have hne:w.heap.size≠w.heap.size+1:=by omega
 have hb3:=ht3.lt
 have hx3:=(hev3.block w.heap.size (by omega) hne).trans hx2
 have hp3:=(hev3.same w.heap.size (by omega) hne).trans (zmx hB)
 have hea:=zba (p:=p3) (w:=w3) (.cells #[.slice D1 d1 d2,.slice E1 e1 e2] 26) 0 (fun _=>False)
 have hz4:Zp (upP p3 w3.heap.size 0) (w3.alloc (.cells #[.slice D1 d1 d2,.slice E1 e1 e2] 26)):=⟨fun c hc=>by
  rw[zb5];split
  ·rfl
  ·exact hz3.1 c (by simp at hc;omega),fun _ _ _=>trivial⟩
 have hx4:=(hea.block w.heap.size (by omega) (fun h=>h)).trans hx3
 have hp4:=(hea.same w.heap.size (by omega) (fun h=>h)).trans hp3
 have hx5:=heap_alloc_new w3 (.cells #[.slice D1 d1 d2,.slice E1 e1 e2] 26)
 have hs4:(w3.alloc (.cells #[.slice D1 d1 d2,.slice E1 e1 e2] 26)).heap.size=w3.heap.size+1:=by simp
 have hE4:=(HE.out.trans hev3 (C:=fun _=>False) (fun _ _ h=>h) (fun q hq e=>absurd hq (by have:q=w.heap.size+1:=e;omega))).trans hea (C:=fun _=>False) (fun _ _ h=>h) (fun _ _ h=>h)
 have t4:=r0.evo hea
 have t5:=r1.evo hea
 have ht4:=ht3.evo hea
 have c0:(w3.alloc (.cells #[.slice D1 d1 d2,.slice E1 e1 e2] 26)).cell? ⟨w3.heap.size,0,none⟩=some (.slice D1 d1 d2):=zat (j:=0) hx5 rfl
 have c1:(w3.alloc (.cells #[.slice D1 d1 d2,.slice E1 e1 e2] 26)).cell? ⟨w3.heap.size,1,none⟩=some (.slice E1 e1 e2):=zat (j:=1) hx5 rfl
 have n1:w3.heap.size≠w.heap.size+1:=by omega
 have n2:w.heap.size≠w3.heap.size:=by omega
 clear hea HS HE r0 r1 ht3 hz3 hev3 hx2 hx3 hp3 hs2 hs1
 go_wp2_with fail
 have h5lt:w3.heap.size<(w3.alloc (.cells #[.slice D1 d1 d2,.slice E1 e1 e2] 26)).heap.size:=by omega
 have h2lt:w.heap.size<(w3.alloc (.cells #[.slice D1 d1 d2,.slice E1 e1 e2] 26)).heap.size:=by omega
 clear hs4;generalize w3.alloc (.cells #[.slice D1 d1 d2,.slice E1 e1 e2] 26)=W at *
 generalize upP p3 w3.heap.size 0=p4 at *
 generalize w3.heap.size=c5 at *
 obtain⟨y,hy,hone⟩:=zhR hns (pos:=pos) (by omega) 3 (xs:=[1,2,3,1,3,0,-1,4]) (by simp) (by simp) hz4 ht4
 have CK:Hid (Calls Tryz.prog 65 #[.pointer (some ⟨w.heap.size+1,0,none⟩),.slice (some ⟨W.heap.size,0,none⟩) 8 8] (W.drew.alloc (.cells #[.int .i64 1,.int .i64 2,.int .i64 3,.int .i64 1,.int .i64 3,.int .i64 0,.int .i64 (-1),.int .i64 4] 3)) fun e w'=>e=.returned (.int .i64 y)∧∃p',Evo (·=w.heap.size+1) p4 W p' w'∧Zp p' w'):=Lib.hid (by
  refine Calls.mono (hone _ (.inr rfl)) ?_
  rintro e w' ⟨h1,p',h2,h3,_⟩
  exact⟨h1,p',h2,h3⟩)
 have H4:=Lib.hid hE4
 have H5:=Lib.hid t4
 have H6:=Lib.hid t5
 clear hone hE4 t4 t5 hz4 ht4
 go_region_held3 (fun w'=>w'.cell? ⟨c5,0,none⟩=some (.slice D1 d1 d2)∧w'.cell? ⟨c5,1,none⟩=some (.slice E1 e1 e2))
  (first|go_keep|(exact⟨by assumption,by assumption⟩)|(exact⟨(World.cell?_alloc_lt _ _ _ h5lt).trans c0,(World.cell?_alloc_lt _ _ _ h5lt).trans c1⟩)|(exact⟨by rw[World.cell?_setCell_far _ _ _ _ n2,World.cell?_setCell_far _ _ _ _ n2];assumption,by rw[World.cell?_setCell_far _ _ _ _ n2,World.cell?_setCell_far _ _ _ _ n2];assumption⟩))
  (first|(go_at_call 65;refine CK.out.mono ?_;rintro e w' ⟨rfl,p',hev',hz'⟩;have q2:=(hev'.block _ h2lt hne).trans hx4;have e0:w'.cell? ⟨c5,0,none⟩=some (.slice D1 d1 d2):=(World.cell?_of_block (hev'.block _ h5lt n1)).trans c0;have e1':w'.cell? ⟨c5,1,none⟩=some (.slice E1 e1 e2):=(World.cell?_of_block (hev'.block _ h5lt n1)).trans c1;have k0:w'.cell? ⟨w.heap.size,0,none⟩=some (.slice none 0 0):=zat (j:=0) q2 rfl;have k1:w'.cell? ⟨w.heap.size,1,none⟩=some (.slice none 0 0):=zat (j:=1) q2 rfl;have k3:=frozen_of_row w' _ 0 _ _ q2;have k4:=frozen_of_row w' _ 1 _ _ q2))
 have hp5:=(hev'.same _ h2lt hne).trans hp4
 have g2:=zpI (x0:=.slice D1 d1 d2) (x1:=.slice E1 e1 e2) q2
 have y0:=zat (j:=0) g2 rfl
 have y1:=zat (j:=1) g2 rfl
 have hevc:Evo (·=w.heap.size) p' w' p' (zpi w' w.heap.size (.slice D1 d1 d2) (.slice E1 e1 e2)):=zsu p' hp5
 have hfin:zB0 B w (.agg #[.slice D1 d1 d2,.slice E1 e1 e2]) (zpi w' w.heap.size (.slice D1 d1 d2) (.slice E1 e1 e2)) :=
  ⟨N,p',D1,d1,d2,E1,e1,e2,ds,fs,rfl,(H5.out.evo hev').evo hevc,(H6.out.evo hev').evo hevc,hf,(H4.out.trans hev' (C:=fun _=>False) (fun _ _ h=>h) (fun q hq e=>absurd hq (by have:q=w.heap.size+1:=e;omega))).trans hevc (fun _ _ h=>h) (fun q hq e=>absurd hq (by have:q=w.heap.size:=e;omega)),⟨fun y hy=>hz'.1 y (Nat.le_trans hevc.size hy),fun _ _ _=>trivial⟩⟩
 have HF:=Lib.hid hfin
 clear hfin hevc g2 q2 hev' CK H4 H5 H6 hx4 hx5 c0 c1 e0 e1' k0 k1 k3 k4
 go_wp2_with fail
 refine bodyPost_ret (v:=.tuple #[.agg #[.slice D1 d1 d2,.slice E1 e1 e2],.int .i64 y]) ?_ rfl ⟨_,y,rfl,hy,HF.out⟩
 have y0':(((w'.setCell ⟨w.heap.size,0,none⟩ (.slice D1 d1 d2)).setCell ⟨w.heap.size,1,none⟩ (.slice E1 e1 e2))).cell? ⟨w.heap.size,0,none⟩=some (.slice D1 d1 d2):=y0
 have y1':(((w'.setCell ⟨w.heap.size,0,none⟩ (.slice D1 d1 d2)).setCell ⟨w.heap.size,1,none⟩ (.slice E1 e1 e2))).cell? ⟨w.heap.size,1,none⟩=some (.slice E1 e1 e2):=y1
 simp[results,Tryz.results40,go_sem,y0',y1']
set_option maxHeartbeats 4000000 in
theorem zmL {A:Option Addr}{n c:Nat}{w:World} (h:znN w A n c) :
  Calls Tryz.prog 18 #[.slice A n c] w fun e w'=>∃v y,e=.returned (.tuple #[v,.int .i64 y])∧(y∈([1,2,3,1,3,0,-1,4]:List Int))∧zps w v w':=by
 have hc:=zrm (B:=w.heap.size) (w:=w.alloc (.cells #[.slice none 0 0,.slice none 0 0] 26)) (by simp) (CodeB.alloc h (Nat.le_refl _) _)
 have hxa:=heap_alloc_new w (.cells #[.slice none 0 0,.slice none 0 0] 26)
 have hs1:(w.alloc (.cells #[.slice none 0 0,.slice none 0 0] 26)).heap.size=w.heap.size+1:=by simp
 have hev0:=fun N=>zmI w.heap.size N w (.cells #[.slice none 0 0,.slice none 0 0] 26) (fun _=>False)
 have HR:=Lib.hid hc
 have HX:=Lib.hid hxa
 have HV:=Lib.hid hev0
 clear hc h hxa hev0
 go_enter Tryz.func18,Tryz.ntmps18
 go_wp2_with fail
 refine HR.out.mono ?_
 rintro e w3 ⟨v,y,rfl,hy,N,p3,D1,d1,d2,E1,e1,e2,ds,fs,rfl,r0,r1,hf,hev,hz⟩
 have hx3:=(hev.block w.heap.size (by omega) (fun h=>h)).trans HX.out
 have hp3:=(hev.same w.heap.size (by omega) (fun h=>h)).trans (zmx (Nat.le_refl _))
 have k0:=zat (j:=0) hx3 rfl
 have k1:=zat (j:=1) hx3 rfl
 have f0:=frozen_of_row w3 _ 0 _ _ hx3
 have f1:=frozen_of_row w3 _ 1 _ _ hx3
 have q1:=zpI (x0:=.slice D1 d1 d2) (x1:=.slice E1 e1 e2) hx3
 have y0:=zat (j:=0) q1 rfl
 have y1:=zat (j:=1) q1 rfl
 have hevc:Evo (·=w.heap.size) p3 w3 p3 (zpi w3 w.heap.size (.slice D1 d1 d2) (.slice E1 e1 e2)):=zsu p3 hp3
 have hfin:zps w (.agg #[.slice D1 d1 d2,.slice E1 e1 e2]) (zpi w3 w.heap.size (.slice D1 d1 d2) (.slice E1 e1 e2)) :=
  ⟨N,p3,D1,d1,d2,E1,e1,e2,ds,fs,rfl,r0.evo hevc,r1.evo hevc,hf,((HV.out N).trans hev (C:=fun _=>False) (fun _ _ h=>h) (fun _ _ h=>h)).trans hevc (fun _ _ h=>h) (fun q hq e=>absurd hq (by have:q=w.heap.size:=e;omega)),⟨fun y hy=>hz.1 y (Nat.le_trans hevc.size hy),fun _ _ _=>trivial⟩⟩
 have HF:=Lib.hid hfin
 clear hfin hevc q1 hx3 hev hz HR HX HV r0 r1 hp3
 go_wp2_with fail
 refine bodyPost_ret (v:=.tuple #[.agg #[.slice D1 d1 d2,.slice E1 e1 e2],.int .i64 y]) ?_ rfl ⟨_,y,rfl,hy,HF.out⟩
 have y0':(((w3.setCell ⟨w.heap.size,0,none⟩ (.slice D1 d1 d2)).setCell ⟨w.heap.size,1,none⟩ (.slice E1 e1 e2))).cell? ⟨w.heap.size,0,none⟩=some (.slice D1 d1 d2):=y0
 have y1':(((w3.setCell ⟨w.heap.size,0,none⟩ (.slice D1 d1 d2)).setCell ⟨w.heap.size,1,none⟩ (.slice E1 e1 e2))).cell? ⟨w.heap.size,1,none⟩=some (.slice E1 e1 e2):=y1
 simp[results,Tryz.results18,go_sem,y0',y1']
end
section
open Go Go.RowKit
def rcB (C:Nat→Nat→Bool) (m f:Nat) (ys:List Int):Bool:=ys.any fun y=>itI C m y.toNat m f
section
variable {D:List DM}{R:List PM}{C:Nat→Nat→Bool} (h:PV D R C)
include h
theorem zzt {f:Nat} (hf:f<R.length):∀j k:Nat,k+j=(za8 (C f) 0 R.length).length →
  zeq (f:Int) (zaf D) (zak R) (zad (za8 (C f) 0 R.length)) (((zad (za8 (C f) 0 R.length)).length:Nat):Int) (k:Int)=rB (!rcB C R.length f ((za8 (C f) 0 R.length).drop k)) ∧
  zet (f:Int) (zaf D) (zak R) (zad (za8 (C f) 0 R.length)) (k:Int)=rB (!rcB C R.length f ((za8 (C f) 0 R.length).drop k)):=by
 have hR:=h.r4
 have hl:=zj8 (C f) 0 R.length
 have hx:∀y∈za8 (C f) 0 R.length,∃j:Nat,y=(j:Int)∧j<R.length:=fun y hy=>by obtain⟨k,e,hk,_⟩:=ztp hy;exact⟨k,e,hk⟩
 generalize za8 (C f) 0 R.length=xs at hl hx
 intro j;induction j with
 | zero =>
  intro k hk;rw[List.drop_eq_nil_of_le (by omega)]
  exact⟨zin (zaa (decide_eq_false (by rw[zab];omega)) rfl),zih (zaa (decide_eq_false (by rw[zab];omega)) rfl)⟩
 | succ j ih =>
  intro k hk;have hlt:k<xs.length:=by omega
  obtain⟨g,e,hg⟩:=hx _ (List.getElem_mem hlt);have ri:=zFH h hg
  have rs:=zzq h.nm hR (zaf D) hg
  have hla:=zj8 (itI C R.length g R.length) 0 R.length
  have hc:=zrz (itI C R.length g R.length) hf
  rw[List.drop_eq_getElem_cons hlt,e];unfold rcB;rw[List.any_cons,Int.toNat_natCast];obtain⟨b1,b2⟩:=ih (k+1) (by omega)
  unfold rcB at b1 b2;refine⟨zin (zac (decide_eq_true (by rw[zab];omega)) (za9 hlt ?_)),zih (zac (decide_eq_true (by rw[zab];omega)) (za9 hlt ?_))⟩
  ·rw[e]
   refine zav ri (zan (zzP _ _ (by omega)) ?_)
   rw[hc];rcases itI C R.length g R.length f with _|_
   ·refine zaa rfl ?_
    rw[wrk (by unfold zaI;omega),b1,Bool.false_or]
   ·exact zac rfl rfl
  ·rw[e]
   refine zav rs (zan (zys _ _ (by omega)) ?_)
   rw[hc];rcases itI C R.length g R.length f with _|_
   ·refine zaa rfl ?_
    rw[wrk (by unfold zaI;omega),b2,Bool.false_or]
   ·exact zac rfl rfl
end
end
end Go.Proofs.YtkgbadeobdbinaaGreat
