/- Generic texts and models for the proofs of this seat: part 36. -/
import Derived.Test.YtkgbadeobdbinaaGreatY35
import Derived.StillTailTactics
import Derived.Deep.RegionHeld3
import Derived.WalkKit
set_option linter.unusedVariables false
set_option linter.unusedSimpArgs false
namespace Go.Proofs.YtkgbadeobdbinaaGreat
section
open Go Go.RowKit
def zqt (w:World) (B:Nat) (x0 x1:Value):World:=(w.setCell ⟨B,0,none⟩ x0).setCell ⟨B,1,none⟩ x1
theorem zt2 {w:World}{B:Nat}{x0 x1 y0 y1:Value}{T:TypeId} (h:w.heap[B]?=some (.cells #[y0,y1] T (0,0))):(zqt w B x0 x1).heap[B]?=some (.cells #[x0,x1] T (0,0)) :=
 heap_setCell_same _ _ _ _ _ _ (heap_setCell_same _ _ _ _ _ _ h)
theorem zwX {w:World}{B b:Nat}{x0 x1:Value} (h:b≠B):(zqt w B x0 x1).heap[b]?=w.heap[b]?:=by
 unfold zqt;rw[heap_setCell_other _ _ _ _ h,heap_setCell_other _ _ _ _ h]
theorem zyM {w:World}{B:Nat}{x0 x1:Value}:(zqt w B x0 x1).heap.size=w.heap.size:=by simp[zqt,World.setCell]
theorem zwl {w:World}{B:Nat}{x0 x1:Value} (p:Stb) (hp:p B=0):Evo (·=B) p w p (zqt w B x0 x1):=by
 refine zcN hp zyM (fun y hy=>zwX hy) ?_ ?_ ?_ <;> simp[zqt,World.setCell]
theorem zHk {D:List DM} (hD:D∈zdN):apC 5 (.sl 3 (zag D))=true:=zyc D hD
def zyP (ds fs:List (List AC)):Prop:=Fit .prog [.sl 3 ds,.sl 5 fs]∧ds.length≤10∧fs.length≤10
section
variable {ns:List Nat} (hns:ns.length≤2000) {w0:World}{p0:Stb}{b:Nat}
include hns
set_option maxHeartbeats 4000000 in
theorem zr9 {pos:Nat} (hpos:pos+110000≤800000) (hz:Zp p0 w0) (ht:TK p0 w0 (fun _=>False) b (Qr ns pos)):Calls Tryz.prog 25 #[zbl b] w0 fun e w'=>∃D1 d1 d2 E1 e1 e2 p' ds fs pos',e=.returned (.agg #[.slice D1 d1 d2,.slice E1 e1 e2])∧Rep p' w' (.slice D1 d1 d2) (.sl 3 ds)∧Rep p' w' (.slice E1 e1 e2) (.sl 5 fs)∧zyP ds fs ∧
  Evo (·=b) p0 w0 p' w'∧Zp p' w'∧TK p' w' (fun _=>False) b (Qr ns pos')∧pos'≤pos+58000:=by
 have hb:=ht.lt
 have hea:=zbi (p:=p0) (w:=w0) (.cells #[.slice none 0 0,.slice none 0 0] 26) 0 (·=b)
 have hz1:Zp (upP p0 w0.heap.size 0) (w0.alloc (.cells #[.slice none 0 0,.slice none 0 0] 26)):=⟨fun c hc=>by
  rw[zb9];split
  ·rfl
  ·exact hz.1 c (by simp at hc;omega),fun _ _ _=>trivial⟩
 have hcall:=zq5 hns (by omega) hz1 (ht.evo (zbi _ 0 _))
 go_enter Tryz.func25,Tryz.ntmps25
 go_wp2_with fail
 refine hcall.mono ?_
 rintro e w1 ⟨v,p1,D,R,pos1,rfl,hD,hR,hR2,hbd,hrep,hev,hz2,ht2,hp1,D1,d1,d2,B,o,cap,rfl,gB,okB,uq,a,T,xB,hl1,hl2⟩
 clear hcall;obtain⟨arr,harr,hl⟩:=hrep;injection harr with harr
 subst harr;obtain⟨r0,r1,_⟩:Rep p1 w1 (.slice D1 d1 d2) (.sl 3 (zag D))∧Rep p1 w1 (.slice (some ⟨B,o,none⟩) R.length cap) (.sl 5 (zao R))∧True:=hl;obtain⟨hne,hdf,hda,hdl⟩:=zuf hD;have hfit:∀r∈zao R,Fit .func r:=fun r hr=>by
  obtain⟨x,hx,rfl⟩:=List.mem_map.1 hr;exact(zwd hR hx (hbd x hx).1).1
 have hap:∀r∈zao R,apL 5 r=true:=fun r hr=>by
  obtain⟨x,hx,rfl⟩:=List.mem_map.1 hr;exact ztN (hbd x hx).1
 have hFP:FP (·=b) (upP p0 w0.heap.size 0) (w0.alloc (.cells #[.slice none 0 0,.slice none 0 0] 26)) b B o R.length cap (zao R) (Qr ns pos1) p1 w1 :=
  ⟨r1,fun e=>by have:=congrArg List.length e;simp[zao] at this;rw[this] at hR2;simp at hR2,⟨a,T,xB,hl2⟩,okB,uq,.inl (by simpa using gB),by simp;omega,by simp at gB;omega,rfl,hfit,hap,ht2,hz2,hev⟩
 have hsp:=zpT hns hFP r0 hdf (by omega) ((zHk hD)) hR hbd (by omega)
 have hsz1:w0.heap.size<w1.heap.size:=by have:=hev.size;simp at this;omega
 have nb:w0.heap.size≠b:=by omega
 have HS:=Lib.hid hsp
 have HE:=Lib.hid hea
 clear hsp hea hFP hev r0 r1 hfit hap hdf hda
 go_wp2_with fail
 refine HS.out.mono ?_
 rintro e w2 ⟨v,p2,ds,fs,pos2,rfl,hrep,hf,hl3,hl4,hev,hz3,ht3,hp2⟩
 obtain⟨arr,rfl,hl⟩:=hrep;obtain⟨l⟩:=arr
 match l,hl with
 | [u0,u1],⟨r0,r1,_⟩ =>
 obtain⟨D1,d1,d2,rfl⟩:=zb5 r0;obtain⟨E1,e1,e2,rfl⟩:=zb5 r1;have hx:=(hev.block w0.heap.size (by simp) nb).trans (heap_alloc_new w0 (.cells #[.slice none 0 0,.slice none 0 0] 26))
 have hpx:p2 w0.heap.size=0:=by rw[hev.same w0.heap.size (by simp) nb,zb9,if_pos rfl]
 have k0:=zaD (j:=0) hx rfl
 have k1:=zaD (j:=1) hx rfl
 have f0:=frozen_of_row w2 _ 0 _ _ hx
 have f1:=frozen_of_row w2 _ 1 _ _ hx
 have q1:=zt2 (x0:=.slice D1 d1 d2) (x1:=.slice E1 e1 e2) hx
 have y0:=zaD (j:=0) q1 rfl
 have y1:=zaD (j:=1) q1 rfl
 have hevs:Evo (·=w0.heap.size) p2 w2 p2 (zqt w2 w0.heap.size (.slice D1 d1 d2) (.slice E1 e1 e2)):=zwl p2 hpx
 have hF:Evo (·=b) p0 w0 p2 (zqt w2 w0.heap.size (.slice D1 d1 d2) (.slice E1 e1 e2)) :=
  (HE.out.trans hev (C:=(·=b)) (fun _ _ e=>e) (fun _ _ e=>e)).trans hevs (fun _ _ e=>e) (fun c hc e=>absurd hc (by have:c=w0.heap.size:=e;omega))
 have hfin:=And.intro (r0.evo hevs) (And.intro (r1.evo hevs) (And.intro hF (And.intro (show Zp p2 (zqt w2 w0.heap.size (.slice D1 d1 d2) (.slice E1 e1 e2)) from ⟨fun c hc=>hz3.1 c (Nat.le_trans hevs.size hc),fun _ _ _=>trivial⟩) ((ht3.own (Own':=(·=w0.heap.size)) (fun e=>nb e.symm)).evo hevs))))
 have HF:=Lib.hid hfin
 clear hfin hevs hF hev hz3 ht3 r0 r1 q1 hx HE HS
 go_wp2_with fail
 refine bodyPost_ret (v:=.agg #[.slice D1 d1 d2,.slice E1 e1 e2]) ?_ rfl ⟨D1,d1,d2,E1,e1,e2,p2,ds,fs,pos2,rfl,HF.out.1,HF.out.2.1,⟨hf,hl3,hl4⟩,HF.out.2.2.1,HF.out.2.2.2.1,HF.out.2.2.2.2.own (fun h=>h.elim),by omega⟩
 have y0':(((w2.setCell ⟨w0.heap.size,0,none⟩ (.slice D1 d1 d2)).setCell ⟨w0.heap.size,1,none⟩ (.slice E1 e1 e2))).cell? ⟨w0.heap.size,0,none⟩=some (.slice D1 d1 d2):=y0
 have y1':(((w2.setCell ⟨w0.heap.size,0,none⟩ (.slice D1 d1 d2)).setCell ⟨w0.heap.size,1,none⟩ (.slice E1 e1 e2))).cell? ⟨w0.heap.size,1,none⟩=some (.slice E1 e1 e2):=y1
 simp[results,Tryz.results25,go_sem,y0',y1']
end
end
section
open Go Go.RowKit Go.BigFrame
def zpw (w0:World) (v:Value) (w':World):Prop:=∃N p' D1 d1 d2 E1 e1 e2 ds fs,v=.agg #[.slice D1 d1 d2,.slice E1 e1 e2]∧Rep p' w' (.slice D1 d1 d2) (.sl 3 ds)∧Rep p' w' (.slice E1 e1 e2) (.sl 5 fs)∧zyP ds fs∧Evo (fun _=>False) (zk6 w0.heap.size N) w0 p' w'∧Zp p' w'
set_option maxHeartbeats 4000000 in
theorem zn7 {A:Option Addr}{n c:Nat}{w:World} (h:znm w A n c) :
  Calls Tryz.prog 13 #[.slice A n c] w fun e w'=>∃v,e=.returned v∧zpw w v w':=by
 have hnr:=zth (B:=w.heap.size) (w:=w.alloc (.cells #[.slice none 0 0,.slice none 0 0] 26)) (by simp) (CodeB.alloc h (Nat.le_refl _) _)
 have HR:=Lib.hid hnr
 clear hnr h
 go_enter Tryz.func13,Tryz.ntmps13
 go_wp2_with fail
 refine HR.out.mono ?_
 rintro e w2 ⟨rfl,N,ns,hns,ht,hs2,hev⟩
 have hev0:=(zp4 w.heap.size N w (.cells #[.slice none 0 0,.slice none 0 0] 26) (fun _=>False)).trans (hev (fun _=>False)) (C:=fun _=>False) (fun _ _ h=>h) (fun _ _ h=>h)
 have hx2:=((hev (fun _=>False)).block w.heap.size (by simp) (fun h=>h)).trans (heap_alloc_new w (.cells #[.slice none 0 0,.slice none 0 0] 26))
 have hs1:(w.alloc (.cells #[.slice none 0 0,.slice none 0 0] 26)).heap.size=w.heap.size+1:=by simp
 rw[hs1] at ht hs2 ⊢;have hse:=zr9 hns (by omega) (zAv (by omega) N) ht
 have HS:=Lib.hid hse
 have HE:=Lib.hid hev0
 clear hse hev0 hev HR ht
 go_wp2_with fail
 refine HS.out.mono ?_
 rintro e w3 ⟨D1,d1,d2,E1,e1,e2,p3,ds,fs,pos,rfl,r0,r1,hf,hev3,hz3,ht3,_⟩
 have hne:w.heap.size≠w.heap.size+1:=by omega
 have hx3:=(hev3.block w.heap.size (by omega) hne).trans hx2
 have hp3:=(hev3.same w.heap.size (by omega) hne).trans (zon (Nat.le_refl _))
 have k0:=zaD (j:=0) hx3 rfl
 have k1:=zaD (j:=1) hx3 rfl
 have f0:=frozen_of_row w3 _ 0 _ _ hx3
 have f1:=frozen_of_row w3 _ 1 _ _ hx3
 have q1:=zt2 (x0:=.slice D1 d1 d2) (x1:=.slice E1 e1 e2) hx3
 have y0:=zaD (j:=0) q1 rfl
 have y1:=zaD (j:=1) q1 rfl
 have hevc:Evo (·=w.heap.size) p3 w3 p3 (zqt w3 w.heap.size (.slice D1 d1 d2) (.slice E1 e1 e2)):=zwl p3 hp3
 have hfin:zpw w (.agg #[.slice D1 d1 d2,.slice E1 e1 e2]) (zqt w3 w.heap.size (.slice D1 d1 d2) (.slice E1 e1 e2)) :=
  ⟨N,p3,D1,d1,d2,E1,e1,e2,ds,fs,rfl,r0.evo hevc,r1.evo hevc,hf,(HE.out.trans hev3 (C:=fun _=>False) (fun _ _ h=>h) (fun q hq e=>absurd hq (by have:q=w.heap.size+1:=e;omega))).trans hevc (fun _ _ h=>h) (fun q hq e=>absurd hq (by have:q=w.heap.size:=e;omega)),⟨fun y hy=>hz3.1 y (Nat.le_trans hevc.size hy),fun _ _ _=>trivial⟩⟩
 have HF:=Lib.hid hfin
 clear hfin hevc q1 hx3 hx2 hev3 hz3 ht3 HS HE r0 r1 hp3
 go_wp2_with fail
 refine bodyPost_ret (v:=.agg #[.slice D1 d1 d2,.slice E1 e1 e2]) ?_ rfl ⟨_,rfl,HF.out⟩
 have y0':(((w3.setCell ⟨w.heap.size,0,none⟩ (.slice D1 d1 d2)).setCell ⟨w.heap.size,1,none⟩ (.slice E1 e1 e2))).cell? ⟨w.heap.size,0,none⟩=some (.slice D1 d1 d2):=y0
 have y1':(((w3.setCell ⟨w.heap.size,0,none⟩ (.slice D1 d1 d2)).setCell ⟨w.heap.size,1,none⟩ (.slice E1 e1 e2))).cell? ⟨w.heap.size,1,none⟩=some (.slice E1 e1 e2):=y1
 simp[results,Tryz.results13,go_sem,y0',y1']
end
section
open Go Go.RowKit Go.BigFrame
end
section
open Go
def tyL (T:Nat→Int) (m:Nat):List Int:=(List.range m).map T
theorem zcI (T:Nat→Int) (m:Nat):(tyL T m).length=m:=by simp[tyL]
theorem zm4 (T:Nat→Int) {m k:Nat} (h:k<m):(tyL T m).getD k 0=T k:=by simp[tyL,List.getD,h]
theorem zuI (T:Nat→Int) {m k:Nat} (h:k<(tyL T m).length):(tyL T m)[k]=T k:=by simp[tyL]
section
variable {D:List DM}{R:List PM}
theorem zub (G M:List Int) (kids:List (List AC)) (hm:kids.length≤68719476736) (T:Nat→Int) (hb:∀k,k<kids.length→∃o n ks,kids.getD k []=[.int o,.int n,.sl 3 ks])
  (hT:∀k,k<kids.length→∀o n ks,kids.getD k []=[.int o,.int n,.sl 3 ks]→zbE [.agg [.sl 3 (zag D),.sl 5 (zao R)],.agg [.sl 1 (zae G),.sl 1 (zae M)],.agg [.int o,.int n,.sl 3 ks]]=rI (T k)) :
  zlI [.agg [.sl 3 (zag D),.sl 5 (zao R)],.agg [.sl 1 (zae G),.sl 1 (zae M)],.cell (.sl 3 kids)]=rL (tyL T kids.length):=by
 have key:∀m k:Nat,k+m=kids.length→zfF (zag D) (zao R) (zae G) (zae M) (zae ((tyL T kids.length).take k)) kids ((kids.length:Nat):Int) (k:Int)=rL (tyL T kids.length):=by
  intro m;induction m with
  | zero =>
   intro k hk;refine zj6 (zaa (decide_eq_false (by omega)) ?_)
   rw[List.take_of_length_le (by rw[zcI];omega)]
  | succ m ih =>
   intro k hk;have hlt:k<kids.length:=by omega
   obtain⟨o,n,ks,e⟩:=hb k hlt;refine zj6 (zab (decide_eq_true (by omega)) (zaB hlt e (zan (hT k hlt _ _ _ e) (zbu (by rw[zac,List.length_take,zcI];simp;omega) ?_))))
   have hl:k<(tyL T kids.length).length:=by rw[zcI];exact hlt
   have:=zoI hl
   rw[zuI] at this;rw[this,wrk (by unfold zaS;omega)]
   exact ih (k+1) (by omega)
 exact zqB (key kids.length 0 (by omega))
variable (V:List Int) (kids:List (List AC)) (hm:kids.length≤zaS) (T:Nat→Int) (hb:∀k,k<kids.length→∃o n ks,kids.getD k []=[.int o,.int n,.sl 3 ks])
  (hT:∀k,k<kids.length→∀o n ks,kids.getD k []=[.int o,.int n,.sl 3 ks]→zaP [.agg [.sl 3 (zag D),.sl 5 (zao R)],.cell (.sl 1 (zae V)),.agg [.int o,.int n,.sl 3 ks]]=rI (T k))
include hm hb hT
theorem zvj (types:List Int):zjZ [.agg [.sl 3 (zag D),.sl 5 (zao R)],.cell (.sl 1 (zae V)),.cell (.sl 3 kids),.cell (.sl 1 (zae types))]=rB (decide (tyL T kids.length=types)):=by
 refine ztc ?_
 rw[zac];by_cases hl:kids.length=types.length
 rotate_left
 ·rw[decide_eq_false (fun h=>hl (by rw[←h,zcI]))]
  exact zab (net (by omega)) rfl
 refine zaa (nef (by omega)) ?_
 have key:∀m k:Nat,k+m=kids.length→zht (zae V) kids (zae types) (zag D) (zao R) (k:Int)=rB (decide ((tyL T kids.length).drop k=types.drop k)):=by
  intro m;induction m with
  | zero =>
   intro k hk;rw[List.drop_eq_nil_of_le (show(tyL T kids.length).length≤k by rw[zcI];omega),List.drop_eq_nil_of_le (show types.length≤k by omega)]
   exact zkY (zaa (decide_eq_false (by rw[zac];omega)) rfl)
  | succ m ih =>
   intro k hk;have hlt:k<kids.length:=by omega
   have h2:k<types.length:=by omega
   have h3:k<(tyL T kids.length).length:=by rw[zcI];exact hlt
   obtain⟨o,n,ks,e⟩:=hb k hlt;rw[List.drop_eq_getElem_cons h3,List.drop_eq_getElem_cons h2,zuI];refine zkY (zab (decide_eq_true (by rw[zac];omega)) (zaB hlt e (zan (hT k hlt _ _ _ e) (zbk h2 ?_))))
   by_cases he:T k=types[k]
   ·refine zaa (nef he) ?_
    rw[wrk (by omega),ih (k+1) (by omega)]
    simp only[he,List.cons.injEq,true_and]
   ·refine zab (net he) ?_
    simp only[List.cons.injEq];rw[decide_eq_false (fun h=>he h.1)]
 exact key kids.length 0 (by omega)
theorem zuh (c:Nat):ziL [.agg [.sl 3 (zag D),.sl 5 (zao R)],.cell (.sl 1 (zae V)),.cell (.sl 3 kids),.cell (.int (c:Int))]=rB (decide (tyL T kids.length=List.replicate c 0)):=by
 refine zqC ?_
 by_cases hl:kids.length=c
 rotate_left
 ·rw[decide_eq_false (fun h=>hl (by have:=congrArg List.length h;rw[zcI] at this;simpa using this))]
  exact zab (net (by omega)) rfl
 refine zaa (nef (by omega)) ?_
 have key:∀m k:Nat,k+m=kids.length→zfG (zae V) kids (c:Int) (zag D) (zao R) (k:Int)=rB (decide ((tyL T kids.length).drop k=List.replicate (c-k) 0)):=by
  intro m;induction m with
  | zero =>
   intro k hk;rw[List.drop_eq_nil_of_le (show(tyL T kids.length).length≤k by rw[zcI];omega),show c-k=0 by omega]
   exact zjv (zaa (decide_eq_false (by omega)) rfl)
  | succ m ih =>
   intro k hk;have hlt:k<kids.length:=by omega
   have h3:k<(tyL T kids.length).length:=by rw[zcI];exact hlt
   obtain⟨o,n,ks,e⟩:=hb k hlt;rw[List.drop_eq_getElem_cons h3,zuI,show c-k=(c-(k+1))+1 by omega,List.replicate_succ]
   refine zjv (zab (decide_eq_true (by omega)) (zaB hlt e (zan (hT k hlt _ _ _ e) ?_)))
   by_cases he:T k=0
   ·refine zaa (nef he) ?_
    rw[wrk (by omega),ih (k+1) (by omega)]
    simp only[he,List.cons.injEq,true_and]
   ·refine zab (net he) ?_
    simp only[List.cons.injEq];rw[decide_eq_false (fun h=>he h.1)]
 have:=key kids.length 0 (by omega)
 simpa using this
theorem zsI (hv:CP D R) (o n:Int):zky [.agg [.sl 3 (zag D),.sl 5 (zao R)],.cell (.sl 1 (zae V)),.agg [.int o,.int n,.sl 3 kids]]=rI (if 0≤n∧n<R.length then(if o=9 then(if tyL T kids.length=(gP R n.toNat).ps then(gP R n.toNat).r else -1)
   else if(gP R n.toNat).ps.length=0 then -1 else if tyL T kids.length=zum (gP R n.toNat).ps then zhG ((gP R n.toNat).ps.getD ((gP R n.toNat).ps.length-1) 0) (gP R n.toNat).r D 0 else -1) else -1):=by
 have hR:=hv.rl
 refine zpK (zas (zfe _ _ _) ?_)
 have hw:zad ((((zao R).length:Nat):Int)-1)=R.length-1:=by rw[za1];exact wr (by omega) (by omega)
 rw[hw];by_cases h:0≤n∧n<R.length
 rotate_left
 ·rw[if_neg h]
  refine zab ?_ rfl
  rw[Bool.not_eq_true',Bool.and_eq_false_iff,decide_eq_false_iff_not,decide_eq_false_iff_not];omega
 rw[if_pos h,decide_eq_true h.1,decide_eq_true (show n≤(R.length:Int)-1 by omega)]
 have hp:=(hv.ps n.toNat (by omega)).1
 refine zaa rfl (zaQ (k:=n.toNat) (by omega) (by omega) ?_)
 by_cases h9:o=9
 ·rw[if_pos h9]
  refine zab (eqt h9) (zas (zvj V kids hm T hb hT _) ?_)
  by_cases hq:tyL T kids.length=(gP R n.toNat).ps
  ·rw[if_pos hq,decide_eq_true hq]
   exact zaa rfl rfl
  ·rw[if_neg hq,decide_eq_false hq]
   exact zab rfl rfl
 rw[if_neg h9];refine zaa (eqf h9) ?_
 rw[zac];by_cases h0:(gP R n.toNat).ps.length=0
 ·rw[if_pos h0]
  exact zab (zr h0) rfl
 rw[if_neg h0];refine zaa (nz h0) ?_
 have w:zad ((((gP R n.toNat).ps.length:Nat):Int)-1)=(((gP R n.toNat).ps.length-1:Nat):Int):=by
  rw[wr (by omega) (by omega)]
  omega
 rw[w];refine zyb (by omega) (by omega) (by rw[zac];omega) ?_
 rw[show((zae (gP R n.toNat).ps).drop (0:Int).toNat).take ((((gP R n.toNat).ps.length-1:Nat):Int).toNat-(0:Int).toNat)=zae (zum (gP R n.toNat).ps) by simp[zum,zr4]]
 refine zas (zvj V kids hm T hb hT _) ?_
 by_cases hq:tyL T kids.length=zum (gP R n.toNat).ps
 ·rw[if_pos hq,decide_eq_true hq]
  exact zaa rfl (zjU rfl (by omega) (zan (zu3 D (by have:=hv.dv.len;omega) _ _) rfl))
 ·rw[if_neg hq,decide_eq_false hq]
  exact zab rfl rfl
end
end
section
open Go
theorem zBd {m:Nat}{P:Nat→Int→Prop} (h:∀k,k<m→∃t,P k t):∃T:Nat→Int,∀k,k<m→P k (T k) :=
 ⟨fun k=>open Classical in if hk:k<m then(h k hk).choose else 0,fun k hk=>by
  simp only[dif_pos hk];exact(h k hk).choose_spec⟩
section
variable {D:List DM}{R:List PM} (hv:CP D R)
section
variable (V:List Int) (kids:List (List AC)) (hm:kids.length≤zaS) (T:Nat→Int) (hb:∀k,k<kids.length→∃o n ks,kids.getD k []=[.int o,.int n,.sl 3 ks])
  (hT:∀k,k<kids.length→∀o n ks,kids.getD k []=[.int o,.int n,.sl 3 ks]→zaP [.agg [.sl 3 (zag D),.sl 5 (zao R)],.cell (.sl 1 (zae V)),.agg [.int o,.int n,.sl 3 ks]]=rI (T k))
include hm hb hT
theorem zyk (o n o':Int):zcz (zae V) (zag D) (zao R) o n kids (n==0) o' true=rI (if n=0∧tyL T kids.length=[0,0] then 0 else -1):=by
 refine zc1 (zab rfl ?_)
 by_cases hn:n=0
 ·refine zab (eqt hn) (zas (zuh V kids hm T hb hT 2) ?_)
  by_cases hq:tyL T kids.length=[0,0]
  ·rw[if_pos ⟨hn,hq⟩,decide_eq_true (show tyL T kids.length=List.replicate 2 0 from hq)]
   exact zab rfl rfl
  ·rw[if_neg (fun h=>hq h.2),decide_eq_false (show ¬tyL T kids.length=List.replicate 2 0 from hq)]
   exact zaa rfl rfl
 ·rw[if_neg (fun h=>hn h.1)]
  exact zaa (eqf hn) rfl
include hv
theorem zFT {o n:Int} (h:¬(o=1∨o=2∨o=3∨o=4)) (h0:o≠0) (h13:o≠13) (h7:o≠7) (h8:o≠8):zcz (zae V) (zag D) (zao R) o n kids (n==0) o false=rI (zj7 D R o n (tyL T kids.length)):=by
 refine zc1 (zaa rfl ?_)
 unfold zj7;rw[if_neg h0,if_neg h];by_cases h5:o=5
 ·rw[if_pos h5]
  refine zab (eqt h5) ?_
  by_cases hn:n=0
  ·refine zab (eqt hn) (zas (zuh V kids hm T hb hT 1) ?_)
   by_cases hq:tyL T kids.length=[0]
   ·rw[if_pos ⟨hn,hq⟩,decide_eq_true (show tyL T kids.length=List.replicate 1 0 from hq)]
    exact zab rfl rfl
   ·rw[if_neg (fun h=>hq h.2),decide_eq_false (show ¬tyL T kids.length=List.replicate 1 0 from hq)]
    exact zaa rfl rfl
  ·rw[if_neg (fun h=>hn h.1)]
   exact zaa (eqf hn) rfl
 rw[if_neg h5];refine zaa (eqf h5) ?_
 by_cases h6:o=6
 ·rw[if_pos h6]
  refine zab (eqt h6) (zan (zpm hv.dv n) ?_)
  have hc:=zd0 (D:=D) n
  by_cases hn:zf5 D n<0
  ·rw[if_pos hn]
   exact zaa (decide_eq_false (by omega)) rfl
  have h1:1≤zf5 D n:=by
   rcases hc with h0|⟨j,i,hj,he,_⟩ <;> omega
  have hf:=zhX hv.dv n
  rw[if_neg (by omega)] at hf
  rw[if_neg hn];refine zab (decide_eq_true (by omega)) (zay hf (zas (zvj V kids hm T hb hT _) ?_))
  by_cases hq:tyL T kids.length=fld D n
  ·rw[if_pos hq,decide_eq_true hq]
   exact zab rfl (zan (zpm hv.dv n) rfl)
  ·rw[if_neg hq,decide_eq_false hq]
   exact zaa rfl rfl
 rw[if_neg h6];refine zaa (eqf h6) (zaa (eqf h13) (zaa (eqf h7) (zaa (eqf h8) ?_)))
 by_cases h9:o=9
 ·rw[if_pos h9]
  refine zab (eqt h9) (zfS (zab (eqt h9) (zan (zsI V kids hm T hb hT hv o n) ?_)))
  simp only[h9,if_true];rfl
 rw[if_neg h9];refine zaa (eqf h9) ?_
 by_cases h10:o=10
 ·rw[if_pos h10]
  refine zfS (zab (eqt h10) (zan (zsI V kids hm T hb hT hv o n) ?_))
  simp only[if_neg h9];rfl
 rw[if_neg h10];refine zfS (zaa (eqf h10) ?_)
 by_cases h11:o=11
 rotate_left
 ·rw[if_neg h11]
  exact zaa (eqf h11) rfl
 rw[if_pos h11];refine zab (eqt h11) ?_
 by_cases hn:n=0
 rotate_left
 ·rw[if_neg hn]
  exact zaa (eqf hn) rfl
 rw[if_pos hn];refine zab (eqt hn) ?_
 rw[zcI];by_cases h2:kids.length=2
 rotate_left
 ·rw[if_neg (fun h=>h2 h.1)]
  exact zaa (eqf (by omega)) rfl
 obtain⟨o0,n0,k0,e0⟩:=hb 0 (by omega)
 obtain⟨o1,n1,k1,e1⟩:=hb 1 (by omega)
 rw[zm4 T (show 0<kids.length by omega),zm4 T (show 1<kids.length by omega)]
 refine zab (eqt (by omega)) (zaq (by omega) e0 (zan (hT 0 (by omega) _ _ _ e0) (zas (zeg (by have:=hv.dv.len;omega) _) ?_)))
 rcases ha:znt D (T 0) with _|_
 ·rw[if_neg (fun h=>by cases h.2.1)]
  exact zaa rfl rfl
 have hl:=hv.dv.len
 have hbd:0<T 0∧T 0≤D.length:=by
  simp only[znt,Bool.and_eq_true,decide_eq_true_eq] at ha;exact⟨ha.1,(isTy_iff.1 ha.2.1).2⟩
 have w:zad (T 0-1)=(((T 0).toNat-1:Nat):Int):=by rw[wr (by omega) (by omega)];omega
 refine zab rfl (zaB (k:=1) (by omega) e1 (zan (hT 1 (by omega) _ _ _ e1) (zba (k:=(T 0).toNat-1) w (by omega) ?_)))
 by_cases hq:T 1=(gD D ((T 0).toNat-1)).f
 ·rw[if_pos ⟨h2,rfl,hq⟩]
  exact zab (eqt hq) (zba (k:=(T 0).toNat-1) w (by omega) rfl)
 ·rw[if_neg (fun h=>hq h.2.2)]
  exact zaa (eqf hq) rfl
theorem zFe {o n:Int} (h12:o≠12) (h13:o≠13) (h7:o≠7) (h8:o≠8):zaP [.agg [.sl 3 (zag D),.sl 5 (zao R)],.cell (.sl 1 (zae V)),.agg [.int o,.int n,.sl 3 kids]]=rI (zj7 D R o n (tyL T kids.length)):=by
 refine zdD ?_
 by_cases h0:o=0
 ·refine zab (eqt h0) ?_
  unfold zj7;rw[if_pos h0,zcI];by_cases hl:kids.length=0
  ·refine zab (zr hl) (zas (zfe _ _ _) ?_)
   by_cases hn:-999≤n∧n≤999
   ·rw[if_pos ⟨hn,hl⟩,decide_eq_true hn.1,decide_eq_true hn.2]
    exact zab rfl rfl
   ·rw[if_neg (fun h=>hn h.1)]
    refine zaa ?_ rfl
    rw[Bool.and_eq_false_iff,decide_eq_false_iff_not,decide_eq_false_iff_not];omega
  ·rw[if_neg (fun h=>hl h.2)]
   exact zaa (nz hl) rfl
 refine zaa (eqf h0) (zaa (eqf h12) ?_)
 by_cases h:o=1∨o=2∨o=3∨o=4
 ·have e:zj7 D R o n (tyL T kids.length)=(if n=0∧tyL T kids.length=[0,0] then 0 else -1):=by
   unfold zj7;rw[if_neg h0,if_pos h]
  rw[e];rcases h with rfl|rfl|rfl|rfl
  ·exact zab rfl (zyk V kids hm T hb hT _ _ _)
  ·exact zaa rfl (zab rfl (zyk V kids hm T hb hT _ _ _))
  ·exact zaa rfl (zaa rfl (zab rfl (zyk V kids hm T hb hT _ _ _)))
  ·exact zaa rfl (zaa rfl (zaa rfl (zyk V kids hm T hb hT _ _ _)))
 ·refine zaa (eqf (fun h'=>h (.inl h'))) (zaa (eqf (fun h'=>h (.inr (.inl h')))) (zaa (eqf (fun h'=>h (.inr (.inr (.inl h'))))) ?_))
  rw[eqf (show o≠4 from fun h'=>h (.inr (.inr (.inr h'))))]
  exact zFT hv V kids hm T hb hT h h0 h13 h7 h8
end
end
end
section
open Go
section
variable {D:List DM}{R:List PM}
noncomputable abbrev iTy (D:List DM) (R:List PM) (G M:List Int) (x:List AC):Option AV:=zbE [.agg [.sl 3 (zag D),.sl 5 (zao R)],.agg [.sl 1 (zae G),.sl 1 (zae M)],.agg x]
noncomputable abbrev sTy (D:List DM) (R:List PM) (V:List Int) (x:List AC):Option AV:=zaP [.agg [.sl 3 (zag D),.sl 5 (zao R)],.cell (.sl 1 (zae V)),.agg x]
inductive Nm (m:Nat):List AC→Prop
 | node (o n:Int) (kids:List (List AC)) (h:o=9∨o=10→0≤n∧n<m) (hk:∀k,k<kids.length→Nm m (kids.getD k [])):Nm m [.int o,.int n,.sl 3 kids]
inductive HT (D:List DM) (R:List PM):List Int→List AC→Int→Prop
 | var (V:List Int) (n:Int) (kids:List (List AC)) (hk:kids.length=0) (h:0≤n∧n<V.length):HT D R V [.int 12,.int n,.sl 3 kids] (V.getD n.toNat 0)
 | bind (V:List Int) (kids:List (List AC)) (t0 t:Int) (hl:kids.length=2) (h0:0≤t0) (h1:HT D R V (kids.getD 0 []) t0) (h2:HT D R (V++[t0]) (kids.getD 1 []) t):HT D R V [.int 13,.int 0,.sl 3 kids] t
 | ifz (V:List Int) (kids:List (List AC)) (t:Int) (hl:kids.length=3) (h0:HT D R V (kids.getD 0 []) 0) (h1:HT D R V (kids.getD 1 []) t) (h2:HT D R V (kids.getD 2 []) t):HT D R V [.int 7,.int 0,.sl 3 kids] t
 | mtch (V:List Int) (kids:List (List AC)) (j:Nat) (n t:Int) (hn:n=(j:Int)+1) (hj:j<D.length) (hc:0<(gD D j).cs.length) (hl:kids.length=1+(gD D j).cs.length) (h0:HT D R V (kids.getD 0 []) n) (hs:∀k,k<(gD D j).cs.length→HT D R (V++(gD D j).cs.getD k []) (kids.getD (1+k) []) t):HT D R V [.int 8,.int n,.sl 3 kids] t
 | op (V:List Int) (o n:Int) (kids:List (List AC)) (T:Nat→Int) (t:Int) (h12:o≠12) (h13:o≠13) (h7:o≠7) (h8:o≠8) (hk:∀k,k<kids.length→HT D R V (kids.getD k []) (T k)) (ht:zj7 D R o n (tyL T kids.length)=t) (h0:0≤t):HT D R V [.int o,.int n,.sl 3 kids] t
theorem zeT {P:Prop} (h:0≤(-1:Int)):P:=absurd h (by decide)
theorem zx6 {T:Nat→Int}{t0:Int}:∀m k,0≤chk T t0 m k→0≤t0∧∀i,k≤i→i<k+m→T i=t0
 | 0,k,h=>⟨h,fun i h1 h2=>by omega⟩
 | m+1,k,h=>by
  unfold chk at h;split at h
  ·rename_i e
   obtain⟨h0,h1⟩:=zx6 m (k+1) h;refine⟨h0,fun i g1 g2=>?_⟩
   by_cases hi:i=k
   ·rw[hi];exact e
   ·exact h1 i (by omega) (by omega)
  ·exact zeT h
theorem zoR {T:Nat→Int}{m:Nat}{types:List Int} (h:tyL T m=types) (hp:∀t∈types,0≤t):∀k,k<m→0≤T k:=fun k hk=>by
 have h1:k<(tyL T m).length:=by rw[zcI];exact hk
 have h2:=List.getElem_mem h1
 rw[zuI] at h2;rw[h] at h2;exact hp _ h2
theorem zvx {D:List DM}{R:List PM} (hv:CP D R) {o n:Int}{T:Nat→Int}{m:Nat} (h:0≤zj7 D R o n (tyL T m)):(o=9∨o=10→0≤n∧n<R.length)∧∀k,k<m→0≤T k:=by
 unfold zj7 at h;split at h
 ·rename_i h0
  refine⟨by omega,fun k hk=>?_⟩
  split at h
  ·rename_i hc
   rw[zcI] at hc;omega
  ·exact zeT h
 split at h
 ·refine⟨by omega,?_⟩
  split at h
  ·rename_i hc
   exact zoR hc.2 (by simp)
  ·exact zeT h
 split at h
 ·refine⟨by omega,?_⟩
  split at h
  ·rename_i hc
   exact zoR hc.2 (by simp)
  ·exact zeT h
 split at h
 ·refine⟨by omega,?_⟩
  split at h
  ·exact zeT h
  ·rename_i hn
   split at h
   ·rename_i hc
    exact zoR hc fun t ht=>((zBN hv hn).2 t ht).1
   ·exact zeT h
 split at h
 ·split at h
  ·rename_i hc
   refine⟨fun _=>hc,?_⟩
   split at h
   ·rename_i hq
    exact zoR hq fun t ht=>((hv.ps n.toNat (by omega)).2 t ht).1
   ·exact zeT h
  ·exact zeT h
 split at h
 ·split at h
  ·rename_i hc
   refine⟨fun _=>hc,?_⟩
   split at h
   ·exact zeT h
   ·split at h
    ·rename_i hq
     exact zoR hq fun t ht=>((hv.ps n.toNat (by omega)).2 t (List.mem_of_mem_take ht)).1
    ·exact zeT h
  ·exact zeT h
 split at h
 ·rename_i h9 h10 _
  refine⟨fun h'=>by omega,?_⟩
  split at h
  ·split at h
   ·rename_i hc
    rw[zcI] at hc;intro k hk;have ha:=hc.2.1
    have hb:=hc.2.2
    rw[zm4 T (by omega)] at ha
    rw[zm4 T (show 1<m by omega),zm4 T (show 0<m by omega)] at hb
    simp only[znt,Bool.and_eq_true,decide_eq_true_eq,beq_iff_eq] at ha;have h2:=isTy_iff.1 ha.2.1
    have:=(hv.dv.arr ((T 0).toNat-1) (by omega) ha.2.2).1
    rcases(by omega:k=0∨k=1) with rfl|rfl
    ·omega
    ·omega
   ·exact zeT h
  ·exact zeT h
 ·exact zeT h
theorem HT.nm {D:List DM}{R:List PM} (hv:CP D R) {V:List Int}{x:List AC}{t:Int} (h:HT D R V x t):Nm R.length x:=by
 induction h with
 | var V n kids hk h=>exact .node _ _ _ (fun h=>by omega) (fun k hk=>by omega)
 | bind V kids t0 t hl h0 h1 h2 i1 i2 =>
  exact .node _ _ _ (fun h=>by omega) (fun k hk=>by
   rcases(by omega:k=0∨k=1) with rfl|rfl
   ·exact i1
   ·exact i2)
 | ifz V kids t hl h0 h1 h2 i0 i1 i2 =>
  exact .node _ _ _ (fun h=>by omega) (fun k hk=>by
   rcases(by omega:k=0∨k=1∨k=2) with rfl|rfl|rfl
   ·exact i0
   ·exact i1
   ·exact i2)
 | mtch V kids j n t hn hj hc hl h0 hs i0 is =>
  refine .node _ _ _ (fun h=>by omega) (fun k hk=>?_)
  rcases k with _|k
  ·exact i0
  ·have:=is k (by omega)
   rwa [Nat.add_comm] at this
 | op V o n kids T t h12 h13 h7 h8 hk ht h0 ih =>
  subst ht;exact .node _ _ _ (zvx hv h0).1 ih
end
end
end Go.Proofs.YtkgbadeobdbinaaGreat
