/- Generic texts and models for the proofs of this seat: part 36. -/
import Derived.Test.YtcpcagdialnbeaaY35
set_option linter.unusedVariables false
set_option linter.unusedSimpArgs false
namespace Go.Proofs.Ytcpcagdialnbeaa
section
open Go Go.RowKit
theorem ztT {R:List PM} (hR:GR R) {x:PM} (hx:x∈R) (hb:Fit .expr [.int x.o,.int x.n,.sl 3 x.kids]):Fit .func (pmC x)∧x.ps.length≤10∧zde x.ps∧inI x.r:=by
 obtain⟨h1,h3,h2⟩:=zrp _ (hR.sg x hx);have h1:x.ps.length≤3:=h1
 have h2:∀y∈x.ps,0≤y∧y≤3:=h2
 have h3:0≤x.r∧x.r≤3:=h3
 have hi:zde x.ps:=⟨by unfold za9;omega,fun y hy=>by have:=h2 y hy;unfold inI;omega⟩
 have hr:inI x.r:=by unfold inI;omega
 exact⟨.func _ _ _ _ _ hi hr hb,by omega,hi,hr⟩
theorem zqm {p p':Stb}{w:World}{B o n cap k:Nat}{rows:List (List AC)} (hp:∀b,p' b=p b∨∀j,p.ok b j→j=k) (hpo:p'.ok=p.ok) (h:Rep p w (.slice (some ⟨B,o,none⟩) n cap) (.sl k rows)) (hne:rows≠[]) (ha:∀r∈rows,apL k r=true) (hB':o+n*k≤p' B):Rep p' w (.slice (some ⟨B,o,none⟩) n cap) (.sl k rows):=by
 obtain⟨rfl,hk,hrows,hB,_,hok,hcap,f,hcc,hrr⟩:=zcU h hne;refine .sl B o cap k _ f hk hrows hB hB' (by rw[hpo];exact hok) hcap hcc (fun i j c hj=>?_)
 have hlt:i<rows.length:=by
  rcases Nat.lt_or_ge i rows.length with h|h
  ·exact h
  ·simp[List.getD,List.getElem?_eq_none h] at hj
 have hap:=ha (rows.getD i []) (by simp[List.getD,hlt])
 exact(hrr i j c hj).low hp hpo (zjy hap c (List.mem_of_getElem? hj))
structure FP (Ow:Nat→Prop) (p0:Stb) (w0:World) (b B o n cap:Nat) (fs:List (List AC)) (q:List AC) (p:Stb) (w:World):Prop where
 rep:Rep p w (.slice (some ⟨B,o,none⟩) n cap) (.sl 5 fs)
 ne:fs≠[]
 xB:∃a T,w.heap[B]?=some (.cells a T (0,0))∧o+cap*5≤a.size
 okB:p.ok B 5
 uq:∀j,p.ok B j→j=5
 gB:w0.heap.size≤B∨(Ow B∧p0 B=0)
 gb:b<w0.heap.size
 nb:B≠b
 cb:Ow b
 fit:∀r∈fs,Fit .func r
 ap:∀r∈fs,apL 5 r=true
 tk:TK p w (fun _=>False) b q
 zp:Zp p w
 evo:Evo Ow p0 w0 p w
section
variable {Ow:Nat→Prop}{p0 p p':Stb}{w0 w w':World}{b B o n cap k:Nat}{fs:List (List AC)}{q q':List AC}{ns:List Nat}{q0:Nat}
theorem FP.ltB (h:FP Ow p0 w0 b B o n cap fs q p w):B<w.heap.size:=by obtain⟨_,_,h,_⟩:=h.xB;exact zaD h
theorem FP.len (h:FP Ow p0 w0 b B o n cap fs q p w):n=fs.length:=zsr h.rep
theorem FP.capn (h:FP Ow p0 w0 b B o n cap fs q p w):n≤cap:=by
 have:=(zcU h.rep h.ne).2.2.2.2.2.2.1
 have:=h.len
 omega
theorem FP.pos (h:FP Ow p0 w0 b B o n cap fs q p w):0<p B:=by
 have:=(zcU h.rep h.ne).2.2.2.2.1
 have:=List.length_pos_iff.2 h.ne
 omega
theorem FP.on (h:FP Ow p0 w0 b B o n cap fs q p w) (hev:Evo (·=b) p w p' w') (hz:Zp p' w') (ht:TK p' w' (fun _=>False) b q'):FP Ow p0 w0 b B o n cap fs q' p' w':=by
 have nb:=h.nb
 refine {h with rep:=h.rep.evo hev,xB:=?_,okB:=by rw[hev.okk B h.ltB];exact h.okB,uq:=fun j hj=>h.uq j (by rw[←hev.okk B h.ltB];exact hj),tk:=ht,zp:=hz,evo:=h.evo.trans hev (fun _ _ e=>e) (fun _ _ e=>by have e:_=b:=e;subst e;exact h.cb)}
 rw[hev.block B h.ltB nb];exact h.xB
theorem FP.row (h:FP Ow p0 w0 b B o n cap fs q p w) (hk:k<n):∃u0 u1 u2 u3 u4,w.cell? ⟨B,o+k*5,none⟩=some u0∧w.cell? ⟨B,o+k*5+1,none⟩=some u1∧w.cell? ⟨B,o+k*5+2,none⟩=some u2∧w.cell? ⟨B,o+k*5+3,none⟩=some u3∧w.cell? ⟨B,o+k*5+4,none⟩=some u4 ∧
  w.frozen? ⟨B,o+k*5,none⟩=false∧w.frozen? ⟨B,o+k*5+1,none⟩=false∧w.frozen? ⟨B,o+k*5+2,none⟩=false∧w.frozen? ⟨B,o+k*5+3,none⟩=false∧w.frozen? ⟨B,o+k*5+4,none⟩=false:=by
 obtain⟨a,T,hB,hs⟩:=h.xB;have hle:=Nat.mul_le_mul_right 5 h.capn
 have hc:∀j,j<5→w.cell? ⟨B,o+k*5+j,none⟩=some (a.getD (o+k*5+j) undef):=fun j hj=>by
  simp only[World.cell?,hB];rw[Array.getD_eq_getD_getElem?,Array.getElem?_eq_getElem (by omega)]
  rfl
 exact⟨_,_,_,_,_,hc 0 (by omega),hc 1 (by omega),hc 2 (by omega),hc 3 (by omega),hc 4 (by omega),frozen_of_row w B _ a T hB,frozen_of_row w B _ a T hB,frozen_of_row w B _ a T hB,frozen_of_row w B _ a T hB,frozen_of_row w B _ a T hB⟩
theorem FP.put (h:FP Ow p0 w0 b B o n cap fs (Qr ns q0) p w) (hk:k<n) {x0 x1 x2 x3 x4:Value}{c0 c1 c2 c3 c4:AC} (hr:RepL p w [x0,x1,x2,x3,x4] [c0,c1,c2,c3,c4]) (hc:apL 5 [c0,c1,c2,c3,c4]=true) (hf:Fit .func [c0,c1,c2,c3,c4]) :
  FP Ow p0 w0 b B o n cap (fs.set k [c0,c1,c2,c3,c4]) (Qr ns q0) p (zfb w B (o+k*5) x0 x1 x2 x3 x4)∧∀v c,Rep p w v c→apC 5 c=true→Rep p (zfb w B (o+k*5) x0 x1 x2 x3 x4) v c:=by
 have hlen:=h.len
 have nb:=h.nb
 obtain⟨a,T,hB,hs⟩:=h.xB;have hev:=zmk (w:=w) (B:=B) (o:=o+k*5) (x0:=x0) (x1:=x1) (x2:=x2) (x3:=x3) (x4:=x4) (raP p B 0) (by rw[zep,if_pos rfl])
 have he:=h.evo
 have hle:=Nat.mul_le_mul_right 5 h.capn
 refine⟨{h with rep:=zqv hB (by omega) h.uq h.rep h.ap (by omega) hr hc,ne:=fun e=>?_,xB:=⟨_,T,znG hB,by simpa using hs⟩,fit:=fun r hr=>?_,ap:=fun r hr=>?_,tk:=?_,zp:=⟨fun c hc=>h.zp.1 c (by rw[zcb] at hc;exact hc),fun _ _ _=>trivial⟩,evo:=?_},fun v c hv ha=>zhh h.uq hev hv ha⟩
 ·have:=congrArg List.length e
  simp at this
  exact h.ne (by simpa using this)
 ·rcases List.mem_or_eq_of_mem_set hr with h'|rfl
  ·exact h.fit r h'
  ·exact hf
 ·rcases List.mem_or_eq_of_mem_set hr with h'|rfl
  ·exact h.ap r h'
  ·exact hc
 ·obtain⟨a1,T1,g1,g2⟩:=h.tk.cells
  refine⟨h.tk.not,by rw[zcb];exact h.tk.lt,h.tk.pz,a1,T1,by rw[zbM (fun e=>nb e.symm)];exact g1,?_⟩
  match hl:a1.toList,g2 with
  | [v0,v1],⟨r0,r1,_⟩ =>
   refine⟨zpE h.uq h.okB (by omega) hev r0,?_,trivial⟩
   rcases r1 with r1|⟨_,_,_,_,_,_,_,e,_⟩
   ·exact .inl (zhh h.uq hev r1 rfl)
   ·cases e
 ·refine⟨by simpa [zfb,World.setCell] using he.os,by simpa [zfb,World.setCell] using he.tape,by simpa [zfb,World.setCell] using he.output,by rw[zcb];exact he.size,fun c hc hn=>?_,he.keepP,he.same,fun c x hc hx=>?_,he.okk,fun c h1 h2=>he.uq c h1 (by rw[zcb] at h2;exact h2)⟩
  ·exact(zbM (fun e=>by subst e;rcases h.gB with g|g;exact absurd hc (Nat.not_lt.2 g);exact hn g.1)).trans (he.block c hc hn)
  ·exact(World.cell?_of_block (w:=w) (zbM (fun e=>by subst e;rcases h.gB with g|g;exact absurd hc (Nat.not_lt.2 g);exact absurd hx (by rw[g.2];exact Nat.not_lt_zero _)))).trans (he.stable c x hc hx)
theorem FP.app (h:FP Ow p0 w0 b B o n cap fs (Qr ns q0) p w) {C o' m mc:Nat}{new:List (List AC)} (hy:Rep p w (.slice (some ⟨C,o',none⟩) m mc) (.sl 5 new)) (hyne:new≠[]) (hyn:C≠B) (hya:∀r∈new,apL 5 r=true) (hl:fs.length+new.length≤100):∃G g1 g2 w' p',(Builtin.append_ #[24,24] 24 #[.slice (some ⟨B,o,none⟩) n cap,.slice (some ⟨C,o',none⟩) m mc]).run Try.prog w=.ok (.slice G g1 g2) w'∧Rep p' w' (.slice G g1 g2) (.sl 5 (fs++new))∧Evo Ow p0 w0 p' w'∧Zp p' w'∧TK p' w' (fun _=>False) b (Qr ns q0) ∧
  (∀v c,Rep p w v c→apC 5 c=true→Rep p' w' v c)∧∀c,c<w.heap.size→c≠B→w'.heap[c]?=w.heap[c]?∧p' c=p c:=by
 obtain⟨a,T,hB,hs⟩:=h.xB;have nb:=h.nb
 have hn:=h.len
 have hu:Try.prog.underlying 24=some (.slice 35):=Try.underlying24
 obtain⟨e,he,hsz⟩:∃e,lay.ti 35=some e∧e.size=5:=⟨_,rfl,rfl⟩;have hp:∀c,(raP p B (o+n*5)) c=p c∨∀j,p.ok c j→j=5:=fun c=>by
  by_cases e:c=B
  ·subst e;exact .inr h.uq
  ·exact .inl (zlx e)
 have hE:=zqm hp rfl h.rep h.ne h.ap (by rw[zep,if_pos rfl];exact Nat.le_refl _)
 have hY:=zqm hp rfl hy hyne hya (by
  rw[zep,if_neg hyn];have h1:=zcU hy hyne
  have:=h1.2.2.2.2.1
  rw[←h1.1] at this;exact this)
 have hzL:Zp (raP p B (o+n*5)) w:=⟨fun c hc=>by
  have:=h.ltB
  rw[zep,if_neg (by omega)]
  exact h.zp.1 c hc,fun _ _ _=>trivial⟩
 have htL:TK (raP p B (o+n*5)) w (fun _=>False) b (Qr ns q0):=by
  obtain⟨a1,T1,g1,g2⟩:=h.tk.cells;refine⟨h.tk.not,h.tk.lt,by rw[zep,if_neg (fun e=>nb e.symm)];exact h.tk.pz,a1,T1,g1,?_⟩
  match hl:a1.toList,g2 with
  | [v0,v1],⟨r0,r1,_⟩ =>
   refine⟨?_,?_,trivial⟩
   ·rcases r0 with r0|⟨A,nn,cp,e,hc,ms,hl',hq,hx⟩
    ·refine .inl (r0.low hp rfl ?_)
     have:∀ns:List Nat,apR 5 (ns.map fun(u:Nat)=>[AC.bool true,.int (u:Int)])=true:=by
      intro ns;induction ns with
      | nil=>rfl
      | cons n ns ih=>simp only[List.map_cons,apR,apL,apC,Bool.and_true,ih]
     simp only[apC,this,Bool.and_true];rfl
    ·refine .inr ⟨A,nn,cp,e,hc,ms,hl',hq,fun h0=>?_⟩
     obtain⟨b',o2,hA,hb',hp',hok',hy'⟩:=hx h0;have hne':b'≠B:=fun e=>hok' 5 (e▸h.okB)
     exact⟨b',o2,hA,hb',by rw[zep,if_neg hne'];exact hp',hok',hy'⟩
   ·rcases r1 with r1|⟨_,_,_,_,_,_,_,e,_⟩
    ·exact .inl (r1.low hp rfl rfl)
    ·cases e
 have heL:Evo Ow p0 w0 (raP p B (o+n*5)) w:=by
  have he:=h.evo
  have hg:=h.gB
  exact⟨he.os,he.tape,he.output,he.size,he.block,fun c hc=>by
   rw[zep];split
   ·rename_i e
    subst e;rcases hg with g|g
    ·exact absurd hc (Nat.not_lt.2 g)
    ·rw[g.2];exact Nat.zero_le _
   ·exact he.keepP c hc,fun c hc hnc=>by
   rw[zep];split
   ·rename_i e
    subst e;rcases hg with g|g
    ·exact absurd hc (Nat.not_lt.2 g)
    ·exact absurd g.1 hnc
   ·exact he.same c hc hnc,he.stable,he.okk,he.uq⟩
 have hrt:Rt (raP p B (o+n*5)) w (.slice (some ⟨B,o,none⟩) n cap) e.size:=.inr ⟨B,o,n,cap,a,T,rfl,hB,h.capn,by rw[hsz];exact hs,by rw[zep,if_pos rfl,hsz];exact Nat.le_refl _,by rw[hsz];exact h.okB⟩
 obtain⟨v,w',p',hrun,hrep,_,hev,hz',_⟩:=zd7 (P:=Try.prog) (p:=raP p B (o+n*5)) (w:=w) hu (zeY _ _ he) (by omega) (by rw[hsz];exact hE) (by rw[hsz];exact hY) hrt hzL (by simp[zgY];omega) 24
 rw[hsz] at hrep;obtain⟨G,g1,g2,rfl⟩:=zbd hrep;have hev':Evo (·=B) (raP p B (o+n*5)) w p' w':=hev.weaken fun c _ e=>by
  have:some B=some c:=e
  exact(Option.some.inj this).symm
 refine⟨G,g1,g2,w',p',hrun,hrep,heL.trans hev' (fun _ _ e=>e) (fun c hc e=>by
  have e:c=B:=e
  subst e;rcases h.gB with g|g
  ·exact absurd hc (Nat.not_lt.2 g)
  ·exact g.1),hz',((htL.own (Own':=(·= B)) (fun e=>nb e.symm)).evo hev').own (fun h=>h),fun v c hv ha=>(hv.low hp rfl ha).evo hev',fun c hc hnc=>⟨hev'.block c hc hnc,?_⟩⟩
 rw[hev'.same c hc hnc,zep,if_neg hnc]
end
end
section
open Go Go.RowKit
set_option maxRecDepth 100000 in
theorem zzF:cOf Try.f31=.seq P0 (.seq P1 (.seq P2 (.seq (.seq P3 (.block 0 (.seq P4 (.cond (.tmp 19) P5 (.seq P6 (.cond (.tmp 34) P7 (.seq P8 (.cond (.tmp 52) P9 (.seq P10 (.cond (.tmp 66) P11 (.seq P12 (.cond (.tmp 71) P13 .skip)))))))))))) (.seq P14 .ret)))):=by kernel_rfl
theorem zw0 {p:Stb}{w:World} (T:TypeId) {x0 x1 x2 x3 x4:Value}{c0 c1 c2 c3 c4:AC} (h:RepL p w [x0,x1,x2,x3,x4] [c0,c1,c2,c3,c4]):Rep (upP p w.heap.size 5 5) (w.alloc (.cells #[x0,x1,x2,x3,x4] T)) (.slice (some ⟨w.heap.size,0,none⟩) 1 1) (.sl 5 [[c0,c1,c2,c3,c4]]):=by
 have hev:=zav (p:=p) (w:=w) (.cells #[x0,x1,x2,x3,x4] T) 5 (fun _=>False) 5
 have hget:∀(i j:Nat) (c:AC),([[c0,c1,c2,c3,c4]].getD i [])[j]?=some c→i=0∧∃v,[x0,x1,x2,x3,x4][j]?=some v∧Rep p w v c:=fun i j c hh=>by
  cases i with
  | zero=>exact⟨rfl,h.get hh⟩
  | succ i=>simp at hh
 refine .sl w.heap.size 0 1 5 [[c0,c1,c2,c3,c4]] (fun _ j=>[x0,x1,x2,x3,x4].getD j undef) (by omega) (fun r hr=>?_) (by simp) (by rw[za0,if_pos rfl];simp) (zd2 _ _ _ _) (by simp) (fun i j c hh=>?_) (fun i j c hh=>?_)
 ·obtain rfl:=List.mem_singleton.1 hr
  rfl
 ·obtain⟨rfl,v,hv,_⟩:=hget i j c hh
  simp only[Nat.zero_mul,Nat.zero_add];rw[cell_of_row _ _ _ _ _ _ (heap_alloc_new w _)];have:(#[x0,x1,x2,x3,x4]:Array Value)[j]?=some v:=by simpa using hv
  rw[this];simp[List.getD,hv]
 ·obtain⟨rfl,v,hv,hr⟩:=hget i j c hh
  have:[x0,x1,x2,x3,x4].getD j undef=v:=by simp[List.getD,hv]
  rw[this];exact hr.evo hev
section
variable {ns:List Nat} (hns:ns.length≤2000)
include hns
set_option maxHeartbeats 8000000 in
theorem zmQ {Ow:Nat→Prop}{p0 p:Stb}{w0 w:World}{b B o n cap pos:Nat}{D1:Option Addr}{d1 d2:Nat}{R:List PM}{ds:List (List AC)} (hF0:FP Ow p0 w0 b B o n cap (zaC R) (Qr ns pos) p w) (hD0:Rep p w (.slice D1 d1 d2) (.sl 3 ds)) (hds:∀d∈ds,Fit .decl d) (hdl:ds.length≤10) (hda:apC 5 (.sl 3 ds)=true) (hR:GR R) (hbd:∀x∈R,ziG x) (hpos:pos+5000≤800000) :
  Calls Try.prog 31 #[zaU b,.agg #[.slice D1 d1 d2,.slice (some ⟨B,o,none⟩) n cap]] w fun e w'=>(∃v p' ds' fs' pos',e=.returned v∧RepS p' w' v (.agg [.sl 3 ds',.sl 5 fs'])∧Fit .prog [.sl 3 ds',.sl 5 fs']∧ds'.length≤10∧fs'.length≤10∧Evo Ow p0 w0 p' w'∧Zp p' w'∧TK p' w' (fun _=>False) b (Qr ns pos')∧pos'≤pos+5000):=by
 have hpl:(zaC R).length=R.length:=by simp[zaC]
 have hn0:=hF0.len
 have hRl:=hR.len
 have hnpos:0<n:=by have:=List.length_pos_iff.2 hF0.ne;omega
 refine calls_of_wp Try.func31 (c:=cOf Try.f31) (by kernel_rfl) ?_
 rw[zzF];have hs0:(#[zaU b,.agg #[.slice D1 d1 d2,.slice (some ⟨B,o,none⟩) n cap]]++Array.replicate (Try.f31.ntmps-(#[zaU b,.agg #[.slice D1 d1 d2,.slice (some ⟨B,o,none⟩) n cap]]:Array Value).size) undef).size=80:=by simp[Try.ntmps31]
 have h0:(#[zaU b,.agg #[.slice D1 d1 d2,.slice (some ⟨B,o,none⟩) n cap]]++Array.replicate (Try.f31.ntmps-(#[zaU b,.agg #[.slice D1 d1 d2,.slice (some ⟨B,o,none⟩) n cap]]:Array Value).size) undef).getD 0 undef=zaU b:=by simp[Array.getD]
 have h1:(#[zaU b,.agg #[.slice D1 d1 d2,.slice (some ⟨B,o,none⟩) n cap]]++Array.replicate (Try.f31.ntmps-(#[zaU b,.agg #[.slice D1 d1 d2,.slice (some ⟨B,o,none⟩) n cap]]:Array Value).size) undef).getD 1 undef=.agg #[.slice D1 d1 d2,.slice (some ⟨B,o,none⟩) n cap]:=by simp[Array.getD]
 generalize (#[zaU b,.agg #[.slice D1 d1 d2,.slice (some ⟨B,o,none⟩) n cap]]++Array.replicate (Try.f31.ntmps-(#[zaU b,.agg #[.slice D1 d1 d2,.slice (some ⟨B,o,none⟩) n cap]]:Array Value).size) undef)=m0 at hs0 h0 h1
 refine wp_seq (zCJ hs0 h1 _ fun a1 hd1 hs1 e0 e3 e4=>?_)
 obtain⟨m1,dd⟩:=a1;have hd1:dd=[]:=hd1
 subst hd1;have hs1:m1.size=80:=hs1
 have e0:m1.getD 0 undef=zaU b:=e0.trans h0
 have e3:m1.getD 3 undef=.pointer (some ⟨w.heap.size,0,none⟩):=e3
 have e4:m1.getD 4 undef=.pointer (some ⟨w.heap.size+1,0,none⟩):=e4
 -- the boxes
 have hea:=zav (p:=p) (w:=w) (.cells #[.slice D1 d1 d2,.slice (some ⟨B,o,none⟩) n cap] 26) 0 (fun _=>False)
 have heb:=zav (p:=upP p w.heap.size 0) (w:=w.alloc (.cells #[.slice D1 d1 d2,.slice (some ⟨B,o,none⟩) n cap] 26)) (.cells #[.slice none 0 0,.slice none 0 0] 26) 0 (fun _=>False)
 have hsz:(w.alloc (.cells #[.slice D1 d1 d2,.slice (some ⟨B,o,none⟩) n cap] 26)).heap.size=w.heap.size+1:=by simp
 have hsz2:((w.alloc (.cells #[.slice D1 d1 d2,.slice (some ⟨B,o,none⟩) n cap] 26)).alloc (.cells #[.slice none 0 0,.slice none 0 0] 26)).heap.size=w.heap.size+2:=by simp
 have x3:((w.alloc (.cells #[.slice D1 d1 d2,.slice (some ⟨B,o,none⟩) n cap] 26)).alloc (.cells #[.slice none 0 0,.slice none 0 0] 26)).heap[w.heap.size]?=some (.cells #[.slice D1 d1 d2,.slice (some ⟨B,o,none⟩) n cap] 26 (0,0)):=(Below.heap_alloc _ _ _ (by omega)).trans (heap_alloc_new _ _)
 have x4:((w.alloc (.cells #[.slice D1 d1 d2,.slice (some ⟨B,o,none⟩) n cap] 26)).alloc (.cells #[.slice none 0 0,.slice none 0 0] 26)).heap[w.heap.size+1]?=some (.cells #[.slice none 0 0,.slice none 0 0] 26 (0,0)):=by rw[←hsz];exact heap_alloc_new _ _
 have hE:=hea.trans heb (C:=fun _=>False) (fun _ _ h=>h) (fun _ _ h=>h)
 rw[hsz] at hE;have z3:(upP (upP p w.heap.size 0) (w.heap.size+1) 0).f w.heap.size=0:=by rw[za0,if_neg (by omega),za0,if_pos rfl]
 have z4:(upP (upP p w.heap.size 0) (w.heap.size+1) 0).f (w.heap.size+1)=0:=by rw[za0,if_pos rfl]
 have hz1:Zp (upP (upP p w.heap.size 0) (w.heap.size+1) 0) ((w.alloc (.cells #[.slice D1 d1 d2,.slice (some ⟨B,o,none⟩) n cap] 26)).alloc (.cells #[.slice none 0 0,.slice none 0 0] 26)):=⟨fun c hc=>by
  rw[za0,if_neg (by omega),za0,if_neg (by omega)]
  exact hF0.zp.1 c (by omega),fun _ _ _=>trivial⟩
 have hF1:=hF0.on (hE.weaken fun _ _ h=>h.elim) hz1 (hF0.tk.evo hE)
 have hD1:=hD0.evo hE
 have hb0:=hF0.tk.lt
 have n3b:w.heap.size≠b:=by omega
 have n4b:w.heap.size+1≠b:=by omega
 have n34:w.heap.size≠w.heap.size+1:=by omega
 have g0:w0.heap.size≤w.heap.size:=hF0.evo.size
 have g3:w0.heap.size≤w.heap.size:=g0
 have g4:w0.heap.size≤w.heap.size+1:=by omega
 generalize (w.alloc (.cells #[.slice D1 d1 d2,.slice (some ⟨B,o,none⟩) n cap] 26)).alloc (.cells #[.slice none 0 0,.slice none 0 0] 26)=w1 at *
 generalize upP (upP p w.heap.size 0) (w.heap.size+1) 0=p1 at *
 generalize w.heap.size+1=c4 at *
 generalize w.heap.size=c3 at *
 clear hea heb hE hz1 hsz hsz2 h0 h1 hs0 hF0 hD0 hb0
 -- the number of a function
 obtain⟨k,hk,hpk⟩:=zd8 hns (K:=n) (pos:=pos) (by omega) (by omega) hF1.zp hF1.tk
 refine wp_seq (zCy (B:=B) (o:=o) (n:=n) (cap:=cap) (post:=fun y w'=>y=k∧∃p',Evo (·=b) p1 w1 p' w'∧Zp p' w'∧TK p' w' (fun _=>False) b (Qr ns (pos+1))) (by omega) (zaj x3 rfl) (by rw[e0];exact hpk.mono fun e w' ⟨q1,q2⟩=>⟨k,q1,rfl,q2⟩) hs1 e3 _ ?_)
 rintro k w2 ⟨rfl,p2,hev2,hz2,ht2⟩ a2 hd2 hs2 f0 f3 f4 f5
 obtain⟨m2,dd⟩:=a2;have hd2:dd=[]:=hd2
 subst hd2;have hs2:m2.size=80:=hs2
 have e0:m2.getD 0 undef=zaU b:=f0.trans e0
 have e3:m2.getD 3 undef=.pointer (some ⟨c3,0,none⟩):=f3
 have e4:m2.getD 4 undef=.pointer (some ⟨c4,0,none⟩):=f4.trans e4
 have e5:m2.getD 5 undef=.int .i64 (k:Int):=f5
 have hF2:=hF1.on hev2 hz2 ht2
 have hD2:=hD1.evo hev2
 have x32:=(hev2.block c3 (zaD x3) n3b).trans x3
 have x42:=(hev2.block c4 (zaD x4) n4b).trans x4
 have z32:=(hev2.same c3 (zaD x3) n3b).trans z3
 have z42:=(hev2.same c4 (zaD x4) n4b).trans z4
 clear hF1 hD1 x3 x4 z3 z4 hev2 hz2 ht2 hpk hs1 f0 f3 f4 f5
 -- the function
 have hkR:k<R.length:=by omega
 obtain⟨_,_,_,_,_,_,_,f,hcc,hrr⟩:=zcU hF2.rep hF2.ne;have hgx:(zaC R).getD k []=pmC R[k]:=by simp[zaC,List.getD,hkR]
 have hok:=hbd _ (List.getElem_mem hkR)
 have hff:=ztT hR (List.getElem_mem hkR) hok.1
 obtain⟨hfe,hse⟩:=hok;generalize R[k]=X at *
 obtain⟨hffun,hpsl,hpi,hri⟩:=hff;have hget:∀(j:Nat) (c:AC),(pmC X)[j]?=some c→w2.cell? ⟨B,o+k*5+j,none⟩=some (f k j)∧Rep p2 w2 (f k j) c:=fun j c h=>⟨hcc k j c (by rw[hgx];exact h),hrr k j c (by rw[hgx];exact h)⟩
 obtain⟨b0,r0⟩:=hget 0 _ rfl;obtain⟨b1,r1⟩:=hget 1 _ rfl;obtain⟨b2,r2⟩:=hget 2 _ rfl;obtain⟨b3,r3⟩:=hget 3 _ rfl;obtain⟨b4,r4⟩:=hget 4 _ rfl;have q1:f k 1=.int .i64 X.r:=by
  generalize f k 1=v at r1
  cases r1;rfl
 have q2:f k 2=.int .i64 X.o:=by
  generalize f k 2=v at r2
  cases r2;rfl
 have q3:f k 3=.int .i64 X.n:=by
  generalize f k 3=v at r3
  cases r3;rfl
 obtain⟨A0,l0,k0,q0⟩:=zbd r0;obtain⟨A3,l3,k3,q4⟩:=zbd r4;rw[q0] at b0 r0;rw[q1] at b1;rw[q2] at b2;rw[q3] at b3;rw[q4] at b4 r4;refine wp_seq (zCi hk (by omega) (zaj x32 rfl) b0 b1 b2 b3 b4 hs2 e3 e5 _ fun a3 hd3 hs3 f0 f3 f4 f5 f6=>?_)
 obtain⟨m3,dd⟩:=a3;have hd3:dd=[]:=hd3
 subst hd3;have hs3:m3.size=80:=hs3
 replace e0:m3.getD 0 undef=zaU b:=f0.trans e0
 replace e3:m3.getD 3 undef=.pointer (some ⟨c3,0,none⟩):=f3
 replace e4:m3.getD 4 undef=.pointer (some ⟨c4,0,none⟩):=f4.trans e4
 replace e5:m3.getD 5 undef=.int .i64 (k:Int):=f5
 have e6:m3.getD 6 undef=.pointer (some ⟨w2.heap.size,0,none⟩):=f6
 have hea:=zav (p:=p2) (w:=w2) (.cells #[.slice A0 l0 k0,.int .i64 X.r,.int .i64 X.o,.int .i64 X.n,.slice A3 l3 k3] 35) 0 (fun _=>False)
 have x63:=heap_alloc_new w2 (.cells #[.slice A0 l0 k0,.int .i64 X.r,.int .i64 X.o,.int .i64 X.n,.slice A3 l3 k3] 35)
 have hz3:Zp (upP p2 w2.heap.size 0) (w2.alloc (.cells #[.slice A0 l0 k0,.int .i64 X.r,.int .i64 X.o,.int .i64 X.n,.slice A3 l3 k3] 35)):=⟨fun c hc=>by
  rw[za0];split
  ·rfl
  ·exact hF2.zp.1 c (by simp at hc;omega),fun _ _ _=>trivial⟩
 have hF3:=hF2.on (hea.weaken fun _ _ h=>h.elim) hz3 (hF2.tk.evo hea)
 have hD3:=hD2.evo hea
 have r03:=r0.evo hea
 have r43:=r4.evo hea
 have x33:=(hea.block c3 (zaD x32) (fun h=>h)).trans x32
 have x43:=(hea.block c4 (zaD x42) (fun h=>h)).trans x42
 have z33:=(hea.same c3 (zaD x32) (fun h=>h)).trans z32
 have z43:=(hea.same c4 (zaD x42) (fun h=>h)).trans z42
 have z63:(upP p2 w2.heap.size 0).f w2.heap.size=0:=by rw[za0,if_pos rfl]
 have n6b:w2.heap.size≠b:=by have:=hF2.tk.lt;omega
 have n36:c3≠w2.heap.size:=by have:=zaD x32;omega
 have n46:c4≠w2.heap.size:=by have:=zaD x42;omega
 generalize w2.alloc (.cells #[.slice A0 l0 k0,.int .i64 X.r,.int .i64 X.o,.int .i64 X.n,.slice A3 l3 k3] 35)=w3 at *
 generalize upP p2 w2.heap.size 0=p3 at *
 generalize w2.heap.size=c6 at *
 clear hF2 hD2 x32 x42 z32 z42 hea hz3 hcc hrr hget r0 r1 r2 r3 r4 b0 b1 b2 b3 b4 q0 q1 q2 q3 q4 hs2 f0 f3 f4 f5 f6
 -- the choice
 obtain⟨x,hx,hpk⟩:=zd8 hns (K:=24) (pos:=pos+1) (by omega) (by omega) hF3.zp hF3.tk
 refine wp_seq (wp_seq (zCS (post:=fun y w'=>y=x∧∃p',Evo (·=b) p3 w3 p' w'∧Zp p' w'∧TK p' w' (fun _=>False) b (Qr ns (pos+1+1))) (by rw[e0];exact hpk.mono fun e w' ⟨q1,q2⟩=>⟨x,q1,rfl,q2⟩) hs3 _ ?_))
 rintro x w4 ⟨rfl,p4,hev4,hz4,ht4⟩ a4 hd4 hs4 f0 f3 f4 f5 f6 f18
 obtain⟨m,dd⟩:=a4;have hd4:dd=[]:=hd4
 subst hd4;have hs:m.size=80:=hs4
 replace e0:m.getD 0 undef=zaU b:=f0.trans e0
 replace e3:m.getD 3 undef=.pointer (some ⟨c3,0,none⟩):=f3.trans e3
 replace e4:m.getD 4 undef=.pointer (some ⟨c4,0,none⟩):=f4.trans e4
 replace e5:m.getD 5 undef=.int .i64 (k:Int):=f5.trans e5
 replace e6:m.getD 6 undef=.pointer (some ⟨c6,0,none⟩):=f6.trans e6
 have e18:m.getD 18 undef=.int .i64 (x:Int):=f18
 have hF:=hF3.on hev4 hz4 ht4
 have hD:=hD3.evo hev4
 have hps:=r03.evo hev4
 have hkd:=r43.evo hev4
 have X3:=(hev4.block c3 (zaD x33) n3b).trans x33
 have X4:=(hev4.block c4 (zaD x43) n4b).trans x43
 have X6:=(hev4.block c6 (zaD x63) n6b).trans x63
 have Z3:=(hev4.same c3 (zaD x33) n3b).trans z33
 have Z4:=(hev4.same c4 (zaD x43) n4b).trans z43
 have Z6:=(hev4.same c6 (zaD x63) n6b).trans z63
 have hpB:=hF.pos
 have nB3:B≠c3:=fun e=>by rw[e] at hpB;omega
 have nB4:B≠c4:=fun e=>by rw[e] at hpB;omega
 have nB6:B≠c6:=fun e=>by rw[e] at hpB;omega
 clear hF3 hD3 r03 r43 x33 x43 x63 z33 z43 z63 hev4 hz4 ht4 hpk hs3 hs4 f0 f3 f4 f5 f6 f18
 -- the end
 have fin:∀{m':Array Value}{w':World}{p':Stb}{ds' fs':List (List AC)}{G1 G2:Option Addr}{a1 a2 a3 a4 q1:Nat}{T:TypeId},m'.size=80→m'.getD 3 undef=.pointer (some ⟨c3,0,none⟩)→m'.getD 4 undef=.pointer (some ⟨c4,0,none⟩)→w'.heap[c3]?=some (.cells #[.slice G1 a1 a2,.slice G2 a3 a4] T (0,0))→w'.heap[c4]?=some (.cells #[.slice none 0 0,.slice none 0 0] 26 (0,0))→p' c4=0 →
   Rep p' w' (.slice G1 a1 a2) (.sl 3 ds')→Rep p' w' (.slice G2 a3 a4) (.sl 5 fs')→(∀d∈ds',Fit .decl d)→(∀r∈fs',Fit .func r)→ds'.length≤10→fs'.length≤10→Evo Ow p0 w0 p' w'→Zp p' w'→TK p' w' (fun _=>False) b (Qr ns q1)→q1≤pos+5000 →
   (Code.seq P14 .ret).wp Try.prog (bodyPost Try.prog Try.f31 fun e w'=>(∃v p' ds' fs' pos',e=.returned v∧RepS p' w' v (.agg [.sl 3 ds',.sl 5 fs'])∧Fit .prog [.sl 3 ds',.sl 5 fs']∧ds'.length≤10∧fs'.length≤10∧Evo Ow p0 w0 p' w'∧Zp p' w'∧TK p' w' (fun _=>False) b (Qr ns pos')∧pos'≤pos+5000)) {tmps:=m',defers:=[]} w':=by
  intro m' w' p' ds' fs' G1 G2 a1 a2 a3 a4 q1 T y1 y2 y3 y4 y5 y6 y7 y8 y9 y10 y11 y12 y13 y14 y15 y16;refine zBU (zaj y4 rfl) (zaj y4 rfl) ⟨_,y5⟩ y1 y2 y3 _ fun a' hd hres=>?_
  have ev1:Evo (·=c4) p' w' p' (w'.setCell ⟨c4,0,none⟩ (.slice G1 a1 a2)):=zbw y6 (by simp[World.setCell]) (fun y hy=>heap_setCell_other _ _ _ _ hy) rfl rfl rfl
  have ev2:Evo (·=c4) p' (w'.setCell ⟨c4,0,none⟩ (.slice G1 a1 a2)) p' ((w'.setCell ⟨c4,0,none⟩ (.slice G1 a1 a2)).setCell ⟨c4,1,none⟩ (.slice G2 a3 a4)):=zbw y6 (by simp[World.setCell]) (fun y hy=>heap_setCell_other _ _ _ _ hy) rfl rfl rfl
  have ev:=ev1.trans ev2 (C:=(·=c4)) (fun _ _ e=>e) (fun _ _ e=>e)
  exact⟨hd,_,hres,_,p',ds',fs',q1,rfl,⟨_,rfl,y7.evo ev,y8.evo ev,trivial⟩,.prog _ _ (by unfold za9;omega) (by unfold za9;omega) y9 y10,y11,y12,y13.trans ev (fun _ _ e=>e) (fun c hc e=>absurd hc (by have:c=c4:=e;omega)),⟨fun c hc=>y14.1 c (Nat.le_trans ev.size hc),fun _ _ _=>trivial⟩,((y15.own (Own':=(·=c4)) (fun e=>n4b e.symm)).evo ev).own (fun h=>h),y16⟩
 have hfs:∀{q1:Nat}{p':Stb}{w':World}{fs:List (List AC)},FP Ow p0 w0 b B o n cap fs (Qr ns q1) p' w'→fs.length≤4:=fun h=>by have:=h.len;omega
 have rowfin:∀{m':Array Value}{w':World}{p':Stb}{q1:Nat}{v0 v1 v2 v3 v4:Value}{a0 a1 a2 a3 a4:AC},m'.size=80→m'.getD 3 undef=.pointer (some ⟨c3,0,none⟩)→m'.getD 4 undef=.pointer (some ⟨c4,0,none⟩)→Evo (·=b) p4 w4 p' w'→Zp p' w'→TK p' w' (fun _=>False) b (Qr ns q1)→q1≤pos+5000→RepL p' w' [v0,v1,v2,v3,v4] [a0,a1,a2,a3,a4]→apL 5 [a0,a1,a2,a3,a4]=true→Fit .func [a0,a1,a2,a3,a4] →
   (Code.seq P14 .ret).wp Try.prog (bodyPost Try.prog Try.f31 fun e w'=>(∃v p' ds' fs' pos',e=.returned v∧RepS p' w' v (.agg [.sl 3 ds',.sl 5 fs'])∧Fit .prog [.sl 3 ds',.sl 5 fs']∧ds'.length≤10∧fs'.length≤10∧Evo Ow p0 w0 p' w'∧Zp p' w'∧TK p' w' (fun _=>False) b (Qr ns pos')∧pos'≤pos+5000)) {tmps:=m',defers:=[]} (zfb w' B (o+k*5) v0 v1 v2 v3 v4):=by
  intro m' w' p' q1 v0 v1 v2 v3 v4 a0 a1 a2 a3 a4 y1 y2 y3 y4 y5 y6 y7 y8 y9 y10;have hF':=hF.on y4 y5 y6
  obtain⟨hF2,hlow⟩:=hF'.put hk y8 y9 y10;have Y3:=(y4.block c3 (zaD X3) n3b).trans X3
  have Y4:=(y4.block c4 (zaD X4) n4b).trans X4
  have V4:=(y4.same c4 (zaD X4) n4b).trans Z4
  exact fin y1 y2 y3 ((zbM (fun e=>nB3 e.symm)).trans Y3) ((zbM (fun e=>nB4 e.symm)).trans Y4) V4 (hlow _ _ (hD.evo y4) hda) hF2.rep hds hF2.fit hdl (by have:=hfs hF2;omega) hF2.evo hF2.zp hF2.tk y7
 have heldC:∀{w':World}{p':Stb},Evo (·=b) p4 w4 p' w'→w'.cell? ⟨c3,1,none⟩=some (.slice (some ⟨B,o,none⟩) n cap)∧w'.cell? ⟨c6,0,none⟩=some (.slice A0 l0 k0)∧w'.cell? ⟨c6,1,none⟩=some (.int .i64 X.r)∧w'.cell? ⟨c6,2,none⟩=some (.int .i64 X.o)∧w'.cell? ⟨c6,3,none⟩=some (.int .i64 X.n)∧w'.cell? ⟨c6,4,none⟩=some (.slice A3 l3 k3):=fun h=>by
  have Y3:=(h.block c3 (zaD X3) n3b).trans X3
  have Y6:=(h.block c6 (zaD X6) n6b).trans X6
  exact⟨zaj Y3 rfl,zaj Y6 rfl,zaj Y6 rfl,zaj Y6 rfl,zaj Y6 rfl,zaj Y6 rfl⟩
 have hr4:Evo (·=b) p4 w4 p4 w4:=Evo.refl _ _ _
 have l3lt:=zaD X3
 have l6lt:=zaD X6
 refine wp_block ?_
 refine wp_seq (zCW hs e18 _ fun a4 hd4 hs4 f0 f3 f4 f5 f6 f18 f19=>?_)
 clear hs;obtain⟨m0,dd⟩:=a4;have hd4:dd=[]:=hd4
 subst hd4;have hs:m0.size=80:=hs4
 replace e0:m0.getD 0 undef=zaU b:=f0.trans e0
 replace e3:m0.getD 3 undef=.pointer (some ⟨c3,0,none⟩):=f3.trans e3
 replace e4:m0.getD 4 undef=.pointer (some ⟨c4,0,none⟩):=f4.trans e4
 replace e5:m0.getD 5 undef=.int .i64 (k:Int):=f5.trans e5
 replace e6:m0.getD 6 undef=.pointer (some ⟨c6,0,none⟩):=f6.trans e6
 replace e18:m0.getD 18 undef=.int .i64 (x:Int):=f18
 refine wp_cond (t:=((x:Int)==0)) f19 ?_
 clear hs4 f0 f3 f4 f5 f6 f18 f19;by_cases hx0:x=0
 ·rw[show((x:Int)==0)=true from beq_iff_eq.2 (by omega)]
  simp only[if_true];have hdr:Evo (·=b) p4 w4 p4 w4.drew:=(Evo.refl _ _ _).drew
  have hbend:=zs5 hns 900 (by omega) (p0:=p4) (w0:=w4.drew) (b:=b) (e0:=X.o) (e1:=X.n) hfe hse (pos:=pos+1+1) (by omega) hF.zp (hF.tk.evo ((Evo.refl _ _ _).drew)) (hkd.evo hdr)
  refine zCj (B:=B) (o:=o) (n:=n) (cap:=cap) (k:=k) (post:=fun x0 x1 A4 l4 k4 w'=>∃p' kids' q1,Evo (·=b) p4 w4 p' w'∧Zp p' w'∧TK p' w' (fun _=>False) b (Qr ns q1)∧q1≤pos+5000∧Rep p' w' (.slice A4 l4 k4) (.sl 3 kids')∧Fit .expr [.int x0,.int x1,.sl 3 kids']) hk (by omega) nB3 nB6 l3lt l6lt (heldC hr4) ?_ hs e3 e5 e6 _ ?_
  ·rw[e0]
   refine hbend.mono ?_
   rintro e w' ⟨v,p',o1,n1,kids1,pos',rfl,hsr,hf1,hs1,hev1,hz1,ht1,hp1⟩
   obtain⟨arr,rfl,hla⟩:∃arr,v=.agg arr∧RepL p' w' arr.toList [.int o1,.int n1,.sl 3 kids1]:=hsr;obtain⟨ls⟩:=arr
   match ls,hla with
   | [x0,x1,x2],⟨t0,t1,t2,_⟩ =>
   cases t0;cases t1;obtain⟨A4,l4,k4,rfl⟩:=zbd t2;have hE:=hdr.trans hev1 (C:=(·=b)) (fun _ _ e=>e) (fun _ _ e=>e)
   exact⟨_,_,_,_,_,rfl,⟨p',kids1,pos',hE,hz1,ht1,by omega,t2,hf1⟩,(heldC hE).1,(heldC hE).2.1,(heldC hE).2.2.1,(heldC hE).2.2.2.1,(heldC hE).2.2.2.2.1,(heldC hE).2.2.2.2.2,(hF.on hE hz1 ht1).row hk⟩
  rintro x0 x1 A4 l4 k4 w' ⟨p',kids',q1,hE,hz1,ht1,hq,t2,hf1⟩ a' hd hs' f0 f3 f4
  obtain⟨m',dd⟩:=a';have hd:dd=[]:=hd
  subst hd;refine rowfin hs' f3 (f4.trans e4) hE hz1 ht1 hq (v0:=.slice A0 l0 k0) ⟨hps.evo hE,.int _,.int _,.int _,t2,trivial⟩ (zrF (x:=⟨X.ps,X.r,x0,x1,kids'⟩) hf1) ?_
  exact .func _ _ _ _ _ hpi hri hf1
 rw[show((x:Int)==0)=false from beq_eq_false_iff_ne.2 (by omega)]
 simp only[Bool.false_eq_true,if_false];refine wp_seq (zCL hs e18 _ fun a4 hd4 hs4 f0 f3 f4 f5 f6 f18 f19=>?_)
 clear hs;obtain⟨m1,dd⟩:=a4;have hd4:dd=[]:=hd4
 subst hd4;have hs:m1.size=80:=hs4
 replace e0:m1.getD 0 undef=zaU b:=f0.trans e0
 replace e3:m1.getD 3 undef=.pointer (some ⟨c3,0,none⟩):=f3.trans e3
 replace e4:m1.getD 4 undef=.pointer (some ⟨c4,0,none⟩):=f4.trans e4
 replace e5:m1.getD 5 undef=.int .i64 (k:Int):=f5.trans e5
 replace e6:m1.getD 6 undef=.pointer (some ⟨c6,0,none⟩):=f6.trans e6
 replace e18:m1.getD 18 undef=.int .i64 (x:Int):=f18
 refine wp_cond (t:=((x:Int)==1)) f19 ?_
 clear hs4 f0 f3 f4 f5 f6 f18 f19;by_cases hx1:x=1
 ·rw[show((x:Int)==1)=true from beq_iff_eq.2 (by omega)]
  simp only[if_true];obtain⟨y,hy,ho1⟩:=zf4 hns (pos:=pos+1+1) (by omega) 3 (xs:=[0,1,9,-1]) (by simp) (by simp) hF.zp hF.tk
  refine zCo (B:=B) (o:=o) (n:=n) (cap:=cap) (k:=k) (post:=fun A4 l4 k4 w'=>∃p' y,(-10≤y∧y≤10)∧Evo (·=b) p4 w4 p' w'∧Zp p' w'∧TK p' w' (fun _=>False) b (Qr ns (pos+3))∧Rep p' w' (.slice A4 l4 k4) (.sl 1 (zab (X.ps++[y])))) hk (by omega) nB3 nB6 l3lt l6lt (heldC hr4) ?_ hs e3 e5 e6 _ ?_
  ·rw[e0]
   refine Calls.mono (ho1 _ (.inr rfl)) ?_
   rintro e w5 ⟨rfl,p5,hev5,hz5,ht5⟩
   have ea:=zav (p:=p5) (w:=w5) (.cells #[.int .i64 y] 3) 1 (fun _=>False) 1
   have hr1:=zmE (p:=p5) (w:=w5) 3 [y]
   have hz6:Zp (upP p5 w5.heap.size 1 1) (w5.alloc (.cells #[.int .i64 y] 3)):=⟨fun c hc=>by
    simp at hc
    rw[za0,if_neg (by omega)]
    exact hz5.1 c (by omega),fun _ _ _=>trivial⟩
   have hcall:=znH (P:=Try.prog) (L:=lay) zdI zeY zso zss (zkH X.ps [y] (by simp;omega)) (by kernel_rfl) (p:=upP p5 w5.heap.size 1 1) (w:=w5.alloc (.cells #[.int .i64 y] 3)) (vals:=[.slice A0 l0 k0,.slice (some ⟨w5.heap.size,0,none⟩) 1 1]) ⟨(hps.evo hev5).evo ea,hr1,trivial⟩ hz6
   refine⟨y,rfl,Nat.lt_of_lt_of_le l3lt hev5.size,Nat.lt_of_lt_of_le l6lt hev5.size,(heldC hev5).1,(heldC hev5).2.1,(heldC hev5).2.2.1,(heldC hev5).2.2.2.1,(heldC hev5).2.2.2.2.1,(heldC hev5).2.2.2.2.2,Calls.mono hcall ?_⟩
   rintro e w' ⟨v,rfl,_,p',hsr,hev',hz',_⟩
   have hsr:Rep p' w' v (.sl 1 (zab (X.ps++[y]))):=hsr
   obtain⟨A4,l4,k4,rfl⟩:=zbd hsr;have hE:=(hev5.trans ea (C:=(·=b)) (fun _ _ e=>e) (fun _ _ e=>e.elim)).trans hev' (C:=(·=b)) (fun _ _ e=>e) (fun _ _ e=>e.elim)
   have ht':=(ht5.evo ea).evo hev'
   simp only[List.mem_cons,List.not_mem_nil,or_false] at hy;exact⟨_,_,_,rfl,⟨p',y,by omega,hE,hz',ht',hsr⟩,(heldC hE).1,(heldC hE).2.1,(heldC hE).2.2.1,(heldC hE).2.2.2.1,(heldC hE).2.2.2.2.1,(heldC hE).2.2.2.2.2,(hF.on hE hz' ht').row hk⟩
  rintro A4 l4 k4 w' ⟨p',y,hy,hE,hz1,ht1,hr1⟩ a' hd hs' f0 f3 f4
  obtain⟨m',dd⟩:=a';have hd:dd=[]:=hd
  subst hd;refine rowfin hs' f3 (f4.trans e4) hE hz1 ht1 (by omega) (v0:=.slice A4 l4 k4) ⟨hr1,.int _,.int _,.int _,hkd.evo hE,trivial⟩ (zrF (x:=⟨X.ps++[y],X.r,X.o,X.n,X.kids⟩) hfe) ?_
  exact .func _ _ _ _ _ ⟨by rw[List.length_append];unfold za9;simp;omega,fun z hz=>by
    rcases List.mem_append.1 hz with h|h
    ·exact hpi.all z h
    ·obtain rfl:=List.mem_singleton.1 h
     unfold inI;omega⟩ hri hfe
 rw[show((x:Int)==1)=false from beq_eq_false_iff_ne.2 (by omega)]
 simp only[Bool.false_eq_true,if_false];refine wp_seq (zC7 hs e18 _ fun a4 hd4 hs4 f0 f3 f4 f5 f6 f18 f19=>?_)
 clear hs;obtain⟨m2,dd⟩:=a4;have hd4:dd=[]:=hd4
 subst hd4;have hs:m2.size=80:=hs4
 replace e0:m2.getD 0 undef=zaU b:=f0.trans e0
 replace e3:m2.getD 3 undef=.pointer (some ⟨c3,0,none⟩):=f3.trans e3
 replace e4:m2.getD 4 undef=.pointer (some ⟨c4,0,none⟩):=f4.trans e4
 replace e5:m2.getD 5 undef=.int .i64 (k:Int):=f5.trans e5
 replace e6:m2.getD 6 undef=.pointer (some ⟨c6,0,none⟩):=f6.trans e6
 replace e18:m2.getD 18 undef=.int .i64 (x:Int):=f18
 refine wp_cond (t:=((x:Int)==2)) f19 ?_
 clear hs4 f0 f3 f4 f5 f6 f18 f19;by_cases hx2:x=2
 ·rw[show((x:Int)==2)=true from beq_iff_eq.2 (by omega)]
  simp only[if_true];obtain⟨y,hy,ho1⟩:=zf4 hns (pos:=pos+1+1) (by omega) 3 (xs:=[0,1,3,5,-1]) (by simp) (by simp) hF.zp hF.tk
  refine zCI (B:=B) (o:=o) (n:=n) (cap:=cap) (k:=k) (post:=fun y w'=>(-10≤y∧y≤10)∧∃p',Evo (·=b) p4 w4 p' w'∧Zp p' w'∧TK p' w' (fun _=>False) b (Qr ns (pos+3))) hk (by omega) nB3 nB6 l3lt l6lt (heldC hr4) ?_ hs e3 e5 e6 _ ?_
  ·rw[e0]
   refine Calls.mono (ho1 _ (.inr rfl)) ?_
   rintro e w5 ⟨rfl,p5,hev5,hz5,ht5⟩
   simp only[List.mem_cons,List.not_mem_nil,or_false] at hy;exact⟨y,rfl,⟨by omega,p5,hev5,hz5,ht5⟩,(heldC hev5).1,(heldC hev5).2.1,(heldC hev5).2.2.1,(heldC hev5).2.2.2.1,(heldC hev5).2.2.2.2.1,(heldC hev5).2.2.2.2.2,(hF.on hev5 hz5 ht5).row hk⟩
  rintro y w' ⟨hy,p',hE,hz1,ht1⟩ a' hd hs' f0 f3 f4
  obtain⟨m',dd⟩:=a';have hd:dd=[]:=hd
  subst hd;refine rowfin hs' f3 (f4.trans e4) hE hz1 ht1 (by omega) (v0:=.slice A0 l0 k0) ⟨hps.evo hE,.int _,.int _,.int _,hkd.evo hE,trivial⟩ (zrF (x:=⟨X.ps,y,X.o,X.n,X.kids⟩) hfe) ?_
  exact .func _ _ _ _ _ hpi (by unfold inI;omega) hfe
 rw[show((x:Int)==2)=false from beq_eq_false_iff_ne.2 (by omega)]
 simp only[Bool.false_eq_true,if_false];refine wp_seq (zBC hs e18 _ fun a4 hd4 hs4 f0 f3 f4 f5 f6 f18 f19=>?_)
 clear hs;obtain⟨m3,dd⟩:=a4;have hd4:dd=[]:=hd4
 subst hd4;have hs:m3.size=80:=hs4
 replace e0:m3.getD 0 undef=zaU b:=f0.trans e0
 replace e3:m3.getD 3 undef=.pointer (some ⟨c3,0,none⟩):=f3.trans e3
 replace e4:m3.getD 4 undef=.pointer (some ⟨c4,0,none⟩):=f4.trans e4
 replace e5:m3.getD 5 undef=.int .i64 (k:Int):=f5.trans e5
 replace e6:m3.getD 6 undef=.pointer (some ⟨c6,0,none⟩):=f6.trans e6
 replace e18:m3.getD 18 undef=.int .i64 (x:Int):=f18
 refine wp_cond (t:=((x:Int)==3)) f19 ?_
 clear hs4 f0 f3 f4 f5 f6 f18 f19;by_cases hx3:x=3
 ·rw[show((x:Int)==3)=true from beq_iff_eq.2 (by omega)]
  simp only[if_true];have had:=zsy hns (p0:=p4) (w0:=w4) (b:=b) (pos:=pos+1+1) (by omega) hF.zp hF.tk
  refine zCc (c3:=c3) (post:=fun G1 a1 a2 w'=>∃p' ds' q1,Evo (·=b) p4 w4 p' w'∧Zp p' w'∧TK p' w' (fun _=>False) b (Qr ns q1)∧q1≤pos+5000∧Rep p' w' (.slice G1 a1 a2) (.sl 3 ds')∧(∀d∈ds',Fit .decl d)∧ds'.length≤6) ?_ hs e3 _ ?_
  ·rw[e0]
   refine had.mono ?_
   rintro e w' ⟨A,nn,cc,p',ds',q1,rfl,hr1,hf1,hl1,hev1,hz1,ht1,hq⟩
   exact⟨_,_,_,rfl,⟨p',ds',q1,hev1,hz1,ht1,by omega,hr1,hf1,hl1⟩,_,_,_,(hev1.block c3 (zaD X3) n3b).trans X3⟩
  rintro G1 a1 a2 w' ⟨p',ds',q1,hE,hz1,ht1,hq,hr1,hf1,hl1⟩ a' hd hs' f0 f3 f4
  obtain⟨m',dd⟩:=a';have hd:dd=[]:=hd
  subst hd;have hF':=hF.on hE hz1 ht1
  have Y3:=(hE.block c3 (zaD X3) n3b).trans X3
  have Y4:=(hE.block c4 (zaD X4) n4b).trans X4
  have V3:=(hE.same c3 (zaD X3) n3b).trans Z3
  have V4:=(hE.same c4 (zaD X4) n4b).trans Z4
  have ev:Evo (·=c3) p' w' p' (w'.setCell ⟨c3,0,none⟩ (.slice G1 a1 a2)):=zbw V3 (by simp[World.setCell]) (fun y hy=>heap_setCell_other _ _ _ _ hy) rfl rfl rfl
  exact fin hs' f3 (f4.trans e4) (heap_setCell_same _ _ _ _ _ _ Y3) ((heap_setCell_other _ _ _ _ (fun e=>n34 e.symm)).trans Y4) V4 (hr1.evo ev) (hF'.rep.evo ev) hf1 hF'.fit (by omega) (by have:=hfs hF';omega) (hF'.evo.trans ev (fun _ _ e=>e) (fun c hc e=>absurd hc (by have:c=c3:=e;omega))) ⟨fun c hc=>hz1.1 c (Nat.le_trans ev.size hc),fun _ _ _=>trivial⟩ (((ht1.own (Own':=(·=c3)) (fun e=>n3b e.symm)).evo ev).own (fun h=>h)) hq
 rw[show((x:Int)==3)=false from beq_eq_false_iff_ne.2 (by omega)]
 simp only[Bool.false_eq_true,if_false];refine wp_seq (zBH hs e18 _ fun a4 hd4 hs4 f0 f3 f4 f5 f6 f18 f19=>?_)
 clear hs;obtain⟨m4,dd⟩:=a4;have hd4:dd=[]:=hd4
 subst hd4;have hs:m4.size=80:=hs4
 replace e0:m4.getD 0 undef=zaU b:=f0.trans e0
 replace e3:m4.getD 3 undef=.pointer (some ⟨c3,0,none⟩):=f3.trans e3
 replace e4:m4.getD 4 undef=.pointer (some ⟨c4,0,none⟩):=f4.trans e4
 replace e5:m4.getD 5 undef=.int .i64 (k:Int):=f5.trans e5
 replace e6:m4.getD 6 undef=.pointer (some ⟨c6,0,none⟩):=f6.trans e6
 replace e18:m4.getD 18 undef=.int .i64 (x:Int):=f18
 refine wp_cond (t:=((x:Int)==4)) f19 ?_
 clear hs4 f0 f3 f4 f5 f6 f18 f19;by_cases hx4:x=4
 ·rw[show((x:Int)==4)=true from beq_iff_eq.2 (by omega)]
  simp only[if_true];have ea:=zav (p:=p4) (w:=w4) (.cells #[.slice A0 l0 k0,.int .i64 X.r,.int .i64 X.o,.int .i64 X.n,.slice A3 l3 k3] 35) 5 (fun _=>False) 5
  have hr1:=zw0 (p:=p4) (w:=w4) 35 (x0:=.slice A0 l0 k0) (x1:=.int .i64 X.r) (x2:=.int .i64 X.o) (x3:=.int .i64 X.n) (x4:=.slice A3 l3 k3) (c0:=.sl 1 (zab X.ps)) (c1:=.int X.r) (c2:=.int X.o) (c3:=.int X.n) (c4:=.sl 3 X.kids) ⟨hps,.int _,.int _,.int _,hkd,trivial⟩
  have hz5:Zp (upP p4 w4.heap.size 5 5) (w4.alloc (.cells #[.slice A0 l0 k0,.int .i64 X.r,.int .i64 X.o,.int .i64 X.n,.slice A3 l3 k3] 35)):=⟨fun c hc=>by
   simp at hc
   rw[za0,if_neg (by omega)]
   exact hF.zp.1 c (by omega),fun _ _ _=>trivial⟩
  have hF5:=hF.on (ea.weaken fun _ _ h=>h.elim) hz5 (hF.tk.evo ea)
  have hBlt:=hF.ltB
  obtain⟨G,g1,g2,w6,p6,hrun,hr6,hev6,hz6,ht6,hlow,hkeep⟩:=hF5.app hr1 (by simp) (by omega) (fun r hr=>by
   obtain rfl:=List.mem_singleton.1 hr;exact zrF (x:=X) hfe) (by rw[hpl];simp;omega)
  have s5:(w4.alloc (.cells #[.slice A0 l0 k0,.int .i64 X.r,.int .i64 X.o,.int .i64 X.n,.slice A3 l3 k3] 35)).heap.size=w4.heap.size+1:=by simp
  have k3':=hkeep c3 (by omega) (fun e=>nB3 e.symm)
  have k4':=hkeep c4 (by have:=zaD X4;omega) (fun e=>nB4 e.symm)
  have Y3:=k3'.1.trans ((ea.block c3 (zaD X3) (fun h=>h)).trans X3)
  have Y4:=k4'.1.trans ((ea.block c4 (zaD X4) (fun h=>h)).trans X4)
  have V3:=k3'.2.trans ((ea.same c3 (zaD X3) (fun h=>h)).trans Z3)
  have V4:=k4'.2.trans ((ea.same c4 (zaD X4) (fun h=>h)).trans Z4)
  have hD6:=hlow _ _ (hD.evo ea) hda
  refine zBq (B:=B) (o:=o) (n:=n) (cap:=cap) (post:=fun G g1 g2 w'=>∃p',Rep p' w' (.slice G g1 g2) (.sl 5 (zaC R++[[.sl 1 (zab X.ps),.int X.r,.int X.o,.int X.n,.sl 3 X.kids]]))∧Evo Ow p0 w0 p' w'∧Zp p' w'∧TK p' w' (fun _=>False) b (Qr ns (pos+1+1))∧Rep p' w' (.slice D1 d1 d2) (.sl 3 ds)∧w'.heap[c3]?=some (.cells #[.slice D1 d1 d2,.slice (some ⟨B,o,none⟩) n cap] 26 (0,0))∧w'.heap[c4]?=some (.cells #[.slice none 0 0,.slice none 0 0] 26 (0,0))∧p' c3=0∧p' c4=0) l3lt (heldC hr4) ⟨G,g1,g2,w6,hrun,⟨p6,hr6,hev6,hz6,ht6,hD6,Y3,Y4,V3,V4⟩,_,_,_,Y3⟩ hs e3 e6 _ ?_
  rintro G g1 g2 w6 ⟨p6,hr6,hev6,hz6,ht6,hD6,Y3,Y4,V3,V4⟩ a' hd hs' f0 f3 f4
  obtain⟨m',dd⟩:=a';have hd:dd=[]:=hd
  subst hd;have ev:Evo (·=c3) p6 w6 p6 (w6.setCell ⟨c3,1,none⟩ (.slice G g1 g2)):=zbw V3 (by simp[World.setCell]) (fun y hy=>heap_setCell_other _ _ _ _ hy) rfl rfl rfl
  refine fin hs' f3 (f4.trans e4) (heap_setCell_same _ _ _ _ _ _ Y3) ((heap_setCell_other _ _ _ _ (fun e=>n34 e.symm)).trans Y4) V4 (hD6.evo ev) (hr6.evo ev) hds (fun r hr=>?_) hdl (by simp[hpl];omega) (hev6.trans ev (fun _ _ e=>e) (fun c hc e=>absurd hc (by have:c=c3:=e;omega))) ⟨fun c hc=>hz6.1 c (Nat.le_trans ev.size hc),fun _ _ _=>trivial⟩ (((ht6.own (Own':=(·=c3)) (fun e=>n3b e.symm)).evo ev).own (fun h=>h)) (by omega)
  rcases List.mem_append.1 hr with h|h
  ·exact hF.fit r h
  ·obtain rfl:=List.mem_singleton.1 h
   exact hffun
 rw[show((x:Int)==4)=false from beq_eq_false_iff_ne.2 (by omega)]
 simp only[Bool.false_eq_true,if_false];refine wp_skip ?_
 exact fin hs e3 e4 X3 X4 Z4 hD hF.rep hds hF.fit hdl (by have:=hfs hF;omega) hF.evo hF.zp hF.tk (by omega)
end
end
end Go.Proofs.Ytcpcagdialnbeaa
