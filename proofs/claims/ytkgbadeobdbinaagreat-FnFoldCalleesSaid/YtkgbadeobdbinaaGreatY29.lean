/- Generic texts and models for the proofs of this seat: part 29. -/
import Derived.Test.YtkgbadeobdbinaaGreatY28
import Derived.WalkKit
import Derived.Deep.AppendLies
set_option linter.unusedVariables false
set_option linter.unusedSimpArgs false
namespace Go.Proofs.YtkgbadeobdbinaaGreat
section
open Go Go.RowKit
theorem heap_alloc_new (w:World) (o:Obj):(w.alloc o).heap[w.heap.size]?=some o:=by
 have:(w.alloc o).heap=w.heap.push o:=rfl
 rw[this];simp
theorem zaD {w:World}{c j:Nat}{a:Array Value}{T:TypeId}{v:Value} (h:w.heap[c]?=some (.cells a T (0,0))) (hj:a[j]?=some v):w.cell? ⟨c,j,none⟩=some v:=by simp[World.cell?,h,hj]
theorem zb5 {p:Stb}{w:World}{v:Value}{k:Nat}{rows:List (List AC)} (h:Rep p w v (.sl k rows)):∃a l c,v=.slice a l c:=by
 generalize hc:AC.sl k rows=c at h
 cases h with
 | int n=>cases hc
 | bool b=>cases hc
 | nil a k=>exact⟨_,_,_,rfl⟩
 | sl=>exact⟨_,_,_,rfl⟩
def zxF (x:PM):Prop:=Fit .expr [.int x.o,.int x.n,.sl 3 x.kids]∧1+x.kids.length+rsS x.kids≤900
structure LP (ns:List Nat) (pos0:Nat) (w0:World) (p0:Stb) (b:Nat) (N:Nat) (k:Nat) (m:Array Value) (w:World):Prop where
 ex:∃c2 c3 B o cap D R pos p,GP w0 p0 b c2 c3 B o cap D R (Qr ns pos) p w m∧R.length=N∧pos+k*13000≤pos0+N*13000∧∀j,k≤j→j<N→zxF (gP R j)
section
variable {ns:List Nat} (hns:ns.length≤2000) {w0:World}{p0:Stb}{b:Nat}
include hns
theorem zB2 {pos0 N k:Nat} (hpos:pos0+100000≤800000) (hN:N≤4) (hk:k<N) {m:Array Value}{w:World} (h:LP ns pos0 w0 p0 b N (k+1) m w) (h8:m.getD 8 undef=.int .i64 (k:Int)) (Q:Exit→Act→World→Prop)
  (hQ:∀a' w',a'.defers=[]→a'.tmps.getD 8 undef=.int .i64 (k:Int)→LP ns pos0 w0 p0 b N k a'.tmps w'→Q .normal a' w') :
  (Code.seq R11 R12).wp Tryz.prog Q {tmps:=m,defers:=[]} w:=by
 obtain⟨c2,c3,B,o,cap,D,R,pos,p,g,hRN,hps,hok⟩:=h.ex;obtain⟨D1,d1,d2,hc0,hc1,hD⟩:=g.cells3;have hkR:k<R.length:=by omega
 obtain⟨e0,e1,kids,pos',hb,hp1,hfit,hsz⟩:=zB0 hns g.hD g.hR hkR (p:=pos) (by omega)
 have hcall:=(tok 85 (by kernel_rfl)).2 (Qr ns pos) [pgC D R,.cell (.int (k:Int))] _ hb
 refine wp_seq (zFA (post:=fun e0' e1' A3 l3 k3 w'=>e0'=e0∧e1'=e1∧∃p',Rep p' w' (.slice A3 l3 k3) (.sl 3 kids)∧Evo (·=b) p w p' w'∧Zp p' w'∧TK p' w' (fun _=>False) b (Qr ns pos')) hc0 hc1 ?_ g.size g.m3 h8 _ ?_)
 ·rw[g.m0]
  refine(hcall.2 p w b [.agg #[.slice D1 d1 d2,.slice (some ⟨B,o,none⟩) R.length cap],.int .i64 (k:Int)] ⟨⟨_,rfl,hD,g.rep,trivial⟩,.int _,trivial⟩ g.zp g.tk).mono ?_
  rintro e w' ⟨v,rfl,p',hsr,_,_,hev,hz,ht,_⟩
  obtain⟨arr,rfl,hl⟩:∃arr,v=.agg arr∧RepL p' w' arr.toList [.int e0,.int e1,.sl 3 kids]:=hsr;obtain⟨l⟩:=arr
  match l,hl with
  | [x0,x1,x2],⟨r0,r1,r2,_⟩ =>
   cases r0;cases r1;obtain⟨A3,l3,k3,rfl⟩:∃A3 l3 k3,x2=.slice A3 l3 k3:=by
    cases r2 with
    | nil a=>exact⟨_,_,_,rfl⟩
    | sl=>exact⟨_,_,_,rfl⟩
   exact⟨_,_,_,_,_,rfl,rfl,rfl,p',r2,hev,hz,ht⟩
 ·rintro e0' e1' A3 l3 k3 w' ⟨rfl,rfl,p',hkids,hev,hz,ht⟩ a1 hd1 hs1 hm0 hm2 hm3 hm8 hm9
  -- behind the call
  have g1:=g.on hev hz ht
  have hea:=zbi (p:=p') (w:=w') (.cells #[.int .i64 e0',.int .i64 e1',.slice A3 l3 k3] 35) 0 (·=b)
  have hz1:Zp (upP p' w'.heap.size 0) (w'.alloc (.cells #[.int .i64 e0',.int .i64 e1',.slice A3 l3 k3] 35)):=⟨fun c hc=>by
   rw[zb9];split
   ·rfl
   ·exact hz.1 c (by simp at hc;omega),fun _ _ _=>trivial⟩
  have g2:=(g1.on hea hz1 (ht.evo (zbi _ 0 _))).slots hs1 hm0 hm2 hm3
  have hkids2:=hkids.evo hea
  have hn9:(w'.alloc (.cells #[.int .i64 e0',.int .i64 e1',.slice A3 l3 k3] 35)).heap[w'.heap.size]?=some (.cells #[.int .i64 e0',.int .i64 e1',.slice A3 l3 k3] 35):=heap_alloc_new _ _
  generalize hW:w'.alloc (.cells #[.int .i64 e0',.int .i64 e1',.slice A3 l3 k3] 35)=W at *
  generalize upP p' w'.heap.size 0=P2 at *
  obtain⟨E1,E2,E3,hE0,hE1,_⟩:=g2.cells3;obtain⟨aB,TB,hB,hsB,_⟩:=g2.xB;obtain⟨_,_,_,_,_,_,_,f,hcc,hrr⟩:=zew g2.rep (by
   intro e;have h0:(zao R).length=0:=by rw[e];rfl
   rw[zao,List.length_map] at h0;omega)
  have hrow:(zao R).getD k []=pmC (gP R k):=by simp[zao,gP,List.getD,hkR]
  have hget:∀(j:Nat) (c:AC),(pmC (gP R k))[j]?=some c→W.cell? ⟨B,o+k*5+j,none⟩=some (f k j)∧Rep P2 W (f k j) c:=fun j c hc=>⟨hcc k j c (by rw[hrow];exact hc),hrr k j c (by rw[hrow];exact hc)⟩
  obtain⟨b0,r0⟩:=hget 0 _ rfl;obtain⟨b1,r1⟩:=hget 1 _ rfl;obtain⟨b2,_⟩:=hget 2 _ rfl;obtain⟨b3,_⟩:=hget 3 _ rfl;obtain⟨b4,_⟩:=hget 4 _ rfl;have fz:∀j,W.frozen? ⟨B,j,none⟩=false:=fun j=>frozen_of_row W B j aB TB hB
  obtain⟨A0,l0,k0,h0⟩:=zb5 r0;have h1:f k 1=.int .i64 (gP R k).r:=by
   generalize f k 1=v at r1
   cases r1;rfl
  rw[h0] at b0 r0;rw[h1] at b1;have hmx:R.length≤1048576:=by omega
  obtain⟨m1,dd⟩:=a1;have hd1:dd=[]:=hd1
  subst hd1;show R12.wp _ Q ⟨m1,[]⟩ W
  refine zF2 hkR hmx hE0 hE1 b0 b1 b2 b3 b4 (zaD hn9 rfl) (zaD hn9 rfl) (zaD hn9 rfl) (fz _) (fz _) (fz _) (fz _) (fz _) hs1 hm3 hm8 hm9 _ ?_
  intro a' hd' hs' hm0' hm2' hm3' hm8';have hdr:Evo (·=b) P2 W P2 W.drew:=(Evo.refl _ _ _).drew
  have g3:=(g2.on hdr g2.zp (g2.tk.evo ((Evo.refl _ _ _).drew))).put rfl hkR (r0.evo hdr) (hkids2.evo hdr) hfit
  refine hQ a' _ hd' hm8' ⟨c2,c3,B,o,cap,D,_,pos',P2,g3.slots hs' hm0' hm2' hm3',by simpa using hRN,by omega,fun j hj hjN=>?_⟩
  by_cases hjk:j=k
  ·subst hjk
   rw[show gP (R.set j ⟨(gP R j).ps,(gP R j).r,e0',e1',kids⟩) j=⟨(gP R j).ps,(gP R j).r,e0',e1',kids⟩ by simp[gP,List.getD,hkR]]
   exact⟨hfit,hsz⟩
  ·rw[show gP (R.set k ⟨(gP R k).ps,(gP R k).r,e0',e1',kids⟩) j=gP R j by simp[gP,List.getD,List.getElem?_set_ne (fun e=>hjk e.symm)]]
   exact hok j (by omega) hjN
end
end
section
open Go Go.RowKit
theorem LP.slots {ns:List Nat}{pos0 N k b:Nat}{w0 w:World}{p0:Stb}{m m':Array Value} (h:LP ns pos0 w0 p0 b N k m w) (hs:m'.size=110) (h0:m'.getD 0 undef=m.getD 0 undef) (h2:m'.getD 2 undef=m.getD 2 undef) (h3:m'.getD 3 undef=m.getD 3 undef):LP ns pos0 w0 p0 b N k m' w:=by
 obtain⟨c2,c3,B,o,cap,D,R,pos,p,g,h1⟩:=h.ex;exact⟨c2,c3,B,o,cap,D,R,pos,p,g.slots hs h0 h2 (h3.trans g.m3),h1⟩
theorem LP.size {ns:List Nat}{pos0 N k b:Nat}{w0 w:World}{p0:Stb}{m:Array Value} (h:LP ns pos0 w0 p0 b N k m w):m.size=110:=by
 obtain⟨c2,c3,B,o,cap,D,R,pos,p,g,h1⟩:=h.ex;exact g.size
def blkGP:Code:=.block 0 (.loop (.seq (.seq R9 (.cond (.tmp 84) .skip (.exit 0))) (.seq (.block 1 (.seq R11 R12)) R10)))
section
variable {ns:List Nat} (hns:ns.length≤2000) {w0:World}{p0:Stb}{b:Nat}
include hns
theorem zDl {pos0 N:Nat} (hpos:pos0+100000≤800000) (hN:N≤4) {m:Array Value}{w:World} (h:LP ns pos0 w0 p0 b N N m w) (h8:m.getD 8 undef=.int .i64 ((N:Int)-1)) (Q:Exit→Act→World→Prop)
  (hQ:∀a' w',a'.defers=[]→LP ns pos0 w0 p0 b N 0 a'.tmps w'→Q .normal a' w'):blkGP.wp Tryz.prog Q {tmps:=m,defers:=[]} w:=by
 refine wp_block (wp_loop (fun a w=>a.defers=[]∧∃k:Nat,k≤N∧a.tmps.getD 8 undef=.int .i64 ((k:Int)-1)∧LP ns pos0 w0 p0 b N k a.tmps w) (fun a w=>match a.tmps.getD 8 undef with
  | .int _ z=>(z+1).toNat
  | _=>0) ⟨rfl,N,Nat.le_refl _,h8,h⟩ ?_)
 rintro⟨m1,dd⟩ w1 ⟨hd,k,hk,h8,hL⟩
 have hd:dd=[]:=hd
 subst hd;have h8:m1.getD 8 undef=.int .i64 ((k:Int)-1):=h8
 refine wp_seq (wp_seq (zHb (by omega) (by omega) hL.size h8 _ fun a1 hd1 hs1 hm0 hm2 hm3 hm8 hm84=>?_))
 have hL1:=hL.slots hs1 hm0 hm2 hm3
 obtain⟨m2,dd⟩:=a1;have hd1:dd=[]:=hd1
 subst hd1;show Code.wp _ (.cond (.tmp 84) .skip (.exit 0)) _ ⟨m2,[]⟩ w1
 refine wp_cond (t:=decide (0≤(k:Int)-1)) hm84 ?_
 cases k with
 | zero =>
  rw[decide_eq_false (by omega)]
  simp only[Bool.false_eq_true,if_false];exact wp_exit (by
   show Exit.inBlock 0 Q (.exit 0) _ _
   simp only[Exit.inBlock,if_true];exact hQ _ _ rfl hL1)
 | succ j =>
  rw[decide_eq_true (by omega)]
  simp only[if_true];refine wp_skip ?_
  have e:(((j+1:Nat):Int)-1)=(j:Int):=by omega
  rw[e] at hm8 h8;show Code.wp _ (.seq (.block 1 (.seq R11 R12)) R10) _ ⟨m2,[]⟩ w1
  refine wp_seq (wp_block (zB2 hns hpos hN (by omega) hL1 hm8 _ fun a' w' hd' h8' hL'=>?_))
  obtain⟨m3,dd⟩:=a';have hd':dd=[]:=hd'
  subst hd';show Code.wp _ R10 _ ⟨m3,[]⟩ w'
  refine zFq (by omega) (by omega) hL'.size h8' _ fun a2 hd2 hs2 hm0 hm2 hm3 hm8'=>?_
  show(_∧_)∧_
  refine⟨⟨hd2,j,by omega,hm8',hL'.slots hs2 hm0 hm2 hm3⟩,?_⟩
  simp only[hm8',h8,e];omega
end
end
section
open Go Go.RowKit
def gvs (st:Option Out) (d j k:Nat):Bool:=match st with
 | some o=>match o.norm with
  | some s=>match s.pid.lookup (d,j) with
   | some id=>match s.alive.lookup id with
    | some k'=>Nat.beq k k'&&Nat.beq s.len 110
    | none=>false
   | none=>false
  | none=>false
 | none=>false
theorem zF0 {O:Out}{st:Stt}{d j k:Nat} (h:gvs (some O) d j k=true) (hn:O.norm=some st):st.len=110∧∃id,((d,j),id)∈st.pid∧(id,k)∈st.alive:=by
 unfold gvs at h;simp only[hn] at h;split at h
 ·rename_i id h1
  split at h
  ·rename_i k' h2
   rw[Bool.and_eq_true] at h;have h3:=Nat.eq_of_beq_eq_true h.1
   subst h3;exact⟨Nat.eq_of_beq_eq_true h.2,id,zax h1,zbe h2⟩
  ·cases h
 ·cases h
theorem zHh:gvs (zct (zbJ tt) lay sig (zj9 zsA .skip) ⟨[],[],[],110,[],[]⟩) 3 1 5=true:=by kernel_rfl
theorem zzG {p:Stb}{w:World}{b o n cap k:Nat}{rows:List (List AC)} (h:Rep p w (.slice (some ⟨b,o,none⟩) n cap) (.sl k rows)) (j:Nat) (hj:j≤rows.length) (hn:rows≠[]):Rep p w (.slice (some ⟨b,o,none⟩) j cap) (.sl k (rows.take j)):=by
 obtain⟨_,hk,hrows,hb,hp,hok,hcap,f,hcc,hrr⟩:=zew h hn;have hl:(rows.take j).length=j:=by simp;omega
 have hget:∀(i x:Nat) (c:AC),((rows.take j).getD i [])[x]?=some c→(rows.getD i [])[x]?=some c:=fun i x c h=>by
  simp only[List.getD,List.getElem?_take] at h ⊢;split at h
  ·exact h
  ·simp at h
 rw[show Value.slice (some ⟨b,o,none⟩) j cap=Value.slice (some ⟨b,o,none⟩) (rows.take j).length cap by rw[hl]]
 refine .sl b o cap k _ f hk (fun r hr=>hrows r (List.mem_of_mem_take hr)) hb ?_ hok (by rw[hl];omega) (fun i x c h=>hcc i x c (hget i x c h)) (fun i x c h=>hrr i x c (hget i x c h))
 rw[hl];have:=Nat.mul_le_mul_right k hj
 omega
section
variable {ns:List Nat} (hns:ns.length≤2000) {w0:World}{p0:Stb}{b:Nat}
include hns
theorem zq5 {pos:Nat} (hpos:pos+101000≤800000) (hz:Zp p0 w0) (ht:TK p0 w0 (fun _=>False) b (Qr ns pos)):Calls Tryz.prog 50 #[zbl b] w0 fun e w'=>∃v p' D R pos',e=.returned v∧D∈zdN∧GR R∧2≤R.length∧(∀x∈R,zxF x)∧RepS p' w' v (pgC D R) ∧
  Evo (·=b) p0 w0 p' w'∧Zp p' w'∧TK p' w' (fun _=>False) b (Qr ns pos')∧pos'≤pos+53000∧∃D1 d1 d2 B o cap,v=.agg #[.slice D1 d1 d2,.slice (some ⟨B,o,none⟩) R.length cap]∧w0.heap.size≤B∧p'.ok B 5∧(∀j,p'.ok B j→j=5)∧∃a T,w'.heap[B]?=some (.cells a T (0,0))∧o+R.length*5≤a.size∧o+cap*5≤a.size:=by
 refine calls_of_wp Tryz.func50 (c:=cOf Tryz.f50) (by kernel_rfl) ?_
 rw[zDG];have hs0:(#[zbl b]++Array.replicate (Tryz.f50.ntmps-(#[zbl b]:Array Value).size) undef).size=110:=by simp[Tryz.ntmps50]
 have h0:(#[zbl b]++Array.replicate (Tryz.f50.ntmps-(#[zbl b]:Array Value).size) undef).getD 0 undef=zbl b:=by simp[Array.getD]
 generalize (#[zbl b]++Array.replicate (Tryz.f50.ntmps-(#[zbl b]:Array Value).size) undef)=m0 at hs0 h0
 have hbl:=ht.lt
 have hI:=ztx (p:=p0) (w:=w0) (m:=m0) (n:=110) (o:=[]) (Own:=fun c=>w0.heap.size≤c) (b:=b) (q:=Qr ns pos) hs0 ⟨fun t x h=>(by cases h),fun t x h=>(by cases h),fun t t' cs cs' c _ h=>(by cases h)⟩ hz (fun c h=>h) h0 (ht.own (by omega))
 obtain⟨D,hD,i,j,k,n,hi,hj,hk,hn2,hn4,hev⟩:=zEe hns (p:=pos) (by omega)
 obtain⟨O,hO⟩:=Option.isSome_iff_exists.1 zE6;refine zA1 (Y:=zAE) (a:={tmps:=m0,defers:=[]}) ze1 zh3 vok zxE hev (zeP _ _ _) (zvZ (n:=110) (o:=[]) h0 (by omega) (fun t x h=>by cases h) rfl) hO hI rfl _ _ fun st' a' w1 p1 σ' q' hn hout hI1 hevo hd'=>?_
 obtain⟨rfl,hres⟩:=zCV hout;have s2:=zx7 (zm0 hres 0 (.cell 2 26) _ rfl rfl)
 have s3:=zx7 (zm0 hres 1 (.cell 3 26) _ rfl rfl)
 have s7:=zDW (zm0 hres 2 (.tmp 7) _ rfl rfl)
 obtain⟨c2,a2,T2,m2,x2,l2,z2,o2,lt2,nb2⟩:=hI1.box s2;obtain⟨c3,a3,T3,m3,x3,l3,z3,o3,lt3,nb3⟩:=hI1.box s3;have m7:=hI1.int s7
 have n23:c2≠c3:=fun e=>hI1.1.boxd 2 3 _ _ c2 (by omega) s2 s3 m2 (by rw[m3,e])
 have hgv:=zHh
 rw[hO] at hgv;obtain⟨hlen110,id,hid,hal⟩:=zF0 hgv hn;obtain⟨val,hR⟩:=hI1.1.rooms;have hpl:=(hR.place (3,1) id hid).1
 have hrt:=hR.alive id 5 hal
 have hown:=hR.own id 5
 obtain⟨l2'⟩:=a2;obtain⟨l3'⟩:=a3
 match l2',l2 with
 | [u0,u1],_ =>
 match l3',l3 with
 | [dv,fv],⟨rd,rf,_⟩ =>
 have hfv:val id=fv:=by
  rw[show(3,1).1=3 from rfl,m3] at hpl;have:w1.cell? ⟨c3,1,none⟩=some (val id):=hpl
  rw[zaD x3 rfl] at this;exact(Option.some.inj this).symm
 rw[hfv] at hrt;rcases hrt with e|⟨B,o,len,cap,aB,TB,efv,hB,hlc,hsz,hpB,hokB⟩
 ·rw[e] at rf
  exfalso
  generalize hc:AC.sl 5 (zao (zmx i j k))=c at rf
  generalize hv:Value.slice none 0 0=v at rf
  cases rf with
  | int n=>cases hc
  | bool b=>cases hc
  | nil a k=>simp[zao,zmx] at hc
  | sl=>cases hv
 subst efv;have hoB:w0.heap.size≤B:=(hown B hal (by rw[hfv];rfl)).1
 have hgl:(zmx i j k).length=4:=rfl
 have hne:zao (zmx i j k)≠[]:=by simp[zao,zmx]
 obtain⟨hlen,_,_,hBlt,hpB2,_,hcap,_⟩:=zew rf hne;have hpl4:(zao (zmx i j k)).length=4:=by simp[zao,hgl]
 rw[hpl4] at hlen hpB2 hcap;subst hlen;have n2B:c2≠B:=fun e=>by rw[e] at z2;omega
 have n3B:c3≠B:=fun e=>by rw[e] at z3;omega
 have hevb:Evo (·=b) p0 w0 p1 w1:=hevo.weaken fun c hc h=>by
  rcases h with h|h
  ·exact absurd h (by omega)
  ·exact h
 obtain⟨D1,d1,d2,rfl⟩:=zb5 rd;have hs1:=hI1.1.size.trans (hI1.1.len.symm.trans hlen110)
 obtain⟨m1,dd⟩:=a';have hd':dd=[]:=hd'
 subst hd';refine wp_seq (zGn (k:=n) (n:=4) hn4 hcap (zaD x3 rfl) (zaD x3 rfl) (frozen_of_row w1 c3 1 _ T3 x3) hs1 m3 m7 _ fun a2 hd2 hs2 hm0 hm2 hm3 hm7=>?_)
 have hevs:Evo (·=c3) p1 w1 p1 (w1.setCell ⟨c3,1,none⟩ (.slice (some ⟨B,o,none⟩) n cap)):=zcN z3 (by simp[World.setCell]) (fun y hy=>heap_setCell_other _ _ _ _ hy) rfl rfl rfl
 have hx3:(w1.setCell ⟨c3,1,none⟩ (.slice (some ⟨B,o,none⟩) n cap)).heap[c3]?=some (.cells #[.slice D1 d1 d2,.slice (some ⟨B,o,none⟩) n cap] T3 (0,0)):=heap_setCell_same _ _ _ _ _ _ x3
 have hx2:=heap_setCell_other w1 ⟨c3,1,none⟩ c2 (.slice (some ⟨B,o,none⟩) n cap) n23
 have hxB:=heap_setCell_other w1 ⟨c3,1,none⟩ B (.slice (some ⟨B,o,none⟩) n cap) (fun e=>n3B e.symm)
 have hsz1:(w1.setCell ⟨c3,1,none⟩ (.slice (some ⟨B,o,none⟩) n cap)).heap.size=w1.heap.size:=by simp[World.setCell]
 generalize w1.setCell ⟨c3,1,none⟩ (.slice (some ⟨B,o,none⟩) n cap)=W at *
 have hall:=zBR i hi j hj k hk
 rw[List.all_eq_true] at hall;have hin:∀x∈(zmx i j k).take n,(x.ps,x.r)∈sigL∧Fit .expr [.int x.o,.int x.n,.sl 3 x.kids]:=fun x hx=>by
  have:=hall x (List.mem_of_mem_take hx)
  simp only[Bool.and_eq_true,List.contains_iff_mem,List.isEmpty_iff,beq_iff_eq] at this;obtain⟨⟨⟨h1,h2⟩,h3⟩,h4⟩:=this;rw[h2,h3,h4];exact⟨h1,zak (by omega) (by omega) (by simp) (fun c hc=>by cases hc)⟩
 have htl:((zmx i j k).take n).length=n:=by simp[hgl];omega
 have hG:GP w0 p0 b c2 c3 B o cap D ((zmx i j k).take n) (Qr ns (pos+5)) p1 W a2.tmps :=
  {size:=hs2,m0:=hm0.trans hI1.2.1,m2:=hm2.trans m2,m3:=hm3,x2:=⟨u0,u1,T2,hx2.trans x2⟩,x3:=⟨D1,d1,d2,T3,by rw[htl];exact hx3,rd.evo hevs⟩,xB:=⟨aB,TB,hxB.trans hB,by rw[htl];omega,hsz⟩,
   rep:=by
    rw[htl];have:=(zzG rf n (by rw[hpl4];exact hn4) hne).evo hevs
    simpa [zao,List.map_take] using this
   z2:=z2,z3:=z3,n23:=n23,n2B:=n2B,n3B:=n3B,n2b:=nb2,n3b:=nb3,g2:=o2,g3:=o3,gB:=hoB,gb:=hbl,
   uq:=fun x hx=>hevo.uq B hoB hBlt x 5 hx hokB,okB:=hokB,tk:=((hI1.2.2.own (Own':=(·=c3)) (fun e=>nb3 e.symm)).evo hevs).own (fun h=>h),
   zp:=⟨fun c hc=>hI1.1.zp.1 c (by omega),fun _ _ _=>trivial⟩,evo:=hevb.trans hevs (fun _ _ e=>e) (fun c hc e=>absurd hc (by have:c=c3:=e;omega)),hD:=hD,
   hR:=⟨by omega,fun x hx=>(hin x hx).1⟩,fit:=fun x hx=>(hin x hx).2}
 obtain⟨m2',dd⟩:=a2;have hd2:dd=[]:=hd2
 subst hd2;show Code.wp _ (.seq (.seq R8 blkGP) (.seq R13 .ret)) _ ⟨m2',[]⟩ W
 refine wp_seq (wp_seq (zGr (k:=n) (by omega) hs2 hm7 _ fun a3 hd3 hs3 hm0' hm2' hm3' hm8'=>?_))
 have hL:LP ns (pos+5) w0 p0 b n n a3.tmps W:=⟨c2,c3,B,o,cap,D,_,pos+5,p1,hG.slots hs3 hm0' hm2' (hm3'.trans hm3),htl,by omega,fun j h1 h2=>absurd h2 (by omega)⟩
 obtain⟨m3',dd⟩:=a3;have hd3:dd=[]:=hd3
 subst hd3;show blkGP.wp _ _ ⟨m3',[]⟩ W
 refine zDl hns (by omega) hn4 hL hm8' _ fun a4 w4 hd4 hL4=>?_
 obtain⟨m4,dd⟩:=a4;have hd4:dd=[]:=hd4
 subst hd4;show Code.wp _ (.seq R13 .ret) _ ⟨m4,[]⟩ w4
 clear hG hL;obtain⟨c2,c3,B,o,cap,D,R,pos',p4,g,hRN,hp4,hok⟩:=hL4.ex;obtain⟨E1,e1,e2,hE0,hE1,hrd⟩:=g.cells3;obtain⟨y0,y1,TT,hy⟩:=g.x2;refine zEH hE0 hE1 (zaD hy rfl) (zaD hy rfl) (frozen_of_row w4 c2 0 _ TT hy) (frozen_of_row w4 c2 1 _ TT hy) (fun e=>g.n23 e.symm) g.size g.m2 g.m3 _ ?_
 have hev1:Evo (·=c2) p4 w4 p4 (w4.setCell ⟨c2,0,none⟩ (.slice E1 e1 e2)):=zcN g.z2 (by simp[World.setCell]) (fun y hy=>heap_setCell_other _ _ _ _ hy) rfl rfl rfl
 have hev2:Evo (·=c2) p4 (w4.setCell ⟨c2,0,none⟩ (.slice E1 e1 e2)) p4 ((w4.setCell ⟨c2,0,none⟩ (.slice E1 e1 e2)).setCell ⟨c2,1,none⟩ (.slice (some ⟨B,o,none⟩) R.length cap)):=zcN g.z2 (by simp[World.setCell]) (fun y hy=>heap_setCell_other _ _ _ _ hy) rfl rfl rfl
 have hev3:=hev1.trans hev2 (C:=(·=c2)) (fun _ _ e=>e) (fun _ _ e=>e)
 refine⟨_,p4,D,R,pos',rfl,g.hD,g.hR,by omega,fun x hx=>?_,⟨_,rfl,hrd.evo hev3,g.rep.evo hev3,trivial⟩,g.evo.trans hev3 (fun _ _ e=>e) (fun c hc e=>absurd hc (by have:c=c2:=e;have:=g.g2;omega)),⟨fun c hc=>g.zp.1 c (Nat.le_trans hev3.size hc),fun _ _ _=>trivial⟩,((g.tk.own (Own':=(·=c2)) (fun e=>g.n2b e.symm)).evo hev3).own (fun h=>h),by omega,_,_,_,_,_,_,rfl,g.gB,g.okB,g.uq,?_⟩
 rotate_left
 ·obtain⟨a,T,hB,hs⟩:=g.xB
  exact⟨a,T,(hev3.block B g.ltB (fun e=>g.n2B e.symm)).trans hB,hs⟩
 obtain⟨j,hj,rfl⟩:=List.mem_iff_getElem.1 hx;have:=hok j (by omega) (by omega)
 rwa [show gP R j=R[j] by simp[gP,List.getD,hj]] at this
end
end
section
open Go Go.RowKit
theorem zBx:(Tryz.prog.info? 35).map (fun i=>(i.zero,i.size,i.bytes))=some (some (.agg #[.int .i64 0,.int .i64 0,.slice none 0 0]),3,40):=by kernel_rfl
def CE5:Code:=.region 5 #[⟨some 12,.move (.tmp 3),33,"l2_program.go:43",#[],none⟩,⟨some 13,.move (.tmp 0),33,"l2_program.go:43",#[],none⟩,⟨some 14,.move (.tmp 4),3,"l2_program.go:43",#[],none⟩,⟨some 15,.indexAddr 33 (.tmp 13) (.tmp 14),0,"l2_program.go:43",#[⟨1,.data⟩,⟨2,.data⟩],none⟩,⟨some 16,.load 35 (.tmp 15),35,"l2_program.go:43",#[⟨3,.data⟩],none⟩,⟨some 17,.call ⟨.value (.func 59),#[.tmp 16],#[35]⟩,35,"l2_program.go:43",#[⟨4,.data⟩],none⟩,⟨some 18,.buildSlice 33 1 #[(0,.tmp 17)],33,"l2_program.go:43",#[⟨5,.data⟩],none⟩,⟨some 19,.call ⟨.builtin .append,#[.tmp 12,.tmp 18],#[33,33]⟩,33,"l2_program.go:43",#[⟨0,.data⟩,⟨6,.data⟩,⟨5,.chain⟩],none⟩,⟨some 3,.assign (.tmp 19),33,"l2_program.go:43",#[⟨7,.data⟩,⟨7,.chain⟩,⟨0,.phase⟩,⟨1,.phase⟩,⟨2,.phase⟩,⟨3,.phase⟩,⟨4,.phase⟩,⟨5,.phase⟩,⟨6,.phase⟩,⟨7,.phase⟩],none⟩] false
set_option maxRecDepth 100000 in
set_option maxHeartbeats 4000000 in
theorem zFo {f:Nat→Value}{b o N c k base:Nat}{v:Value}{us:List Value}{e0 e1:Int}{A1:Option Addr}{l1 c1:Nat}{w:World} (hk:k<N) (hN:N≤1048576)
 (h0:w.cell? ⟨b,o+k*3,none⟩=some (.int .i64 e0)) (h1:w.cell? ⟨b,o+k*3+1,none⟩=some (.int .i64 e1)) (h2:w.cell? ⟨b,o+k*3+2,none⟩=some (.slice A1 l1 c1))
 {post:Int→Int→Option Addr→Nat→Nat→World→Prop}
 (hcall:Calls Tryz.prog 59 #[.agg #[.int .i64 e0,.int .i64 e1,.slice A1 l1 c1]] w fun e w'=>∃x0 x1 A3 l3 k3,e=.returned (.agg #[.int .i64 x0,.int .i64 x1,.slice A3 l3 k3])∧post x0 x1 A3 l3 k3 w'∧w'.ownsRow base 35 3 v k us∧base≤w'.heap.size)
 (Q:Exit→Act→World→Prop) (hQ:∀x0 x1 A3 l3 k3 w',post x0 x1 A3 l3 k3 w'→∀v' w2 (a':Act),w2.ownsRow base 35 3 v' (k+1) (us++[.int .i64 x0,.int .i64 x1,.slice A3 l3 k3])→(w'.alloc (.cells #[.int .i64 x0,.int .i64 x1,.slice A3 l3 k3] 35)).grownBy w2 v.ownBlock→(v'.ownBlock=v.ownBlock∨v'.ownBlock=some (w'.heap.size+1))→a'.defers=[]→a'.tmps.size=21→a'.tmps.getD 0 undef=.slice (some ⟨b,o,none⟩) N c→a'.tmps.getD 3 undef=v'→a'.tmps.getD 4 undef=.int .i64 (k:Int)→Q .normal a' w2) :
 CE5.wp Tryz.prog Q {tmps:=List.toArray (.slice (some ⟨b,o,none⟩) N c::f 1::f 2::v::.int .i64 (k:Int)::f 5::f 6::f 7::f 8::f 9::f 10::f 11::f 12::f 13::f 14::f 15::f 16::f 17::f 18::f 19::f 20::[]),defers:=[]} w:=by
 unfold CE5
 go_wp2_with fail
 refine hcall.mono ?_
 rintro e w' ⟨x0,x1,A3,l3,k3,rfl,hp,hown,hbase⟩
 obtain⟨i0,hi,hz0,hz1,hz2⟩:=info_parts zBx
 go_wp2_with (at_builtin;refine wpList_append_own_at _ rfl (.tmp 12) (.tmp 18) 33 rfl base 35 i0 (.agg #[.int .i64 0,.int .i64 0,.slice none 0 0]) 3 40 Tryz.underlying33 hi hz0 hz1 hz2 rfl (by decide) _ _ _ rfl (hown.alloc _) ⟨w'.heap.size,0,none⟩ 1 1 [.int .i64 x0,.int .i64 x1,.slice A3 l3 k3] rfl rfl ?c1 ?c2 ?c3 ?c4 ?c5 ?_)
 case c1=>exact World.news_of_block (fr:=(0,0)) (zxn _ _ _ rfl)
 case c2=>intro u hu;simp at hu;rcases hu with rfl|rfl|rfl <;> rfl
 case c3=>unfold maxLen;omega
 case c4=>omega
 case c5=>simp;omega
 intro v' w5 hown5 hg5 _ hob5
 go_wp2
 exact hQ _ _ _ _ _ _ hp _ _ _ hown5 hg5 (by simpa using hob5) rfl rfl rfl rfl rfl
set_option maxRecDepth 100000 in
theorem zuD {m:Array Value} (h:m.size=21):m=List.toArray (m.getD 0 undef::m.getD 1 undef::m.getD 2 undef::m.getD 3 undef::m.getD 4 undef::m.getD 5 undef::m.getD 6 undef::m.getD 7 undef::m.getD 8 undef::m.getD 9 undef::m.getD 10 undef::m.getD 11 undef::m.getD 12 undef::m.getD 13 undef::m.getD 14 undef::m.getD 15 undef::m.getD 16 undef::m.getD 17 undef::m.getD 18 undef::m.getD 19 undef::m.getD 20 undef::[]):=by
 apply Array.ext'
 have h1:m.toList=(List.range 21).map (fun i=>m.getD i undef):=by
  apply List.ext_getElem
  ·simp[h]
  ·intro i h1 h2
   simp only[Array.length_toList] at h1;simp[Array.getD,h1]
 exact h1.trans rfl
def CE3:Code:=.region 3 #[⟨some 6,.move (.tmp 4),3,"l2_program.go:42",#[],none⟩,⟨some 7,.move (.tmp 0),33,"l2_program.go:42",#[],none⟩,⟨some 8,.call ⟨.builtin .len,#[.tmp 7],#[33]⟩,3,"l2_program.go:42",#[⟨1,.data⟩],none⟩,⟨some 9,.binOp .lss 3 (.tmp 6) (.tmp 8) 3,4,"l2_program.go:42",#[⟨0,.data⟩,⟨2,.data⟩],none⟩] false
def CE4:Code:=.region 4 #[⟨some 10,.move (.tmp 4),3,"l2_program.go:42",#[],none⟩,⟨some 11,.binOp .add 3 (.tmp 10) (.const (.int .i64 1)) 3,3,"l2_program.go:42",#[⟨0,.data⟩],none⟩,⟨some 4,.assign (.tmp 11),3,"l2_program.go:42",#[⟨1,.data⟩,⟨0,.phase⟩,⟨1,.phase⟩],none⟩] false
theorem zFY {m:Array Value}{A:Option Addr}{N c k:Nat}{w:World} (hk:k≤N) (hN:N≤1048576) (hs:m.size=21) (m0:m.getD 0 undef=.slice A N c) (m4:m.getD 4 undef=.int .i64 (k:Int)) (Q:Exit→Act→World→Prop)
 (hQ:∀a':Act,a'.defers=[]→a'.tmps.size=21→a'.tmps.getD 0 undef=.slice A N c→a'.tmps.getD 3 undef=m.getD 3 undef→a'.tmps.getD 4 undef=.int .i64 (k:Int)→a'.tmps.getD 9 undef=.bool (decide (k<N))→Q .normal a' w) :
 CE3.wp Tryz.prog Q {tmps:=m,defers:=[]} w:=by
 have e:=zuD hs
 rw[m0,m4] at e;rw[e];generalize m.getD 3 undef=v3 at *
 unfold CE3
 go_wp2
 exact hQ _ rfl rfl rfl rfl rfl rfl
theorem zFN {m:Array Value}{A:Option Addr}{N c k:Nat}{w:World} (hk:k≤1048576) (hs:m.size=21) (m0:m.getD 0 undef=.slice A N c) (m4:m.getD 4 undef=.int .i64 (k:Int)) (Q:Exit→Act→World→Prop)
 (hQ:∀a':Act,a'.defers=[]→a'.tmps.size=21→a'.tmps.getD 0 undef=.slice A N c→a'.tmps.getD 3 undef=m.getD 3 undef→a'.tmps.getD 4 undef=.int .i64 ((k+1:Nat):Int)→Q .normal a' w) :
 CE4.wp Tryz.prog Q {tmps:=m,defers:=[]} w:=by
 have e:=zuD hs
 rw[m0,m4] at e;rw[e];generalize m.getD 3 undef=v3 at *
 unfold CE4
 go_wp2
 exact hQ _ rfl rfl rfl rfl (by simp)
theorem zFr {m:Array Value}{b o N c k base:Nat}{us:List Value}{e0 e1:Int}{A1:Option Addr}{l1 c1:Nat}{w:World} (hk:k<N) (hN:N≤1048576)
 (h0:w.cell? ⟨b,o+k*3,none⟩=some (.int .i64 e0)) (h1:w.cell? ⟨b,o+k*3+1,none⟩=some (.int .i64 e1)) (h2:w.cell? ⟨b,o+k*3+2,none⟩=some (.slice A1 l1 c1))
 {post:Int→Int→Option Addr→Nat→Nat→World→Prop}
 (hcall:Calls Tryz.prog 59 #[.agg #[.int .i64 e0,.int .i64 e1,.slice A1 l1 c1]] w fun e w'=>∃x0 x1 A3 l3 k3,e=.returned (.agg #[.int .i64 x0,.int .i64 x1,.slice A3 l3 k3])∧post x0 x1 A3 l3 k3 w'∧w'.ownsRow base 35 3 (m.getD 3 undef) k us∧base≤w'.heap.size)
 (hs:m.size=21) (m0:m.getD 0 undef=.slice (some ⟨b,o,none⟩) N c) (m4:m.getD 4 undef=.int .i64 (k:Int))
 (Q:Exit→Act→World→Prop) (hQ:∀x0 x1 A3 l3 k3 w',post x0 x1 A3 l3 k3 w'→∀v' w2 (a':Act),w2.ownsRow base 35 3 v' (k+1) (us++[.int .i64 x0,.int .i64 x1,.slice A3 l3 k3])→(w'.alloc (.cells #[.int .i64 x0,.int .i64 x1,.slice A3 l3 k3] 35)).grownBy w2 (m.getD 3 undef).ownBlock→(v'.ownBlock=(m.getD 3 undef).ownBlock∨v'.ownBlock=some (w'.heap.size+1))→a'.defers=[]→a'.tmps.size=21→a'.tmps.getD 0 undef=.slice (some ⟨b,o,none⟩) N c→a'.tmps.getD 3 undef=v'→a'.tmps.getD 4 undef=.int .i64 (k:Int)→Q .normal a' w2) :
 CE5.wp Tryz.prog Q {tmps:=m,defers:=[]} w:=by
 have e:=zuD hs
 rw[m0,m4] at e;rw[e];exact zFo (f:=fun i=>m.getD i undef) hk hN h0 h1 h2 hcall Q hQ
end
section
open Go Go.RowKit
structure CI (p0:Stb) (w0:World) (b o N c:Nat) (kids:List (List AC)) (k:Nat) (m:Array Value) (w:World):Prop where
 size:m.size=21
 m0:m.getD 0 undef=.slice (some ⟨b,o,none⟩) N c
 ex:∃us p,w.ownsRow w0.heap.size 35 3 (m.getD 3 undef) k us∧RepL p w us (kids.take k).flatten∧(∀g,(m.getD 3 undef).ownBlock=some g→p g=0∧p.ok g 3)∧Rep p w (.slice (some ⟨b,o,none⟩) N c) (.sl 3 kids)∧Zp p w∧Evo (fun _=>False) p0 w0 p w
section
variable {p0:Stb}{w0:World}{b o N c:Nat}{kids:List (List AC)}
theorem zAV (hK:zcR kids) (hs:kids.length+rsS kids≤50000) {k:Nat}{m:Array Value}{w:World} (h:CI p0 w0 b o N c kids k m w) (hk:k<kids.length) (h4:m.getD 4 undef=.int .i64 (k:Int)) (Q:Exit→Act→World→Prop)
  (hQ:∀a' w',a'.defers=[]→CI p0 w0 b o N c kids (k+1) a'.tmps w'→a'.tmps.getD 4 undef=.int .i64 (k:Int)→Q .normal a' w') :
  CE5.wp Tryz.prog Q {tmps:=m,defers:=[]} w:=by
 obtain⟨us,p,hown,hus,hpz,hrep,hz,hev⟩:=h.ex;obtain⟨hN,_,hrows,hb,hp,hok,hcap,f,hcc,hrr⟩:=zew hrep (by intro e;rw[e] at hk;simp at hk)
 have hmem:kids[k]∈kids:=List.getElem_mem hk
 have hf:=hK _ hmem
 have hle:=zgi hmem
 have hg:kids.getD k []=kids[k]:=by simp[List.getD,hk]
 generalize hrow:kids[k]=row at *
 cases hf with
 | expr e0 e1 l ho hno hl hk2 =>
 have hget:∀(j:Nat) (x:AC),[AC.int e0,.int e1,.sl 3 l][j]?=some x→w.cell? ⟨b,o+k*3+j,none⟩=some (f k j)∧Rep p w (f k j) x:=fun j x hx=>⟨hcc k j x (by rw[hg];exact hx),hrr k j x (by rw[hg];exact hx)⟩
 obtain⟨b0,r0⟩:=hget 0 _ rfl;obtain⟨b1,r1⟩:=hget 1 _ rfl;obtain⟨b2,r2⟩:=hget 2 _ rfl;have q0:f k 0=.int .i64 e0:=by
  generalize f k 0=v at r0
  cases r0;rfl
 have q1:f k 1=.int .i64 e1:=by
  generalize f k 1=v at r1
  cases r1;rfl
 obtain⟨A1,l1,c1,q2⟩:=zb5 r2;rw[q0] at b0;rw[q1] at b1;rw[q2] at b2 r2;have hbs:=hown.1
 have hl1:l.length+rsS l≤50000:=by
  have hc:cS [AC.int e0,.int e1,.sl 3 l]=1+l.length+rsS l∨l.length+rsS l≤cS [AC.int e0,.int e1,.sl 3 l]:=.inr (by simp[cS,rsS,acS,acS.cS,acS.rsS])
  omega
 have hcall:=zo9 (P:=Tryz.prog) (L:=lay) ze1 zh3 zvd zvm (zss (o:=e0) (n:=e1) hk2 (by omega)) (by kernel_rfl) (p:=p) (w:=w) (vals:=[.agg #[.int .i64 e0,.int .i64 e1,.slice A1 l1 c1]]) ⟨⟨_,rfl,.int _,.int _,r2,trivial⟩,trivial⟩ hz
 refine zFr (base:=w0.heap.size) (us:=us) (post:=fun x0 x1 A3 l3 k3 w'=>x0=e0∧x1=e1∧∃p',Rep p' w' (.slice A3 l3 k3) (.sl 3 l)∧Evo (fun _=>False) p w p' w'∧Zp p' w') (by omega) (by omega) b0 b1 b2 ?_ h.size h.m0 h4 Q ?_
 ·refine hcall.mono ?_
  rintro e w' ⟨v,rfl,hB,p',hsr,hev',hz',_⟩
  obtain⟨arr,rfl,hl⟩:∃arr,v=.agg arr∧RepL p' w' arr.toList [.int e0,.int e1,.sl 3 l]:=hsr;obtain⟨ls⟩:=arr
  match ls,hl with
  | [x0,x1,x2],⟨t0,t1,t2,_⟩ =>
   cases t0;cases t1;obtain⟨A3,l3,k3,rfl⟩:=zb5 t2;exact⟨_,_,_,_,_,rfl,⟨rfl,rfl,p',t2,hev',hz'⟩,hown.kept (row:=none) ⟨hev'.os,hev'.tape,hev'.output,hev'.size,fun x hx _=>hev'.block x hx (fun h=>h)⟩ (by cases (m.getD 3 undef).ownBlock <;> simp),by have:=hev'.size;have:=hev.size;omega⟩
 ·rintro x0 x1 A3 l3 k3 w' ⟨rfl,rfl,p',hr3,hev',hz'⟩ v' w2 a' hown2 hgr hob hd hs' hm0 hm3 hm4
  have hpo:∀g,(m.getD 3 undef).ownBlock=some g→p' g=0:=fun g hg=>(hev'.same g (hown.lt g hg).2 (fun h=>h)).trans (hpz g hg).1
  have hE:Evo (fun x=>(m.getD 3 undef).ownBlock=some x) p' w' (okP p' w' 3) w2:=by
   have hblk:∀x,x<w'.heap.size→(m.getD 3 undef).ownBlock≠some x→w2.heap[x]?=w'.heap[x]?:=fun x hx hn=>(hgr.block x (by simp;omega) (fun e=>hn e.symm)).trans (Below.heap_alloc _ _ _ hx)
   refine⟨hgr.os,hgr.tape,hgr.output,by have:=hgr.size;simp at this;omega,hblk,fun _ _=>Nat.le_refl _,fun _ _ _=>rfl,fun x y hx hy=>?_,fun x hx=>zxk hx,fun x h1 _ i j hi hj=>zzq h1 hi hj⟩
   exact World.cell?_of_block (w:=w') (hblk x hx (fun e=>by have:=hpo x e;omega))
  have hE0:Evo (fun _=>False) p0 w0 (okP p' w' 3) w2:=(hev.trans hev' (C:=fun _=>False) (fun _ _ h=>h) (fun _ _ h=>h)).trans hE (fun _ _ h=>h) (fun x hx e=>by have:=(hown.lt x e).1;omega)
  refine hQ a' w2 hd ⟨hs',hm0,us++[.int .i64 x0,.int .i64 x1,.slice A3 l3 k3],okP p' w' 3,by rw[hm3];exact hown2,?_,?_,(hrep.evo hev').evo hE,⟨fun x hx=>hz'.1 x (Nat.le_trans hE.size hx),fun _ _ _=>trivial⟩,hE0⟩ hm4
  ·rw[List.take_succ_eq_append_getElem hk,List.flatten_append,hrow]
   have h3:RepL (okP p' w' 3) w2 [.int .i64 x0,.int .i64 x1,.slice A3 l3 k3] [.int x0,.int x1,.sl 3 l]:=⟨.int _,.int _,hr3.evo hE,trivial⟩
   simpa using ((hus.evo hev').evo hE).append h3
  ·intro g hg
   rw[hm3] at hg;rcases hob with e|e
   ·have hg':=e▸hg
    refine⟨hpo g hg',?_⟩
    rw[zxk (Nat.lt_of_lt_of_le (hown.lt g hg').2 hev'.size),hev'.okk g (hown.lt g hg').2];exact(hpz g hg').2
   ·rw[e] at hg
    cases hg;refine⟨hz'.1 _ (by omega),?_⟩
    rw[zAy (by omega)]
end
end
section
open Go Go.RowKit
section
variable {p0:Stb}{w0:World}{b o N c:Nat}{kids:List (List AC)}
set_option maxHeartbeats 4000000 in
theorem zta (hz:Zp p0 w0) (hr:Rep p0 w0 (.slice (some ⟨b,o,none⟩) N c) (.sl 3 kids)) (hn:kids≠[]) (hK:zcR kids) (hs:kids.length+rsS kids≤50000):Calls Tryz.prog 56 #[.slice (some ⟨b,o,none⟩) N c] w0 fun e w'=>∃v us p',e=.returned v ∧
  w'.ownsRow w0.heap.size 35 3 v kids.length us∧RepL p' w' us kids.flatten∧(∀g,v.ownBlock=some g→p' g=0∧p'.ok g 3)∧Zp p' w'∧Evo (fun _=>False) p0 w0 p' w':=by
 have hN:=(zew hr hn).1
 go_enter Tryz.func56,Tryz.ntmps56
 go_wp2_with fail
 refine wp_loop (fun a w=>a.defers=[]∧∃k:Nat,k≤kids.length∧a.tmps.getD 4 undef=.int .i64 (k:Int)∧CI p0 w0 b o N c kids k a.tmps w) (fun a w=>match a.tmps.getD 4 undef with
  | .int _ z=>kids.length-z.toNat
  | _=>0) ?_ ?_
 ·refine⟨rfl,0,Nat.zero_le _,rfl,rfl,rfl,[],upP p0 w0.heap.size 0 3,?_,?_,?_,?_,?_,?_⟩
  ·exact World.ownsRow_lit (base:=w0.heap.size) (e:=35) (size:=3) w0 #[] 0 (Nat.le_refl _) (by simp[maxLen]) rfl
  ·show RepL _ _ [] []
   trivial
  ·intro g hg
   cases hg;exact⟨by rw[zb9,if_pos rfl],zfX _ _ _ _⟩
  ·exact hr.evo (zbi _ 0 (fun _=>False) 3)
  ·exact⟨fun x hx=>by
    rw[zb9];split
    ·rfl
    ·exact hz.1 x (by simp at hx;omega),fun _ _ _=>trivial⟩
  ·exact zbi _ 0 _ 3
 rintro⟨m1,dd⟩ w1 ⟨hd,k,hk,h4,hL⟩
 have hd:dd=[]:=hd
 subst hd;have h4:m1.getD 4 undef=.int .i64 (k:Int):=h4
 have hL:CI p0 w0 b o N c kids k m1 w1:=hL
 refine wp_seq (wp_seq (zFY (by omega) (by omega) hL.size hL.m0 h4 _ fun a1 hd1 hs1 hm0 hm3 hm4 hm9=>?_))
 have hL1:CI p0 w0 b o N c kids k a1.tmps w1:=⟨hs1,hm0,by rw[hm3];exact hL.ex⟩
 obtain⟨m2,dd⟩:=a1;have hd1:dd=[]:=hd1
 subst hd1;refine wp_cond (t:=decide (k<N)) hm9 ?_
 by_cases hlt:k<N
 ·rw[decide_eq_true hlt]
  simp only[if_true];refine wp_skip ?_
  show Code.wp _ (.seq (.block 1 CE5) CE4) _ ⟨m2,[]⟩ w1
  refine wp_seq (wp_block (zAV hK hs hL1 (by omega) hm4 _ fun a' w' hd' hL' h4'=>?_))
  obtain⟨m3,dd⟩:=a';have hd':dd=[]:=hd'
  subst hd';show Code.wp _ CE4 _ ⟨m3,[]⟩ w'
  refine zFN (by omega) hL'.size hL'.m0 h4' _ fun a2 hd2 hs2 hm0' hm3' hm4'=>?_
  show(_∧_)∧_
  refine⟨⟨hd2,k+1,by omega,hm4',hs2,hm0',by rw[hm3'];exact hL'.ex⟩,?_⟩
  simp only[hm4',h4];omega
 ·rw[decide_eq_false hlt]
  simp only[Bool.false_eq_true,if_false];refine wp_exit ?_
  obtain rfl:k=kids.length:=by omega
  obtain⟨us,p,hown,hus,hpz,hrep,hz1,hev⟩:=hL1.ex;rw[List.take_length] at hus;have e:=zuD (m:=m2) hL1.size
  have hfin:∃v us p',m2.getD 3 undef=v∧w1.ownsRow w0.heap.size 35 3 v kids.length us∧RepL p' w1 us kids.flatten∧(∀g,v.ownBlock=some g→p' g=0∧p'.ok g 3)∧Zp p' w1∧Evo (fun _=>False) p0 w0 p' w1:=⟨_,us,p,rfl,hown,hus,hpz,hz1,hev⟩
  clear hL hL1 hown hus hpz hrep hz1 hev hm4 hm9 hm0 hs1 hm3 h4;obtain⟨v,us,p',hv,hfin⟩:=hfin;rw[hv] at e;rw[e];have HF:=Lib.hid hfin
  clear hfin e hv;simp only[Exit.then,Exit.inBlock,if_true]
  go_wp2
  go_ret
  exact⟨v,rfl,us,HF.out.1,p',HF.out.2⟩
end
end
end Go.Proofs.YtkgbadeobdbinaaGreat
