/- Generic texts and models for the proofs of this seat: part 30. -/
import Derived.Test.YtcpcagdialnbeaaY29
import Derived.WalkKit
import Derived.Deep.AppendLies
import Derived.StillTailTactics
import Derived.Deep.RegionHeld3
set_option linter.unusedVariables false
set_option linter.unusedSimpArgs false
namespace Go.Proofs.Ytcpcagdialnbeaa
section
open Go Go.RowKit
theorem zwX:(Try.prog.info? 32).map (fun i=>(i.zero,i.size,i.bytes))=some (some (.agg #[.int .i64 0,.int .i64 0,.slice none 0 0]),3,40):=by kernel_rfl
def CE5:Code:=.region 5 #[⟨some 12,.move (.tmp 3),30,"l2_program.go:43",#[],none⟩,⟨some 13,.move (.tmp 0),30,"l2_program.go:43",#[],none⟩,⟨some 14,.move (.tmp 4),3,"l2_program.go:43",#[],none⟩,⟨some 15,.indexAddr 30 (.tmp 13) (.tmp 14),0,"l2_program.go:43",#[⟨1,.data⟩,⟨2,.data⟩],none⟩,⟨some 16,.load 32 (.tmp 15),32,"l2_program.go:43",#[⟨3,.data⟩],none⟩,⟨some 17,.call ⟨.value (.func 79),#[.tmp 16],#[32]⟩,32,"l2_program.go:43",#[⟨4,.data⟩],none⟩,⟨some 18,.buildSlice 30 1 #[(0,.tmp 17)],30,"l2_program.go:43",#[⟨5,.data⟩],none⟩,⟨some 19,.call ⟨.builtin .append,#[.tmp 12,.tmp 18],#[30,30]⟩,30,"l2_program.go:43",#[⟨0,.data⟩,⟨6,.data⟩,⟨5,.chain⟩],none⟩,⟨some 3,.assign (.tmp 19),30,"l2_program.go:43",#[⟨7,.data⟩,⟨7,.chain⟩,⟨0,.phase⟩,⟨1,.phase⟩,⟨2,.phase⟩,⟨3,.phase⟩,⟨4,.phase⟩,⟨5,.phase⟩,⟨6,.phase⟩,⟨7,.phase⟩],none⟩] false
set_option maxRecDepth 100000 in
set_option maxHeartbeats 4000000 in
theorem zBL {f:Nat→Value}{b o N c k base:Nat}{v:Value}{us:List Value}{e0 e1:Int}{A1:Option Addr}{l1 c1:Nat}{w:World} (hk:k<N) (hN:N≤1048576)
 (h0:w.cell? ⟨b,o+k*3,none⟩=some (.int .i64 e0)) (h1:w.cell? ⟨b,o+k*3+1,none⟩=some (.int .i64 e1)) (h2:w.cell? ⟨b,o+k*3+2,none⟩=some (.slice A1 l1 c1))
 {post:Int→Int→Option Addr→Nat→Nat→World→Prop}
 (hcall:Calls Try.prog 79 #[.agg #[.int .i64 e0,.int .i64 e1,.slice A1 l1 c1]] w fun e w'=>∃x0 x1 A3 l3 k3,e=.returned (.agg #[.int .i64 x0,.int .i64 x1,.slice A3 l3 k3])∧post x0 x1 A3 l3 k3 w'∧w'.ownsRow base 32 3 v k us∧base≤w'.heap.size)
 (Q:Exit→Act→World→Prop) (hQ:∀x0 x1 A3 l3 k3 w',post x0 x1 A3 l3 k3 w'→∀v' w2 (a':Act),w2.ownsRow base 32 3 v' (k+1) (us++[.int .i64 x0,.int .i64 x1,.slice A3 l3 k3])→(w'.alloc (.cells #[.int .i64 x0,.int .i64 x1,.slice A3 l3 k3] 32)).grownBy w2 v.ownBlock→(v'.ownBlock=v.ownBlock∨v'.ownBlock=some (w'.heap.size+1))→a'.defers=[]→a'.tmps.size=21→a'.tmps.getD 0 undef=.slice (some ⟨b,o,none⟩) N c→a'.tmps.getD 3 undef=v'→a'.tmps.getD 4 undef=.int .i64 (k:Int)→Q .normal a' w2) :
 CE5.wp Try.prog Q {tmps:=List.toArray (.slice (some ⟨b,o,none⟩) N c::f 1::f 2::v::.int .i64 (k:Int)::f 5::f 6::f 7::f 8::f 9::f 10::f 11::f 12::f 13::f 14::f 15::f 16::f 17::f 18::f 19::f 20::[]),defers:=[]} w:=by
 unfold CE5
 go_wp2_with fail
 refine hcall.mono ?_
 rintro e w' ⟨x0,x1,A3,l3,k3,rfl,hp,hown,hbase⟩
 obtain⟨i0,hi,hz0,hz1,hz2⟩:=info_parts zwX
 go_wp2_with (at_builtin;refine wpList_append_own_at _ rfl (.tmp 12) (.tmp 18) 30 rfl base 32 i0 (.agg #[.int .i64 0,.int .i64 0,.slice none 0 0]) 3 40 Try.underlying30 hi hz0 hz1 hz2 rfl (by decide) _ _ _ rfl (hown.alloc _) ⟨w'.heap.size,0,none⟩ 1 1 [.int .i64 x0,.int .i64 x1,.slice A3 l3 k3] rfl rfl ?c1 ?c2 ?c3 ?c4 ?c5 ?_)
 case c1=>exact World.news_of_block (fr:=(0,0)) (zup _ _ _ rfl)
 case c2=>intro u hu;simp at hu;rcases hu with rfl|rfl|rfl <;> rfl
 case c3=>unfold maxLen;omega
 case c4=>omega
 case c5=>simp;omega
 intro v' w5 hown5 hg5 _ hob5
 go_wp2
 exact hQ _ _ _ _ _ _ hp _ _ _ hown5 hg5 (by simpa using hob5) rfl rfl rfl rfl rfl
set_option maxRecDepth 100000 in
theorem zsA {m:Array Value} (h:m.size=21):m=List.toArray (m.getD 0 undef::m.getD 1 undef::m.getD 2 undef::m.getD 3 undef::m.getD 4 undef::m.getD 5 undef::m.getD 6 undef::m.getD 7 undef::m.getD 8 undef::m.getD 9 undef::m.getD 10 undef::m.getD 11 undef::m.getD 12 undef::m.getD 13 undef::m.getD 14 undef::m.getD 15 undef::m.getD 16 undef::m.getD 17 undef::m.getD 18 undef::m.getD 19 undef::m.getD 20 undef::[]):=by
 apply Array.ext'
 have h1:m.toList=(List.range 21).map (fun i=>m.getD i undef):=by
  apply List.ext_getElem
  ·simp[h]
  ·intro i h1 h2
   simp only[Array.length_toList] at h1;simp[Array.getD,h1]
 exact h1.trans rfl
def CE3:Code:=.region 3 #[⟨some 6,.move (.tmp 4),3,"l2_program.go:42",#[],none⟩,⟨some 7,.move (.tmp 0),30,"l2_program.go:42",#[],none⟩,⟨some 8,.call ⟨.builtin .len,#[.tmp 7],#[30]⟩,3,"l2_program.go:42",#[⟨1,.data⟩],none⟩,⟨some 9,.binOp .lss 3 (.tmp 6) (.tmp 8) 3,4,"l2_program.go:42",#[⟨0,.data⟩,⟨2,.data⟩],none⟩] false
def CE4:Code:=.region 4 #[⟨some 10,.move (.tmp 4),3,"l2_program.go:42",#[],none⟩,⟨some 11,.binOp .add 3 (.tmp 10) (.const (.int .i64 1)) 3,3,"l2_program.go:42",#[⟨0,.data⟩],none⟩,⟨some 4,.assign (.tmp 11),3,"l2_program.go:42",#[⟨1,.data⟩,⟨0,.phase⟩,⟨1,.phase⟩],none⟩] false
theorem zBK {m:Array Value}{A:Option Addr}{N c k:Nat}{w:World} (hk:k≤N) (hN:N≤1048576) (hs:m.size=21) (m0:m.getD 0 undef=.slice A N c) (m4:m.getD 4 undef=.int .i64 (k:Int)) (Q:Exit→Act→World→Prop)
 (hQ:∀a':Act,a'.defers=[]→a'.tmps.size=21→a'.tmps.getD 0 undef=.slice A N c→a'.tmps.getD 3 undef=m.getD 3 undef→a'.tmps.getD 4 undef=.int .i64 (k:Int)→a'.tmps.getD 9 undef=.bool (decide (k<N))→Q .normal a' w) :
 CE3.wp Try.prog Q {tmps:=m,defers:=[]} w:=by
 have e:=zsA hs
 rw[m0,m4] at e;rw[e];generalize m.getD 3 undef=v3 at *
 unfold CE3
 go_wp2
 exact hQ _ rfl rfl rfl rfl rfl rfl
theorem zBn {m:Array Value}{A:Option Addr}{N c k:Nat}{w:World} (hk:k≤1048576) (hs:m.size=21) (m0:m.getD 0 undef=.slice A N c) (m4:m.getD 4 undef=.int .i64 (k:Int)) (Q:Exit→Act→World→Prop)
 (hQ:∀a':Act,a'.defers=[]→a'.tmps.size=21→a'.tmps.getD 0 undef=.slice A N c→a'.tmps.getD 3 undef=m.getD 3 undef→a'.tmps.getD 4 undef=.int .i64 ((k+1:Nat):Int)→Q .normal a' w) :
 CE4.wp Try.prog Q {tmps:=m,defers:=[]} w:=by
 have e:=zsA hs
 rw[m0,m4] at e;rw[e];generalize m.getD 3 undef=v3 at *
 unfold CE4
 go_wp2
 exact hQ _ rfl rfl rfl rfl (by simp)
theorem zCg {m:Array Value}{b o N c k base:Nat}{us:List Value}{e0 e1:Int}{A1:Option Addr}{l1 c1:Nat}{w:World} (hk:k<N) (hN:N≤1048576)
 (h0:w.cell? ⟨b,o+k*3,none⟩=some (.int .i64 e0)) (h1:w.cell? ⟨b,o+k*3+1,none⟩=some (.int .i64 e1)) (h2:w.cell? ⟨b,o+k*3+2,none⟩=some (.slice A1 l1 c1))
 {post:Int→Int→Option Addr→Nat→Nat→World→Prop}
 (hcall:Calls Try.prog 79 #[.agg #[.int .i64 e0,.int .i64 e1,.slice A1 l1 c1]] w fun e w'=>∃x0 x1 A3 l3 k3,e=.returned (.agg #[.int .i64 x0,.int .i64 x1,.slice A3 l3 k3])∧post x0 x1 A3 l3 k3 w'∧w'.ownsRow base 32 3 (m.getD 3 undef) k us∧base≤w'.heap.size)
 (hs:m.size=21) (m0:m.getD 0 undef=.slice (some ⟨b,o,none⟩) N c) (m4:m.getD 4 undef=.int .i64 (k:Int))
 (Q:Exit→Act→World→Prop) (hQ:∀x0 x1 A3 l3 k3 w',post x0 x1 A3 l3 k3 w'→∀v' w2 (a':Act),w2.ownsRow base 32 3 v' (k+1) (us++[.int .i64 x0,.int .i64 x1,.slice A3 l3 k3])→(w'.alloc (.cells #[.int .i64 x0,.int .i64 x1,.slice A3 l3 k3] 32)).grownBy w2 (m.getD 3 undef).ownBlock→(v'.ownBlock=(m.getD 3 undef).ownBlock∨v'.ownBlock=some (w'.heap.size+1))→a'.defers=[]→a'.tmps.size=21→a'.tmps.getD 0 undef=.slice (some ⟨b,o,none⟩) N c→a'.tmps.getD 3 undef=v'→a'.tmps.getD 4 undef=.int .i64 (k:Int)→Q .normal a' w2) :
 CE5.wp Try.prog Q {tmps:=m,defers:=[]} w:=by
 have e:=zsA hs
 rw[m0,m4] at e;rw[e];exact zBL (f:=fun i=>m.getD i undef) hk hN h0 h1 h2 hcall Q hQ
end
section
open Go Go.RowKit
structure CI (p0:Stb) (w0:World) (b o N c:Nat) (kids:List (List AC)) (k:Nat) (m:Array Value) (w:World):Prop where
 size:m.size=21
 m0:m.getD 0 undef=.slice (some ⟨b,o,none⟩) N c
 ex:∃us p,w.ownsRow w0.heap.size 32 3 (m.getD 3 undef) k us∧RepL p w us (kids.take k).flatten∧(∀g,(m.getD 3 undef).ownBlock=some g→p g=0∧p.ok g 3)∧Rep p w (.slice (some ⟨b,o,none⟩) N c) (.sl 3 kids)∧Zp p w∧Evo (fun _=>False) p0 w0 p w
section
variable {p0:Stb}{w0:World}{b o N c:Nat}{kids:List (List AC)}
theorem zwZ (hK:zcA kids) (hs:kids.length+rsS kids≤50000) {k:Nat}{m:Array Value}{w:World} (h:CI p0 w0 b o N c kids k m w) (hk:k<kids.length) (h4:m.getD 4 undef=.int .i64 (k:Int)) (Q:Exit→Act→World→Prop)
  (hQ:∀a' w',a'.defers=[]→CI p0 w0 b o N c kids (k+1) a'.tmps w'→a'.tmps.getD 4 undef=.int .i64 (k:Int)→Q .normal a' w') :
  CE5.wp Try.prog Q {tmps:=m,defers:=[]} w:=by
 obtain⟨us,p,hown,hus,hpz,hrep,hz,hev⟩:=h.ex;obtain⟨hN,_,hrows,hb,hp,hok,hcap,f,hcc,hrr⟩:=zcU hrep (by intro e;rw[e] at hk;simp at hk)
 have hmem:kids[k]∈kids:=List.getElem_mem hk
 have hf:=hK _ hmem
 have hle:=zkX hmem
 have hg:kids.getD k []=kids[k]:=by simp[List.getD,hk]
 generalize hrow:kids[k]=row at *
 cases hf with
 | expr e0 e1 l ho hno hl hk2 =>
 have hget:∀(j:Nat) (x:AC),[AC.int e0,.int e1,.sl 3 l][j]?=some x→w.cell? ⟨b,o+k*3+j,none⟩=some (f k j)∧Rep p w (f k j) x:=fun j x hx=>⟨hcc k j x (by rw[hg];exact hx),hrr k j x (by rw[hg];exact hx)⟩
 obtain⟨b0,r0⟩:=hget 0 _ rfl;obtain⟨b1,r1⟩:=hget 1 _ rfl;obtain⟨b2,r2⟩:=hget 2 _ rfl;have q0:f k 0=.int .i64 e0:=by
  generalize f k 0=v at r0
  cases r0;rfl
 have q1:f k 1=.int .i64 e1:=by
  generalize f k 1=v at r1
  cases r1;rfl
 obtain⟨A1,l1,c1,q2⟩:=zbd r2;rw[q0] at b0;rw[q1] at b1;rw[q2] at b2 r2;have hbs:=hown.1
 have hl1:l.length+rsS l≤50000:=by
  have hc:cS [AC.int e0,.int e1,.sl 3 l]=1+l.length+rsS l∨l.length+rsS l≤cS [AC.int e0,.int e1,.sl 3 l]:=.inr (by simp[cS,rsS,acS,acS.cS,acS.rsS])
  omega
 have hcall:=znH (P:=Try.prog) (L:=lay) zdI zeY zso zss (zua (o:=e0) (n:=e1) hk2 (by omega)) (by kernel_rfl) (p:=p) (w:=w) (vals:=[.agg #[.int .i64 e0,.int .i64 e1,.slice A1 l1 c1]]) ⟨⟨_,rfl,.int _,.int _,r2,trivial⟩,trivial⟩ hz
 refine zCg (base:=w0.heap.size) (us:=us) (post:=fun x0 x1 A3 l3 k3 w'=>x0=e0∧x1=e1∧∃p',Rep p' w' (.slice A3 l3 k3) (.sl 3 l)∧Evo (fun _=>False) p w p' w'∧Zp p' w') (by omega) (by omega) b0 b1 b2 ?_ h.size h.m0 h4 Q ?_
 ·refine hcall.mono ?_
  rintro e w' ⟨v,rfl,hB,p',hsr,hev',hz',_⟩
  obtain⟨arr,rfl,hl⟩:∃arr,v=.agg arr∧RepL p' w' arr.toList [.int e0,.int e1,.sl 3 l]:=hsr;obtain⟨ls⟩:=arr
  match ls,hl with
  | [x0,x1,x2],⟨t0,t1,t2,_⟩ =>
   cases t0;cases t1;obtain⟨A3,l3,k3,rfl⟩:=zbd t2;exact⟨_,_,_,_,_,rfl,⟨rfl,rfl,p',t2,hev',hz'⟩,hown.kept (row:=none) ⟨hev'.os,hev'.tape,hev'.output,hev'.size,fun x hx _=>hev'.block x hx (fun h=>h)⟩ (by cases (m.getD 3 undef).ownBlock <;> simp),by have:=hev'.size;have:=hev.size;omega⟩
 ·rintro x0 x1 A3 l3 k3 w' ⟨rfl,rfl,p',hr3,hev',hz'⟩ v' w2 a' hown2 hgr hob hd hs' hm0 hm3 hm4
  have hpo:∀g,(m.getD 3 undef).ownBlock=some g→p' g=0:=fun g hg=>(hev'.same g (hown.lt g hg).2 (fun h=>h)).trans (hpz g hg).1
  have hE:Evo (fun x=>(m.getD 3 undef).ownBlock=some x) p' w' (okP p' w' 3) w2:=by
   have hblk:∀x,x<w'.heap.size→(m.getD 3 undef).ownBlock≠some x→w2.heap[x]?=w'.heap[x]?:=fun x hx hn=>(hgr.block x (by simp;omega) (fun e=>hn e.symm)).trans (Below.heap_alloc _ _ _ hx)
   refine⟨hgr.os,hgr.tape,hgr.output,by have:=hgr.size;simp at this;omega,hblk,fun _ _=>Nat.le_refl _,fun _ _ _=>rfl,fun x y hx hy=>?_,fun x hx=>zuG hx,fun x h1 _ i j hi hj=>zx6 h1 hi hj⟩
   exact World.cell?_of_block (w:=w') (hblk x hx (fun e=>by have:=hpo x e;omega))
  have hE0:Evo (fun _=>False) p0 w0 (okP p' w' 3) w2:=(hev.trans hev' (C:=fun _=>False) (fun _ _ h=>h) (fun _ _ h=>h)).trans hE (fun _ _ h=>h) (fun x hx e=>by have:=(hown.lt x e).1;omega)
  refine hQ a' w2 hd ⟨hs',hm0,us++[.int .i64 x0,.int .i64 x1,.slice A3 l3 k3],okP p' w' 3,by rw[hm3];exact hown2,?_,?_,(hrep.evo hev').evo hE,⟨fun x hx=>hz'.1 x (Nat.le_trans hE.size hx),fun _ _ _=>trivial⟩,hE0⟩ hm4
  ·rw[List.take_succ_eq_append_getElem hk,List.flatten_append,hrow]
   have h3:RepL (okP p' w' 3) w2 [.int .i64 x0,.int .i64 x1,.slice A3 l3 k3] [.int x0,.int x1,.sl 3 l]:=⟨.int _,.int _,hr3.evo hE,trivial⟩
   simpa using ((hus.evo hev').evo hE).append h3
  ·intro g hg
   rw[hm3] at hg;rcases hob with e|e
   ·have hg':=e▸hg
    refine⟨hpo g hg',?_⟩
    rw[zuG (Nat.lt_of_lt_of_le (hown.lt g hg').2 hev'.size),hev'.okk g (hown.lt g hg').2];exact(hpz g hg').2
   ·rw[e] at hg
    cases hg;refine⟨hz'.1 _ (by omega),?_⟩
    rw[zwM (by omega)]
end
end
section
open Go Go.RowKit
section
variable {p0:Stb}{w0:World}{b o N c:Nat}{kids:List (List AC)}
set_option maxHeartbeats 4000000 in
theorem zqS (hz:Zp p0 w0) (hr:Rep p0 w0 (.slice (some ⟨b,o,none⟩) N c) (.sl 3 kids)) (hn:kids≠[]) (hK:zcA kids) (hs:kids.length+rsS kids≤50000):Calls Try.prog 47 #[.slice (some ⟨b,o,none⟩) N c] w0 fun e w'=>∃v us p',e=.returned v ∧
  w'.ownsRow w0.heap.size 32 3 v kids.length us∧RepL p' w' us kids.flatten∧(∀g,v.ownBlock=some g→p' g=0∧p'.ok g 3)∧Zp p' w'∧Evo (fun _=>False) p0 w0 p' w':=by
 have hN:=(zcU hr hn).1
 go_enter Try.func47,Try.ntmps47
 go_wp2_with fail
 refine wp_loop (fun a w=>a.defers=[]∧∃k:Nat,k≤kids.length∧a.tmps.getD 4 undef=.int .i64 (k:Int)∧CI p0 w0 b o N c kids k a.tmps w) (fun a w=>match a.tmps.getD 4 undef with
  | .int _ z=>kids.length-z.toNat
  | _=>0) ?_ ?_
 ·refine⟨rfl,0,Nat.zero_le _,rfl,rfl,rfl,[],upP p0 w0.heap.size 0 3,?_,?_,?_,?_,?_,?_⟩
  ·exact World.ownsRow_lit (base:=w0.heap.size) (e:=32) (size:=3) w0 #[] 0 (Nat.le_refl _) (by simp[maxLen]) rfl
  ·show RepL _ _ [] []
   trivial
  ·intro g hg
   cases hg;exact⟨by rw[za0,if_pos rfl],zd2 _ _ _ _⟩
  ·exact hr.evo (zav _ 0 (fun _=>False) 3)
  ·exact⟨fun x hx=>by
    rw[za0];split
    ·rfl
    ·exact hz.1 x (by simp at hx;omega),fun _ _ _=>trivial⟩
  ·exact zav _ 0 _ 3
 rintro⟨m1,dd⟩ w1 ⟨hd,k,hk,h4,hL⟩
 have hd:dd=[]:=hd
 subst hd;have h4:m1.getD 4 undef=.int .i64 (k:Int):=h4
 have hL:CI p0 w0 b o N c kids k m1 w1:=hL
 refine wp_seq (wp_seq (zBK (by omega) (by omega) hL.size hL.m0 h4 _ fun a1 hd1 hs1 hm0 hm3 hm4 hm9=>?_))
 have hL1:CI p0 w0 b o N c kids k a1.tmps w1:=⟨hs1,hm0,by rw[hm3];exact hL.ex⟩
 obtain⟨m2,dd⟩:=a1;have hd1:dd=[]:=hd1
 subst hd1;refine wp_cond (t:=decide (k<N)) hm9 ?_
 by_cases hlt:k<N
 ·rw[decide_eq_true hlt]
  simp only[if_true];refine wp_skip ?_
  show Code.wp _ (.seq (.block 1 CE5) CE4) _ ⟨m2,[]⟩ w1
  refine wp_seq (wp_block (zwZ hK hs hL1 (by omega) hm4 _ fun a' w' hd' hL' h4'=>?_))
  obtain⟨m3,dd⟩:=a';have hd':dd=[]:=hd'
  subst hd';show Code.wp _ CE4 _ ⟨m3,[]⟩ w'
  refine zBn (by omega) hL'.size hL'.m0 h4' _ fun a2 hd2 hs2 hm0' hm3' hm4'=>?_
  show(_∧_)∧_
  refine⟨⟨hd2,k+1,by omega,hm4',hs2,hm0',by rw[hm3'];exact hL'.ex⟩,?_⟩
  simp only[hm4',h4];omega
 ·rw[decide_eq_false hlt]
  simp only[Bool.false_eq_true,if_false];refine wp_exit ?_
  obtain rfl:k=kids.length:=by omega
  obtain⟨us,p,hown,hus,hpz,hrep,hz1,hev⟩:=hL1.ex;rw[List.take_length] at hus;have e:=zsA (m:=m2) hL1.size
  have hfin:∃v us p',m2.getD 3 undef=v∧w1.ownsRow w0.heap.size 32 3 v kids.length us∧RepL p' w1 us kids.flatten∧(∀g,v.ownBlock=some g→p' g=0∧p'.ok g 3)∧Zp p' w1∧Evo (fun _=>False) p0 w0 p' w1:=⟨_,us,p,rfl,hown,hus,hpz,hz1,hev⟩
  clear hL hL1 hown hus hpz hrep hz1 hev hm4 hm9 hm0 hs1 hm3 h4;obtain⟨v,us,p',hv,hfin⟩:=hfin;rw[hv] at e;rw[e];have HF:=Lib.hid hfin
  clear hfin e hv;simp only[Exit.then,Exit.inBlock,if_true]
  go_wp2
  go_ret
  exact⟨v,rfl,us,HF.out.1,p',HF.out.2⟩
end
end
section
open Go Go.RowKit
section
variable {ns:List Nat} (hns:ns.length≤2000) {w0:World}{p0:Stb}{b:Nat}
include hns
end
end
section
open Go Go.RowKit
def B0:Code:=.region 0 #[⟨some 3,.box 32 (.tmp 1),0,"l30_generate.go:426",#[],none⟩,⟨some 4,.alloc 32,0,"l30_generate.go:426",#[],none⟩] false
def B1:Code:=.region 1 #[⟨some 7,.fieldAddr 32 (.tmp 3) 2,0,"l30_generate.go:427",#[],none⟩,⟨some 8,.load 30 (.tmp 7),30,"l30_generate.go:427",#[⟨0,.data⟩],none⟩,⟨some 9,.call ⟨.builtin .len,#[.tmp 8],#[30]⟩,3,"l30_generate.go:427",#[⟨1,.data⟩],none⟩,⟨some 10,.binOp .gtr 3 (.tmp 9) (.const (.int .i64 0)) 3,4,"l30_generate.go:427",#[⟨2,.data⟩],none⟩,⟨some 11,.move (.tmp 10),4,"l30_generate.go:427",#[⟨3,.data⟩],none⟩,⟨some 12,.move (.tmp 0),47,"l30_generate.go:427",#[⟨4,.guard⟩],some (4,true)⟩,⟨some 13,.call ⟨.value (.func 27),#[.tmp 12,.const (.int .i64 3)],#[47,3]⟩,3,"l30_generate.go:427",#[⟨5,.data⟩,⟨4,.chain⟩,⟨4,.guard⟩],some (4,true)⟩,⟨some 14,.binOp .gtr 3 (.tmp 13) (.const (.int .i64 0)) 3,4,"l30_generate.go:427",#[⟨6,.data⟩,⟨4,.guard⟩],some (4,true)⟩,⟨some 15,.pick (.tmp 11) (.tmp 14) (.const (.bool false)),4,"l30_generate.go:427",#[⟨4,.data⟩,⟨7,.data⟩],none⟩] false
def B2:Code:=.region 2 #[⟨some 16,.fieldAddr 32 (.tmp 3) 2,0,"l30_generate.go:428",#[],none⟩,⟨some 17,.load 30 (.tmp 16),30,"l30_generate.go:428",#[⟨0,.data⟩],none⟩,⟨some 18,.call ⟨.value (.func 47),#[.tmp 17],#[30]⟩,30,"l30_generate.go:428",#[⟨1,.data⟩],none⟩,⟨some 5,.assign (.tmp 18),30,"l30_generate.go:428",#[⟨2,.data⟩,⟨2,.chain⟩,⟨0,.phase⟩,⟨1,.phase⟩,⟨2,.phase⟩],none⟩] false
def B3:Code:=.region 3 #[⟨some 19,.move (.tmp 0),47,"l30_generate.go:429",#[],none⟩,⟨some 20,.move (.tmp 5),30,"l30_generate.go:429",#[],none⟩,⟨some 21,.call ⟨.builtin .len,#[.tmp 20],#[30]⟩,3,"l30_generate.go:429",#[⟨1,.data⟩],none⟩,⟨some 22,.call ⟨.value (.func 27),#[.tmp 19,.tmp 21],#[47,3]⟩,3,"l30_generate.go:429",#[⟨0,.data⟩,⟨2,.data⟩],none⟩,⟨some 6,.assign (.tmp 22),3,"l30_generate.go:429",#[⟨3,.data⟩,⟨3,.chain⟩,⟨0,.phase⟩,⟨1,.phase⟩,⟨2,.phase⟩,⟨3,.phase⟩],none⟩] false
def B4:Code:=.region 4 #[⟨some 23,.move (.tmp 5),30,"l30_generate.go:430",#[],none⟩,⟨some 24,.move (.tmp 6),3,"l30_generate.go:430",#[],none⟩,⟨some 25,.move (.tmp 0),47,"l30_generate.go:430",#[],none⟩,⟨some 26,.move (.tmp 5),30,"l30_generate.go:430",#[],none⟩,⟨some 27,.move (.tmp 6),3,"l30_generate.go:430",#[],none⟩,⟨some 28,.indexAddr 30 (.tmp 26) (.tmp 27),0,"l30_generate.go:430",#[⟨3,.data⟩,⟨4,.data⟩],none⟩,⟨some 29,.load 32 (.tmp 28),32,"l30_generate.go:430",#[⟨5,.data⟩],none⟩,⟨some 30,.call ⟨.value (.func 30),#[.tmp 25,.tmp 29],#[47,32]⟩,32,"l30_generate.go:430",#[⟨2,.data⟩,⟨6,.data⟩],none⟩,⟨some 31,.indexAddr 30 (.tmp 23) (.tmp 24),0,"l30_generate.go:430",#[⟨0,.data⟩,⟨1,.data⟩,⟨0,.phase⟩,⟨1,.phase⟩,⟨2,.phase⟩,⟨3,.phase⟩,⟨4,.phase⟩,⟨5,.phase⟩,⟨6,.phase⟩,⟨7,.phase⟩],none⟩,⟨none,.store 32 (.tmp 31) (.tmp 30),0,"l30_generate.go:430",#[⟨8,.data⟩,⟨7,.data⟩,⟨7,.chain⟩,⟨0,.phase⟩,⟨1,.phase⟩,⟨2,.phase⟩,⟨3,.phase⟩,⟨4,.phase⟩,⟨5,.phase⟩,⟨6,.phase⟩,⟨7,.phase⟩],none⟩] false
def B5:Code:=.region 5 #[⟨some 32,.fieldAddr 32 (.tmp 3) 0,0,"l30_generate.go:431",#[],none⟩,⟨some 33,.load 3 (.tmp 32),3,"l30_generate.go:431",#[⟨0,.data⟩],none⟩,⟨some 34,.fieldAddr 32 (.tmp 3) 1,0,"l30_generate.go:431",#[],none⟩,⟨some 35,.load 3 (.tmp 34),3,"l30_generate.go:431",#[⟨2,.data⟩],none⟩,⟨some 36,.move (.tmp 5),30,"l30_generate.go:431",#[],none⟩,⟨some 37,.call ⟨.value (.func 48),#[.tmp 33,.tmp 35,.tmp 36],#[3,3,30]⟩,32,"l30_generate.go:431",#[⟨1,.data⟩,⟨3,.data⟩,⟨4,.data⟩],none⟩,⟨none,.store 32 (.tmp 4) (.tmp 37),0,"l30_generate.go:431",#[⟨5,.data⟩,⟨5,.chain⟩,⟨0,.phase⟩,⟨1,.phase⟩,⟨2,.phase⟩,⟨3,.phase⟩,⟨4,.phase⟩,⟨5,.phase⟩],none⟩] false
set_option maxRecDepth 100000 in
theorem zAg:cOf Try.f30=.seq B0 (.seq (.seq B1 (.cond (.tmp 15) (.seq B2 (.seq B3 (.seq B4 (.seq B5 .ret)))) .skip)) (zdA 2 (cOf Try.f30))):=by kernel_rfl
set_option maxRecDepth 100000 in
theorem zlG {m:Array Value} (h:m.size=85):m=List.toArray (sM m 0::sM m 1::sM m 2::sM m 3::sM m 4::sM m 5::sM m 6::sM m 7::sM m 8::sM m 9::sM m 10::sM m 11::sM m 12::sM m 13::sM m 14::sM m 15::sM m 16::sM m 17::sM m 18::sM m 19::sM m 20::sM m 21::sM m 22::sM m 23::sM m 24::sM m 25::sM m 26::sM m 27::sM m 28::sM m 29::sM m 30::sM m 31::sM m 32::sM m 33::sM m 34::sM m 35::sM m 36::sM m 37::sM m 38::sM m 39::sM m 40::sM m 41::sM m 42::sM m 43::sM m 44::sM m 45::sM m 46::sM m 47::sM m 48::sM m 49::sM m 50::sM m 51::sM m 52::sM m 53::sM m 54::sM m 55::sM m 56::sM m 57::sM m 58::sM m 59::sM m 60::sM m 61::sM m 62::sM m 63::sM m 64::sM m 65::sM m 66::sM m 67::sM m 68::sM m 69::sM m 70::sM m 71::sM m 72::sM m 73::sM m 74::sM m 75::sM m 76::sM m 77::sM m 78::sM m 79::sM m 80::sM m 81::sM m 82::sM m 83::sM m 84::[]):=by
 apply Array.ext'
 have h1:m.toList=(List.range 85).map (fun i=>m.getD i undef):=by
  apply List.ext_getElem
  ·simp[h]
  ·intro i h1 h2
   simp only[Array.length_toList] at h1;simp[Array.getD,h1]
 exact h1.trans rfl
set_option maxRecDepth 100000 in
set_option maxHeartbeats 4000000 in
theorem zCq {m:Array Value}{e0 e1:Int}{A:Option Addr}{n c:Nat}{w:World}  (hs:m.size=85) (m1:m.getD 1 undef=.agg #[.int .i64 e0,.int .i64 e1,.slice A n c]) (Q:Exit→Act→World→Prop) (hQ:∀a':Act,a'.defers=[]→a'.tmps.size=85→a'.tmps.getD 0 undef=m.getD 0 undef→a'.tmps.getD 3 undef=.pointer (some ⟨w.heap.size,0,none⟩)→a'.tmps.getD 4 undef=.pointer (some ⟨w.heap.size+1,0,none⟩)→Q .normal a' ((w.alloc (.cells #[.int .i64 e0,.int .i64 e1,.slice A n c] 32)).alloc (.cells #[.int .i64 0,.int .i64 0,.slice none 0 0] 32))) :
 B0.wp Try.prog Q {tmps:=m,defers:=[]} w:=by
 have e:=zlG hs
 rw[show sM m 1=_ from m1] at e;rw[e];clear e;unfold B0
 go_wp2
 exact hQ _ rfl rfl rfl rfl rfl
set_option maxRecDepth 100000 in
set_option maxHeartbeats 4000000 in
theorem zB1 {m:Array Value}{c3 c:Nat}{A:Option Addr}{w:World} (h32:w.cell? ⟨c3,2,none⟩=some (.slice A 0 c)) (hs:m.size=85) (m3:m.getD 3 undef=.pointer (some ⟨c3,0,none⟩)) (Q:Exit→Act→World→Prop) (hQ:∀a':Act,a'.defers=[]→a'.tmps.size=85→a'.tmps.getD 0 undef=m.getD 0 undef→a'.tmps.getD 3 undef=.pointer (some ⟨c3,0,none⟩)→a'.tmps.getD 4 undef=m.getD 4 undef→a'.tmps.getD 15 undef=.bool false→Q .normal a' (w)) :
 B1.wp Try.prog Q {tmps:=m,defers:=[]} w:=by
 have e:=zlG hs
 rw[show sM m 3=_ from m3] at e;rw[e];clear e;unfold B1
 go_wp2
 exact hQ _ rfl rfl rfl rfl rfl rfl
set_option maxRecDepth 100000 in
set_option maxHeartbeats 4000000 in
theorem zCQ {m:Array Value}{c3 n c:Nat}{A:Option Addr}{w:World}{post:Nat→World→Prop} (hn:0<n) (hn2:n≤1048576) (h32:w.cell? ⟨c3,2,none⟩=some (.slice A n c)) (hcall:Calls Try.prog 27 #[(m.getD 0 undef),.int .i64 3] w fun e w'=>∃x:Nat,e=.returned (.int .i64 (x:Int))∧post x w') (hs:m.size=85) (m3:m.getD 3 undef=.pointer (some ⟨c3,0,none⟩)) (Q:Exit→Act→World→Prop) (hQ:∀(x:Nat) (w':World),post x w'→∀a':Act,a'.defers=[]→a'.tmps.size=85→a'.tmps.getD 0 undef=m.getD 0 undef→a'.tmps.getD 3 undef=.pointer (some ⟨c3,0,none⟩)→a'.tmps.getD 4 undef=m.getD 4 undef→a'.tmps.getD 15 undef=.bool (decide (0<x))→Q .normal a' (w')) :
 B1.wp Try.prog Q {tmps:=m,defers:=[]} w:=by
 have e:=zlG hs
 rw[show sM m 3=_ from m3] at e;rw[e];clear e;unfold B1;have hn3:(0:Int)<(n:Int):=by omega
 go_wp2_with fail
 refine hcall.mono ?_
 rintro e w' ⟨x,rfl,hp⟩
 go_wp2
 exact hQ _ _ hp _ rfl rfl rfl rfl rfl rfl
set_option maxRecDepth 100000 in
set_option maxHeartbeats 4000000 in
theorem zCV {m:Array Value}{c3 n c:Nat}{A:Option Addr}{w:World}{post:Value→World→Prop} (h32:w.cell? ⟨c3,2,none⟩=some (.slice A n c)) (hcall:Calls Try.prog 47 #[.slice A n c] w fun e w'=>∃v,e=.returned v∧post v w') (hs:m.size=85) (m3:m.getD 3 undef=.pointer (some ⟨c3,0,none⟩)) (Q:Exit→Act→World→Prop) (hQ:∀(v:Value) (w':World),post v w'→∀a':Act,a'.defers=[]→a'.tmps.size=85→a'.tmps.getD 0 undef=m.getD 0 undef→a'.tmps.getD 3 undef=.pointer (some ⟨c3,0,none⟩)→a'.tmps.getD 4 undef=m.getD 4 undef→a'.tmps.getD 5 undef=v→Q .normal a' (w')) :
 B2.wp Try.prog Q {tmps:=m,defers:=[]} w:=by
 have e:=zlG hs
 rw[show sM m 3=_ from m3] at e;rw[e];clear e;unfold B2
 go_wp2_with fail
 refine hcall.mono ?_
 rintro e w' ⟨v,rfl,hp⟩
 go_wp2
 exact hQ _ _ hp _ rfl rfl rfl rfl rfl rfl
set_option maxRecDepth 100000 in
set_option maxHeartbeats 4000000 in
theorem zCp {m:Array Value}{n c:Nat}{A:Option Addr}{w:World}{post:Nat→World→Prop} (hcall:Calls Try.prog 27 #[(m.getD 0 undef),.int .i64 (n:Int)] w fun e w'=>∃x:Nat,e=.returned (.int .i64 (x:Int))∧post x w') (hs:m.size=85) (m5:m.getD 5 undef=.slice A n c) (Q:Exit→Act→World→Prop) (hQ:∀(x:Nat) (w':World),post x w'→∀a':Act,a'.defers=[]→a'.tmps.size=85→a'.tmps.getD 0 undef=m.getD 0 undef→a'.tmps.getD 3 undef=m.getD 3 undef→a'.tmps.getD 4 undef=m.getD 4 undef→a'.tmps.getD 5 undef=.slice A n c→a'.tmps.getD 6 undef=.int .i64 (x:Int)→Q .normal a' (w')) :
 B3.wp Try.prog Q {tmps:=m,defers:=[]} w:=by
 have e:=zlG hs
 rw[show sM m 5=_ from m5] at e;rw[e];clear e;unfold B3
 go_wp2_with fail
 refine hcall.mono ?_
 rintro e w' ⟨x,rfl,hp⟩
 go_wp2
 exact hQ _ _ hp _ rfl rfl rfl rfl rfl rfl rfl
set_option maxRecDepth 100000 in
set_option maxHeartbeats 4000000 in
theorem zCE {m:Array Value}{g n c k:Nat}{e0 e1:Int}{A:Option Addr}{l d:Nat}{w:World}{post:Int→Int→Option Addr→Nat→Nat→World→Prop} (hk:k<n) (hn:n≤1048576) (h0:w.cell? ⟨g,k*3,none⟩=some (.int .i64 e0)) (h1:w.cell? ⟨g,k*3+1,none⟩=some (.int .i64 e1)) (h2:w.cell? ⟨g,k*3+2,none⟩=some (.slice A l d)) (hcall:Calls Try.prog 30 #[(m.getD 0 undef),.agg #[.int .i64 e0,.int .i64 e1,.slice A l d]] w fun e w'=>∃x0 x1 A3 l3 k3,e=.returned (.agg #[.int .i64 x0,.int .i64 x1,.slice A3 l3 k3])∧post x0 x1 A3 l3 k3 w'∧w'.cell? ⟨g,k*3,none⟩=some (.int .i64 e0)∧w'.cell? ⟨g,k*3+1,none⟩=some (.int .i64 e1)∧w'.cell? ⟨g,k*3+2,none⟩=some (.slice A l d)∧w'.frozen? ⟨g,k*3,none⟩=false∧w'.frozen? ⟨g,k*3+1,none⟩=false∧w'.frozen? ⟨g,k*3+2,none⟩=false) (hs:m.size=85) (m5:m.getD 5 undef=.slice (some ⟨g,0,none⟩) n c) (m6:m.getD 6 undef=.int .i64 (k:Int)) (Q:Exit→Act→World→Prop) (hQ:∀x0 x1 A3 l3 k3 (w':World),post x0 x1 A3 l3 k3 w'→∀a':Act,a'.defers=[]→a'.tmps.size=85→a'.tmps.getD 0 undef=m.getD 0 undef→a'.tmps.getD 3 undef=m.getD 3 undef→a'.tmps.getD 4 undef=m.getD 4 undef→a'.tmps.getD 5 undef=.slice (some ⟨g,0,none⟩) n c→Q .normal a' (((w'.setCell ⟨g,k*3,none⟩ (.int .i64 x0)).setCell ⟨g,k*3+1,none⟩ (.int .i64 x1)).setCell ⟨g,k*3+2,none⟩ (.slice A3 l3 k3))) :
 B4.wp Try.prog Q {tmps:=m,defers:=[]} w:=by
 have e:=zlG hs
 rw[show sM m 5=_ from m5,show sM m 6=_ from m6] at e;rw[e];clear e;unfold B4
 go_wp2_with fail
 refine hcall.mono ?_
 rintro e w' ⟨x0,x1,A3,l3,k3,rfl,hp,g0,g1,g2,f0,f1,f2⟩
 clear h0 h1 h2
 go_wp2
 exact hQ _ _ _ _ _ _ hp _ rfl rfl rfl rfl rfl rfl
set_option maxRecDepth 100000 in
set_option maxHeartbeats 4000000 in
theorem zCr {m:Array Value}{c3 c4:Nat}{e0 e1:Int}{v:Value}{w:World}{post:Int→Int→Option Addr→Nat→Nat→World→Prop} (h30:w.cell? ⟨c3,0,none⟩=some (.int .i64 e0)) (h31:w.cell? ⟨c3,1,none⟩=some (.int .i64 e1)) (hcall:Calls Try.prog 48 #[.int .i64 e0,.int .i64 e1,v] w fun e w'=>∃x0 x1 A3 l3 k3,e=.returned (.agg #[.int .i64 x0,.int .i64 x1,.slice A3 l3 k3])∧post x0 x1 A3 l3 k3 w'∧(∃T,w'.heap[c4]?=some (.cells #[.int .i64 0,.int .i64 0,.slice none 0 0] T (0,0)))) (hs:m.size=85) (m3:m.getD 3 undef=.pointer (some ⟨c3,0,none⟩)) (m4:m.getD 4 undef=.pointer (some ⟨c4,0,none⟩)) (m5:m.getD 5 undef=v) (Q:Exit→Act→World→Prop) (hQ:∀x0 x1 A3 l3 k3 (w':World),post x0 x1 A3 l3 k3 w'→∀a':Act,a'.defers=[]→(results Try.f30 a'.tmps).run Try.prog (((w'.setCell ⟨c4,0,none⟩ (.int .i64 x0)).setCell ⟨c4,1,none⟩ (.int .i64 x1)).setCell ⟨c4,2,none⟩ (.slice A3 l3 k3))=.ok (.agg #[.int .i64 x0,.int .i64 x1,.slice A3 l3 k3]) (((w'.setCell ⟨c4,0,none⟩ (.int .i64 x0)).setCell ⟨c4,1,none⟩ (.int .i64 x1)).setCell ⟨c4,2,none⟩ (.slice A3 l3 k3))→Q .ret a' (((w'.setCell ⟨c4,0,none⟩ (.int .i64 x0)).setCell ⟨c4,1,none⟩ (.int .i64 x1)).setCell ⟨c4,2,none⟩ (.slice A3 l3 k3))):(Code.seq B5 .ret).wp Try.prog Q {tmps:=m,defers:=[]} w:=by
 have e:=zlG hs
 rw[show sM m 3=_ from m3,show sM m 4=_ from m4,show sM m 5=_ from m5] at e;rw[e];clear e;unfold B5
 go_wp2_with fail
 refine hcall.mono ?_
 rintro e w' ⟨x0,x1,A3,l3,k3,rfl,hp,T,hT⟩
 have k0:=zaj (j:=0) hT rfl
 have k1:=zaj (j:=1) hT rfl
 have k2:=zaj (j:=2) hT rfl
 have f0:=frozen_of_row w' _ 0 _ _ hT
 have f1:=frozen_of_row w' _ 1 _ _ hT
 have f2:=frozen_of_row w' _ 2 _ _ hT
 have q1:=heap_setCell_same w' c4 0 _ T (.int .i64 x0) hT
 have q2:=heap_setCell_same _ c4 1 _ T (.int .i64 x1) q1
 have q3:=heap_setCell_same _ c4 2 _ T (.slice A3 l3 k3) q2
 have y0:=zaj (j:=0) q3 rfl
 have y1:=zaj (j:=1) q3 rfl
 have y2:=zaj (j:=2) q3 rfl
 clear h30 h31 hcall q1 q2 q3 hT
 go_wp2
 refine hQ _ _ _ _ _ _ hp _ rfl ?_
 simp[results,Try.results30,go_sem,y0,y1,y2]
end
section
open Go Go.RowKit
def zpA (p0:Stb) (w0:World) (b:Nat) (ns:List Nat) (pos M:Nat):Ending→World→Prop:=fun e w'=>∃v p' o n kids pos',e=.returned v∧RepS p' w' v (.agg [.int o,.int n,.sl 3 kids])∧Fit .expr [.int o,.int n,.sl 3 kids]∧1+kids.length+rsS kids≤M+1 ∧
 Evo (·=b) p0 w0 p' w'∧Zp p' w'∧TK p' w' (fun _=>False) b (Qr ns pos')∧pos'≤pos+4*M
structure BD (p0:Stb) (w0:World) (b c3 c4:Nat) (e0 e1:Int) (A:Option Addr) (n c:Nat) (kids:List (List AC)) (q:List AC) (p:Stb) (w:World) (m:Array Value):Prop where
 size:m.size=85
 m0:m.getD 0 undef=zaU b
 m3:m.getD 3 undef=.pointer (some ⟨c3,0,none⟩)
 m4:m.getD 4 undef=.pointer (some ⟨c4,0,none⟩)
 x3:∃T,w.heap[c3]?=some (.cells #[.int .i64 e0,.int .i64 e1,.slice A n c] T (0,0))
 x4:∃T,w.heap[c4]?=some (.cells #[.int .i64 0,.int .i64 0,.slice none 0 0] T (0,0))
 n34:c3≠c4
 g3:w0.heap.size≤c3
 g4:w0.heap.size≤c4
 z3:p c3=0
 z4:p c4=0
 gb:b<w0.heap.size
 rep:Rep p w (.slice A n c) (.sl 3 kids)
 tk:TK p w (fun _=>False) b q
 zp:Zp p w
 evo:Evo (·=b) p0 w0 p w
section
variable {ns:List Nat} (hns:ns.length≤2000) {p0 p p':Stb}{w0 w w':World}{b c3 c4:Nat}{e0 e1:Int}{A:Option Addr}{n c:Nat}{kids:List (List AC)}{q q':List AC}{m m':Array Value}
theorem BD.lt3 (h:BD p0 w0 b c3 c4 e0 e1 A n c kids q p w m):c3<w.heap.size:=by obtain⟨_,h⟩:=h.x3;exact zaD h
theorem BD.lt4 (h:BD p0 w0 b c3 c4 e0 e1 A n c kids q p w m):c4<w.heap.size:=by obtain⟨_,h⟩:=h.x4;exact zaD h
theorem BD.slots (h:BD p0 w0 b c3 c4 e0 e1 A n c kids q p w m) (hs:m'.size=85) (h0:m'.getD 0 undef=m.getD 0 undef) (h3:m'.getD 3 undef=m.getD 3 undef) (h4:m'.getD 4 undef=m.getD 4 undef):BD p0 w0 b c3 c4 e0 e1 A n c kids q p w m' :=
 {h with size:=hs,m0:=h0.trans h.m0,m3:=h3.trans h.m3,m4:=h4.trans h.m4}
theorem BD.on (h:BD p0 w0 b c3 c4 e0 e1 A n c kids q p w m) (hev:Evo (·=b) p w p' w') (hz:Zp p' w') (ht:TK p' w' (fun _=>False) b q'):BD p0 w0 b c3 c4 e0 e1 A n c kids q' p' w' m:=by
 have n3b:c3≠b:=fun e=>by have:=h.g3;have:=h.gb;omega
 have n4b:c4≠b:=fun e=>by have:=h.g4;have:=h.gb;omega
 exact {h with x3:=by rw[hev.block c3 h.lt3 n3b];exact h.x3,x4:=by rw[hev.block c4 h.lt4 n4b];exact h.x4,z3:=(hev.same c3 h.lt3 n3b).trans h.z3,z4:=(hev.same c4 h.lt4 n4b).trans h.z4,rep:=h.rep.evo hev,tk:=ht,zp:=hz,evo:=h.evo.trans hev (fun _ _ e=>e) (fun _ _ e=>e)}
theorem zeo {P:Program}{fn:Func}{R R':Ending→World→Prop}{cd:Code}{a:Act}{w:World} (h:cd.wp P (bodyPost P fn R) a w) (hR:∀e w,R e w→R' e w):cd.wp P (bodyPost P fn R') a w:=by
 refine Code.wp_mono (fun e a w h=>?_) h
 cases e with
 | normal=>obtain⟨h1,v,h2,h3⟩:=h;exact⟨h1,v,h2,hR _ _ h3⟩
 | ret=>obtain⟨h1,v,h2,h3⟩:=h;exact⟨h1,v,h2,hR _ _ h3⟩
 | panic ch=>obtain⟨h1,h3⟩:=h;exact⟨h1,hR _ _ h3⟩
 | outgrown=>exact hR _ _ h
 | _=>exact h.elim
include hns
theorem zy9 {pos M:Nat} (hM:M≤50000) (hM1:1≤M) {pos0:Nat} (hpp:pos≤pos0+2) (hpos:pos+100≤800000) (h:BD p0 w0 b c3 c4 e0 e1 A n c kids (Qr ns pos) p w m) (hf:Fit .expr [.int e0,.int e1,.sl 3 kids]) (hs:1+kids.length+rsS kids≤M) :
  (zdA 2 (cOf Try.f30)).wp Try.prog (bodyPost Try.prog Try.f30 (zpA p0 w0 b ns pos0 M)) {tmps:=m,defers:=[]} w:=by
 obtain⟨o',n',kids',pos',hev,hp',hf',hs'⟩:=zuv hns (n4:=0) (n5:=0) (l6:=[]) hf hs (by omega) (p:=pos) (by omega)
 obtain⟨O,hO⟩:=Option.isSome_iff_exists.1 zAT;obtain⟨T3,x3⟩:=h.x3;obtain⟨T4,x4⟩:=h.x4;have hb:=h.gb
 have hK:zrh p w m 85 [(3,.box [.int e0,.int e1,.sl 3 kids]),(4,.box [.int 0,.int 0,.sl 3 []])] (fun x=>w0.heap.size≤x):=by
  have look:∀t x,List.lookup t [(3,AV.box [.int e0,.int e1,.sl 3 kids]),(4,AV.box [.int 0,.int 0,.sl 3 []])]=some x→(t=3∧x=.box [.int e0,.int e1,.sl 3 kids])∨(t=4∧x=.box [.int 0,.int 0,.sl 3 []]):=fun t x hx=>by
   simp only[List.lookup_cons] at hx;by_cases h3:t=3
   ·subst h3;simp at hx;exact .inl ⟨rfl,hx.symm⟩
   ·by_cases h4:t=4
    ·subst h4;simp at hx;exact .inr ⟨rfl,hx.symm⟩
    ·rw[show(t==3)=false by simpa using h3,show(t==4)=false by simpa using h4] at hx
     simp at hx
  refine⟨fun t x hx=>?_,fun t x hx=>?_,fun t t' cs cs' x ht h1 h2 h3 h4=>?_⟩
  ·rcases look t x hx with ⟨rfl,rfl⟩|⟨rfl,rfl⟩
   ·exact⟨by omega,c3,_,T3,h.m3,x3,.int _,.int _,h.rep,trivial⟩
   ·exact⟨by omega,c4,_,T4,h.m4,x4,.int _,.int _,.nil _ _,trivial⟩
  ·rcases look t x hx with ⟨rfl,rfl⟩|⟨rfl,rfl⟩
   ·exact .inr ⟨_,c3,rfl,h.m3,h.z3,h.g3⟩
   ·exact .inr ⟨_,c4,rfl,h.m4,h.z4,h.g4⟩
  ·rcases look _ _ h1 with ⟨rfl,_⟩|⟨rfl,_⟩ <;> rcases look _ _ h2 with ⟨rfl,_⟩|⟨rfl,_⟩
   ·exact ht rfl
   ·rw[h.m3] at h3;rw[h.m4] at h4;cases h3;cases h4;exact h.n34 rfl
   ·rw[h.m4] at h3;rw[h.m3] at h4;cases h3;cases h4;exact h.n34 rfl
   ·exact ht rfl
 have hI:=zrs (q:=Qr ns pos) h.size hK h.zp (fun x hx=>Nat.le_trans h.evo.size hx) h.m0 (h.tk.own (Own':=fun x=>w0.heap.size≤x) (Nat.not_le.2 hb))
 refine zeo (zyu (Y:=zw4) (a:={tmps:=m,defers:=[]}) zdI zeY vok zuy hev (zds _ _ _) (ztn (n:=85) h.m0 (by omega) (fun t x hx=>(hK.lt t x hx).1) rfl) hO hI rfl h.evo) ?_
 rintro e w' ⟨v,rfl,p',hsr,_,_,hev',hz',ht'⟩
 exact⟨v,p',o',n',kids',pos',rfl,hsr,hf',hs',hev',hz',ht',by omega⟩
end
end
section
open Go Go.RowKit
section
variable {ns:List Nat}
theorem zwL {p0:Stb}{w0:World}{b pos:Nat}{e0 e1:Int}{A:Option Addr}{n c:Nat}{kids:List (List AC)} (hz:Zp p0 w0) (ht:TK p0 w0 (fun _=>False) b (Qr ns pos)) (hr:Rep p0 w0 (.slice A n c) (.sl 3 kids)) {m:Array Value} (hs:m.size=85) (h0:m.getD 0 undef=zaU b) (h1:m.getD 1 undef=.agg #[.int .i64 e0,.int .i64 e1,.slice A n c])
  (Q:Exit→Act→World→Prop) (hQ:∀a' w' p' c3 c4,a'.defers=[]→BD p0 w0 b c3 c4 e0 e1 A n c kids (Qr ns pos) p' w' a'.tmps→Q .normal a' w'):B0.wp Try.prog Q {tmps:=m,defers:=[]} w0:=by
 have hb:=ht.lt
 refine zCq hs h1 Q fun a' hd' hs' h0' h3' h4'=>?_
 have hea:=zav (p:=p0) (w:=w0) (.cells #[.int .i64 e0,.int .i64 e1,.slice A n c] 32) 0 (fun _=>False)
 have heb:=zav (p:=upP p0 w0.heap.size 0) (w:=w0.alloc (.cells #[.int .i64 e0,.int .i64 e1,.slice A n c] 32)) (.cells #[.int .i64 0,.int .i64 0,.slice none 0 0] 32) 0 (fun _=>False)
 have hsz:(w0.alloc (.cells #[.int .i64 e0,.int .i64 e1,.slice A n c] 32)).heap.size=w0.heap.size+1:=by simp
 have x3:((w0.alloc (.cells #[.int .i64 e0,.int .i64 e1,.slice A n c] 32)).alloc (.cells #[.int .i64 0,.int .i64 0,.slice none 0 0] 32)).heap[w0.heap.size]?=some (.cells #[.int .i64 e0,.int .i64 e1,.slice A n c] 32 (0,0)) :=
  (Below.heap_alloc _ _ _ (by omega)).trans (heap_alloc_new _ _)
 have x4:((w0.alloc (.cells #[.int .i64 e0,.int .i64 e1,.slice A n c] 32)).alloc (.cells #[.int .i64 0,.int .i64 0,.slice none 0 0] 32)).heap[w0.heap.size+1]?=some (.cells #[.int .i64 0,.int .i64 0,.slice none 0 0] 32 (0,0)):=by
  rw[←hsz];exact heap_alloc_new _ _
 have hE:=hea.trans heb (C:=fun _=>False) (fun _ _ h=>h) (fun _ _ h=>h)
 rw[hsz] at hE;refine hQ a' _ _ _ _ hd' {size:=hs',m0:=h0'.trans h0,m3:=h3',m4:=h4',x3:=⟨_,x3⟩,x4:=⟨_,x4⟩,n34:=by omega,g3:=Nat.le_refl _,g4:=by omega,z3:=?_,z4:=?_,gb:=hb,rep:=hr.evo hE,tk:=ht.evo hE,zp:=⟨fun x hx=>?_,fun _ _ _=>trivial⟩,evo:=hE.weaken (fun _ _ h=>h.elim)}
 ·rw[za0,if_neg (by omega),za0,if_pos rfl]
 ·rw[za0,if_pos rfl]
 ·simp at hx
  rw[za0,if_neg (by omega),za0,if_neg (by omega)]
  exact hz.1 x (by omega)
end
end
end Go.Proofs.Ytcpcagdialnbeaa
