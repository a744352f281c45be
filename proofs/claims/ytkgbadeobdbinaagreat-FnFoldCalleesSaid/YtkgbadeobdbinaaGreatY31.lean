/- Generic texts and models for the proofs of this seat: part 31. -/
import Derived.Test.YtkgbadeobdbinaaGreatY30
import Derived.OpenShut
import Derived.StillTailTactics
import Derived.Deep.RegionHeld3
import Derived.WalkKit
set_option linter.unusedVariables false
set_option linter.unusedSimpArgs false
namespace Go.Proofs.YtkgbadeobdbinaaGreat
section
open Go Go.RowKit Go.BigFrame
theorem zrx {p:Stb}{w:World}{m:Array Value}{n:Nat}{o:List (Nat×AV)}{Own:Nat→Prop} (hs:m.size=n) (hk:zvn p w m n o Own) (hz:Zp p w) (hown:∀c,w.heap.size≤c→Own c) :
  Inv (stM n) p w m {σ:=zis m n o,pe:=[]} Own:=by
 have hrow:∀t,zbU (VS.get {σ:=zis m n o,pe:=[]} t)=false:=fun t=>by
  rw[zeN];split
  ·split
   ·rename_i x hx
    rcases hk.kind t x hx with ⟨v,rfl⟩|⟨cs,c,rfl,_⟩ <;> rfl
   ·exact zvX _
  ·rfl
 have hbox:∀t cs,VS.get {σ:=zis m n o,pe:=[]} t=.box cs→o.lookup t=some (.box cs):=fun t cs h=>by
  rw[zeN] at h;split at h
  ·split at h
   ·rename_i x hx
    rw[hx,h]
   ·exact absurd h (zvp _ _)
  ·cases h
 refine⟨by rw[zeP];exact hs,(zeP _ _ _).symm,fun t ht=>(by cases ht),trivial,fun t=>⟨?_,fun q hq=>(by cases hq)⟩,hz,trivial,⟨fun _ _=>rfl,fun _ _ _ h=>(by cases h)⟩,hown,fun d cs h=>?_,fun d d' cs cs' c hd h1 h2 h3=>hk.apart d d' cs cs' c hd (hbox d cs h1) (hbox d' cs' h2) h3,
  fun d k r c h=>(by have:=hrow d;rw[h] at this;cases this),fun t d k r h=>(by have:=hrow t;rw[h] at this;cases this),⟨fun t d h=>(by have:=hrow t;rw[h] at this;cases this),fun d k r h=>(by have:=hrow d;rw[h] at this;cases this)⟩,fun _=>undef,
  ⟨fun q id h=>(by cases h),fun id k h=>(by cases h),fun id k b h=>(by cases h),fun id k id' k' b h=>(by cases h),fun q id k d k' r b h=>(by cases h)⟩⟩
 ·rw[zeN]
  split
  ·split
   ·rename_i x hx
    exact(hk.lt t x hx).2
   ·cases e:m.getD t undef with
    | bool x=>exact .bool x
    | _=>intro c hc;cases hc
  ·rename_i hlt
   rw[Array.getD_eq_getD_getElem?,Array.getElem?_eq_none (by omega)]
   intro c hc;cases hc
 ·have hl:=hbox d cs h
  rcases hk.kind d _ hl with ⟨v,e⟩|⟨cs',c,e,h1,h2,h3⟩
  ·cases e
  ·have hsr:=(hk.lt d _ hl).2
   obtain⟨c',a,T,e1,e2,_⟩:=hsr;rw[h1] at e1;cases e1;exact⟨c,h1,h2,h3,(Array.getElem?_eq_some_iff.1 e2).1⟩
theorem zt3 {m:Array Value}{n:Nat}{o:List (Nat×AV)} (hl:∀t x,o.lookup t=some x→t<n):AgO o (zis m n o):=by
 intro i y hy;have hg:=zeN m n o i
 unfold VS.get at hg;simp only at hg;rw[hg];have hy':o.lookup i=some y:=by
  clear hg hl;induction o with
  | nil=>cases hy
  | cons e o ih =>
   rw[List.lookup_cons];obtain⟨j,z⟩:=e;rw[zdn] at hy;split at hy
   ·rename_i e
    subst e;cases hy;simp
   ·rename_i e
    rw[show(i==j)=false by simpa using fun h:i=j=>e h.symm]
    exact ih hy
 rw[if_pos (hl i y hy'),hy']
theorem zwk {X:Ctx}{S:Sig} (hP:X.P.follows .mixedOrders=true) (hL:LayOk X.P X.L) (hC:zbg X.P S (V X.P X.L X.F X.E)) {c:Code}{n:Nat}{o:Ov}{r:AV}
  (he:evM X n (.run c) [] o=some r) {σ:List AV} (hl:σ.length=X.fn.ntmps) (hag:AgO o σ) {st:Stt}{O:Out} (ht:zct zaj X.L S c st=some O)
  {p0 p:Stb}{w0 w:World}{a:Act} (hI:Inv st p w a.tmps {σ:=σ,pe:=[]} (fun x=>w0.heap.size≤x)) (hd:a.defers=[]) (hev:Evo (fun _=>False) p0 w0 p w) :
  c.wp X.P (bodyPost X.P X.fn fun e w'=>∃v,e=.returned v∧∃p',SR p' w' v r∧(∀cs,r≠.box cs)∧r≠.und∧Evo (fun _=>False) p0 w0 p' w'∧Zp p' w') a w:=by
 have h1:=zcT n _ _ _ _ he σ hl hag
 simp only[zzOb] at h1;obtain⟨⟨e,σ'⟩,h1,h2⟩:=h1;obtain⟨m,h1⟩:=VC_iff.1 h1;have hC':zbg X.P S (ze2 X.P X.L X.F X.E m):=fun f args r h=>hC f args r (zFE m f args r h)
 refine zx4 hL hC' (zr5 hP hL hC') m c σ e σ' st O h1 ht p w a hI hd _ fun st' a' w' p' hat hI' hev' hd'=>?_
 have hfin:(∀i,e≠.exit i)→a'.defers=[]∧∃v,(results X.fn a'.tmps).run X.P w'=.ok v w'∧∃v',Ending.returned v=.returned v'∧∃p',SR p' w' v' r∧(∀cs,r≠.box cs)∧r≠.und∧Evo (fun _=>False) p0 w0 p' w'∧Zp p' w':=by
  intro hne;have hres':∃vs,zff X.L σ' X.fn.results.toList=some vs∧r=(match vs with|[v]=>.v v|vs=>.tup vs):=by
   cases e with
   | exit i=>exact absurd rfl (hne i)
   | norm =>
    have h2:(zff X.L σ' X.fn.results.toList).map _=some r:=h2
    simp only[zzOm] at h2;obtain⟨vs,h1,h2⟩:=h2;exact⟨vs,h1,h2.symm⟩
   | ret =>
    have h2:(zff X.L σ' X.fn.results.toList).map _=some r:=h2
    simp only[zzOm] at h2;obtain⟨vs,h1,h2⟩:=h2;exact⟨vs,h1,h2.symm⟩
  obtain⟨vs,hvs,rfl⟩:=hres';obtain⟨us,hu1,hu2,hu3⟩:=zmI (P:=X.P) hL hI' X.fn.results.toList vs hvs;have hul:=hu2.length
  have hrunres:(results X.fn a'.tmps).run X.P w'=.ok (zf7 us) w':=by
   have hr:results X.fn a'.tmps=(X.fn.results.mapM (zpg a'.tmps) >>= fun vs=>pure (if h:vs.size=1 then vs[0] else .tuple vs)):=by
    unfold results
    congr 2
   have hmap:(X.fn.results.mapM (zpg a'.tmps)).run X.P w'=.ok us.toArray w':=by
    rw[Array.mapM_eq_mapM_toList,map_eq_pure_bind];simp only[Sem.run_bind,hu1,Result.andThen,Sem.run_pure]
   rw[hr];simp only[Sem.run_bind,hmap,Result.andThen,Sem.run_pure]
   congr 1
   match us with
   | []=>rfl
   | [u]=>rfl
   | _::_::_=>simp[zf7]
  have hevr:=(hev'.trans (zcd hI') (C:=fun x=>w0.heap.size≤x) (fun _ _ h=>h) (fun b hb ⟨n,hn⟩=>(zg6 hI' hn).2.1))
  refine⟨hd',_,hrunres,_,rfl,zdV p' a'.tmps {σ:=σ',pe:=[]},?_,?_,?_,hev.trans hevr (fun _ _ e=>e) (fun c hc e=>absurd hc (by omega)),zkS hI'⟩
  ·match us,vs,hul,hu2 with
   | [],[],_,_=>exact⟨_,rfl,trivial⟩
   | [u],[v],_,hu2=>exact hu2.1
   | u::u'::us,v::v'::vs,_,hu2=>exact⟨_,rfl,by simpa using hu2⟩
  ·intro cs h
   split at h <;> cases h
  ·intro h
   split at h <;> cases h
 cases e with
 | exit i=>cases h2
 | norm=>exact hfin (fun i h=>by cases h)
 | ret=>exact hfin (fun i h=>by cases h)
def CodeB (B:Nat) (w:World) (A:Option Addr) (n c:Nat):Prop:=n≤c∧c≤9223372036854775807∧(0<n→∃b o,A=some ⟨b,o,none⟩∧b<B∧∀i,i<n→∃u:Nat,u≤255∧w.cell? ⟨b,o+i,none⟩=some (.int .u8 (u:Int)))
def znm (w:World) (A:Option Addr) (n c:Nat):Prop:=CodeB w.heap.size w A n c
theorem CodeB.alloc {B:Nat}{w:World}{A:Option Addr}{n c:Nat} (h:CodeB B w A n c) (hB:B≤w.heap.size) (o:Obj):CodeB B (w.alloc o) A n c:=by
 obtain⟨h1,h2,h3⟩:=h;refine⟨h1,h2,fun hn=>?_⟩
 obtain⟨b,o,e,hl,hx⟩:=h3 hn;exact⟨b,o,e,hl,fun i hi=>by obtain⟨u,hu,hy⟩:=hx i hi;exact⟨u,hu,(World.cell?_alloc_lt w _ _ (by show b<_;omega)).trans hy⟩⟩
theorem zpY {w:World}{x:Addr}{l c:Nat}{zs:List Int} (hl:l≤c) (hm:c≤maxLen) (hz:zs.length=c) (hcell:∀i,i<zs.length→w.cell? (x.add i)=some (.int .u8 (zs.getD i 0))) (hwz:∀n∈zs,(Lit.int .u8 n).wf=true):znm w (some x) l c:=by
 refine⟨hl,hm,fun hn=>?_⟩
 obtain⟨b,o,spot⟩:=x;have h0:=hcell 0 (by omega)
 have hspot:spot=none:=by simpa [Addr.add] using World.cell?_spot h0
 subst hspot;refine⟨b,o,rfl,World.block_lt_of_cell? w _ (show w.cell? ⟨b,o,none⟩=_ by simpa [Addr.add] using h0),fun i hi=>?_⟩
 have hc:=hcell i (by omega)
 have hw:=hwz (zs[i]'(by omega)) (List.getElem_mem _)
 have hb:=bounds_u8 hw
 refine⟨(zs[i]'(by omega)).toNat,by omega,?_⟩
 have e:(⟨b,o,none⟩:Addr).add i=⟨b,o+i,none⟩:=by unfold Addr.add;split <;> simp_all
 rw[e] at hc;rw[hc,List.getD_eq_getElem?_getD,List.getElem?_eq_getElem (by omega),Option.getD_some,Int.toNat_of_nonneg (by omega)]
def zk6 (B N:Nat):Stb:=⟨fun c=>if c<B then N else 0,fun _ _=>False⟩
theorem zon {B N c:Nat} (h:B≤c):(zk6 B N).f c=0:=if_neg (by omega)
theorem zAv {B:Nat}{w:World} (h:B≤w.heap.size) (N:Nat):Zp (zk6 B N) w:=⟨fun c hc=>zon (by omega),fun _ _ _=>trivial⟩
theorem zp4 (B N:Nat) (w:World) (o:Obj) (C:Nat→Prop):Evo C (zk6 B N) w (zk6 B N) (w.alloc o) :=
 ⟨rfl,rfl,rfl,by simp,fun b hb _=>Below.heap_alloc _ _ _ hb,fun _ _=>Nat.le_refl _,fun _ _ _=>rfl,fun b x hb _=>World.cell?_alloc_lt w _ _ hb,fun _ _=>rfl,fun _ _ _ i j hi _=>hi.elim⟩
theorem zsD {w:World}{b o:Nat}:∀{n:Nat},(∀i,i<n→∃u:Nat,u≤255∧w.cell? ⟨b,o+i,none⟩=some (.int .u8 (u:Int)))→∃ns:List Nat,ns.length=n∧∀(i u:Nat),ns[i]?=some u→u≤255∧w.cell? ⟨b,o+i,none⟩=some (.int .u8 (u:Int))
 | 0,_=>⟨[],rfl,fun i u h=>by simp at h⟩
 | n+1,h=>by
  obtain⟨ns,hl,hx⟩:=zsD (n:=n) fun i hi=>h i (by omega)
  obtain⟨u,hu,hc⟩:=h n (by omega)
  refine⟨ns++[u],by simp[hl],fun i v hv=>?_⟩
  rcases Nat.lt_or_ge i n with hlt|hge
  ·rw[List.getElem?_append_left (by omega)] at hv
   exact hx i v hv
  ·rw[List.getElem?_append_right (by omega)] at hv
   have hi:=(List.getElem?_eq_some_iff.1 hv).1
   simp at hi
   obtain rfl:i=n:=by omega
   rw[hl,Nat.sub_self] at hv;simp at hv
   subst hv;exact⟨hu,hc⟩
theorem zCb {B:Nat}{w:World} (hB:B≤w.heap.size) {A:Option Addr}{n c:Nat} (hn:n≤2000) (hc:n≤c) (hb:0<n→∃b o,A=some ⟨b,o,none⟩∧b<B∧∀i,i<n→∃u:Nat,u≤255∧w.cell? ⟨b,o+i,none⟩=some (.int .u8 (u:Int))) :
  ∃N ns,ns.length≤2000∧TK (zk6 B N) (w.alloc (.cells #[.slice A n c,.int .i64 0] 64)) (fun _=>False) w.heap.size (Qr ns 0):=by
 by_cases h0:n=0
 ·subst h0
  exact⟨0,[],by simp,fun h=>h,by simp,zon hB,_,_,heap_alloc_new _ _,.inr ⟨A,0,c,rfl,hc,[],rfl,rfl,fun h=>absurd h (by omega)⟩,.inl (.int 0),trivial⟩
 ·obtain⟨b,o,rfl,hlt,hx⟩:=hb (by omega)
  obtain⟨ns,hl,hns⟩:=zsD hx;refine⟨o+n,ns,by omega,fun h=>h,by simp,zon hB,_,_,heap_alloc_new _ _,.inr ⟨_,n,c,rfl,hc,ns,hl,rfl,fun _=>⟨b,o,rfl,by simp;omega,?_,fun k hk=>hk,fun i u hu=>?_⟩⟩,.inl (.int 0),trivial⟩
  ·show o+n≤if b<B then o+n else 0
   rw[if_pos hlt];exact Nat.le_refl _
  ·obtain⟨h1,h2⟩:=hns i u hu
   exact⟨h1,(World.cell?_alloc_lt w _ _ (by show b<_;omega)).trans h2⟩
set_option maxHeartbeats 400000 in
theorem zth {B:Nat}{A:Option Addr}{n c:Nat}{w:World} (hB:B≤w.heap.size) (h:CodeB B w A n c) :
  Calls Tryz.prog 26 #[.slice A n c] w fun e w'=>e=.returned (zbl w.heap.size)∧∃N ns,ns.length≤2000∧TK (zk6 B N) w' (fun _=>False) w.heap.size (Qr ns 0)∧w'.heap.size=w.heap.size+1∧∀C,Evo C (zk6 B N) w (zk6 B N) w':=by
 obtain⟨hn,hc,hb⟩:=h;have hfin:∀{A n c},(∃N ns,ns.length≤2000∧TK (zk6 B N) (w.alloc (.cells #[.slice A n c,.int .i64 0] 64)) (fun _=>False) w.heap.size (Qr ns 0)) →
   ∃N ns,ns.length≤2000∧TK (zk6 B N) (w.alloc (.cells #[.slice A n c,.int .i64 0] 64)) (fun _=>False) w.heap.size (Qr ns 0)∧(w.alloc (.cells #[.slice A n c,.int .i64 0] 64)).heap.size=w.heap.size+1∧∀C,Evo C (zk6 B N) w (zk6 B N) (w.alloc (.cells #[.slice A n c,.int .i64 0] 64)):=fun⟨N,ns,h1,h2⟩ =>
  ⟨N,ns,h1,h2,by simp,zp4 B N w _⟩
 by_cases h:n≤2000
 ·have:=hfin (zCb hB h hn hb)
  have HF:=Lib.hid this
  clear this hb hfin
  go_enter Tryz.func26,Tryz.ntmps26
  go_wp2_with fail
  go_ret
  exact⟨rfl,HF.out⟩
 ·obtain⟨b,o,rfl,hl,hx⟩:=hb (by omega)
  have h1:(2000:Int)≤(c:Int):=by omega
  have:=hfin (zCb hB (A:=some ⟨b,o,none⟩) (n:=2000) (c:=c) (Nat.le_refl _) (by omega) fun _=>⟨b,o,rfl,hl,fun i hi=>hx i (by omega)⟩)
  have HF:=Lib.hid this
  clear this hb hfin hx
  go_enter Tryz.func26,Tryz.ntmps26
  go_wp2_with fail
  go_ret
  exact⟨rfl,HF.out⟩
end
section
open Go Go.RowKit
theorem zsf {p:Stb}{w:World} (T:TypeId) (xs:List Int):Rep (upP p w.heap.size xs.length 1) (w.alloc (.cells (xs.map (Value.int .i64)).toArray T)) (.slice (some ⟨w.heap.size,0,none⟩) xs.length xs.length) (.sl 1 (zae xs)):=by
 have hl:(zae xs).length=xs.length:=zac xs
 have hget:∀(i j:Nat) (c:AC),((zae xs).getD i [])[j]?=some c→i<xs.length∧j=0∧c=.int (xs.getD i 0):=fun i j c h=>by
  rcases Nat.lt_or_ge i xs.length with hi|hi
  ·have e:(zae xs).getD i []=[.int (xs.getD i 0)]:=by simp[zae,List.getD,hi]
   rw[e] at h;have hj:=(List.getElem?_eq_some_iff.1 h).1
   simp at hj
   subst hj;simp at h
   exact⟨hi,rfl,by rw[←h];simp[List.getD]⟩
  ·have e:(zae xs).getD i []=[]:=by simp[List.getD,List.getElem?_eq_none (show(zae xs).length≤i by omega)]
   rw[e] at h;simp at h
 rw[show Value.slice (some ⟨w.heap.size,0,none⟩) xs.length xs.length=Value.slice (some ⟨w.heap.size,0,none⟩) (zae xs).length xs.length by rw[hl]]
 refine .sl w.heap.size 0 xs.length 1 _ (fun i _=>.int .i64 (xs.getD i 0)) (by omega) (fun r hr=>?_) (by simp) (by rw[hl,zb9,if_pos rfl];omega) (zfX _ _ _ _) (by omega) (fun i j c h=>?_) (fun i j c h=>?_)
 ·obtain⟨x,_,rfl⟩:=List.mem_map.1 hr
  rfl
 ·obtain⟨hi,rfl,rfl⟩:=hget i j c h
  rw[Nat.zero_add,Nat.mul_one,Nat.add_zero,cell_of_row _ _ _ _ _ _ (heap_alloc_new w _)];simp[hi,List.getD]
 ·obtain⟨hi,rfl,rfl⟩:=hget i j c h
  exact .int _
section
variable {ns:List Nat} (hns:ns.length≤2000)
include hns
theorem zja {p0:Stb}{w0:World}{b pos:Nat} (hp:pos+10≤800000) (T:TypeId) {xs:List Int} (hx:xs≠[]) (hl:xs.length≤100) (hz:Zp p0 w0) (ht:TK p0 w0 (fun _=>False) b (Qr ns pos)) :
  ∃y∈xs,∀w1,(w1=w0∨w1=w0.drew)→Calls Tryz.prog 65 #[zbl b,.slice (some ⟨w0.heap.size,0,none⟩) xs.length xs.length] (w1.alloc (.cells (xs.map (Value.int .i64)).toArray T)) fun e w'=>e=.returned (.int .i64 y)∧∃p',Evo (·=b) p0 w0 p' w'∧Zp p' w'∧TK p' w' (fun _=>False) b (Qr ns (pos+1)):=by
 obtain⟨y,hy,h1⟩:=zlY hns (p:=pos) (by omega) hx (by omega)
 refine⟨y,hy,fun w1 hw=>?_⟩
 have hdr:Evo (fun _=>False) p0 w0 p0 w1:=by
  rcases hw with rfl|rfl
  ·exact Evo.refl _ _ _
  ·exact(Evo.refl _ _ _).drew
 have hws:w1.heap.size=w0.heap.size:=by rcases hw with rfl|rfl <;> rfl
 have hea:Evo (fun _=>False) p0 w1 (upP p0 w1.heap.size xs.length 1) (w1.alloc (.cells (xs.map (Value.int .i64)).toArray T)):=zbi _ _ _ 1
 have hE:=hdr.trans hea (C:=fun _=>False) (fun _ _ h=>h) (fun _ _ h=>h)
 have hr:=zsf (p:=p0) (w:=w1) T xs
 have hz1:Zp (upP p0 w1.heap.size xs.length 1) (w1.alloc (.cells (xs.map (Value.int .i64)).toArray T)):=⟨fun c hc=>by
  simp at hc
  rw[zb9,if_neg (by omega)]
  exact hz.1 c (by omega),fun _ _ _=>trivial⟩
 rw[←hws];refine(((tok 65 (by kernel_rfl)).2 (Qr ns pos) [.cell (.sl 1 (zae xs))] _ h1).2 _ _ b [.slice (some ⟨w1.heap.size,0,none⟩) xs.length xs.length] ⟨hr,trivial⟩ hz1 (ht.evo hE)).mono ?_
 rintro e w' ⟨v,rfl,p',hsr,_,_,hev',hz',ht',_⟩
 have hsr:Rep p' w' v (.int y):=hsr
 cases hsr;exact⟨rfl,p',(hE.weaken (fun _ _ h=>h.elim)).trans hev' (fun _ _ e=>e) (fun _ _ e=>e),hz',ht'⟩
end
end
end Go.Proofs.YtkgbadeobdbinaaGreat
