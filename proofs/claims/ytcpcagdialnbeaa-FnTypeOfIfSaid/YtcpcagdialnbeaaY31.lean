/- Generic texts and models for the proofs of this seat: part 31. -/
import Derived.Test.YtcpcagdialnbeaaY30
import Derived.OpenShut
import Derived.StillTailTactics
import Derived.Deep.RegionHeld3
import Derived.WalkKit
set_option linter.unusedVariables false
set_option linter.unusedSimpArgs false
namespace Go.Proofs.Ytcpcagdialnbeaa
section
open Go Go.RowKit
theorem zpG {s:Nat}:∀{rows:List (List AC)},(∀r∈rows,r.length=s)→∀(k j:Nat),j<s→rows.flatten[k*s+j]?=(rows.getD k [])[j]?
 | [],_,k,j,hj=>by simp
 | r::rows,h,0,j,hj=>by
  have hr:=h r (by simp)
  simp only[List.flatten_cons,Nat.zero_mul,Nat.zero_add,List.getD_cons_zero];rw[List.getElem?_append_left (by omega)]
 | r::rows,h,k+1,j,hj=>by
  have hr:=h r (by simp)
  rw[List.flatten_cons,List.getElem?_append_right (by rw[hr,Nat.succ_mul];omega),List.getD_cons_succ,←zpG (fun x hx=>h x (by simp[hx])) k j hj]
  congr 1
  rw[hr,Nat.succ_mul];omega
def ziY (w:World) (B o:Nat) (x0 x1 x2:Value):World:=((w.setCell ⟨B,o,none⟩ x0).setCell ⟨B,o+1,none⟩ x1).setCell ⟨B,o+2,none⟩ x2
section
variable {w:World}{B o:Nat}{x0 x1 x2:Value}
theorem zrl {a:Array Value}{T:TypeId} (h:w.heap[B]?=some (.cells a T (0,0))):(ziY w B o x0 x1 x2).heap[B]?=some (.cells (((a.setIfInBounds o x0).setIfInBounds (o+1) x1).setIfInBounds (o+2) x2) T (0,0)) :=
 heap_setCell_same _ _ _ _ _ _ (heap_setCell_same _ _ _ _ _ _ (heap_setCell_same _ _ _ _ _ _ h))
theorem zjx {b:Nat} (h:b≠B):(ziY w B o x0 x1 x2).heap[b]?=w.heap[b]?:=by
 unfold ziY;rw[heap_setCell_other _ _ _ _ h,heap_setCell_other _ _ _ _ h,heap_setCell_other _ _ _ _ h]
theorem ze7:(ziY w B o x0 x1 x2).heap.size=w.heap.size:=by simp[ziY,World.setCell]
theorem zks (p:Stb) (hp:p B=0):Evo (·=B) p w p (ziY w B o x0 x1 x2):=by
 refine zbw hp ze7 (fun y hy=>zjx hy) ?_ ?_ ?_ <;> simp[ziY,World.setCell]
theorem zro {a:Array Value}{T:TypeId} (h:w.heap[B]?=some (.cells a T (0,0))) (ho:o+3≤a.size) (i:Nat):(ziY w B o x0 x1 x2).cell? ⟨B,i,none⟩=if i=o then some x0 else if i=o+1 then some x1 else if i=o+2 then some x2 else w.cell? ⟨B,i,none⟩:=by
 have hc:∀{w:World}{a:Array Value},w.heap[B]?=some (.cells a T (0,0))→w.cell? ⟨B,i,none⟩=a[i]?:=fun h=>by simp[World.cell?,h]
 rw[hc (zrl h),hc h];simp only[Array.getElem?_setIfInBounds,Array.size_setIfInBounds];by_cases h2:i=o+2
 ·subst h2;simp;omega
 by_cases h1:i=o+1
 ·subst h1;simp;omega
 by_cases h0:i=o
 ·subst h0;simp;omega
 rw[if_neg (fun e=>h2 e.symm),if_neg (fun e=>h1 e.symm),if_neg (fun e=>h0 e.symm),if_neg h0,if_neg h1,if_neg h2]
end
theorem zx7 {p:Stb}{w:World}{g n cap k:Nat}{rows:List (List AC)}{cur:Array Value}{T:TypeId} (hg:w.heap[g]?=some (.cells cur T (0,0))) (hs:n*3≤cur.size) (hcap:n≤cap) (hn:rows.length=n) (h3:∀r∈rows,r.length=3) (hus:RepL p w (cur.toList.take (n*3)) rows.flatten) (hp:p g=0) (hok:p.ok g 3) (hk:k<n)
  {x0 x1 x2:Value}{c0 c1 c2:AC} (hr:RepL p w [x0,x1,x2] [c0,c1,c2]):Rep (raP p g (n*3)) (ziY w g (k*3) x0 x1 x2) (.slice (some ⟨g,0,none⟩) n cap) (.sl 3 (rows.set k [c0,c1,c2])):=by
 have hev:=(zks (w:=w) (o:=k*3) (x0:=x0) (x1:=x1) (x2:=x2) p hp).trans (zrq (n:=n*3) hp) (C:=(·=g)) (fun _ _ e=>e) (fun _ _ e=>e)
 have hlen:(rows.set k [c0,c1,c2]).length=n:=by simp[hn]
 have hk3:k*3+3≤cur.size:=by omega
 simp only[RepL] at hr;obtain⟨r0,r1,r2,_⟩:=hr;have hget:∀(i j:Nat) (c:AC),((rows.set k [c0,c1,c2]).getD i [])[j]?=some c→i<n∧j<3∧((i=k∧[c0,c1,c2][j]?=some c)∨(i≠k∧(rows.getD i [])[j]?=some c)):=fun i j c h=>by
  by_cases hik:i=k
  ·subst hik
   simp only[List.getD,List.getElem?_set_self (hn▸hk),Option.getD_some] at h;exact⟨hk,(List.getElem?_eq_some_iff.1 h).1,.inl ⟨rfl,h⟩⟩
  ·simp only[List.getD,List.getElem?_set_ne (fun e=>hik e.symm)] at h
   have hlt:i<rows.length:=by
    rcases Nat.lt_or_ge i rows.length with h'|h'
    ·exact h'
    ·simp[List.getElem?_eq_none h'] at h
   have hj:=(List.getElem?_eq_some_iff.1 h).1
   rw[show(rows[i]?.getD [])=rows[i] by simp[hlt],h3 _ (List.getElem_mem hlt)] at hj
   exact⟨hn▸hlt,hj,.inr ⟨hik,h⟩⟩
 have hold:∀(i j:Nat) (c:AC),i<n→j<3→(rows.getD i [])[j]?=some c→w.cell? ⟨g,i*3+j,none⟩=some (cur.getD (i*3+j) undef)∧Rep p w (cur.getD (i*3+j) undef) c:=fun i j c hi hj h=>by
  obtain⟨v,hv,hrv⟩:=hus.get (j:=i*3+j) (c:=c) (by rw[zpG h3 i j hj];exact h)
  rw[List.getElem?_take,if_pos (by omega)] at hv
  have hv:cur[i*3+j]?=some v:=by simpa using hv
  have:cur.getD (i*3+j) undef=v:=by rw[Array.getD_eq_getD_getElem?,hv];rfl
  rw[this];exact⟨by simp[World.cell?,hg,hv],hrv⟩
 rw[show Value.slice (some ⟨g,0,none⟩) n cap=Value.slice (some ⟨g,0,none⟩) (rows.set k [c0,c1,c2]).length cap by rw[hlen]]
 refine .sl g 0 cap 3 _ (fun i j=>if i=k then[x0,x1,x2].getD j undef else cur.getD (i*3+j) undef) (by omega) (fun r hr=>?_) (by rw[ze7];exact(Array.getElem?_eq_some_iff.1 hg).1) (by rw[hlen,zep,if_pos rfl];omega) hok (by rw[hlen];exact hcap) (fun i j c h=>?_) (fun i j c h=>?_)
 ·rcases List.mem_or_eq_of_mem_set hr with h|rfl
  ·exact h3 r h
  ·rfl
 ·rw[zro hg hk3]
  obtain⟨hi,hj3,⟨rfl,hj⟩|⟨hik,hj⟩⟩:=hget i j c h
  ·rcases(by omega:j=0∨j=1∨j=2) with rfl|rfl|rfl <;> simp
  ·rw[if_neg (by omega),if_neg (by omega),if_neg (by omega),if_neg hik,Nat.zero_add]
   exact(hold i j c hi hj3 hj).1
 ·obtain⟨hi,hj3,⟨rfl,hj⟩|⟨hik,hj⟩⟩:=hget i j c h
  ·rw[if_pos rfl]
   rcases(by omega:j=0∨j=1∨j=2) with rfl|rfl|rfl <;> simp only[List.getElem?_cons_zero,List.getElem?_cons_succ,Option.some.injEq] at hj <;> subst hj
   ·exact r0.evo hev
   ·exact r1.evo hev
   ·exact r2.evo hev
  ·rw[if_neg hik]
   exact(hold i j c hi hj3 hj).2.evo hev
theorem zu5:∀{rs:List (List AC)}{k:Nat} (h:k<rs.length) (row:List AC),rsS (rs.set k row)+cS rs[k]=rsS rs+cS row
 | r::rs,0,h,row=>by
  rw[List.set_cons_zero,zaJ,zaJ,List.getElem_cons_zero];omega
 | r::rs,k+1,h,row=>by
  have:=zu5 (rs:=rs) (k:=k) (by simpa using h) row
  rw[List.set_cons_succ,zaJ,zaJ,List.getElem_cons_succ];omega
theorem zsr {p:Stb}{w:World}{A:Option Addr}{n cap k:Nat}{rows:List (List AC)} (h:Rep p w (.slice A n cap) (.sl k rows)):n=rows.length:=by
 generalize hv:Value.slice A n cap=v at h
 generalize hc:AC.sl k rows=c at h
 cases h with
 | int n=>cases hc
 | bool b=>cases hc
 | nil a k=>cases hc;injection hv
 | sl b' o' cap' k' rows' f hk hrows hb hp hok hcap hcc hrr =>
  cases hc;injection hv
theorem ztc {p:Stb}{w:World}{A:Option Addr}{n cap k:Nat}{rows:List (List AC)} (h:Rep p w (.slice A n cap) (.sl k rows)) (hn:rows≠[]):∃b o,A=some ⟨b,o,none⟩:=by
 generalize hv:Value.slice A n cap=v at h
 generalize hc:AC.sl k rows=c at h
 cases h with
 | int n=>cases hc
 | bool b=>cases hc
 | nil a k=>cases hc;exact absurd rfl hn
 | sl b' o' cap' k' rows' f hk hrows hb hp hok hcap hcc hrr =>
  cases hc;cases hv;exact⟨b',o',rfl⟩
section
variable {ns:List Nat} (hns:ns.length≤2000)
include hns
theorem zd8 {p0:Stb}{w0:World}{b pos K:Nat} (hp:pos+10≤800000) (hK:0<K∧K≤100000) (hz:Zp p0 w0) (ht:TK p0 w0 (fun _=>False) b (Qr ns pos)) :
  ∃x:Nat,x<K∧Calls Try.prog 27 #[zaU b,.int .i64 (K:Int)] w0 fun e w'=>e=.returned (.int .i64 (x:Int))∧∃p',Evo (·=b) p0 w0 p' w'∧Zp p' w'∧TK p' w' (fun _=>False) b (Qr ns (pos+1)):=by
 obtain⟨x,hx,hpick⟩:=zbq hns (p:=pos) (by omega) (m:=K) (by omega)
 refine⟨x,hx,(((tok 27 (by kernel_rfl)).2 (Qr ns pos) [.cell (.int (K:Int))] _ hpick).2 p0 w0 b [.int .i64 (K:Int)] ⟨.int _,trivial⟩ hz ht).mono ?_⟩
 rintro e w' ⟨v,rfl,p',hsr,_,_,hev',hz',ht',_⟩
 have hsr:Rep p' w' v (.int (x:Int)):=hsr
 cases hsr;exact⟨rfl,p',hev',hz',ht'⟩
set_option maxHeartbeats 4000000 in
theorem zs5:∀M:Nat,M≤2000→∀{p0:Stb}{w0:World}{b pos:Nat}{e0 e1:Int}{A:Option Addr}{n c:Nat}{kids:List (List AC)},Fit .expr [.int e0,.int e1,.sl 3 kids]→1+kids.length+rsS kids≤M→pos+4*M+100≤800000→Zp p0 w0→TK p0 w0 (fun _=>False) b (Qr ns pos)→Rep p0 w0 (.slice A n c) (.sl 3 kids) →
  Calls Try.prog 30 #[zaU b,.agg #[.int .i64 e0,.int .i64 e1,.slice A n c]] w0 (zpA p0 w0 b ns pos M):=by
 intro M;induction M using Nat.strongRecOn with
 | _ M ih =>
 intro hM p0 w0 b pos e0 e1 A n c kids hf hs hpos hz ht hr;have hn:=zsr hr
 have hb:=ht.lt
 refine calls_of_wp Try.func30 (c:=cOf Try.f30) (by kernel_rfl) ?_
 rw[zAg];have hs0:(#[zaU b,.agg #[.int .i64 e0,.int .i64 e1,.slice A n c]]++Array.replicate (Try.f30.ntmps-(#[zaU b,.agg #[.int .i64 e0,.int .i64 e1,.slice A n c]]:Array Value).size) undef).size=85:=by simp[Try.ntmps30]
 have h0:(#[zaU b,.agg #[.int .i64 e0,.int .i64 e1,.slice A n c]]++Array.replicate (Try.f30.ntmps-(#[zaU b,.agg #[.int .i64 e0,.int .i64 e1,.slice A n c]]:Array Value).size) undef).getD 0 undef=zaU b:=by simp[Array.getD]
 have h1:(#[zaU b,.agg #[.int .i64 e0,.int .i64 e1,.slice A n c]]++Array.replicate (Try.f30.ntmps-(#[zaU b,.agg #[.int .i64 e0,.int .i64 e1,.slice A n c]]:Array Value).size) undef).getD 1 undef=.agg #[.int .i64 e0,.int .i64 e1,.slice A n c]:=by simp[Array.getD]
 generalize (#[zaU b,.agg #[.int .i64 e0,.int .i64 e1,.slice A n c]]++Array.replicate (Try.f30.ntmps-(#[zaU b,.agg #[.int .i64 e0,.int .i64 e1,.slice A n c]]:Array Value).size) undef)=m0 at hs0 h0 h1
 refine wp_seq (zwL hz ht hr hs0 h0 h1 _ fun a1 w1 p1 c3 c4 hd1 hB=>?_)
 obtain⟨m1,dd⟩:=a1;have hd1:dd=[]:=hd1
 subst hd1;have hB:BD p0 w0 b c3 c4 e0 e1 A n c kids (Qr ns pos) p1 w1 m1:=hB
 clear h0 h1 hs0;have hrest:∀{p w m pos1},BD p0 w0 b c3 c4 e0 e1 A n c kids (Qr ns pos1) p w m→pos1≤pos+2→(zdA 2 (cOf Try.f30)).wp Try.prog (bodyPost Try.prog Try.f30 (zpA p0 w0 b ns pos M)) {tmps:=m,defers:=[]} w:=fun h hp=>zy9 hns (by omega) (by omega) hp (by omega) h hf hs
 have h32:w1.cell? ⟨c3,2,none⟩=some (.slice A n c):=by obtain⟨T,h⟩:=hB.x3;exact zaj h rfl
 by_cases hk0:kids=[]
 ·subst hk0
  have hn:n=0:=hn
  subst hn;refine wp_seq (wp_seq (zB1 h32 hB.size hB.m3 _ fun a2 hd2 hs2 h0 h3 h4 h15=>?_))
  obtain⟨m2,dd⟩:=a2;have hd2:dd=[]:=hd2
  subst hd2;refine wp_cond (t:=false) h15 ?_
  simp only[Bool.false_eq_true,if_false];refine wp_skip ?_
  exact hrest (hB.slots hs2 h0 (h3.trans hB.m3.symm) h4) (by omega)
 have hkl:0<kids.length:=List.length_pos_iff.2 hk0
 obtain⟨x,hx,hcall⟩:=zd8 hns (K:=3) (by omega) (by omega) hB.zp hB.tk
 refine wp_seq (wp_seq (zCQ (post:=fun y w'=>y=x∧∃p',Evo (·=b) p1 w1 p' w'∧Zp p' w'∧TK p' w' (fun _=>False) b (Qr ns (pos+1))) (by omega) (by omega) h32 (by rw[hB.m0];exact hcall.mono fun e w' ⟨h1,h2⟩=>⟨x,h1,rfl,h2⟩) hB.size hB.m3 _ ?_))
 rintro y w2 ⟨rfl,p2,hev2,hz2,ht2⟩ a2 hd2 hs2 h0 h3 h4 h15
 have hB2:=(hB.on hev2 hz2 ht2).slots hs2 h0 (h3.trans hB.m3.symm) h4
 obtain⟨m2,dd⟩:=a2;have hd2:dd=[]:=hd2
 subst hd2;clear hB hcall hev2 hz2 ht2 h32;refine wp_cond (t:=decide (0<y)) h15 ?_
 by_cases hy:¬0<y
 ·rw[decide_eq_false hy]
  simp only[Bool.false_eq_true,if_false];refine wp_skip ?_
  exact hrest hB2 (by omega)
 rw[decide_eq_true (Nat.lt_of_not_ge fun h=>hy (by omega))]
 simp only[if_true];clear hrest h0 h3 h4 h15 hs2;have hB2:BD p0 w0 b c3 c4 e0 e1 A n c kids (Qr ns (pos+1)) p2 w2 m2:=hB2
 obtain⟨g0,o0,rfl⟩:=ztc hr hk0;obtain⟨hKids,hl0⟩:zcA kids∧(kids.length:Int)≤za9:=by
  cases hf with
  | expr _ _ _ ho hno hl hk=>exact⟨hk,by omega⟩
 have h32:w2.cell? ⟨c3,2,none⟩=some (.slice (some ⟨g0,o0,none⟩) n c):=by obtain⟨T,h⟩:=hB2.x3;exact zaj h rfl
 have hcp:=zqS hB2.zp hB2.rep hk0 hKids (by omega)
 refine wp_seq (zCV (post:=fun v w'=>∃us p',w'.ownsRow w2.heap.size 32 3 v kids.length us∧RepL p' w' us kids.flatten∧(∀g,v.ownBlock=some g→p' g=0∧p'.ok g 3)∧Zp p' w'∧Evo (fun _=>False) p2 w2 p' w') h32 (hcp.mono fun e w' ⟨v,us,p',h1,h2⟩=>⟨v,h1,us,p',h2⟩) hB2.size hB2.m3 _ ?_)
 rintro v w3 ⟨us,p3,hown,hus,hpg,hz3,hev3⟩ a3 hd3 hs3 h0 h3 h4 h5
 have hB3:=(hB2.on (hev3.weaken fun _ _ h=>h.elim) hz3 (hB2.tk.evo hev3)).slots hs3 h0 (h3.trans hB2.m3.symm) h4
 obtain⟨m3,dd⟩:=a3;have hd3:dd=[]:=hd3
 subst hd3;have hB3:BD p0 w0 b c3 c4 e0 e1 (some ⟨g0,o0,none⟩) n c kids (Qr ns (pos+1)) p3 w3 m3:=hB3
 rcases hown.2 with ⟨_,h00⟩|⟨g,cap,cur,rfl,hgb,hg,hcap,_,hcs,htk⟩
 ·omega
 have hgb3:w0.heap.size≤g:=Nat.le_trans hB2.evo.size hgb
 obtain⟨hp3g,hok3⟩:=hpg g rfl;have hgne:g≠b:=by omega
 have hc3g:c3≠g:=by have:=hB2.lt3;omega
 have hc4g:c4≠g:=by have:=hB2.lt4;omega
 obtain⟨k,hk,hcall⟩:=zd8 hns (K:=kids.length) (by omega) (by omega) hB3.zp hB3.tk
 have hm5:m3.getD 5 undef=.slice (some ⟨g,0,none⟩) kids.length cap:=h5
 clear hB2 h0 h3 h4 h5 hs3 h32 hcp hpg hz3;refine wp_seq (zCp (post:=fun y w'=>y=k∧∃p',Evo (·=b) p3 w3 p' w'∧Zp p' w'∧TK p' w' (fun _=>False) b (Qr ns (pos+1+1))) (by rw[hB3.m0];exact hcall.mono fun e w' ⟨h1,h2⟩=>⟨k,h1,rfl,h2⟩) hB3.size hm5 _ ?_)
 rintro k w4 ⟨rfl,p4,hev4,hz4,ht4⟩ a4 hd4 hs4 h0 h3 h4 h5 h6
 have hB4:=(hB3.on hev4 hz4 ht4).slots hs4 h0 h3 h4
 obtain⟨m4,dd⟩:=a4;have hd4:dd=[]:=hd4
 subst hd4;have hB4:BD p0 w0 b c3 c4 e0 e1 (some ⟨g0,o0,none⟩) n c kids (Qr ns (pos+1+1)) p4 w4 m4:=hB4
 have h5:m4.getD 5 undef=.slice (some ⟨g,0,none⟩) kids.length cap:=h5
 have h6:m4.getD 6 undef=.int .i64 (k:Int):=h6
 have hglt:g<w3.heap.size:=zaD hg
 have hg4:=(hev4.block g hglt hgne).trans hg
 have hp4g:=(hev4.same g hglt hgne).trans hp3g
 have hok4:p4.ok g 3:=by rw[hev4.okk g hglt];exact hok3
 have hus4:=hus.evo hev4
 rw[←htk] at hus4;have hglt4:g<w4.heap.size:=zaD hg4
 clear hB3 hev4 hz4 ht4 h0 h3 h4 hs4 hcall hus hp3g hok3 hg hown hm5 hev3 htk
 -- the kid
 have hmem:kids[k]∈kids:=List.getElem_mem hk
 have hfk:=hKids _ hmem
 have hle:=zkX hmem
 have hgk:kids.getD k []=kids[k]:=by simp[List.getD,hk]
 have h33:∀r∈kids,r.length=3:=fun r hr=>by
  have:=hKids r hr
  cases this with
  | expr=>rfl
 have hset:∀(o1 n1:Int) (kids1:List (List AC)),Fit .expr [.int o1,.int n1,.sl 3 kids1]→zcA (kids.set k [.int o1,.int n1,.sl 3 kids1]):=fun o1 n1 kids1 h r hr=>by
  rcases List.mem_or_eq_of_mem_set hr with h'|rfl
  ·exact hKids r h'
  ·exact h
 have hrsset:∀row:List AC,rsS (kids.set k row)+cS kids[k]=rsS kids+cS row:=fun row=>zu5 hk row
 generalize hrow:kids[k]=row at *
 cases hfk with
 | expr f0 f1 l ho hno hl hk2 =>
 have hcSl:cS [AC.int f0,.int f1,.sl 3 l]=l.length+rsS l:=by simp[cS,rsS,acS,acS.cS,acS.rsS]
 have hget:∀(j:Nat) (x:AC),[AC.int f0,.int f1,.sl 3 l][j]?=some x→∃v,cur[k*3+j]?=some v∧Rep p4 w4 v x:=fun j x hx=>by
  have hj:j<3:=(List.getElem?_eq_some_iff.1 hx).1
  obtain⟨v,hv,hrv⟩:=hus4.get (j:=k*3+j) (c:=x) (by rw[zpG h33 k j hj,hgk];exact hx)
  rw[List.getElem?_take,if_pos (by omega)] at hv
  exact⟨v,by simpa using hv,hrv⟩
 obtain⟨u0,b0,r0⟩:=hget 0 _ rfl;obtain⟨u1,b1,r1⟩:=hget 1 _ rfl;obtain⟨u2,b2,r2⟩:=hget 2 _ rfl;cases r0;cases r1;obtain⟨A1,l1,k1,rfl⟩:=zbd r2;have hih:=ih (1+l.length+rsS l) (by omega) (by omega) (e0:=f0) (e1:=f1) (.expr f0 f1 l ho hno hl hk2) (Nat.le_refl _) (pos:=pos+1+1) (by omega) hB4.zp hB4.tk r2
 have hcl:∀{w':World},w'.heap[g]?=some (.cells cur 32 (0,0))→∀{j:Nat}{v:Value},cur[k*3+j]?=some v→w'.cell? ⟨g,k*3+j,none⟩=some v:=fun h _ _ hv=>by simp[World.cell?,h,hv]
 refine wp_seq (zCE (post:=fun x0 x1 A3 l3 k3 w'=>∃p' kids1 pos',Rep p' w' (.slice A3 l3 k3) (.sl 3 kids1)∧Fit .expr [.int x0,.int x1,.sl 3 kids1]∧1+kids1.length+rsS kids1≤1+l.length+rsS l+1∧Evo (·=b) p4 w4 p' w'∧Zp p' w'∧TK p' w' (fun _=>False) b (Qr ns pos')∧pos'≤pos+1+1+4*(1+l.length+rsS l)) hk (by omega) (hcl hg4 b0) (hcl hg4 b1) (hcl hg4 b2) ?_ hB4.size h5 h6 _ ?_)
 ·rw[hB4.m0]
  refine hih.mono ?_
  rintro e w' ⟨v,p',o1,n1,kids1,pos',rfl,hsr,hf1,hs1,hev1,hz1,ht1,hp1⟩
  obtain⟨arr,rfl,hla⟩:∃arr,v=.agg arr∧RepL p' w' arr.toList [.int o1,.int n1,.sl 3 kids1]:=hsr;obtain⟨ls⟩:=arr
  match ls,hla with
  | [x0,x1,x2],⟨t0,t1,t2,_⟩ =>
  cases t0;cases t1;obtain⟨A3,l3,k3,rfl⟩:=zbd t2;have hg5:=(hev1.block g hglt4 hgne).trans hg4
  exact⟨_,_,_,_,_,rfl,⟨p',kids1,pos',t2,hf1,hs1,hev1,hz1,ht1,hp1⟩,hcl hg5 b0,hcl hg5 b1,hcl hg5 b2,frozen_of_row w' g _ _ _ hg5,frozen_of_row w' g _ _ _ hg5,frozen_of_row w' g _ _ _ hg5⟩
 rintro x0 x1 A3 l3 k3 w5 ⟨p5,kids1,pos5,hr5,hf5,hs5,hev5,hz5,ht5,hp5⟩ a5 hd5 hs5' h0 h3 h4 h55
 have hB5:=hB4.on hev5 hz5 ht5
 have hg5:=(hev5.block g hglt4 hgne).trans hg4
 have hp5g:=(hev5.same g hglt4 hgne).trans hp4g
 have hok5:p5.ok g 3:=by rw[hev5.okk g hglt4];exact hok4
 have hrow5:=zx7 (n:=kids.length) (cap:=cap) (k:=k) hg5 (by omega) hcap rfl h33 (hus4.evo hev5) hp5g hok5 hk (x0:=.int .i64 x0) (x1:=.int .i64 x1) (x2:=.slice A3 l3 k3) (c0:=.int x0) (c1:=.int x1) (c2:=.sl 3 kids1) ⟨.int _,.int _,hr5,trivial⟩
 have hevp:=(zks (w:=w5) (o:=k*3) (x0:=.int .i64 x0) (x1:=.int .i64 x1) (x2:=.slice A3 l3 k3) p5 hp5g).trans (zrq (n:=kids.length*3) hp5g) (C:=(·=g)) (fun _ _ e=>e) (fun _ _ e=>e)
 have hWs:(ziY w5 g (k*3) (.int .i64 x0) (.int .i64 x1) (.slice A3 l3 k3)).heap.size=w5.heap.size:=ze7
 have hzW:Zp (raP p5 g (kids.length*3)) (ziY w5 g (k*3) (.int .i64 x0) (.int .i64 x1) (.slice A3 l3 k3)):=⟨fun y hy=>by
  rw[hWs] at hy;have:=zaD hg5
  rw[zep,if_neg (by omega)]
  exact hz5.1 y hy,fun _ _ _=>trivial⟩
 have htW:=((ht5.own (Own':=(·=g)) (fun e=>hgne e.symm)).evo hevp).own (Own':=fun _=>False) (fun h=>h)
 obtain⟨T3,x3⟩:=hB5.x3;obtain⟨T4,x4⟩:=hB5.x4;have x3':=(hevp.block c3 hB5.lt3 hc3g).trans x3
 have x4':=(hevp.block c4 hB5.lt4 hc4g).trans x4
 have z4':=(hevp.same c4 hB5.lt4 hc4g).trans hB5.z4
 have hevb:=hB5.evo
 have hlt4:c4<(ziY w5 g (k*3) (.int .i64 x0) (.int .i64 x1) (.slice A3 l3 k3)).heap.size:=by rw[hWs];exact hB5.lt4
 have hg4w:=hB5.g4
 have hmm0:=h0.trans hB4.m0
 have hmm3:=h3.trans hB4.m3
 have hmm4:=h4.trans hB4.m4
 obtain⟨m5,dd⟩:=a5;have hd5:dd=[]:=hd5
 subst hd5;show Code.wp _ (.seq B5 .ret) _ ⟨m5,[]⟩ (ziY w5 g (k*3) (.int .i64 x0) (.int .i64 x1) (.slice A3 l3 k3))
 generalize ziY w5 g (k*3) (.int .i64 x0) (.int .i64 x1) (.slice A3 l3 k3)=W at *
 generalize raP p5 g (kids.length*3)=pW at *
 have hcall:=znH (P:=Try.prog) (L:=lay) zdI zeY zso zss (zaw e0 e1 (kids.set k [.int x0,.int x1,.sl 3 kids1])) (by kernel_rfl) (p:=pW) (w:=W) (vals:=[.int .i64 e0,.int .i64 e1,.slice (some ⟨g,0,none⟩) kids.length cap]) ⟨.int _,.int _,hrow5,trivial⟩ hzW
 refine zCr (c3:=c3) (c4:=c4) (e0:=e0) (e1:=e1) (post:=fun y0 y1 A5 l5 k5 w'=>y0=e0∧y1=e1∧∃p',Rep p' w' (.slice A5 l5 k5) (.sl 3 (kids.set k [.int x0,.int x1,.sl 3 kids1]))∧Evo (fun _=>False) pW W p' w'∧Zp p' w') (zaj x3' rfl) (zaj x3' rfl) ?_ hs5' hmm3 hmm4 h55 _ ?_
 ·refine hcall.mono ?_
  rintro e w' ⟨v,rfl,hBl,p',hsr,hev',hz',_⟩
  obtain⟨arr,rfl,hla⟩:∃arr,v=.agg arr∧RepL p' w' arr.toList [.int e0,.int e1,.sl 3 (kids.set k [.int x0,.int x1,.sl 3 kids1])]:=hsr;obtain⟨ls⟩:=arr
  match ls,hla with
  | [y0,y1,y2],⟨t0,t1,t2,_⟩ =>
  cases t0;cases t1;obtain⟨A5,l5,k5,rfl⟩:=zbd t2;exact⟨_,_,_,_,_,rfl,⟨rfl,rfl,p',t2,hev',hz'⟩,T4,(hev'.block c4 hlt4 (fun h=>h)).trans x4'⟩
 rintro y0 y1 A5 l5 k5 w6 ⟨rfl,rfl,p6,hr6,hev6,hz6⟩ a6 hd6 hres
 have z46:=(hev6.same c4 hlt4 (fun h=>h)).trans z4'
 have hevc:Evo (·=c4) p6 w6 p6 (ziY w6 c4 0 (.int .i64 y0) (.int .i64 y1) (.slice A5 l5 k5)):=zks p6 z46
 have htk6:=htW.evo hev6
 have hc4b:c4≠b:=by omega
 have hE:Evo (·=b) p0 w0 p6 (ziY w6 c4 0 (.int .i64 y0) (.int .i64 y1) (.slice A5 l5 k5)) :=
  ((hevb.trans hevp (C:=(·=b)) (fun _ _ e=>e) (fun q hq e=>absurd hq (by have:q=g:=e;omega))).trans hev6 (C:=(·=b)) (fun _ _ e=>e) (fun _ _ e=>e.elim)).trans hevc (fun _ _ e=>e) (fun q hq e=>absurd hq (by have:q=c4:=e;omega))
 have hrs:=hrsset [.int x0,.int x1,.sl 3 kids1]
 have hcS1:cS [AC.int x0,.int x1,.sl 3 kids1]=kids1.length+rsS kids1:=by simp[cS,rsS,acS,acS.cS,acS.rsS]
 refine⟨hd6,_,hres,_,p6,y0,y1,kids.set k [.int x0,.int x1,.sl 3 kids1],pos5,rfl,⟨_,rfl,.int _,.int _,hr6.evo hevc,trivial⟩,?_,?_,hE,⟨fun y hy=>hz6.1 y (Nat.le_trans hevc.size hy),fun _ _ _=>trivial⟩,((htk6.own (Own':=(·=c4)) (fun e=>hc4b e.symm)).evo hevc).own (fun h=>h),by omega⟩
 ·cases hf with
  | expr _ _ _ ho' hno' hl' hk'=>exact .expr _ _ _ ho' hno' (by rw[List.length_set];exact hl') (hset _ _ _ hf5)
 ·rw[List.length_set]
  omega
end
end
section
open Go Go.RowKit Go.BigFrame
theorem zlD {p:Stb}{w:World}{m:Array Value}{n:Nat}{o:List (Nat×AV)}{Own:Nat→Prop} (hs:m.size=n) (hk:zrh p w m n o Own) (hz:Zp p w) (hown:∀c,w.heap.size≤c→Own c) :
  Inv (stM n) p w m {σ:=zf1 m n o,pe:=[]} Own:=by
 have hrow:∀t,zbH (VS.get {σ:=zf1 m n o,pe:=[]} t)=false:=fun t=>by
  rw[zd3];split
  ·split
   ·rename_i x hx
    rcases hk.kind t x hx with ⟨v,rfl⟩|⟨cs,c,rfl,_⟩ <;> rfl
   ·exact ztG _
  ·rfl
 have hbox:∀t cs,VS.get {σ:=zf1 m n o,pe:=[]} t=.box cs→o.lookup t=some (.box cs):=fun t cs h=>by
  rw[zd3] at h;split at h
  ·split at h
   ·rename_i x hx
    rw[hx,h]
   ·exact absurd h (ztS _ _)
  ·cases h
 refine⟨by rw[zds];exact hs,(zds _ _ _).symm,fun t ht=>(by cases ht),trivial,fun t=>⟨?_,fun q hq=>(by cases hq)⟩,hz,trivial,⟨fun _ _=>rfl,fun _ _ _ h=>(by cases h)⟩,hown,fun d cs h=>?_,fun d d' cs cs' c hd h1 h2 h3=>hk.apart d d' cs cs' c hd (hbox d cs h1) (hbox d' cs' h2) h3,
  fun d k r c h=>(by have:=hrow d;rw[h] at this;cases this),fun t d k r h=>(by have:=hrow t;rw[h] at this;cases this),⟨fun t d h=>(by have:=hrow t;rw[h] at this;cases this),fun d k r h=>(by have:=hrow d;rw[h] at this;cases this)⟩,fun _=>undef,
  ⟨fun q id h=>(by cases h),fun id k h=>(by cases h),fun id k b h=>(by cases h),fun id k id' k' b h=>(by cases h),fun q id k d k' r b h=>(by cases h)⟩⟩
 ·rw[zd3]
  split
  ·split
   ·rename_i x hx
    exact(hk.lt t x hx).2
   ·cases e:m.getD t undef with
    | bool x=>exact .bool x
    | _=>intro c hc;cases hc
  ·rename_i hlt
   rw[Array.getD_eq_getD_getElem?,Array.getElem?_eq_none (by omega)]
   intro c hc;cases hc
 ·have hl:=hbox d cs h
  rcases hk.kind d _ hl with ⟨v,e⟩|⟨cs',c,e,h1,h2,h3⟩
  ·cases e
  ·have hsr:=(hk.lt d _ hl).2
   obtain⟨c',a,T,e1,e2,_⟩:=hsr;rw[h1] at e1;cases e1;exact⟨c,h1,h2,h3,(Array.getElem?_eq_some_iff.1 e2).1⟩
theorem zmO {m:Array Value}{n:Nat}{o:List (Nat×AV)} (hl:∀t x,o.lookup t=some x→t<n):AgO o (zf1 m n o):=by
 intro i y hy;have hg:=zd3 m n o i
 unfold VS.get at hg;simp only at hg;rw[hg];have hy':o.lookup i=some y:=by
  clear hg hl;induction o with
  | nil=>cases hy
  | cons e o ih =>
   rw[List.lookup_cons];obtain⟨j,z⟩:=e;rw[zcT] at hy;split at hy
   ·rename_i e
    subst e;cases hy;simp
   ·rename_i e
    rw[show(i==j)=false by simpa using fun h:i=j=>e h.symm]
    exact ih hy
 rw[if_pos (hl i y hy'),hy']
theorem zpW {X:Ctx}{S:Sig} (hP:X.P.follows .mixedOrders=true) (hL:LayOk X.P X.L) (hC:za4 X.P S (V X.P X.L X.F X.E)) {c:Code}{n:Nat}{o:Ov}{r:AV}
  (he:evM X n (.run c) [] o=some r) {σ:List AV} (hl:σ.length=X.fn.ntmps) (hag:AgO o σ) {st:Stt}{O:Out} (ht:zb2 zao X.L S c st=some O)
  {p0 p:Stb}{w0 w:World}{a:Act} (hI:Inv st p w a.tmps {σ:=σ,pe:=[]} (fun x=>w0.heap.size≤x)) (hd:a.defers=[]) (hev:Evo (fun _=>False) p0 w0 p w) :
  c.wp X.P (bodyPost X.P X.fn fun e w'=>∃v,e=.returned v∧∃p',SR p' w' v r∧(∀cs,r≠.box cs)∧r≠.und∧Evo (fun _=>False) p0 w0 p' w'∧Zp p' w') a w:=by
 have h1:=zcI n _ _ _ _ he σ hl hag
 simp only[zzOb] at h1;obtain⟨⟨e,σ'⟩,h1,h2⟩:=h1;obtain⟨m,h1⟩:=VC_iff.1 h1;have hC':za4 X.P S (zfa X.P X.L X.F X.E m):=fun f args r h=>hC f args r (zAV m f args r h)
 refine zva hL hC' (zp8 hP hL hC') m c σ e σ' st O h1 ht p w a hI hd _ fun st' a' w' p' hat hI' hev' hd'=>?_
 have hfin:(∀i,e≠.exit i)→a'.defers=[]∧∃v,(results X.fn a'.tmps).run X.P w'=.ok v w'∧∃v',Ending.returned v=.returned v'∧∃p',SR p' w' v' r∧(∀cs,r≠.box cs)∧r≠.und∧Evo (fun _=>False) p0 w0 p' w'∧Zp p' w':=by
  intro hne;have hres':∃vs,zeq X.L σ' X.fn.results.toList=some vs∧r=(match vs with|[v]=>.v v|vs=>.tup vs):=by
   cases e with
   | exit i=>exact absurd rfl (hne i)
   | norm =>
    have h2:(zeq X.L σ' X.fn.results.toList).map _=some r:=h2
    simp only[zzOm] at h2;obtain⟨vs,h1,h2⟩:=h2;exact⟨vs,h1,h2.symm⟩
   | ret =>
    have h2:(zeq X.L σ' X.fn.results.toList).map _=some r:=h2
    simp only[zzOm] at h2;obtain⟨vs,h1,h2⟩:=h2;exact⟨vs,h1,h2.symm⟩
  obtain⟨vs,hvs,rfl⟩:=hres';obtain⟨us,hu1,hu2,hu3⟩:=zkz (P:=X.P) hL hI' X.fn.results.toList vs hvs;have hul:=hu2.length
  have hrunres:(results X.fn a'.tmps).run X.P w'=.ok (zfo us) w':=by
   have hr:results X.fn a'.tmps=(X.fn.results.mapM (znJ a'.tmps) >>= fun vs=>pure (if h:vs.size=1 then vs[0] else .tuple vs)):=by
    unfold results
    congr 2
   have hmap:(X.fn.results.mapM (znJ a'.tmps)).run X.P w'=.ok us.toArray w':=by
    rw[Array.mapM_eq_mapM_toList,map_eq_pure_bind];simp only[Sem.run_bind,hu1,Result.andThen,Sem.run_pure]
   rw[hr];simp only[Sem.run_bind,hmap,Result.andThen,Sem.run_pure]
   congr 1
   match us with
   | []=>rfl
   | [u]=>rfl
   | _::_::_=>simp[zfo]
  have hevr:=(hev'.trans (zbV hI') (C:=fun x=>w0.heap.size≤x) (fun _ _ h=>h) (fun b hb ⟨n,hn⟩=>(zfY hI' hn).2.1))
  refine⟨hd',_,hrunres,_,rfl,zdy p' a'.tmps {σ:=σ',pe:=[]},?_,?_,?_,hev.trans hevr (fun _ _ e=>e) (fun c hc e=>absurd hc (by omega)),zje hI'⟩
  ·match us,vs,hul,hu2 with
   | [],[],_,_=>exact⟨_,rfl,trivial⟩
   | [u],[v],_,hu2=>exact hu2.1
   | u::u'::us,v::v'::vs,_,hu2=>exact⟨_,rfl,by simpa using hu2⟩
  ·intro cs h
   split at h <;> cases h
  ·intro h
   split at h <;> cases h
 cases e with
 | exit i=>cases h2
 | norm=>exact hfin (fun i h=>by cases h)
 | ret=>exact hfin (fun i h=>by cases h)
def CodeB (B:Nat) (w:World) (A:Option Addr) (n c:Nat):Prop:=n≤c∧c≤9223372036854775807∧(0<n→∃b o,A=some ⟨b,o,none⟩∧b<B∧∀i,i<n→∃u:Nat,u≤255∧w.cell? ⟨b,o+i,none⟩=some (.int .u8 (u:Int)))
def zkJ (w:World) (A:Option Addr) (n c:Nat):Prop:=CodeB w.heap.size w A n c
theorem CodeB.alloc {B:Nat}{w:World}{A:Option Addr}{n c:Nat} (h:CodeB B w A n c) (hB:B≤w.heap.size) (o:Obj):CodeB B (w.alloc o) A n c:=by
 obtain⟨h1,h2,h3⟩:=h;refine⟨h1,h2,fun hn=>?_⟩
 obtain⟨b,o,e,hl,hx⟩:=h3 hn;exact⟨b,o,e,hl,fun i hi=>by obtain⟨u,hu,hy⟩:=hx i hi;exact⟨u,hu,(World.cell?_alloc_lt w _ _ (by show b<_;omega)).trans hy⟩⟩
theorem zkp {w:World}{x:Addr}{l c:Nat}{zs:List Int} (hl:l≤c) (hm:c≤maxLen) (hz:zs.length=c) (hcell:∀i,i<zs.length→w.cell? (x.add i)=some (.int .u8 (zs.getD i 0))) (hwz:∀n∈zs,(Lit.int .u8 n).wf=true):zkJ w (some x) l c:=by
 refine⟨hl,hm,fun hn=>?_⟩
 obtain⟨b,o,spot⟩:=x;have h0:=hcell 0 (by omega)
 have hspot:spot=none:=by simpa [Addr.add] using World.cell?_spot h0
 subst hspot;refine⟨b,o,rfl,World.block_lt_of_cell? w _ (show w.cell? ⟨b,o,none⟩=_ by simpa [Addr.add] using h0),fun i hi=>?_⟩
 have hc:=hcell i (by omega)
 have hw:=hwz (zs[i]'(by omega)) (List.getElem_mem _)
 have hb:=bounds_u8 hw
 refine⟨(zs[i]'(by omega)).toNat,by omega,?_⟩
 have e:(⟨b,o,none⟩:Addr).add i=⟨b,o+i,none⟩:=by unfold Addr.add;split <;> simp_all
 rw[e] at hc;rw[hc,List.getD_eq_getElem?_getD,List.getElem?_eq_getElem (by omega),Option.getD_some,Int.toNat_of_nonneg (by omega)]
def zdl (B N:Nat):Stb:=⟨fun c=>if c<B then N else 0,fun _ _=>False⟩
theorem zkO {B N c:Nat} (h:B≤c):(zdl B N).f c=0:=if_neg (by omega)
theorem zxK {B:Nat}{w:World} (h:B≤w.heap.size) (N:Nat):Zp (zdl B N) w:=⟨fun c hc=>zkO (by omega),fun _ _ _=>trivial⟩
theorem ziE (B N:Nat) (w:World) (o:Obj) (C:Nat→Prop):Evo C (zdl B N) w (zdl B N) (w.alloc o) :=
 ⟨rfl,rfl,rfl,by simp,fun b hb _=>Below.heap_alloc _ _ _ hb,fun _ _=>Nat.le_refl _,fun _ _ _=>rfl,fun b x hb _=>World.cell?_alloc_lt w _ _ hb,fun _ _=>rfl,fun _ _ _ i j hi _=>hi.elim⟩
theorem zpK {w:World}{b o:Nat}:∀{n:Nat},(∀i,i<n→∃u:Nat,u≤255∧w.cell? ⟨b,o+i,none⟩=some (.int .u8 (u:Int)))→∃ns:List Nat,ns.length=n∧∀(i u:Nat),ns[i]?=some u→u≤255∧w.cell? ⟨b,o+i,none⟩=some (.int .u8 (u:Int))
 | 0,_=>⟨[],rfl,fun i u h=>by simp at h⟩
 | n+1,h=>by
  obtain⟨ns,hl,hx⟩:=zpK (n:=n) fun i hi=>h i (by omega)
  obtain⟨u,hu,hc⟩:=h n (by omega)
  refine⟨ns++[u],by simp[hl],fun i v hv=>?_⟩
  rcases Nat.lt_or_ge i n with hlt|hge
  ·rw[List.getElem?_append_left (by omega)] at hv
   exact hx i v hv
  ·rw[List.getElem?_append_right (by omega)] at hv
   have hi:=(List.getElem?_eq_some_iff.1 hv).1
   simp at hi
   obtain rfl:i=n:=by omega
   rw[hl,Nat.sub_self] at hv;simp at hv
   subst hv;exact⟨hu,hc⟩
theorem zxO {B:Nat}{w:World} (hB:B≤w.heap.size) {A:Option Addr}{n c:Nat} (hn:n≤2000) (hc:n≤c) (hb:0<n→∃b o,A=some ⟨b,o,none⟩∧b<B∧∀i,i<n→∃u:Nat,u≤255∧w.cell? ⟨b,o+i,none⟩=some (.int .u8 (u:Int))) :
  ∃N ns,ns.length≤2000∧TK (zdl B N) (w.alloc (.cells #[.slice A n c,.int .i64 0] 68)) (fun _=>False) w.heap.size (Qr ns 0):=by
 by_cases h0:n=0
 ·subst h0
  exact⟨0,[],by simp,fun h=>h,by simp,zkO hB,_,_,heap_alloc_new _ _,.inr ⟨A,0,c,rfl,hc,[],rfl,rfl,fun h=>absurd h (by omega)⟩,.inl (.int 0),trivial⟩
 ·obtain⟨b,o,rfl,hlt,hx⟩:=hb (by omega)
  obtain⟨ns,hl,hns⟩:=zpK hx;refine⟨o+n,ns,by omega,fun h=>h,by simp,zkO hB,_,_,heap_alloc_new _ _,.inr ⟨_,n,c,rfl,hc,ns,hl,rfl,fun _=>⟨b,o,rfl,by simp;omega,?_,fun k hk=>hk,fun i u hu=>?_⟩⟩,.inl (.int 0),trivial⟩
  ·show o+n≤if b<B then o+n else 0
   rw[if_pos hlt];exact Nat.le_refl _
  ·obtain⟨h1,h2⟩:=hns i u hu
   exact⟨h1,(World.cell?_alloc_lt w _ _ (by show b<_;omega)).trans h2⟩
set_option maxHeartbeats 400000 in
theorem zq2 {B:Nat}{A:Option Addr}{n c:Nat}{w:World} (hB:B≤w.heap.size) (h:CodeB B w A n c) :
  Calls Try.prog 21 #[.slice A n c] w fun e w'=>e=.returned (zaU w.heap.size)∧∃N ns,ns.length≤2000∧TK (zdl B N) w' (fun _=>False) w.heap.size (Qr ns 0)∧w'.heap.size=w.heap.size+1∧∀C,Evo C (zdl B N) w (zdl B N) w':=by
 obtain⟨hn,hc,hb⟩:=h;have hfin:∀{A n c},(∃N ns,ns.length≤2000∧TK (zdl B N) (w.alloc (.cells #[.slice A n c,.int .i64 0] 68)) (fun _=>False) w.heap.size (Qr ns 0)) →
   ∃N ns,ns.length≤2000∧TK (zdl B N) (w.alloc (.cells #[.slice A n c,.int .i64 0] 68)) (fun _=>False) w.heap.size (Qr ns 0)∧(w.alloc (.cells #[.slice A n c,.int .i64 0] 68)).heap.size=w.heap.size+1∧∀C,Evo C (zdl B N) w (zdl B N) (w.alloc (.cells #[.slice A n c,.int .i64 0] 68)):=fun⟨N,ns,h1,h2⟩ =>
  ⟨N,ns,h1,h2,by simp,ziE B N w _⟩
 by_cases h:n≤2000
 ·have:=hfin (zxO hB h hn hb)
  have HF:=Lib.hid this
  clear this hb hfin
  go_enter Try.func21,Try.ntmps21
  go_wp2_with fail
  go_ret
  exact⟨rfl,HF.out⟩
 ·obtain⟨b,o,rfl,hl,hx⟩:=hb (by omega)
  have h1:(2000:Int)≤(c:Int):=by omega
  have:=hfin (zxO hB (A:=some ⟨b,o,none⟩) (n:=2000) (c:=c) (Nat.le_refl _) (by omega) fun _=>⟨b,o,rfl,hl,fun i hi=>hx i (by omega)⟩)
  have HF:=Lib.hid this
  clear this hb hfin hx
  go_enter Try.func21,Try.ntmps21
  go_wp2_with fail
  go_ret
  exact⟨rfl,HF.out⟩
end
section
open Go Go.RowKit
theorem zmE {p:Stb}{w:World} (T:TypeId) (xs:List Int):Rep (upP p w.heap.size xs.length 1) (w.alloc (.cells (xs.map (Value.int .i64)).toArray T)) (.slice (some ⟨w.heap.size,0,none⟩) xs.length xs.length) (.sl 1 (zab xs)):=by
 have hl:(zab xs).length=xs.length:=zac xs
 have hget:∀(i j:Nat) (c:AC),((zab xs).getD i [])[j]?=some c→i<xs.length∧j=0∧c=.int (xs.getD i 0):=fun i j c h=>by
  rcases Nat.lt_or_ge i xs.length with hi|hi
  ·have e:(zab xs).getD i []=[.int (xs.getD i 0)]:=by simp[zab,List.getD,hi]
   rw[e] at h;have hj:=(List.getElem?_eq_some_iff.1 h).1
   simp at hj
   subst hj;simp at h
   exact⟨hi,rfl,by rw[←h];simp[List.getD]⟩
  ·have e:(zab xs).getD i []=[]:=by simp[List.getD,List.getElem?_eq_none (show(zab xs).length≤i by omega)]
   rw[e] at h;simp at h
 rw[show Value.slice (some ⟨w.heap.size,0,none⟩) xs.length xs.length=Value.slice (some ⟨w.heap.size,0,none⟩) (zab xs).length xs.length by rw[hl]]
 refine .sl w.heap.size 0 xs.length 1 _ (fun i _=>.int .i64 (xs.getD i 0)) (by omega) (fun r hr=>?_) (by simp) (by rw[hl,za0,if_pos rfl];omega) (zd2 _ _ _ _) (by omega) (fun i j c h=>?_) (fun i j c h=>?_)
 ·obtain⟨x,_,rfl⟩:=List.mem_map.1 hr
  rfl
 ·obtain⟨hi,rfl,rfl⟩:=hget i j c h
  rw[Nat.zero_add,Nat.mul_one,Nat.add_zero,cell_of_row _ _ _ _ _ _ (heap_alloc_new w _)];simp[hi,List.getD]
 ·obtain⟨hi,rfl,rfl⟩:=hget i j c h
  exact .int _
section
variable {ns:List Nat} (hns:ns.length≤2000)
include hns
theorem zf4 {p0:Stb}{w0:World}{b pos:Nat} (hp:pos+10≤800000) (T:TypeId) {xs:List Int} (hx:xs≠[]) (hl:xs.length≤100) (hz:Zp p0 w0) (ht:TK p0 w0 (fun _=>False) b (Qr ns pos)) :
  ∃y∈xs,∀w1,(w1=w0∨w1=w0.drew)→Calls Try.prog 29 #[zaU b,.slice (some ⟨w0.heap.size,0,none⟩) xs.length xs.length] (w1.alloc (.cells (xs.map (Value.int .i64)).toArray T)) fun e w'=>e=.returned (.int .i64 y)∧∃p',Evo (·=b) p0 w0 p' w'∧Zp p' w'∧TK p' w' (fun _=>False) b (Qr ns (pos+1)):=by
 obtain⟨y,hy,h1⟩:=zjU hns (p:=pos) (by omega) hx (by omega)
 refine⟨y,hy,fun w1 hw=>?_⟩
 have hdr:Evo (fun _=>False) p0 w0 p0 w1:=by
  rcases hw with rfl|rfl
  ·exact Evo.refl _ _ _
  ·exact(Evo.refl _ _ _).drew
 have hws:w1.heap.size=w0.heap.size:=by rcases hw with rfl|rfl <;> rfl
 have hea:Evo (fun _=>False) p0 w1 (upP p0 w1.heap.size xs.length 1) (w1.alloc (.cells (xs.map (Value.int .i64)).toArray T)):=zav _ _ _ 1
 have hE:=hdr.trans hea (C:=fun _=>False) (fun _ _ h=>h) (fun _ _ h=>h)
 have hr:=zmE (p:=p0) (w:=w1) T xs
 have hz1:Zp (upP p0 w1.heap.size xs.length 1) (w1.alloc (.cells (xs.map (Value.int .i64)).toArray T)):=⟨fun c hc=>by
  simp at hc
  rw[za0,if_neg (by omega)]
  exact hz.1 c (by omega),fun _ _ _=>trivial⟩
 rw[←hws];refine(((tok 29 (by kernel_rfl)).2 (Qr ns pos) [.cell (.sl 1 (zab xs))] _ h1).2 _ _ b [.slice (some ⟨w1.heap.size,0,none⟩) xs.length xs.length] ⟨hr,trivial⟩ hz1 (ht.evo hE)).mono ?_
 rintro e w' ⟨v,rfl,p',hsr,_,_,hev',hz',ht',_⟩
 have hsr:Rep p' w' v (.int y):=hsr
 cases hsr;exact⟨rfl,p',(hE.weaken (fun _ _ h=>h.elim)).trans hev' (fun _ _ e=>e) (fun _ _ e=>e),hz',ht'⟩
end
end
end Go.Proofs.Ytcpcagdialnbeaa
