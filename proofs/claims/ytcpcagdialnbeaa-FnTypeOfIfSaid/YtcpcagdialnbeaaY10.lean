/- Generic texts and models for the proofs of this seat: part 10. -/
import Derived.Test.YtcpcagdialnbeaaY09
import Derived.Orders
set_option linter.unusedVariables false
set_option linter.unusedSimpArgs false
namespace Go.Proofs.Ytcpcagdialnbeaa
section
open Go Go.RowKit
section
variable {P:Program}{L:Lay}{S:Sig}{call:Orc}{p p':Stb}{w w':World}{a:Act}{s s':VS}{q:SPe}{o:Oper}{st st':Stt}{Own:Nat→Prop}{base:Nat}
theorem zqa:∀(xs a b:List AC) (j:Nat),j+xs.length≤a.length→zbY (a++b) j xs=zbY a j xs++b
 | [],_,_,_,_=>rfl
 | x::xs,a,b,j,h=>by
  simp only[List.length_cons] at h;rw[zbY,zbY,List.set_append_left _ _ (by omega)]
  exact zqa xs _ b (j+1) (by rw[List.length_set];omega)
theorem znN:∀(xs a b:List AC) (m:Nat),zbY (a++b) (a.length+m) xs=a++zbY b m xs
 | [],_,_,_=>rfl
 | x::xs,a,b,m=>by
  rw[zbY,zbY,List.set_append_right _ _ (by omega),Nat.add_sub_cancel_left,Nat.add_assoc]
  exact znN xs a _ (m+1)
theorem zmh {k:Nat}{xs:List AC}{j:Nat} (hj:j+xs.length≤k):∀(rows:List (List AC)) (n:Nat),(∀r∈rows,r.length=k)→n<rows.length→(rows.set n (zbY (rows.getD n []) j xs)).flatten=zbY rows.flatten (n*k+j) xs
 | [],_,_,h=>by simp at h
 | r::rows,0,hr,_=>by
  have:=hr r List.mem_cons_self
  simp only[List.getD_cons_zero,List.set_cons_zero,List.flatten_cons,Nat.zero_mul,Nat.zero_add];rw[zqa _ _ _ _ (by omega)]
 | r::rows,n+1,hr,h=>by
  have hl:=hr r List.mem_cons_self
  simp only[List.getD_cons_succ,List.set_cons_succ,List.flatten_cons];rw[zmh hj rows n (fun y hy=>hr y (List.mem_cons_of_mem _ hy)) (by simpa using h),Nat.succ_mul,←hl,show n*r.length+r.length+j=r.length+(n*r.length+j) by omega,znN]
theorem ztC (hL:LayOk P L) (hI:Inv st p w a.tmps s Own) {t:Nat}{x v:Operand} (hop:o.op=.store t x v) (hdn:o.dst=none) (hs:zfI L call o s=some s'):Does P o a w fun v w'=>∃p',Inv st p' w' (a.put o.dst v).tmps s' Own∧Evo Own p w p' w':=by
 obtain⟨val,hR⟩:=hI.rooms;simp only[zfI,hop,zzOb] at hs;obtain⟨i,hi,r,hr,xv,hxv,hs⟩:=hs;split at hs
 case h_2=>cases hs
 rename_i d k n j;split at hs
 case h_2=>cases hs
 rename_i k' rows hd0;split at hs
 case isFalse=>cases hs
 rename_i hc;obtain⟨rfl,hn,hj,hsz⟩:=hc;cases hs;obtain⟨b,o',len,cap,hm,hx⟩:=zj8 (p:=p) (w:=w) (a:=a) hr (fun t _=>hI.slots t)
 have hsr:=(hI.slots d).1
 rw[hd0] at hsr;obtain⟨hk,hrows,hh⟩:=hsr;rcases hh with ⟨_,rfl⟩|⟨b',o2,cap',arr,T,us,hsl,hcap,hb,hus,hrep,hcell⟩
 ·simp at hn
 rw[hsl] at hm;cases hm;have hv:=zcV (p:=p) (w:=w) (a:=a) hxv (fun t _=>hI.slots t)
 obtain⟨inf,z,h1,h2,_,_,_,_⟩:=(hL t i hi).info;have hvc:=hv.cells
 have hlen:=hvc.length
 have hle:n*k+k≤rows.length*k:=by rw[←Nat.succ_mul];exact Nat.mul_le_mul_right _ hn
 have hle2:rows.length*k≤cap*k:=Nat.mul_le_mul_right _ hcap.2.1
 have hcl:(a.eval v).cells.toList.length=i.size:=by rw[hlen,hsz]
 obtain⟨w',arr',r1,r2,r3,r4,r5,r6,r7,r8,r9,r10⟩:=zeM (P:=P) (b:=b) (T:=T) (a.eval v).cells.toList 0 (o'+n*k+j) arr w hb (by omega) (RepL.oneCell hvc)
 have hrun:(Instr.storeAt t (.pointer (some ⟨b,o'+n*k+j,none⟩)) (a.eval v)).run P w=.ok () w':=by
  have hsz':(a.eval v).cells.size=inf.size:=by rw[h2,←hcl];simp
  simp[Instr.storeAt,Instr.sureAddr,storeVar,sizeOf,typeInfo,h1,hsz',r1]
 have hblk:zar (a.tmps.getD d undef)=some b:=by rw[hsl];rfl
 obtain⟨hp0,hown,hlt,hnb,hna⟩:=hI.arr d k rows b hd0 hblk;have hev:Evo (·=b) p w p w':=zbw hp0 r6 r7 r8 r9 r10
 have hdlt:d<s.σ.length:=by
  rcases Nat.lt_or_ge d s.σ.length with h|h
  ·exact h
  ·unfold VS.get at hd0
   rw[List.getD,List.getElem?_eq_none h] at hd0;cases hd0
 generalize hN:AV.arr k (rows.set n (zbY (rows.getD n []) j xv.cells))=N
 have hget:∀y,y≠d→VS.get {s with σ:=s.σ.set d N} y=s.get y:=fun y hy=>by
  simp only[VS.get,List.getD,List.getElem?_set_ne (Ne.symm hy)]
 have hgetd:VS.get {s with σ:=s.σ.set d N} d=N:=by
  simp only[VS.get,List.getD,List.getElem?_set_self hdlt,Option.getD_some]
 have hnew:SR p w' (a.tmps.getD d undef) N:=by
  rw[←hN];refine⟨hk,fun y hy=>?_,.inr ⟨b,o',cap,arr',T,zgZ us (n*k+j) (a.eval v).cells.toList,by rw[hsl];simp,⟨hcap.1,by simpa using hcap.2.1,by rw[r3];exact hcap.2.2⟩,r2,by rw[zjz,hus];simp,?_,fun y u hy=>?_⟩⟩
  ·rcases List.mem_or_eq_of_mem_set hy with hy|rfl
   ·exact hrows y hy
   ·rw[zjK]
    have hg:rows.getD n []=rows[n]:=by simp[List.getD,List.getElem?_eq_getElem hn]
    rw[hg];exact hrows _ (List.getElem_mem hn)
  ·rw[zmh (by rw[hsz];exact hj) rows n hrows hn]
   refine RepL.evo hev ?_
   exact hrep.fill _ hvc
  ·rw[zk4 _ _ _ _ (by omega)] at hy
   split at hy
   ·rename_i hin
    have:=r4 (y-(n*k+j)) (by omega)
    rw[←hy,←this]
    congr 1
    omega
   ·rename_i hout
    rw[r5 _ (by omega)]
    exact hcell y u hy
 have hgbox:∀y cs,VS.get {s with σ:=s.σ.set d N} y=.box cs→y≠d∧s.get y=.box cs:=fun y cs hy=>by
  by_cases hyd:y=d
  ·subst hyd;rw[hgetd,←hN] at hy;cases hy
  ·rw[hget y hyd] at hy;exact⟨hyd,hy⟩
 have hgal:∀y e,VS.get {s with σ:=s.σ.set d N} y=.al e→y≠d∧s.get y=.al e:=fun y e hy=>by
  by_cases hyd:y=d
  ·subst hyd;rw[hgetd,←hN] at hy;cases hy
  ·rw[hget y hyd] at hy;exact⟨hyd,hy⟩
 have hgarr:∀y kk rr,VS.get {s with σ:=s.σ.set d N} y=.arr kk rr→∃rr',s.get y=.arr kk rr':=fun y kk rr hy=>by
  by_cases hyd:y=d
  ·subst hyd;rw[hgetd,←hN] at hy;cases hy;exact⟨rows,hd0⟩
  ·rw[hget y hyd] at hy;exact⟨rr,hy⟩
 have hBbox:∀b' y cs,b'=b→s.get y=.box cs→a.tmps.getD y undef≠.pointer (some ⟨b',0,none⟩):=fun b' y cs hbb hy=>by rw[hbb];exact hnb y cs hy
 refine zrn (w':=w') (by simp[execOp,hop,hx,hrun]) ⟨p,?_,hev.weaken (fun x _ h=>by rw[h];exact hown)⟩
 rw[hdn];show Inv st p w' a.tmps _ Own
 refine⟨by rw[hI.size];simp,by rw[hI.len];simp,fun y hy=>⟨(hI.nbk y hy).1,fun cs hcs=>(hI.nbk y hy).2 cs (hgbox y cs hcs).2⟩,hI.sonce,fun y=>?_,⟨fun x hx=>hI.zp.1 x (by omega),fun x hx=>hI.zp.2 x (by omega)⟩,hI.once,hI.spe,fun x hx=>hI.own x (by omega),fun y cs hy=>?_,fun y y' cs1 cs2 bb hne hy hy' hb1=>?_,fun y kk rr bb hy hbb=>?_,fun y e kk rr hy he=>?_,?_,val,?_⟩
 ·obtain⟨g1,g2⟩:=hI.slots y
  constructor
  ·by_cases hyd:y=d
   ·subst hyd;rw[hgetd];exact hnew
   ·rw[hget y hyd]
    exact zeH hev (fun cs hcs b'' hb'' he=>hBbox b'' y cs he hcs hb'') (fun kk rr hkr b'' hb'' he=>hyd (hna y kk rr hkr (by rw[hb'',he]))) g1
  ·intro r hr'
   have:=g2 r hr'
   cases r with
   | ref cs'=>exact PRef.evo hev this
   | box d' off'=>exact this
   | el d' k n j=>exact this
 ·obtain⟨b2,x1,x2,x3,x4⟩:=hI.box y cs (hgbox y cs hy).2
  exact⟨b2,x1,x2,x3,by omega⟩
 ·exact hI.boxd y y' cs1 cs2 bb hne (hgbox y cs1 hy).2 (hgbox y' cs2 hy').2 hb1
 ·obtain⟨rr',hy⟩:=hgarr y kk rr hy
  obtain⟨x1,x2,x3,x4,x5⟩:=hI.arr y kk rr' bb hy hbb;refine⟨x1,x2,by omega,fun z cs hz=>x4 z cs (hgbox z cs hz).2,fun z k2 r2' hz hzb=>?_⟩
  obtain⟨r3',hz⟩:=hgarr z k2 r2' hz;exact x5 z k2 r3' hz hzb
 ·obtain⟨rr',he⟩:=hgarr e kk rr he
  exact hI.al y e kk rr' (hgal y e hy).2 he
 ·refine⟨fun y e hy=>hI.mks.1 y e (hgal y e hy).2,fun y kk rr hy=>?_⟩
  obtain⟨rr',hy⟩:=hgarr y kk rr hy;exact hI.mks.2 y kk rr' hy
 ·refine⟨fun z id hm=>?_,fun id kk hm=>?_,fun id kk bb hm hbb=>?_,hR.apart,fun z id kk y k' rr b' hm hal hy hyb hb'=>?_⟩
  ·obtain⟨h1,h2⟩:=hR.place z id hm
   refine⟨zjP hI hev (fun b' cs hbb hz=>hBbox b' z.1 cs hbb hz) h2 h1,?_⟩
   by_cases hzd:z.1=d
   ·rw[hzd,hgetd,←hN];intro h;cases h
   ·rw[hget _ hzd];exact h2
  ·rcases hR.alive id kk hm with e|⟨b2,off,len,cap2,arr2,T2,e,h1,h2,h3,h4⟩
   ·exact .inl e
   ·by_cases hbb:b2=b
    ·subst hbb
     rw[hb] at h1;cases h1;exact .inr ⟨b2,off,len,cap2,arr',T,e,r2,h2,by rw[r3];exact h3,h4⟩
    ·exact .inr ⟨b2,off,len,cap2,arr2,T2,e,by rw[r7 b2 hbb];exact h1,h2,h3,h4⟩
  ·obtain⟨x1,x2⟩:=hR.own id kk bb hm hbb
   exact⟨x1,fun y cs hy=>x2 y cs (hgbox y cs hy).2⟩
  ·obtain⟨rr',hy⟩:=hgarr y k' rr hy
   obtain⟨x1,x2,x3⟩:=hR.row z id kk y k' rr' b' hm hal hy hyb hb';refine⟨x1,x2.imp (fun e=>e) fun h=>?_,x3⟩
   by_cases hzd:z.1=d
   ·rw[hzd,hd0] at h;cases h
   ·rw[hget _ hzd];exact h
theorem zrv (hC:za4 P S call) {f:FuncId}{xs:Array Operand}{ts:Array TypeId} (hop:o.op=.call {callee:=.value (.func f),args:=xs,argTypes:=ts}) {vs:List SV}{r:AV} (hcall:call f vs=some r) (htk:(S.sg f).takes=[])
  {p₁:Stb} (hreps:RepSs p₁ w (xs.toList.map a.eval) vs) (hz:Zp p₁ w) {R:Value→World→Prop}
  (hR:∀v w' p',SR p' w' v r→Evo (fun _=>False) p₁ w p' w'→Zp p' w'→(∀e∈(S.sg f).gives,∃u,zax w' v e.1=some u∧Rt p' w' u e.2∧∀b,zar u=some b→w.heap.size≤b)→R v w'):Does P o a w R:=by
 obtain⟨⟨_,fn,f1,f2,f3⟩,hc⟩:=hC f vs r hcall;have hno:∀b,¬∃(i k:Nat) (v:Value),(S.sg f).takes[i]?=some (some k)∧(xs.toList.map a.eval)[i]?=some v∧zar v=some b:=by
  rintro b ⟨i,k,v,hk,_⟩
  rw[htk] at hk;simp at hk
 have hcalls:=hc p₁ w (xs.toList.map a.eval) hreps hz (fun i k hk=>by rw[htk] at hk;simp at hk) (fun i j u v b _ hi=>by rw[htk] at hi;simp at hi)
 have hargs:xs.map a.eval=(xs.toList.map a.eval).toArray:=by
  apply Array.ext'
  simp
 refine znw (f:=f) (args:=xs.map a.eval) ?_ ?_
 ·have f3':¬fn.name = "runtime.NumGoroutine":=by simpa using f3
  have hne:fn.body≠none:=by cases h:fn.body <;> simp[h] at f2 ⊢
  simp[execOp,hop,resolve,invoke,Act.eval,Deferred.ofValue,callFunc,f1,f3',hne]
 ·rw[hargs]
  refine hcalls.mono ?_
  rintro e w' ⟨v,rfl,p',hsr,_,_,hev,hz',hg,_⟩
  refine⟨v,rfl,hR v w' p' hsr (hev.weaken fun b _ hb=>hno b hb) hz' fun e he=>?_⟩
  obtain⟨u,g1,g2,g3⟩:=hg e he;exact⟨u,g1,g2,fun b hb=>(g3 b hb).resolve_right (hno b)⟩
theorem zBM (hC:za4 P S call) (hI:Inv st p w a.tmps s Own) {f:FuncId}{xs:Array Operand}{ts:Array TypeId} (hop:o.op=.call {callee:=.value (.func f),args:=xs,argTypes:=ts}) (htk:(S.sg f).takes=[]) {k:Nat} (hg:(S.sg f).gives=[(0,k)]) (hk:0<k)
  {vs:List SV} (hvs:ze4 L s xs.toList ts.toList=some vs) {rows:List (List AC)} (hcall:call f vs=some (.v (.cell (.sl k rows)))) {d:Nat} (hd:o.dst=some d) (hlt:d<s.σ.length) (hhome:L.home (f+1) o.dst=true) (hf:apR k rows=true):zn2 P L S st o a p w s (s.put (some d) (.arr k rows)):=by
 have hreps:=zkD (p:=p) (w:=w) (a:=a) _ _ _ hvs (fun x _ t _=>hI.slots t)
 have hput:=zap (o:=o) hI.once (.arr k rows)
 have hspe:=zg6 (L:=L) (o:=o) hI.spe hI.sonce hI.once (.arr k rows) (by simp[hop]) (by simp[hop])
 have hfr:zaI L S o=[(0,k)]:=by simp[zaI,hop,hg]
 have hmv:zaL L st.spe o=[]:=by simp[zaL,hop]
 have heat:zbQ L S o=[]:=by simp[zbQ,hop,htk]
 have hgd:(s.put (some d) (.arr k rows)).get d=.arr k rows:=by rw[zb1,if_pos hlt]
 rw[hd] at hput hspe;refine⟨⟨heat,hput.1,hput.2,hspe⟩,zrv hC hop hcall htk hreps hI.zp fun v w' p' hsr hev hz' hgv=>?_⟩
 obtain⟨u,hu,hrt,hnewb⟩:=hgv (0,k) (by rw[hg];simp)
 have hrep:Rep p' w' v (.sl k rows):=hsr
 have hue:u=v:=by
  rw[zbm (x:=.cell _) hrep,hrep.cells] at hu
  simpa using hu.symm
 subst hue;have hlow:=zx3 p' u
 have hev':Evo (fun _=>False) p w (loV p' u) w':=⟨hev.os,hev.tape,hev.output,hev.size,hev.block,
  fun b hb=>by
   rw[zli,if_neg (fun h=>by have:=hnewb b h;omega)]
   exact hev.keepP b hb,
  fun b hb hn=>by
   rw[zli,if_neg (fun h=>by have:=hnewb b h;omega)]
   exact hev.same b hb hn,hev.stable,hev.okk,hev.uq⟩
 have hsr':SR (loV p' u) w' u (.arr k rows):=zpT hrep hrt hk hf (fun b hb j hj=>hev.uq b (hnewb b hb) (hrt.lt hb) _ _ hj (hrt.okAt hb)) _ rfl (fun b hb=>by rw[zli,if_neg hb])
 have hpost:=zgq (L:=L) (S:=S) (o:=o) (a:=a) (q:=st.spe) (s':=s.put o.dst (.arr k rows)) (e0:=(0,k)) (hev'.weaken fun b _ hb=>hb.elim) ⟨fun b hb=>by
   have h1:=hz'.1 b hb
   exact Nat.le_zero.1 (Nat.le_trans (hlow b) (Nat.le_of_eq h1)),hz'.2⟩
  (zbO hI.size hsr') (zh3 (by intro _ h;cases h)) (zdc (by intro h;cases h)) hfr hmv (u:=u) hu (hrt.lower hlow rfl) (fun b hb=>.inl (hnewb b hb))
 rw[hd] at hpost;refine⟨_,hpost,fun d' k' rows' hd' h=>?_,fun d' e hd' h=>?_,fun d' hd' h=>?_⟩
 ·rw[hd] at hd';cases hd'
  rw[hgd] at h;cases h;exact⟨by simpa [zqd,hop] using hhome,by rw[hfr];simp,hmv,fun b hb=>⟨hnewb b hb,by rw[zli,if_pos hb],hrt.lt hb⟩⟩
 ·rw[hd] at hd';cases hd';rw[hgd] at h;cases h
 ·rw[hd] at hd';cases hd';rw[hgd] at h;cases h
def zCk (v:Value) (k:Nat):Nat:=match v with
 | .slice (some ⟨_,o,_⟩) len _=>o+len*k
 | _=>0
def zdg (m:Array Value) (s:VS) (b n:Nat):Prop:=∃d k rows,s.get d=.arr k rows∧zar (m.getD d undef)=some b∧n=zCk (m.getD d undef) k
open Classical in
noncomputable def zdy (p:Stb) (m:Array Value) (s:VS):Stb:=⟨fun b=>if h:∃n,zdg m s b n then h.choose else p b,p.ok⟩
open Classical in
noncomputable def zjS (p':Stb) (m:Array Value) (s:VS):Stb:=⟨fun b=>if ∃n,zdg m s b n then 0 else p' b,p'.ok⟩
open Classical in
theorem ztD (p:Stb) (m:Array Value) (s:VS) (b:Nat):zdy p m s b=if h:∃n,zdg m s b n then h.choose else p b:=rfl
open Classical in
theorem zkU (p:Stb) (m:Array Value) (s:VS) (b:Nat):zjS p m s b=if ∃n,zdg m s b n then 0 else p b:=rfl
theorem zqr {m:Array Value} (hI:Inv st p w m s Own) {d k:Nat}{rows:List (List AC)} (hd:s.get d=.arr k rows) {b:Nat} (hb:zar (m.getD d undef)=some b):zdy p m s b=zCk (m.getD d undef) k:=by
 have h:∃n,zdg m s b n:=⟨_,d,k,rows,hd,hb,rfl⟩
 rw[ztD,dif_pos h];obtain⟨d',k',rows',hd',hb',e⟩:=h.choose_spec;have:=(hI.arr d k rows b hd hb).2.2.2.2 d' k' rows' hd' hb'
 subst this;rw[hd] at hd';cases hd';exact e
theorem zdJ {m:Array Value}{b:Nat} (h:¬∃n,zdg m s b n):zdy p m s b=p b:=by rw[ztD,dif_neg h]
theorem zfY {m:Array Value} (hI:Inv st p w m s Own) {b n:Nat} (h:zdg m s b n):p b=0∧Own b∧b<w.heap.size:=by
 obtain⟨d,k,rows,hd,hb,_⟩:=h;obtain⟨h1,h2,h3,_⟩:=hI.arr d k rows b hd hb;exact⟨h1,h2,h3⟩
theorem zbV {m:Array Value} (hI:Inv st p w m s Own):Evo (fun b=>∃n,zdg m s b n) p w (zdy p m s) w :=
 ⟨rfl,rfl,rfl,Nat.le_refl _,fun _ _ _=>rfl,fun b _=>by
  by_cases h:∃n,zdg m s b n
  ·obtain⟨n,hn⟩:=h
   rw[(zfY hI hn).1];exact Nat.zero_le _
  ·rw[zdJ h];exact Nat.le_refl _,fun b _ h=>zdJ h,fun _ _ _ _=>rfl,fun _ _=>rfl,fun _ h1 h2=>absurd h1 (Nat.not_le.2 h2)⟩
theorem zje {m:Array Value} (hI:Inv st p w m s Own):Zp (zdy p m s) w:=⟨fun b hb=>by
 rw[zdJ]
 ·exact hI.zp.1 b hb
 ·rintro⟨n,hn⟩
  have:=(zfY hI hn).2.2
  omega,hI.zp.2⟩
theorem zkm {m:Array Value} (hI:Inv st p w m s Own) {d k:Nat}{rows:List (List AC)} (hd:s.get d=.arr k rows):Rep (zdy p m s) w (m.getD d undef) (.sl k rows):=by
 have hsr:=(hI.slots d).1
 rw[hd] at hsr;obtain⟨hk,hrows,hh⟩:=hsr;rcases hh with ⟨e,rfl⟩|⟨b,o,cap,arr,T,us,e,hcap,hb,hus,hrep,hcell⟩
 ·rw[e];exact .nil _ _
 ·have hblk:zar (m.getD d undef)=some b:=by rw[e];rfl
  have hra:=zqr hI hd hblk
  rw[e];refine zl9 (us:=us) hk hrows (hI.arr d k rows b hd hblk).2.2.1 ?_ hcap.1.1 hcap.2.1 (hrep.evo (zbV hI)) (fun j u hj=>by rw[zaV hb];exact hcell j u hj)
  rw[hra,e];exact Nat.le_refl _
theorem zAD (hI:Inv st p w a.tmps s Own) {t:Nat}{x:Operand}{v:SV} (h:svA L s t x=some v):RepS (zdy p a.tmps s) w (a.eval x) v:=by
 unfold svA at h;split at h
 ·rename_i d k r hx
  cases h;obtain⟨hv,_⟩:=zmx hI hx;obtain⟨_,_,hd,_⟩:=zoV hx;rw[hv];exact zkm hI hd
 ·exact(zcV (p:=p) (w:=w) (a:=a) h (fun t _=>hI.slots t)).evo (zbV hI)
theorem zq4 (hI:Inv st p w a.tmps s Own):∀(xs:List Operand) (ts:List Nat) (vs:List SV),zp5 L s xs ts=some vs→RepSs (zdy p a.tmps s) w (xs.map a.eval) vs
 | [],[],_,h=>by cases h;trivial
 | x::xs,t::ts,_,h=>by
  simp only[zp5,zzOb] at h;obtain⟨v,hv,h⟩:=h;split at h
  case isFalse=>cases h
  simp only[zzOm] at h;obtain⟨vs,h,rfl⟩:=h;exact⟨zAD hI hv,zq4 hI xs ts vs h⟩
 | [],_::_,_,h=>by cases h
 | _::_,[],_,h=>by cases h
theorem zB7 (hC:za4 P S call) (hI:Inv st p w a.tmps s Own) {f:FuncId}{xs:Array Operand}{ts:Array TypeId} (hop:o.op=.call {callee:=.value (.func f),args:=xs,argTypes:=ts}) (htk:(S.sg f).takes=[]) (hg:(S.sg f).gives=[])
  {vs:List SV} (hvs:zp5 L s xs.toList ts.toList=some vs) {r:AV} (hcall:call f vs=some r) (hf:zqA r=true):zn2 P L S st o a p w s (s.put o.dst r):=by
 have hreps:=zq4 hI _ _ _ hvs
 have hput:=zap (o:=o) hI.once r
 have hspe:=zg6 (L:=L) (o:=o) hI.spe hI.sonce hI.once r (by simp[hop]) (by simp[hop])
 have hfr:zaI L S o=[]:=by simp[zaI,hop,hg]
 have hmv:zaL L st.spe o=[]:=by simp[zaL,hop]
 have heat:zbQ L S o=[]:=by simp[zbQ,hop,htk]
 have hrow:zbH r=false:=by cases r <;> first|rfl|cases hf
 refine⟨⟨heat,hput.1,hput.2,hspe⟩,zrv hC hop hcall htk hreps (zje hI) fun v w' p' hsr hev hz' _=>?_⟩
 have hdp:∀b,¬(∃n,zdg a.tmps s b n)→zjS p' a.tmps s b=p' b:=fun b h=>by rw[zkU,if_neg h]
 have hdz:∀b,(∃n,zdg a.tmps s b n)→zjS p' a.tmps s b=0:=fun b h=>by rw[zkU,if_pos h]
 have hev':Evo (fun _=>False) p w (zjS p' a.tmps s) w':=⟨hev.os,hev.tape,hev.output,hev.size,hev.block,fun b hb=>by
   by_cases h:∃n,zdg a.tmps s b n
   ·obtain⟨n,hn⟩:=h
    rw[(zfY hI hn).1];exact Nat.zero_le _
   ·rw[hdp b h,←zdJ (p:=p) h]
    exact hev.keepP b hb,fun b hb _=>by
   by_cases h:∃n,zdg a.tmps s b n
   ·rw[hdz b h]
    obtain⟨n,hn⟩:=h;exact(zfY hI hn).1.symm
   ·rw[hdp b h,←zdJ (p:=p) h]
    exact hev.same b hb (fun h=>h),fun b o hb ho=>hev.stable b o hb (Nat.lt_of_lt_of_le ho ((zbV hI).keepP b hb)),hev.okk,hev.uq⟩
 refine⟨zjS p' a.tmps s,⟨hev'.weaken fun b _ hb=>hb.elim,⟨fun b hb=>?_,hz'.2⟩,zbO hI.size (hsr.flat hf _ _),zh3 (fun cs h=>by rw[h] at hf;cases hf),zdc (fun h=>by rw[h] at hf;cases hf),by rw[hfr];simp,by rw[hfr];simp,by rw[hmv];simp⟩,.plain (za5 hrow) (by rw[hmv];simp)⟩
 by_cases h:∃n,zdg a.tmps s b n
 ·exact hdz b h
 ·rw[hdp b h];exact hz'.1 b hb
end
end
section
open Go Go.RowKit
def zvN (L:Lay) (call:Orc) (all:List Oper) (o:Oper) (s:VS):Option VS :=
 match o.guard with
 | none=>vop L call o s
 | some g=>(zck all s g).bind fun t=>if t then vop L call o s else some (s.put o.dst .und)
def zc8 (L:Lay) (call:Orc) (all:List Oper) (o:Oper) (s:VS):Option VS :=
 match o.guard with
 | none=>zaK L call o s
 | some g=>(zck all s g).bind fun t=>if t then zaK L call o s else some (s.put o.dst .und)
theorem zjj (L:Lay) (call:Orc) (all:List Oper) (o:Oper) (rest:List Oper) (s:VS):zdC L call all (o::rest) s=(zc8 L call all o s).bind (zdC L call all rest):=by
 unfold zdC zc8;cases o.guard with
 | none=>rfl
 | some g =>
  simp only;cases zck all s g <;> rfl
theorem zrC (L:Lay) (call:Orc) (all:List Oper) (o:Oper) (rest:List Oper) (s:VS):ziW L call all (o::rest) s=(zvN L call all o s).bind (ziW L call all rest):=by
 unfold ziW zvN;cases o.guard with
 | none=>rfl
 | some g =>
  simp only;cases zck all s g <;> rfl
def zgG (L:Lay) (S:Sig) (o:Oper):Nat:=(zaI L S o).foldl (fun m e=>max m (e.1+1)) 0
theorem zjI:∀(l:List (Nat×Nat)) (m:Nat),m≤l.foldl (fun m e=>max m (e.1+1)) m
 | [],_=>Nat.le_refl _
 | _::l,_=>Nat.le_trans (Nat.le_max_left _ _) (zjI l _)
theorem zee:∀(l:List (Nat×Nat)) (m:Nat),∀e∈l,e.1<l.foldl (fun m e=>max m (e.1+1)) m
 | [],_,_,h=>by cases h
 | x::l,m,e,h=>by
  rcases List.mem_cons.1 h with rfl|h
  ·exact Nat.lt_of_lt_of_le (show e.1<max m (e.1+1) by omega) (zjI l _)
  ·exact zee l _ e h
def zjC (L:Lay) (S:Sig):Nat→List Oper→Stt→Option (Nat×Stt)
 | base,[],st=>some (base,st)
 | base,o::rest,st=>(zn6 L S base o st).bind fun st'=>zjC L S (base+zgG L S o) rest st'
def zcl (L:Lay) (S:Sig):Nat→List Oper→Stt→Option (Nat×Stt)
 | base,[],st=>some (base,st)
 | base,o::rest,st=>(zc0 L S base o st).bind fun st'=>zcl L S (base+zgG L S o) rest st'
def zcG (st:Stt) (base:Nat):Prop:=(∀q id,(q,id)∈st.pid→id<base)∧∀id k,(id,k)∈st.alive→id<base
theorem znE {L:Lay}{S:Sig}{base:Nat}{o:Oper}{st st':Stt} (h:zcG st base) (hs:zc0 L S base o st=some st'):zcG st' (base+zgG L S o):=by
 have hV:zdF L S base o st=some st'→zcG st' (base+zgG L S o):=by
  intro hs;unfold zdF at hs;split at hs
  case isFalse=>cases hs
  simp only[zzOb] at hs;obtain⟨E,_,hs⟩:=hs;split at hs
  ·cases hs
  cases hs;constructor
  ·intro q id hm
   rcases List.mem_append.1 hm with hm|hm
   ·unfold zgF at hm
    split at hm
    ·split at hm
     ·cases hm
     ·rcases List.mem_append.1 hm with hm|hm
      ·simp only[List.mem_map,Prod.mk.injEq] at hm
       obtain⟨e,he,_,rfl⟩:=hm;have:=zee _ 0 e he
       unfold zgG;omega
      ·simp only[List.mem_filterMap,zzOm,Prod.mk.injEq] at hm
       obtain⟨e,_,id',hid,_,rfl⟩:=hm;have:=h.1 _ _ (zau hid)
       omega
    ·cases hm
   ·have:=h.1 _ _ (List.mem_filter.1 hm).1
    omega
  ·intro id k hm
   rcases List.mem_append.1 hm with hm|hm
   ·unfold zbG at hm
    split at hm
    ·split at hm
     ·cases hm
     ·simp only[List.mem_map,Prod.mk.injEq] at hm
      obtain⟨e,he,rfl,_⟩:=hm;have:=zee _ 0 e he
      unfold zgG;omega
    ·cases hm
   ·have:=h.2 _ _ (List.mem_filter.1 hm).1
    omega
 unfold zc0 at hs;split at hs
 ·split at hs
  ·cases hs
  ·split at hs
   ·cases hs
    refine⟨fun q id hm=>?_,fun id k hm=>Nat.lt_of_lt_of_le (h.2 id k hm) (Nat.le_add_right _ _)⟩
    rcases List.mem_append.1 hm with hm|hm
    ·unfold zeJ at hm
     split at hm
     ·simp only[List.mem_filterMap,zzOm,Prod.mk.injEq] at hm
      obtain⟨j,_,id',hid,_,rfl⟩:=hm;have:=h.1 _ _ (zau hid)
      omega
     ·cases hm
    ·have:=h.1 _ _ (List.mem_filter.1 hm).1
     omega
   ·cases hs
 ·exact hV hs
theorem zo2 {L:Lay}{S:Sig}{base:Nat}{o:Oper}{st st':Stt} (h:zcG st base) (hs:zn6 L S base o st=some st'):zcG st' (base+zgG L S o):=by
 unfold zn6 at hs;split at hs
 ·cases hs
  exact⟨fun q id hm=>Nat.lt_of_lt_of_le (h.1 q id hm) (Nat.le_add_right _ _),fun id k hm=>Nat.lt_of_lt_of_le (h.2 id k hm) (Nat.le_add_right _ _)⟩
 ·simp only[zzOm] at hs
  obtain⟨st1,h1,rfl⟩:=hs;have:=znE h h1
  exact⟨this.1,this.2⟩
section
variable {P:Program}{L:Lay}{S:Sig}{call:Orc}{p p':Stb}{w w':World}{a:Act}{s s':VS}{q:SPe}{o:Oper}{st st':Stt}{Own:Nat→Prop}{base:Nat}
theorem zka {ops:Array Oper} (hsz:a.tmps.size=s.σ.length) {g:Nat×Bool} (hslot:∀d,(ops.toList[g.1]?).bind (·.dst)=some d→zcM p w a.tmps s d) (hg:o.guard=some g) {t:Bool} (h:zck ops.toList s g=some t):Region.wanted o (yielded ops a.tmps)=t:=by
 unfold zck at h;split at h
 case h_2=>cases h
 rename_i o' ho';split at h
 case h_2=>cases h
 rename_i d hd;have hsl:=(hslot d (by rw[ho'];exact hd)).1
 have hy:yielded ops a.tmps g.1=match a.tmps[d]? with|some (.bool b)=>some b|_=>none:=by
  unfold yielded;simp only[Array.getElem?_toList] at ho';rw[ho'];simp only[Option.bind_some,hd];rfl
 unfold Region.wanted;rw[hg];simp only;rw[hy];split at h
 ·rename_i b hb
  cases h;rw[hb] at hsl;have hlt:d<a.tmps.size:=by
   rw[hsz];rcases Nat.lt_or_ge d s.σ.length with h|h
   ·exact h
   ·unfold VS.get at hb
    rw[List.getD,List.getElem?_eq_none h] at hb;cases hb
  have:a.tmps[d]?=some (.bool b):=by
   have hsl:Rep p w (a.tmps.getD d undef) (.bool b):=hsl
   rw[Array.getElem?_eq_getElem hlt];have e:a.tmps.getD d undef=a.tmps[d]:=by simp[Array.getD,hlt]
   rw[e] at hsl;generalize a.tmps[d]=v at hsl
   cases hsl;rfl
  rw[this];simp
 ·rename_i hb
  cases h;rw[hb] at hsl;have hsl:∀b,a.tmps.getD d undef≠.bool b:=hsl
  have:(match a.tmps[d]? with|some (.bool b)=>some b|_=>none)=none:=by
   split
   ·rename_i b hb'
    exfalso
    apply hsl b
    simp[Array.getD_eq_getD_getElem?,hb']
   ·rfl
  rw[this];rfl
 ·cases h
theorem zsT (hL:LayOk P L) (hC:za4 P S call) {ops:Array Oper}{i:Nat} (hi:ops[i]?=some o) (hI:Inv st p w a.tmps s Own) (hids:zcG st base) (hs:zc8 L call ops.toList o s=some s') (hstep:zc0 L S base o st=some st')
  {Q:Exit→Act→World→Prop}{K:Act→World→Prop} (hK:∀a' w' p',Inv st' p' w' a'.tmps s' Own→Evo Own p w p' w'→a'.defers=a.defers→(∀t,o.dst≠some t→a'.tmps.getD t undef=a.tmps.getD t undef)→K a' w'):wpOp P ops Q i K a w:=by
 unfold wpOp;rw[hi];simp only;have hdef:∀v,(a.put o.dst v).defers=a.defers:=fun v=>by cases o.dst <;> rfl
 have hdo:zaK L call o s=some s'→o.wp P a w K Q:=by
  intro hs;have hD:Does P o a w fun v w'=>∃p',Inv st' p' w' (a.put o.dst v).tmps s' Own∧Evo Own p w p' w':=by
   by_cases hst:zaA o=true
   ·unfold zaA at hst
    split at hst
    ·rename_i t x v hop
     exact zqx hL hI hop hs hstep
    ·cases hst
   ·have hst:zaA o=false:=by simpa using hst
    have hstep':zdF L S base o st=some st':=by
     unfold zc0 at hstep;split at hstep
     ·rename_i hop;simp[zaA,hop] at hst
     ·exact hstep
    exact znU hL hC hI hs hst hstep' hids.1 hids.2
  exact hD K Q fun v w' ⟨p',h1,h2⟩=>hK _ _ p' h1 h2 (hdef v) (fun t ht=>zaM ht)
 unfold zc8 at hs;split at hs
 ·rename_i hg
  have hw:Region.wanted o (yielded ops a.tmps)=true:=by unfold Region.wanted;rw[hg]
  rw[if_pos hw];exact .inl (hdo hs)
 ·rename_i g hg
  simp only[zzOb] at hs;obtain⟨t,ht,hs⟩:=hs;have hw:=zka hI.size (fun d _=>hI.slots d) hg ht
  cases t with
  | true =>
   rw[if_pos hw];exact .inl (hdo hs)
  | false =>
   rw[if_neg (by rw[hw];simp)]
   simp only[Bool.false_eq_true,if_false,Option.some.injEq] at hs;subst hs;have hstep':zdF L S base o st=some st':=by
    unfold zc0 at hstep;split at hstep
    ·simp[hg] at hstep
    ·exact hstep
   exact hK _ _ p (step_skip hI hg hstep') (.refl _ _ _) (hdef _) (fun t ht=>zaM ht)
theorem zAM (hL:LayOk P L) (hC:za4 P S call) (hI:Inv st p w a.tmps s Own) (hs:zfI L call o s=some s') (hia:ze5 L o s=true) (hst:zaA o=false) (hho:zr1 L S o=true) (hdst:∀d,o.dst=some d→d<s.σ.length):zn2 P L S st o a p w s s':=by
 unfold zfI at hs;split at hs
 ·rename_i x hop
  simp only[zzOb] at hs;obtain⟨⟨d0,k,r⟩,hx,hs⟩:=hs;simp only at hs;split at hs
  case h_2=>cases hs
  rename_i d hd;split at hs
  case isFalse=>cases hs
  rename_i hne;cases hs;exact zxL hI (.inl hop) hd (hdst d hd) hx hne
 ·rename_i x hop
  simp only[zzOb] at hs;obtain⟨⟨d0,k,r⟩,hx,hs⟩:=hs;simp only at hs;split at hs
  case h_2=>cases hs
  rename_i d hd;split at hs
  case isFalse=>cases hs
  rename_i hne;cases hs;exact zxL hI (.inr hop) hd (hdst d hd) hx hne
 ·rename_i t x hop
  simp only[zzOb] at hs;obtain⟨i,hi,r,hr,hs⟩:=hs;split at hs
  case h_2=>cases hs
  rename_i d0 k n j;split at hs
  case h_2=>cases hs
  rename_i k' rows hd0;split at hs
  case isFalse=>cases hs
  rename_i hc;obtain⟨rfl,hn,hj⟩:=hc;simp only[zzOm] at hs;obtain⟨v,hv,rfl⟩:=hs;exact zBo hL hI hop hi hr hd0 hn hj hv
 ·rename_i hop
  simp[zaA,hop] at hst
 ·rename_i t x ix hop
  simp only[zzOb] at hs;obtain⟨e,he,⟨d0,k,r⟩,hx,n,hn,hs⟩:=hs;simp only at hs;split at hs
  case isFalse=>cases hs
  rename_i hc;obtain⟨c1,c2,rfl⟩:=hc;split at hs
  case h_2=>cases hs
  rename_i d hd;split at hs
  case isFalse=>cases hs
  rename_i hc;cases hs;exact zyM hL hI hop he hx hn c1 c2 hd hc.1 hc.2
 ·rename_i t l c hop
  simp only[zzOb] at hs;obtain⟨e,he,l',hl,c',hc',hs⟩:=hs;split at hs
  case h_2=>cases hs
  rename_i d hd;split at hs
  case isFalse=>cases hs
  rename_i hc;obtain⟨c1,c2,c3,c4,c5⟩:=hc;cases hs;exact zBN hL hI hop he hl hc' c1 c2 c3 c4 hd (hdst d hd) (by simpa [ze5,hop] using hia) c5
 ·rename_i args ats hop
  split at hs
  case h_2=>cases hs
  rename_i x hx;split at hs
  case isFalse=>cases hs
  rename_i hats;simp only[zzOb,zzOm] at hs;obtain⟨e,he,⟨d0,k,r⟩,hr,rfl⟩:=hs;have:=zpx hx
  subst this;exact zC9 hL hI hop rfl hats he hr
 ·rename_i f args ats hop
  simp only[zr1,hop,Bool.and_eq_true,Bool.or_eq_true,Bool.not_eq_true',List.isEmpty_iff] at hho;split at hs
  ·rename_i hh
   simp only[zzOb] at hs;obtain⟨vs,hvs,r,hr,e,he,hs⟩:=hs;rw[he,hh] at hho;obtain⟨h1,h2⟩:=hho.1.resolve_left (by simp)
   simp only[beq_iff_eq] at h2;split at hs
   case h_2=>cases hs
   rename_i k rows;split at hs
   case h_2=>cases hs
   rename_i d hd;split at hs
   case isFalse=>cases hs
   rename_i hc;obtain⟨rfl,c3,c4⟩:=hc;cases hs;exact zBM hC hI hop h1 h2 c4 hvs hr hd (hdst d hd) hh c3
  ·split at hs
   case isFalse=>cases hs
   rename_i hl;rw[hl] at hho;obtain⟨h1,h2⟩:=hho.2.resolve_left (by simp)
   simp only[zzOb] at hs;obtain⟨vs,hvs,r,hr,hs⟩:=hs;split at hs
   case isFalse=>cases hs
   rename_i hf;cases hs;exact zB7 hC hI hop h1 h2 hvs hr hf
 ·cases hs
theorem znf (hI:Inv st p w a.tmps s Own) (hstep:zdF L S base o st=some st'):zr1 L S o=true∧∀d,o.dst=some d→d<s.σ.length:=by
 unfold zdF at hstep;split at hstep
 case isFalse=>cases hstep
 rename_i htk;simp only[Bool.and_eq_true] at htk;refine⟨?_,fun d hd=>?_⟩
 ·have h:=htk.1
  unfold zkZ at h;simp only[Bool.and_eq_true] at h;exact h.2
 ·have h:=htk.2
  unfold zqt at h;rw[hd] at h;simp only[decide_eq_true_eq] at h;rw[←hI.len];exact h
theorem zs1 (hL:LayOk P L) (hC:za4 P S call) (hI:Inv st p w a.tmps s Own) (hs:zfI L call o s=some s') (hia:ze5 L o s=true) (hst:zaA o=false) (hstep:zdF L S base o st=some st')
  (hb1:∀q id,(q,id)∈st.pid→id<base) (hb2:∀id k,(id,k)∈st.alive→id<base):Does P o a w fun v w'=>∃p',Inv st' p' w' (a.put o.dst v).tmps s' Own∧Evo Own p w p' w':=by
 obtain⟨h1,h2⟩:=znf hI hstep;obtain⟨⟨he,hF,ho,hsp⟩,hD⟩:=zAM hL hC hI hs hia hst h1 h2;exact zrg hI hF ho hsp hstep (by rw[he];intro x hx;cases hx) (by rw[he];intro x hx;cases hx) (fun _ _=>hD) hb1 hb2
def zs9 (nb:List Nat) (s:VS):Prop:=∀t∈nb,(∀d off,s.pe.lookup t≠some (.box d off))∧∀cs,s.get t≠.box cs
theorem zmY {nb:List Nat} (hF:ze1 o s s') (h:zs9 nb s) (hi:∀d,o.dst=some d→(∃t x y,o.op=.indexAddr t x y)→(∀e off,s'.pe.lookup d≠some (.box e off))∧∀cs,s'.get d≠.box cs):zs9 (zkC o nb) s':=by
 have old:∀t,o.dst≠some t→t∈nb→(∀d off,s'.pe.lookup t≠some (.box d off))∧∀cs,s'.get t≠.box cs:=fun t hd ht=>by
  obtain⟨h1,h2⟩:=h t ht;exact⟨fun d off hl=>h1 d off (hF.pe t _ hd hl).1,fun cs hc=>h2 cs (by rw[←hF.get t hd];exact hc)⟩
 intro t ht;unfold zkC at ht;split at ht
 ·rename_i d hd
  have hfil:t∈nb.filter (fun t=>!(t==d))→(∀d off,s'.pe.lookup t≠some (.box d off))∧∀cs,s'.get t≠.box cs:=fun ht=>by
   obtain⟨h1,h2⟩:=List.mem_filter.1 ht;simp only[Bool.not_eq_true',beq_eq_false_iff_ne] at h2;exact old t (by rw[hd];simpa using Ne.symm h2) h1
  split at ht
  ·rename_i ty x y hop
   rcases List.mem_cons.1 ht with rfl|ht
   ·exact hi _ hd ⟨_,_,_,hop⟩
   ·exact hfil ht
  ·exact hfil ht
 ·rename_i hd
  exact old t (by rw[hd];simp) ht
theorem Inv.withNb {nb:List Nat} (h:Inv st p w a.tmps s Own) (hn:zs9 nb s):Inv {st with nb:=nb} p w a.tmps s Own:=by
 obtain⟨val,hR⟩:=h.rooms;exact⟨h.size,h.len,hn,h.sonce,h.slots,h.zp,h.once,h.spe,h.own,h.box,h.boxd,h.arr,h.al,h.mks,val,⟨hR.place,hR.alive,hR.own,hR.apart,hR.row⟩⟩
theorem zwq {nb:List Nat} (hs:vop L call o s=some s') (hF:ze1 o s s') (h:zs9 nb s):zs9 (zkC o nb) s':=by
 refine zmY hF h fun d hd ⟨t,x,y,hop⟩=>?_
 have key:∀r:Ptr,(∀e off,r≠.box e off)→s'={(s.put (some d) .und) with pe:=(d,r)::(s.put (some d) .und).pe}→(∀e off,s'.pe.lookup d≠some (.box e off))∧∀cs,s'.get d≠.box cs:=by
  rintro r hr rfl
  refine⟨fun e off hl=>?_,fun cs hc=>?_⟩
  ·simp only[List.lookup,beq_self_eq_true,Option.some.injEq] at hl
   exact hr e off hl
  ·have hc:(s.put (some d) .und).get d=.box cs:=hc
   rw[zb1] at hc;split at hc <;> cases hc
 unfold vop at hs;split at hs
 ·simp only[zfI,hop,zzOb] at hs
  obtain⟨e,he,⟨d0,k,r⟩,hx,n,hn,hs⟩:=hs;simp only at hs;split at hs
  case isFalse=>cases hs
  rw[hd] at hs;simp only at hs;split at hs
  case isFalse=>cases hs
  cases hs;exact key _ (by simp) rfl
 ·simp only[zaK,hop,zzOb] at hs
  obtain⟨e,he,⟨k,r⟩,hx,n,hn,hs⟩:=hs;simp only at hs;split at hs
  case isFalse=>cases hs
  rw[hd] at hs;simp only at hs;split at hs
  case isFalse=>cases hs
  cases hs;exact key _ (by simp) rfl
theorem zsl (hL:LayOk P L) (hC:za4 P S call) {ops:Array Oper}{i:Nat} (hi:ops[i]?=some o) (hI:Inv st p w a.tmps s Own) (hids:zcG st base) (hs:zvN L call ops.toList o s=some s') (hstep:zn6 L S base o st=some st')
  {Q:Exit→Act→World→Prop}{K:Act→World→Prop} (hK:∀a' w' p',Inv st' p' w' a'.tmps s' Own→Evo Own p w p' w'→a'.defers=a.defers→(∀t,o.dst≠some t→a'.tmps.getD t undef=a.tmps.getD t undef)→K a' w'):wpOp P ops Q i K a w:=by
 unfold wpOp;rw[hi];simp only;have hdef:∀v,(a.put o.dst v).defers=a.defers:=fun v=>by cases o.dst <;> rfl
 have hdo:vop L call o s=some s'→o.wp P a w K Q:=by
  intro hs;have hD:Does P o a w fun v w'=>∃p',Inv st' p' w' (a.put o.dst v).tmps s' Own∧Evo Own p w p' w':=by
   unfold zn6 at hstep;split at hstep
   ·rename_i hel
    cases hstep;unfold zlW at hel;split at hel
    case h_2=>cases hel
    rename_i t x v hop;simp only[Bool.and_eq_true,Option.isNone_iff_eq_none] at hel;obtain⟨⟨_,hdn⟩,hnb⟩:=hel;unfold vop at hs;split at hs
    ·exact ztC hL hI hop hdn hs
    ·exfalso
     simp only[zaK,hop,zzOb] at hs;obtain⟨_,_,r,hr,_,_,hs⟩:=hs;split at hs
     case h_2=>cases hs
     rename_i d off;cases x with
     | const c=>cases hnb
     | global c=>cases hnb
     | func c=>cases hnb
     | tmp y =>
     simp only[zCD,List.any_eq_true,beq_iff_eq] at hnb;obtain⟨e,he,rfl⟩:=hnb;obtain⟨h1,h2⟩:=hI.nbk e he;simp only[zgU] at hr;cases hpe:s.pe.lookup e with
     | some q' =>
      rw[hpe] at hr;cases hr;exact h1 _ _ hpe
     | none =>
      rw[hpe] at hr;simp only at hr;cases hr
   ·rename_i hel
    simp only[zzOm] at hstep;obtain⟨st1,hstep,rfl⟩:=hstep;by_cases hst:zaA o=true
    ·unfold zaA at hst
     split at hst
     case h_2=>cases hst
     rename_i t x v hop;have hnn:zkC o st.nb=st.nb:=by
      have hdn:o.dst=none:=by
       simp only[zc0,hop] at hstep;split at hstep
       ·cases hstep
       ·rename_i hgd
        simp only[Bool.or_eq_true,Option.isSome_iff_ne_none,not_or,Decidable.not_not,ne_eq] at hgd;exact hgd.2
      unfold zkC;rw[hdn]
     rw[hnn];unfold vop at hs;split at hs
     ·exfalso
      simp only[zc0,hop] at hstep;split at hstep
      ·cases hstep
      split at hstep
      case h_2=>cases hstep
      rename_i i' d off hi' hps;simp only[zfI,hop,zzOb] at hs;obtain⟨_,_,r,hr,_,_,hs⟩:=hs;have:=zng hI.spe hps hr
      subst this;cases hs
     ·have hnb':zs9 st.nb s':=by
       have hs0:=hs
       simp only[zaK,hop,zzOb] at hs0;obtain⟨_,_,r,hr,xv,_,hs0⟩:=hs0;split at hs0
       case h_2=>cases hs0
       rename_i d off;split at hs0
       case h_2=>cases hs0
       rename_i cs hcs;split at hs0
       case isFalse=>cases hs0
       cases hs0;intro t' ht';obtain⟨h1,h2⟩:=hI.nbk t' ht';refine⟨h1,fun cs' hc=>?_⟩
       by_cases htd:t'=d
       ·subst htd;exact h2 _ hcs
       ·refine h2 cs' ?_
        rw[←hc];simp only[VS.get,List.getD,List.getElem?_set_ne (Ne.symm htd)]
      refine(zqx hL hI hop hs hstep).mono ?_
      rintro v w' ⟨p',g1,g2⟩
      exact⟨p',Inv.withNb (a:=a.put o.dst v) g1 hnb',g2⟩
    ·have hst:zaA o=false:=by simpa using hst
     have hstep':zdF L S base o st=some st1:=by
      unfold zc0 at hstep;split at hstep
      ·rename_i hop;simp[zaA,hop] at hst
      ·exact hstep
     have hFr:ze1 o s s':=by
      unfold vop at hs;split at hs
      ·rename_i hia
       obtain⟨h1,h2⟩:=znf hI hstep';exact(zAM hL hC hI hs hia hst h1 h2).1.2.1
      ·exact(zd4 hs hst hI.once).1
     have hnb':=zwq hs hFr hI.nbk
     have hD:Does P o a w fun v w'=>∃p',Inv st1 p' w' (a.put o.dst v).tmps s' Own∧Evo Own p w p' w':=by
      unfold vop at hs;split at hs
      ·rename_i hia
       exact zs1 hL hC hI hs hia hst hstep' hids.1 hids.2
      ·exact znU hL hC hI hs hst hstep' hids.1 hids.2
     refine hD.mono ?_
     rintro v w' ⟨p',g1,g2⟩
     exact⟨p',Inv.withNb (a:=a.put o.dst v) g1 hnb',g2⟩
  exact hD K Q fun v w' ⟨p',h1,h2⟩=>hK _ _ p' h1 h2 (hdef v) (fun t ht=>zaM ht)
 unfold zvN at hs;split at hs
 ·rename_i hg
  have hw:Region.wanted o (yielded ops a.tmps)=true:=by unfold Region.wanted;rw[hg]
  rw[if_pos hw];exact .inl (hdo hs)
 ·rename_i g hg
  simp only[zzOb] at hs;obtain⟨t,ht,hs⟩:=hs;have hw:=zka hI.size (fun d _=>hI.slots d) hg ht
  cases t with
  | true =>
   rw[if_pos hw];exact .inl (hdo hs)
  | false =>
   rw[if_neg (by rw[hw];simp)]
   simp only[Bool.false_eq_true,if_false,Option.some.injEq] at hs;subst hs;unfold zn6 at hstep;split at hstep
   ·rename_i hel
    unfold zlW at hel;split at hel
    ·simp[hg] at hel
    ·cases hel
   simp only[zzOm] at hstep;obtain⟨st1,hstep,rfl⟩:=hstep;have hstep':zdF L S base o st=some st1:=by
    unfold zc0 at hstep;split at hstep
    ·simp[hg] at hstep
    ·exact hstep
   have hnb':zs9 (zkC o st.nb) (s.put o.dst .und):=zmY (zap hI.once .und).1 hI.nbk fun d hd _=>by
    rw[hd];exact⟨fun e off hl=>(by rw[zcD] at hl;cases hl),fun cs hc=>(by rw[zb1] at hc;split at hc <;> cases hc)⟩
   exact hK _ _ p (Inv.withNb (a:=a.put o.dst undef) (step_skip hI hg hstep') hnb') (.refl _ _ _) (hdef _) (fun t ht=>zaM ht)
theorem zu4 (hL:LayOk P L) (hC:za4 P S call) {ops:Array Oper}{Q:Exit→Act→World→Prop}:∀(l:List Nat) (os:List Oper),l.map (ops[·]?)=os.map some→∀(base base':Nat) (st st':Stt) (p:Stb) (w:World) (a:Act) (s s':VS),
  Inv st p w a.tmps s Own→zcG st base→ziW L call ops.toList os s=some s'→zjC L S base os st=some (base',st') →
  (∀a' w' p',Inv st' p' w' a'.tmps s' Own→zcG st' base'→Evo Own p w p' w'→a'.defers=a.defers→Q .normal a' w')→wpOps P ops Q l a w
 | [],os,hl,base,base',st,st',p,w,a,s,s',hI,hids,hs,hst,hQ=>by
  have:os=[]:=by simpa using hl.symm
  subst this;cases hs;cases hst;exact hQ a w p hI hids (.refl _ _ _) rfl
 | i::l,[],hl,_,_,_,_,_,_,_,_,_,_,_,_,_,_=>by simp at hl
 | i::l,o::os,hl,base,base',st,st',p,w,a,s,s',hI,hids,hs,hst,hQ=>by
  simp only[List.map_cons,List.cons.injEq] at hl;rw[zrC] at hs;simp only[zzOb] at hs;obtain⟨s1,hs1,hs⟩:=hs;simp only[zjC,zzOb] at hst;obtain⟨st1,hst1,hst⟩:=hst;rw[wpOps_cons];refine zsl hL hC hl.1 hI hids hs1 hst1 fun a1 w1 p1 hI1 hev1 hd1 _=>?_
  exact zu4 hL hC l os hl.2 _ base' st1 st' p1 w1 a1 s1 s' hI1 (zo2 hids hst1) hs hst fun a' w' p' h1 h2 h3 h4=>hQ a' w' p' h1 h2 (hev1.trans h3 (fun _ _ h=>h) (fun _ _ h=>h)) (h4.trans hd1)
end
end
end Go.Proofs.Ytcpcagdialnbeaa
