/- Generic texts and models for the proofs of this seat: part 19. -/
import Derived.Test.YtcpcagdialnbeaaY18
set_option linter.unusedVariables false
set_option linter.unusedSimpArgs false
namespace Go.Proofs.Ytcpcagdialnbeaa
section
open Go Go.RowKit
def InvC [Home] (st:Stt) (p:Stb) (w:World) (m:Array Value) (x:List AV×List AC) (Own:Nat→Prop) (b:Nat):Prop:=Inv st p w m {σ:=x.1,pe:=[]} Own∧m.getD Home.hm undef=zaU b∧TK p w Own b x.2
abbrev EvoC (Own:Nat→Prop) (b:Nat) (p:Stb) (w:World) (p':Stb) (w':World):Prop:=Evo (fun c=>Own c∨c=b) p w p' w'
theorem EvoC.refl (Own:Nat→Prop) (b:Nat) (p:Stb) (w:World):EvoC Own b p w p w:=Evo.refl _ _ _
theorem EvoC.trans {Own:Nat→Prop}{b:Nat}{p p' p'':Stb}{w w' w'':World} (h:EvoC Own b p w p' w') (k:EvoC Own b p' w' p'' w''):EvoC Own b p w p'' w'':=Evo.trans h k (fun _ _ h=>h) (fun _ _ h=>h)
section
variable {P:Program}{L:Lay}{S:Sig}{T:Nat→Bool}{call:Orc}{ct:TOrc}{Own:Nat→Prop}{bb:Nat}
theorem Le.c [Home] {st st':Stt} (h:Le st st') {p:Stb}{w:World}{m:Array Value}{x:List AV×List AC} (hI:InvC st p w m x Own bb):InvC st' p w m x Own bb:=⟨h _ _ _ _ _ hI.1 rfl,hI.2⟩
theorem zpk [Home] (hP:P.follows .mixedOrders=true) (hL:LayOk P L) (hC:za4 P S call) (hT:zcR P S T ct):∀(n:Nat) (c:Code) (σ:List AV×List AC) (e:Xt) (σ':List AV×List AC) (st:Stt) (O:Out),zaS L T call ct n c σ=some (e,σ')→zb2 (zbu T) L S c st=some O →
  ∀(p:Stb) (w:World) (a:Act),InvC st p w a.tmps σ Own bb→a.defers=[]→∀(Q:Exit→Act→World→Prop),
  (∀st' a' w' p',O.at e=some st'→InvC st' p' w' a'.tmps σ' Own bb→EvoC Own bb p w p' w'→a'.defers=[]→Q (zkK e) a' w')→c.wp P Q a w:=by
 intro n;induction n with
 | zero=>intro c σ e σ' st O hv;simp[zaS] at hv
 | succ n ih =>
  intro c σ e σ' st O hv ht p w a hI hd Q hQ;have ett:∀{p p' p'':Stb}{w w' w'':World},EvoC Own bb p w p' w'→EvoC Own bb p' w' p'' w''→EvoC Own bb p w p'' w'':=fun h k=>EvoC.trans h k
  cases c with
  | skip =>
   simp only[zaS,Option.some.injEq,Prod.mk.injEq] at hv;obtain⟨rfl,rfl⟩:=hv;cases ht;exact wp_skip (hQ st a w p rfl hI (EvoC.refl _ _ _ _) hd)
  | region id ops d =>
   simp only[zb2] at ht;simp only[zaS,zzOm,Prod.mk.injEq] at hv;obtain⟨y,hs,rfl,rfl⟩:=hv;unfold zkl at hs;simp only[zzOb] at hs;obtain⟨t',hs,h0⟩:=hs;split at h0
   case isFalse=>cases h0
   rename_i hz0;cases h0;have hz:Home.hm∈t'.tk:=by
    unfold zzL at hz0;simp only[List.any_eq_true] at hz0;obtain⟨z,hz,he⟩:=hz0;rw[←Nat.eq_of_beq_eq_true he];exact hz
   obtain⟨hI1,h00,hTK⟩:=hI;cases d with
   | true =>
    simp only[if_true] at hs;simp only[if_true,zzOm] at ht;obtain⟨st',hst,rfl⟩:=ht;exact zvL hP hL hC hT id ops (zit σ.1) σ.2 Q hst hs (zo4 σ.1) (zr0 σ.1) hI1.masked h00 hTK fun a' w' p' g1 g2 g3 g4 g5=>hQ st' a' w' p' rfl ⟨g1,g2 _ hz,g3⟩ g4 (g5.trans hd)
   | false =>
    simp only[Bool.false_eq_true,if_false] at hs;simp only[Bool.false_eq_true,if_false,zzOm] at ht;obtain⟨⟨b',st'⟩,hst,rfl⟩:=ht;refine wp_region (zth hL hC hT (List.range ops.size) ops.toList ?_ _ b' st st' p w a ⟨{σ:=σ.1,pe:=[]},[Home.hm],σ.2⟩ t' hI1 (zdQ st) (fun x hx=>by
     simp only[List.mem_singleton] at hx;rw[hx];exact h00) hTK hs hst fun a' w' p' g1 g2 g3 g4 g5=>hQ _ a' w' p' rfl ⟨g1.reset,g2 _ hz,g3⟩ g4 (g5.trans hd))
    apply List.ext_getElem?
    intro i;simp only[List.getElem?_map,Array.getElem?_toList];rcases Nat.lt_or_ge i ops.size with hi|hi
    ·rw[List.getElem?_range hi]
     simp[hi]
    ·rw[List.getElem?_eq_none (by simpa using hi),Array.getElem?_eq_none hi]
     rfl
  | seq x y =>
   simp only[zaS,zzOb] at hv;obtain⟨⟨e1,σ1⟩,h1,h2⟩:=hv;simp only[zb2,zzOb] at ht;obtain⟨A,hA,ht⟩:=ht;refine wp_seq (ih x σ e1 σ1 st A h1 hA p w a hI hd _ fun st1 a1 w1 p1 ha1 hI1 hev1 hd1=>zkR (fun he=>?_) (fun hne=>?_))
   ·subst he
    simp only at h2;have ha1':A.norm=some st1:=ha1
    rw[ha1'] at ht;simp only[zzOb] at ht;obtain⟨B,hB,hj⟩:=ht;refine ih y σ1 e σ' st1 B h2 hB p1 w1 a1 hI1 hd1 Q fun st2 a2 w2 p2 ha2 hI2 hev2 hd2=>?_
    obtain⟨st',h3,h4⟩:=(zdq hj e).2 st2 ha2;refine hQ st' a2 w2 p2 h3 ?_ (ett hev1 hev2) hd2
    rcases h4 with rfl|h4
    ·exact hI2
    ·exact Le.c h4 hI2
   ·have he:e1=e∧σ1=σ':=by
     cases e1 with
     | norm=>exact absurd rfl hne
     | exit i=>simp at h2;exact h2
     | ret=>simp at h2;exact h2
    obtain⟨rfl,rfl⟩:=he;cases hAn:A.norm with
    | none =>
     rw[hAn] at ht;cases ht;exact hQ st1 a1 w1 p1 ha1 hI1 hev1 hd1
    | some s1 =>
     rw[hAn] at ht;simp only[zzOb] at ht;obtain⟨B,hB,hj⟩:=ht;have ha1':Out.at {norm:=none,exits:=A.exits,ret:=A.ret} e1=some st1:=by
      cases e1 with
      | norm=>exact absurd rfl hne
      | exit i=>exact ha1
      | ret=>exact ha1
     obtain⟨st',h3,h4⟩:=(zdq hj e1).1 st1 ha1';refine hQ st' a1 w1 p1 h3 ?_ hev1 hd1
     rcases h4 with rfl|h4
     ·exact hI1
     ·exact Le.c h4 hI1
  | cond x y z =>
   simp only[zaS,zzOb] at hv;obtain⟨t,ht',hv⟩:=hv;simp only[zb2,zzOb] at ht;obtain⟨A,hA,B,hB,hj⟩:=ht;have hc:a.eval x=.bool t:=zhu (p:=p) (w:=w) ht' (fun t _=>hI.1.slots t)
   refine wp_cond hc ?_
   cases t with
   | true =>
    simp only[if_true] at hv ⊢;refine ih y σ e σ' st A hv hA p w a hI hd Q fun st2 a2 w2 p2 ha2 hI2 hev2 hd2=>?_
    obtain⟨st',h3,h4⟩:=(zdq hj e).1 st2 ha2;refine hQ st' a2 w2 p2 h3 ?_ hev2 hd2
    rcases h4 with rfl|h4
    ·exact hI2
    ·exact Le.c h4 hI2
   | false =>
    simp only[Bool.false_eq_true,if_false] at hv ⊢;refine ih z σ e σ' st B hv hB p w a hI hd Q fun st2 a2 w2 p2 ha2 hI2 hev2 hd2=>?_
    obtain⟨st',h3,h4⟩:=(zdq hj e).2 st2 ha2;refine hQ st' a2 w2 p2 h3 ?_ hev2 hd2
    rcases h4 with rfl|h4
    ·exact hI2
    ·exact Le.c h4 hI2
  | block id b =>
   simp only[zaS,zzOm] at hv;obtain⟨⟨e1,σ1⟩,h1,h2⟩:=hv;simp only[zb2,zzOb,zzOm] at ht;obtain⟨B,hB,n',hn,rfl⟩:=ht;refine wp_block (ih b σ e1 σ1 st B h1 hB p w a hI hd _ fun st1 a1 w1 p1 ha1 hI1 hev1 hd1=>?_)
   have fin:∀st1',(∃st',n'=some st'∧(st1'=st'∨Le st1' st'))→e=.norm→σ1=σ'→st1'=st1→Q .normal a1 w1:=by
    rintro st1' ⟨st',h3,h4⟩ rfl rfl rfl
    refine hQ st' a1 w1 p1 h3 ?_ hev1 hd1
    rcases h4 with rfl|h4
    ·exact hI1
    ·exact Le.c h4 hI1
   cases e1 with
   | norm =>
    simp only[Prod.mk.injEq] at h2;exact fin st1 ((zhX hn).1 st1 ha1) h2.1.symm h2.2 rfl
   | exit i =>
    simp only at h2;by_cases hi:i=id
    ·subst hi
     simp only[if_true,Prod.mk.injEq] at h2;simp only[zkK,Exit.inBlock,if_true];exact fin st1 ((zhX hn).2 st1 ha1) h2.1.symm h2.2 rfl
    ·simp only[if_neg hi,Prod.mk.injEq] at h2
     obtain⟨rfl,rfl⟩:=h2;simp only[zkK,Exit.inBlock,if_neg hi];refine hQ st1 a1 w1 p1 ?_ hI1 hev1 hd1
     have ha1:B.exits.lookup i=some st1:=ha1
     show(B.exits.filter fun e=>!(e.1==id)).lookup i=some st1
     rw[←ha1];clear ha1 hn hB h1;generalize B.exits=l
     induction l with
     | nil=>rfl
     | cons y l ihl =>
      obtain⟨k,v⟩:=y;by_cases hk:k=id
      ·subst hk
       rw[List.filter_cons_of_neg (by simp),ihl]
       simp[List.lookup,show(i==k)=false by simpa using hi]
      ·rw[List.filter_cons_of_pos (by simpa using hk)]
       simp only[List.lookup];rw[ihl]
   | ret =>
    simp only[Prod.mk.injEq] at h2;obtain⟨rfl,rfl⟩:=h2;exact hQ st1 a1 w1 p1 ha1 hI1 hev1 hd1
  | loop b =>
   simp only[zb2,zzOb] at ht;obtain⟨⟨J,O'⟩,htl,ht⟩:=ht;simp only at ht;split at ht
   case isFalse=>cases ht
   rename_i hwk;cases ht
   -- the invariant that was found
   have hJ:∀(k:Nat) (J0:Stt),zrc (zb2 (zbu T) L S b) k J0=some (J,O)→∃O1,zb2 (zbu T) L S b J=some O1∧(∀s1,O1.norm=some s1→Le s1 J)∧(∀e,e≠.norm→O.at e=O1.at e):=by
    intro k;induction k with
    | zero=>intro J0 h;cases h
    | succ k ihk =>
     intro J0 h;simp only[zrc,zzOb] at h;obtain⟨O1,hO1,h⟩:=h;split at h
     ·rename_i hnone
      cases h;exact⟨_,hO1,(fun s1 h=>by rw[hnone] at h;cases h),fun e _=>rfl⟩
     ·rename_i s1 hs1
      split at h
      ·rename_i hw
       cases h;refine⟨O1,hO1,fun s h=>?_,fun e he=>?_⟩
       ·rw[hs1] at h
        cases h;exact zrD hw
       ·cases e with
        | norm=>exact absurd rfl he
        | exit i=>rfl
        | ret=>rfl
      ·exact ihk _ h
   obtain⟨O1,hO1,hnorm,hat⟩:=hJ _ _ htl
   let Pm:Act→World→Nat→Prop:=fun a1 w1 m=>∃σ1 p1,m≤n+1∧zaS L T call ct m (.loop b) σ1=some (e,σ')∧InvC J p1 w1 a1.tmps σ1 Own bb∧EvoC Own bb p w p1 w1∧a1.defers=[]
   have h0:Pm a w (n+1):=⟨σ,p,Nat.le_refl _,hv,Le.c (zrD hwk) hI,EvoC.refl _ _ _ _,hd⟩
   refine wp_loop (fun a1 w1=>∃m,Pm a1 w1 m) (fun a1 w1=>zo1 (Pm a1 w1)) ⟨n+1,h0⟩ ?_
   intro a1 w1 hex;obtain⟨σ1,p1,hle,hv1,hI1,hev1,hd1⟩:=(zjO hex).1;generalize hm:zo1 (Pm a1 w1)=m at hle hv1 ⊢
   cases m with
   | zero=>simp[zaS] at hv1
   | succ m =>
    simp only[zaS,zzOb] at hv1;obtain⟨⟨e2,σ2⟩,hb,hr⟩:=hv1;have hb':zaS L T call ct n b σ1=some (e2,σ2):=zbW (fun _ _ _ _ h=>h) (by omega) hb
    refine ih b σ1 e2 σ2 J O1 hb' hO1 p1 w1 a1 hI1 hd1 _ fun st2 a2 w2 p2 ha2 hI2 hev2 hd2=>zkR (fun he=>?_) (fun hne=>?_)
    ·subst he
     simp only at hr;have hP:Pm a2 w2 m:=⟨σ2,p2,by omega,hr,Le.c (hnorm st2 ha2) hI2,ett hev1 hev2,hd2⟩
     exact⟨⟨m,hP⟩,Nat.lt_succ_of_le ((zjO ⟨m,hP⟩).2 m hP)⟩
    ·have he:e2=e∧σ2=σ':=by
      cases e2 with
      | norm=>exact absurd rfl hne
      | exit i=>simp at hr;exact hr
      | ret=>simp at hr;exact hr
     obtain⟨rfl,rfl⟩:=he;exact hQ st2 a2 w2 p2 (by rw[hat _ hne];exact ha2) hI2 (ett hev1 hev2) hd2
  | exit id =>
   simp only[zaS,Option.some.injEq,Prod.mk.injEq] at hv;obtain⟨rfl,rfl⟩:=hv;cases ht;exact wp_exit (hQ st a w p (by simp[Out.at,List.lookup]) hI (EvoC.refl _ _ _ _) hd)
  | ret =>
   simp only[zaS,Option.some.injEq,Prod.mk.injEq] at hv;obtain⟨rfl,rfl⟩:=hv;cases ht;exact wp_ret (hQ st a w p rfl hI (EvoC.refl _ _ _ _) hd)
  | rangeFunc f ps x y=>simp[zaS] at hv
  | scope b=>simp[zaS] at hv
  | label l=>simp[zaS] at hv
  | goto l=>simp[zaS] at hv
  | refuse l=>simp[zaS] at hv
theorem zw9 (hP:P.follows .mixedOrders=true) (hL:LayOk P L) (hC:za4 P S call) (hT:zcR P S T ct) {f:FuncId}{fn:Func}{sg:Sg} (hf:P.funcs[f]?=some fn) (hok:zay (zbu T) L S fn sg=true) (htk:sg.takes=[]) {n:Nat}{q:List AC}{args:List SV}{r:AV×List AC} (hv:zle L T call ct n fn q args=some r)
  {p:Stb}{w:World}{b:Nat}{vals:List Value} (hreps:RepSs p w vals args) (hz:Zp p w) (hTK:TK p w (fun _=>False) b q) :
  Calls P f (zaU b::vals).toArray w fun e w'=>∃v,e=.returned v∧∃p',SR p' w' v r.1∧(∀cs,r.1≠.box cs)∧r.1≠.und∧Evo (·=b) p w p' w'∧Zp p' w'∧TK p' w' (fun _=>False) b r.2 ∧
   (∀e∈sg.gives,∃u,zax w' v e.1=some u∧Rt p' w' u e.2∧∀c,zar u=some c→w.heap.size≤c) ∧
   (∀(e e':Nat×Nat) (u u':Value) (c:Nat),e∈sg.gives→e'∈sg.gives→e.1≠e'.1→zax w' v e.1=some u→zax w' v e'.1=some u'→zar u=some c→zar u'≠some c):=by
 unfold zay at hok;simp only[Bool.and_eq_true,decide_eq_true_eq] at hok;obtain⟨⟨⟨_,htl⟩,hpn⟩,hok⟩:=hok;unfold zle at hv;cases hb:fn.body with
 | none=>rw[hb] at hv;cases hv
 | some c =>
  rw[hb] at hv hok;simp only at hv hok;split at hv
  case isFalse=>cases hv
  rename_i hnp;simp only[zzOb] at hv;split at hok
  case h_2=>cases hok
  rename_i O hO;simp only[Bool.and_eq_true] at hok;obtain⟨⟨e,σ'⟩,hrun,hres⟩:=hv;have hlen:=hreps.length
  let Own:Nat→Prop:=fun c=>w.heap.size≤c
  let m0:Array Value:=(zaU b::vals).toArray++Array.replicate (fn.ntmps-(zaU b::vals).toArray.size) undef
  have hm0:∀t,m0.getD t undef=match (zaU b::vals)[t]? with|some v=>v|none=>undef:=by
   intro t;simp only[m0,Array.getD_eq_getD_getElem?,Array.getElem?_append,List.size_toArray,List.getElem?_toArray];rcases Nat.lt_or_ge t (zaU b::vals).length with h|h
   ·rw[if_pos h,List.getElem?_eq_getElem h];rfl
   ·rw[if_neg (by omega),List.getElem?_eq_none h,Array.getElem?_replicate]
    split <;> rfl
  have hst0:st0 sg fn.ntmps={pid:=[],alive:=[],spe:=[],len:=fn.ntmps}:=by simp[st0,htk]
  have hg0:∀t,VS.get {σ:=AV.und::(args.map .v++List.replicate (fn.ntmps-(args.length+1)) .und),pe:=[]} t=match t with|0=>.und|t+1=>(match args[t]? with|some x=>.v x|none=>.und):=fun t=>by
   cases t with
   | zero=>rfl
   | succ t=>exact zuw args _ t
  have hI:Inv (st0 sg fn.ntmps) p w m0 {σ:=.und::(args.map .v++List.replicate (fn.ntmps-(args.length+1)) .und),pe:=[]} Own:=by
   have hnone:∀t,zbH (VS.get {σ:=AV.und::(args.map .v++List.replicate (fn.ntmps-(args.length+1)) .und),pe:=[]} t)=false:=fun t=>by
    rw[hg0];split
    ·rfl
    ·split <;> rfl
   have hnobox:∀t cs,VS.get {σ:=AV.und::(args.map .v++List.replicate (fn.ntmps-(args.length+1)) .und),pe:=[]} t≠.box cs:=fun t cs h=>by
    rw[hg0] at h;split at h
    ·cases h
    ·split at h <;> cases h
   rw[hst0];refine⟨by simp[m0];omega,by simp;omega,fun t ht=>(by cases ht),trivial,fun t=>⟨?_,fun q hq=>by cases hq⟩,hz,trivial,⟨fun _ _=>rfl,fun _ _ _ h=>by cases h⟩,fun b hb=>hb,fun d cs h=>absurd h (hnobox d cs),fun d d' cs cs' b _ h=>absurd h (hnobox d cs),
    fun d k r b h=>(by have:=hnone d;rw[h] at this;cases this),fun t d k r h=>(by have:=hnone t;rw[h] at this;cases this),⟨fun t d h=>(by have:=hnone t;rw[h] at this;cases this),fun d k r h=>(by have:=hnone d;rw[h] at this;cases this)⟩,fun _=>undef,
    ⟨fun q id h=>(by cases h),fun id k h=>(by cases h),fun id k b h=>(by cases h),fun id k id' k' b h=>(by cases h),fun q id k d k' r b h=>(by cases h)⟩⟩
   rw[hg0,hm0];cases t with
   | zero=>intro c h;cases h
   | succ t =>
    simp only[List.getElem?_cons_succ];cases ha:args[t]? with
    | none =>
     have:vals[t]?=none:=by
      rw[List.getElem?_eq_none_iff] at ha ⊢;omega
     rw[this];intro b hb;cases hb
    | some x =>
     obtain⟨v,hv,hr⟩:=hreps.get ha;rw[hv];exact hr
  have h00:m0.getD 0 undef=zaU b:=by rw[hm0];rfl
  have hTK0:TK p w Own b q:=hTK.own (fun h=>by have:=hTK.lt;simp only[Own] at h;omega)
  refine calls_of_wp hf hb (zpk (Own:=Own) (bb:=b) hP hL hC hT n c _ e σ' _ O hrun hO p w {tmps:=m0,defers:=[]} ⟨hI,h00,hTK0⟩ rfl _ fun st' a' w' p' hat hIC hev' hd'=>?_)
  obtain⟨hI',_,hTK'⟩:=hIC;have hfin:(∀i,e≠.exit i)→ztL st' fn.results.toList sg.gives=true→a'.defers=[]∧∃v,(results fn a'.tmps).run P w'=.ok v w'∧∃v',Ending.returned v=.returned v'∧∃p',SR p' w' v' r.1∧(∀cs,r.1≠.box cs)∧r.1≠.und∧Evo (·=b) p w p' w'∧Zp p' w'∧TK p' w' (fun _=>False) b r.2 ∧
   (∀e∈sg.gives,∃u,zax w' v' e.1=some u∧Rt p' w' u e.2∧∀c,zar u=some c→w.heap.size≤c) ∧
   (∀(e e':Nat×Nat) (u u':Value) (c:Nat),e∈sg.gives→e'∈sg.gives→e.1≠e'.1→zax w' v' e.1=some u→zax w' v' e'.1=some u'→zar u=some c→zar u'≠some c):=by
   intro hne hro;have hres':∃vs,zeq L σ'.1 fn.results.toList=some vs∧r=((match vs with|[v]=>.v v|vs=>.tup vs),σ'.2):=by
    cases e with
    | exit i=>exact absurd rfl (hne i)
    | norm =>
     simp only[zzOm] at hres;obtain⟨vs,h1,h2⟩:=hres;exact⟨vs,h1,h2.symm⟩
    | ret =>
     simp only[zzOm] at hres;obtain⟨vs,h1,h2⟩:=hres;exact⟨vs,h1,h2.symm⟩
   obtain⟨vs,hvs,rfl⟩:=hres';obtain⟨us,hu1,hu2,hu3⟩:=zkz (P:=P) hL hI' fn.results.toList vs hvs;have hul:=hu2.length
   have hrl:fn.results.toList.length=us.length:=by
    have:∀(rs:List ResultVar) (vs:List SV),zeq L σ'.1 rs=some vs→rs.length=vs.length:=by
     intro rs;induction rs with
     | nil=>intro vs h;cases h;rfl
     | cons r rs ih =>
      intro vs h;simp only[zeq,zzOb,zzOm] at h;obtain⟨_,_,vs',h,rfl⟩:=h;simp[ih vs' h]
    rw[this _ _ hvs,hul]
   have hrunres:(results fn a'.tmps).run P w'=.ok (zfo us) w':=by
    have hr:results fn a'.tmps=(fn.results.mapM (znJ a'.tmps) >>= fun vs=>pure (if h:vs.size=1 then vs[0] else .tuple vs)):=by
     unfold results
     congr 2
    have hmap:(fn.results.mapM (znJ a'.tmps)).run P w'=.ok us.toArray w':=by
     rw[Array.mapM_eq_mapM_toList,map_eq_pure_bind];simp only[Sem.run_bind,hu1,Result.andThen,Sem.run_pure]
    rw[hr];simp only[Sem.run_bind,hmap,Result.andThen,Sem.run_pure]
    congr 1
    match us with
    | []=>rfl
    | [u]=>rfl
    | _::_::_=>simp[zfo]
   -- the cells of the result
   have hcells:∀(n:Nat) (q:Nat×Nat) (c:Value),zki fn.results.toList n=some q→zax w' (a'.tmps.getD q.1 undef) q.2=some c→zax w' (zfo us) n=some c:=by
    intro n q c hq hc;unfold zki at hq;split at hq
    ·rename_i r hr
     cases hq;have h1:us.length=1:=by rw[←hrl,hr];rfl
     match us,h1,hu3 with
     | [u],_,hu3=>exact hu3 0 r u n c (by rw[hr];rfl) rfl hc
    ·rename_i hnone
     simp only[zzOm] at hq;obtain⟨r,hr,rfl⟩:=hq;have h1:¬us.length=1:=by
      intro h1;rw[←hrl] at h1
      match hl:fn.results.toList,h1 with
      | [r],_=>exact hnone r hl
     have hrv:zfo us=.tuple us.toArray:=by
      match us,h1 with
      | [],_=>rfl
      | [u],h1=>exact absurd rfl h1
      | _::_::_,_=>rfl
     rw[hrv];have hlt:n / 64<us.length:=by rw[←hrl];exact(List.getElem?_eq_some_iff.1 hr).1
     have hu:=hu3 (n / 64) r us[n / 64] (n % 64) c hr (List.getElem?_eq_getElem hlt) hc
     obtain⟨x,hx⟩:∃x,vs[n / 64]?=some x:=⟨vs[n / 64]'(by omega),List.getElem?_eq_getElem _⟩
     obtain⟨u',hu',hru⟩:=hu2.get hx;rw[List.getElem?_eq_getElem hlt] at hu';cases hu';rw[zbm hru] at hu;show(us.toArray[n / 64]?).bind (fun u=>u.cells[n % 64]?)=some c
     rw[List.getElem?_toArray,List.getElem?_eq_getElem hlt];exact hu
   obtain⟨val,hR⟩:=hI'.rooms;unfold ztL at hro;simp only[Bool.and_eq_true,List.all_eq_true] at hro;have hid:∀e∈sg.gives,∃id q,(q,id)∈st'.pid∧zuA st' fn.results.toList e.1=some id∧(id,e.2)∈st'.alive∧zax w' (zfo us) e.1=some (val id):=by
    intro e he;have:=hro.1 e he
    split at this
    ·rename_i id hid
     have hid':=hid
     unfold zuA at hid';simp only[zzOb] at hid';obtain⟨q,hq,hl⟩:=hid';exact⟨id,q,zau hl,hid,za2 (by simpa using this),hcells _ q _ hq (hR.place _ _ (zau hl)).1⟩
    ·cases this
   have hrt':∀q id k,(q,id)∈st'.pid→(id,k)∈st'.alive→Rt (zdy p' a'.tmps {σ:=σ'.1,pe:=[]}) w' (val id) k:=fun q id k hq hal=>by
    rcases hR.alive id k hal with e|⟨b,off,len,cap,arr,T,e,h1,h2,h3,h4⟩
    ·exact .inl e
    ·refine .inr ⟨b,off,len,cap,arr,T,e,h1,h2,h3,?_⟩
     by_cases h:∃n,zdg a'.tmps {σ:=σ'.1,pe:=[]} b n
     ·obtain⟨n,d,k',rows,hd,hdb,_⟩:=h
      obtain⟨r1,r2,r3⟩:=hR.row q id k d k' rows b hq hal hd hdb (by rw[e];rfl)
      have hv:a'.tmps.getD d undef=val id:=by
       have h5:=(hR.place q id hq).1
       have h6:a'.tmps.getD q.1 undef=a'.tmps.getD d undef:=by
        rcases r2 with r2|r2
        ·rw[r2]
        ·exact hI'.al q.1 d k' rows r2 hd
       have hsr:=(hI'.slots d).1
       rw[hd] at hsr;obtain⟨ad,cp,hsl⟩:=zkS hsr;rw[h6,r1,hsl] at h5;rw[hsl]
       simpa [zax,Value.cells] using h5
      rw[zqr hI' hd hdb,hv,e,←r3];exact⟨Nat.le_refl _,h4.2⟩
     ·rw[zdJ h];exact h4
   have hnt:¬∃n,zdg a'.tmps {σ:=σ'.1,pe:=[]} b n:=fun⟨n,hn⟩=>hTK'.not (zfY hI' hn).2.1
   refine⟨hd',_,hrunres,_,rfl,zdy p' a'.tmps {σ:=σ'.1,pe:=[]},?_,?_,?_,(EvoC.trans hev' ((zbV hI').weaken (C:=fun c=>Own c∨c=b) (fun c hc ⟨n,hn⟩=>.inl (zfY hI' hn).2.1))).weaken (fun c hc h=>h.resolve_left (fun h=>by simp only[Own] at h;omega)),zje hI',(hTK'.evo ((zbV hI').weaken (fun c hc ⟨n,hn⟩=>(zfY hI' hn).2.1))).own (fun h=>h),fun e he=>?_,fun e e' u u' c he he' hne' hu hu' hbu=>?_⟩
   ·clear hrunres hcells hid hu3 hu1 hrl hvs
    match us,vs,hul,hu2 with
    | [],[],_,_=>exact⟨_,rfl,trivial⟩
    | [u],[v],_,hu2=>exact hu2.1
    | u::u'::us,v::v'::vs,_,hu2=>exact⟨_,rfl,by simpa using hu2⟩
   ·intro cs h
    simp only at h;split at h <;> cases h
   ·intro h
    simp only at h;split at h <;> cases h
   ·obtain⟨id,q,hq,_,hm,hc⟩:=hid e he
    exact⟨val id,hc,hrt' q id _ hq hm,fun b hb=>(hR.own _ _ b hm hb).1⟩
   ·obtain⟨id,q,_,hi,hm,hc⟩:=hid e he
    obtain⟨id',q',_,hi',hm',hc'⟩:=hid e' he';rw[hc] at hu;cases hu;rw[hc'] at hu';cases hu';refine hR.apart id _ id' _ c hm hm' (fun hid=>?_) hbu
    have:=hro.2 e he e' he'
    rw[hi,hi',hid] at this;simp at this
    exact hne' this
  cases e with
  | exit i=>cases hres
  | norm =>
   have hat:O.norm=some st':=hat
   exact hfin (fun i h=>by cases h) (by have:=hok.1;rw[hat] at this;exact this)
  | ret =>
   have hat:O.ret=some st':=hat
   exact hfin (fun i h=>by cases h) (by have:=hok.2;rw[hat] at this;exact this)
theorem zvu {n:Nat}{fn:Func}{q:List AC}{args:List SV}{r:AV×List AC} (h:zle L T call ct n fn q args=some r):zix r.1=true∧fn.body.isSome=true:=by
 unfold zle at h;split at h
 ·cases h
 ·rename_i c hc
  split at h
  case isFalse=>cases h
  simp only[zzOb] at h;obtain⟨⟨e,s⟩,_,h⟩:=h;split at h
  ·cases h
  ·simp only[zzOm] at h
   obtain⟨vs,_,rfl⟩:=h;exact⟨by simp only;split <;> rfl,by rw[hc];rfl⟩
structure zwe (P:Program) (L:Lay) (S:Sig) (T:Nat→Bool) (E:zmy):Prop where
 takes:∀f,T f=true→(S.sg f).takes=[]
 ext:∀f e,T f=true→E f=some e→∀ct,zcR P S T ct→zpY P S f (e.run ct)
 fn:∀f,T f=true→E f=none→∃fn,P.funcs[f]?=some fn∧zay (zbu T) L S fn (S.sg f)=true
theorem zoX {E:zmy} (hP:P.follows .mixedOrders=true) (hL:LayOk P L) (hC:za4 P S call) (hA:zwe P L S T E):∀n,zcR P S T (zeb P L T call E n)
 | 0=>fun f hf=>⟨hA.takes f hf,fun q args r h=>by cases h⟩
 | n+1=>by
  have ih:=zoX hP hL hC hA n
  intro f hf;refine⟨hA.takes f hf,?_⟩
  cases he:E f with
  | some e =>
   have:zeb P L T call E (n+1) f=e.run (zeb P L T call E n):=by
    funext q args
    simp only[zeb,hf,if_true,he]
   rw[this];exact hA.ext f e hf he _ ih
  | none =>
   intro q args r h;simp only[zeb,hf,if_true,he] at h;obtain⟨fn,hfn,hok⟩:=hA.fn f hf he;rw[hfn] at h;simp only at h;obtain⟨h1,h2⟩:=zvu h;refine⟨⟨h1,fn,hfn,h2,?_⟩,fun p w b vals hreps hz hTK=>zw9 hP hL hC ih hfn hok (hA.takes f hf) h hreps hz hTK⟩
   unfold zay at hok;simp only[Bool.and_eq_true,Bool.not_eq_true'] at hok;exact hok.1.1.1
theorem zC3 {E:zmy} (hP:P.follows .mixedOrders=true) (hL:LayOk P L) (hC:za4 P S call) (hA:zwe P L S T E):zcR P S T (TV P L T call E):=fun f hf=>⟨hA.takes f hf,fun q args r h=>by
 obtain⟨n,hn⟩:=TV_iff.1 h;exact(zoX hP hL hC hA n f hf).2 q args r hn⟩
end
end
section
open Go
structure CtxT where
 X:Ctx
 T:Nat→Bool
 E:zmy
noncomputable def CtxT.tv (Y:CtxT):TOrc:=TV Y.X.P Y.X.L Y.T (V Y.X.P Y.X.L Y.X.F Y.X.E) Y.E
noncomputable def CtxT.vc [Home] (Y:CtxT) (c:Code) (s:List AV×List AC):Option (Xt×(List AV×List AC)):=TVC Y.X.P Y.X.L Y.T (V Y.X.P Y.X.L Y.X.F Y.X.E) Y.E c s
def zdo {ρ:Type} (x:Option (AV×List AC)) (tup:Bool) (fs:List Form) (K:List AC→Fn (Option ρ) (zaW fs)):Option ρ :=
 match x with
 | some r=>zaz (some r.1) tup fs (K r.2)
 | none=>none
theorem zvv {ρ:Type}{x:Option (AV×List AC)}{tup:Bool}{fs:List Form}{k:List AC→AV→Option ρ}{r:ρ} (h:zdo x tup fs (fun q=>zot (zaW fs) fun cs=>k q (zrG tup (zfu fs cs)))=some r):∃v q,x=some (v,q)∧k q v=some r:=by
 unfold zdo at h;split at h
 ·rename_i y
  obtain⟨v,hv,hk⟩:=zqD (k:=k y.2) h;cases hv;exact⟨_,_,rfl,hk⟩
 ·cases h
section
variable (Y:CtxT)
noncomputable def opB {ρ:Type} (d:Bool) (o:Oper) (st:VK) (k:VK→Option ρ):Option ρ:=bif d then zk9 Y.X o st k else opK Y.X o st k
noncomputable def zvj {ρ:Type} (d:Bool) (o:Oper) (st:VK) (tk:List Nat) (q:List AC) (k:VK→List Nat→List AC→Option ρ):Option ρ :=
 bif zgu Y.T o then match o.op with
  | .call {callee:=.value (.func f),args,argTypes}=>match args.toList,argTypes.toList with
   | x::xs,_::ts=>bif zwy tk x then(znL Y.X.L st xs ts).bind fun vs =>
     zdo (Y.tv f q vs) (zrA Y.X o) (zhe Y.X o) (fun q'=>zot (zaW (zhe Y.X o)) fun cs=>k (st.put o.dst (zrG (zrA Y.X o) (zfu (zhe Y.X o) cs))) (zgT o.dst tk) q') else none
   | _,_=>none
  | _=>none
 else bif zld Y.X.L tk o then match o.dst with
  | some d=>k (st.put (some d) .und) (d::tk) q
  | none=>none
 else opB Y d o st fun st'=>k st' (zgT o.dst tk) q
noncomputable def zjW {ρ:Type} (dr:Bool) (all:List Oper):List Oper→VK→List Nat→List AC→(VK→List Nat→List AC→Option ρ)→Option ρ
 | [],st,tk,q,k=>k st tk q
 | o::rest,st,tk,q,k =>
  bif dOk Y.X o then match o.guard with
  | none=>zvj Y dr o st tk q fun st' tk' q'=>zjW dr all rest st' tk' q' k
  | some g=>match all[g.1]? with
   | some og=>match og.dst with
    | some d=>match st.o.at d with
     | some (.v (.cell (.bool b))) =>
      bif b then(bif true==g.2 then zvj Y dr o {st with o:=(d,.v (.cell (.bool true)))::st.o} tk q fun st' tk' q'=>zjW dr all rest st' tk' q' k else zjW dr all rest (VK.put {st with o:=(d,.v (.cell (.bool true)))::st.o} o.dst .und) (zgT o.dst tk) q k)
      else(bif false==g.2 then zvj Y dr o {st with o:=(d,.v (.cell (.bool false)))::st.o} tk q fun st' tk' q'=>zjW dr all rest st' tk' q' k else zjW dr all rest (VK.put {st with o:=(d,.v (.cell (.bool false)))::st.o} o.dst .und) (zgT o.dst tk) q k)
     | some .und=>zjW dr all rest (st.put o.dst .und) (zgT o.dst tk) q k
     | _=>none
    | none=>none
   | none=>none
  else none
noncomputable def zdP [Home]:List Fr→Xt×(List AV×List AC)→Option (AV×List AC)
 | [],r=>zo7 Y.X.L Y.X.fn r
 | .seq c::ks,(.norm,s)=>(Y.vc c s).bind (zdP ks)
 | .seq _::ks,(e,s)=>zdP ks (e,s)
 | .blk id::ks,r=>zdP ks (znp id r)
 | .loop b::ks,(.norm,s)=>(Y.vc (.loop b) s).bind (zdP ks)
 | .loop _::ks,(e,s)=>zdP ks (e,s)
noncomputable def GT [Home] (c:Code) (ks:List Fr) (o:Ov) (q:List AC):Option (AV×List AC) :=
 open Classical in if h:∃r,(∃s:List AV,s.length=Y.X.fn.ntmps∧AgO o s)∧∀s:List AV,s.length=Y.X.fn.ntmps→AgO o s→(Y.vc c (s,q)).bind (zdP Y ks)=some r then some h.choose else none
def zwH (o:Ov) (q:List AC):Option (AV×List AC):=(ztz Y.X o Y.X.fn.results.toList).map fun vs=>(match vs with
 | [v]=>.v v
 | vs=>.tup vs,q)
noncomputable def evT [Home]:Nat→Mode→List Fr→Ov→List AC→Option (AV×List AC)
 | 0,_,_,_,_=>none
 | n+1,.run c,ks,o,q =>
  match c with
  | .skip=>evT n (.ret .norm) ks o q
  | .region _ ops d=>bif d then zjW Y true ops.toList ops.toList ⟨zrb o,[]⟩ [Home.hm] q fun st tk q=>bif zzL tk then evT n (.ret .norm) ks st.o q else none
   else zjW Y false ops.toList ops.toList ⟨o,[]⟩ [Home.hm] q fun st tk q=>bif zzL tk then evT n (.ret .norm) ks st.o q else none
  | .seq a b=>evT n (.run a) (.seq b::ks) o q
  | .cond x a b=>(znM Y.X.L ⟨o,[]⟩ x).bind fun t=>bif t then evT n (.run a) ks o q else evT n (.run b) ks o q
  | .block id b=>evT n (.run b) (.blk id::ks) o q
  | .loop b=>(zvf ks).bind fun id=>(zt1 Y.X.lv id).bind fun l=>(zmF o l).bind fun o'=>GT Y (.loop b) ks o' q
  | .exit id=>evT n (.ret (.exit id)) ks o q
  | .ret=>evT n (.ret .ret) ks o q
  | _=>none
 | n+1,.ret e,ks,o,q =>
  match ks with
  | []=>match e with
   | .exit _=>none
   | _=>zwH Y o q
  | .seq c::ks=>match e with
   | .norm=>match (keyOf c).bind (zt1 Y.X.jv) with
    | none=>evT n (.run c) ks o q
    | some l=>(zmF o l).bind fun o'=>GT Y c ks o' q
   | e=>evT n (.ret e) ks o q
  | .blk id::ks=>match e with
   | .exit i=>bif Nat.beq i id then evT n (.ret .norm) ks o q else evT n (.ret (.exit i)) ks o q
   | e=>evT n (.ret e) ks o q
  | .loop b::ks=>match e with
   | .norm=>(zvf ks).bind fun id=>(zt1 Y.X.lv id).bind fun l=>(zmF o l).bind fun o'=>GT Y (.loop b) ks o' q
   | e=>evT n (.ret e) ks o q
noncomputable def GTL [Home] (id:Nat) (o:Ov) (q:List AC):Option (AV×List AC):=(Y.X.fn.body.bind fun c=>ziq id c []).bind fun r=>GT Y r.1 r.2 o q
noncomputable def GTJ [Home] (id:Nat) (o:Ov) (q:List AC):Option (AV×List AC):=(Y.X.fn.body.bind fun c=>zir id c []).bind fun r=>GT Y r.1 r.2 o q
end
section
variable {Y:CtxT}
noncomputable def CtxT.bop (Y:CtxT) (d:Bool):Oper→VS→Option VS:=bif d then zaK Y.X.L (V Y.X.P Y.X.L Y.X.F Y.X.E) else vop Y.X.L (V Y.X.P Y.X.L Y.X.F Y.X.E)
theorem zB9 {ρ:Type}{d:Bool}{o:Oper}{st:VK}{k:VK→Option ρ}{r:ρ}{s:VS} (h:opB Y d o st k=some r) (hA:AgV st s) (hn:s.σ.length=Y.X.fn.ntmps) (hd:dOk Y.X o=true) :
  ∃s' st',Y.bop d o s=some s'∧AgV st' s'∧s'.σ.length=s.σ.length∧k st'=some r:=by
 cases d
 ·exact zxQ (X:=Y.X) h hA hn hd
 ·exact zst (X:=Y.X) h hA hn hd
theorem zzO {ρ:Type}{d:Bool}{o:Oper}{st:VK}{tk:List Nat}{q:List AC}{k:VK→List Nat→List AC→Option ρ}{r:ρ}{s:VS} (h:zvj Y d o st tk q k=some r) (hA:AgV st s) (hn:s.σ.length=Y.X.fn.ntmps) (hd:dOk Y.X o=true) :
  ∃s' st' tk' q',zfc (Y.bop d) Y.X.L Y.T Y.tv o ⟨s,tk,q⟩=some ⟨s',tk',q'⟩∧AgV st' s'∧s'.σ.length=s.σ.length∧k st' tk' q'=some r:=by
 have hd':∀e,o.dst=some e→e<s.σ.length:=fun e he=>by
  unfold dOk at hd;rw[he] at hd;simp only[Nat.blt_eq] at hd;rw[hn];exact hd
 unfold zvj at h;unfold zfc;cases hc:zgu Y.T o with
 | true =>
  rw[hc] at h;simp only[cond_true] at h;simp only[if_true];split at h
  ·rename_i f args ats hop
   split at h
   ·rename_i x xs t0 ts h1 h2
    simp only[zaB,zzOb] at h;obtain⟨htk,vs,hvs,h⟩:=h;obtain⟨v,q',hv,hk⟩:=zvv (k:=fun q' v=>k (st.put o.dst v) (zgT o.dst tk) q') h
    refine⟨s.put o.dst v,st.put o.dst v,zgT o.dst tk,q',?_,zlN hA hd',zgb _ _ _,hk⟩
    simp only[zlf,hop,h1,h2,htk,if_true,zmu hA hvs,Option.bind_some,hv,Option.map_some]
   ·cases h
  ·cases h
 | false =>
  rw[hc] at h;simp only[cond_false] at h;simp only[Bool.false_eq_true,if_false];cases ht:zld Y.X.L tk o with
  | true =>
   rw[ht] at h;simp only[cond_true] at h;simp only[if_true];split at h
   ·rename_i d hdd
    refine⟨s.put (some d) .und,_,_,_,by rw[hdd],zlN hA (fun e he=>hd' e (by rw[hdd];exact he)),zgb _ _ _,h⟩
   ·cases h
  | false =>
   rw[ht] at h;simp only[cond_false] at h;obtain⟨s',st',h1,h2,h3,h4⟩:=zB9 h hA hn hd;refine⟨s',st',zgT o.dst tk,q,?_,h2,h3,h4⟩
   simp only[Bool.false_eq_true,if_false,h1,Option.map_some]
theorem zl6 {ρ:Type}{dr:Bool}{all:List Oper}{k:VK→List Nat→List AC→Option ρ}{r:ρ}:∀{ops:List Oper}{st:VK}{tk:List Nat}{q:List AC}{s:VS},zjW Y dr all ops st tk q k=some r→AgV st s→s.σ.length=Y.X.fn.ntmps →
  ∃s' st' tk' q',zdb (Y.bop dr) Y.X.L Y.T Y.tv all ops ⟨s,tk,q⟩=some ⟨s',tk',q'⟩∧AgV st' s'∧s'.σ.length=s.σ.length∧k st' tk' q'=some r
 | [],st,tk,q,s,h,hA,_=>⟨s,st,tk,q,rfl,hA,rfl,h⟩
 | o::rest,st,tk,q,s,h,hA,hn=>by
  unfold zjW at h;unfold zdb zc3;rw[zaB] at h;obtain⟨hd,h⟩:=h;have hd':∀e,o.dst=some e→e<s.σ.length:=fun e he=>by
   unfold dOk at hd;rw[he] at hd;simp only[Nat.blt_eq] at hd;rw[hn];exact hd
  have skip:∀{st:VK},zjW Y dr all rest (st.put o.dst .und) (zgT o.dst tk) q k=some r→AgV st s→∃s' st' tk' q',zdb (Y.bop dr) Y.X.L Y.T Y.tv all rest ⟨s.put o.dst .und,zgT o.dst tk,q⟩=some ⟨s',tk',q'⟩∧AgV st' s'∧s'.σ.length=s.σ.length∧k st' tk' q'=some r:=by
   intro st h hA;obtain⟨s',st',tk',q',h1,h2,h3,h4⟩:=zl6 h (zlN hA hd') (by rw[zgb];exact hn)
   exact⟨s',st',tk',q',h1,h2,by rw[h3,zgb],h4⟩
  have take:∀{st:VK},zvj Y dr o st tk q (fun st' tk' q'=>zjW Y dr all rest st' tk' q' k)=some r→AgV st s→∃s' st' tk' q',(zfc (Y.bop dr) Y.X.L Y.T Y.tv o ⟨s,tk,q⟩).bind (zdb (Y.bop dr) Y.X.L Y.T Y.tv all rest)=some ⟨s',tk',q'⟩∧AgV st' s'∧s'.σ.length=s.σ.length∧k st' tk' q'=some r:=by
   intro st h hA;obtain⟨s1,st1,tk1,q1,h1,h2,h3,h4⟩:=zzO h hA hn hd;obtain⟨s',st',tk',q',h5,h6,h7,h8⟩:=zl6 h4 h2 (by rw[h3];exact hn)
   exact⟨s',st',tk',q',by rw[h1];exact h5,h6,by rw[h7,h3],h8⟩
  split at h
  ·rename_i hg
   rw[hg];exact take h hA
  ·rename_i g hg
   rw[hg];simp only;split at h
   ·rename_i og hog
    split at h
    ·rename_i d hdd
     split at h
     ·rename_i b hb
      have hgv:zck all s g=some (b==g.2):=by simp only[zck,hog,hdd,zc2 hA hb]
      rw[hgv,Option.bind_some];have hA':∀b',b'=b→AgV {st with o:=(d,.v (.cell (.bool b')))::st.o} s:=fun b' hb'=>⟨fun i x hx=>by
       rw[zcT] at hx;split at hx
       ·rename_i e
        subst e;cases hx;rw[hb'];exact hA.1 _ _ hb
       ·exact hA.1 _ _ hx,hA.2⟩
      cases b
      ·simp only[cond_false] at h
       rcases hq:(false==g.2) with _|_
       ·rw[hq] at h
        simp only[cond_false] at h;simp only[Bool.false_eq_true,if_false,Option.bind_some];exact skip h (hA' _ rfl)
       ·rw[hq] at h
        simp only[cond_true] at h;simp only[if_true];exact take h (hA' _ rfl)
      ·simp only[cond_true] at h
       rcases hq:(true==g.2) with _|_
       ·rw[hq] at h
        simp only[cond_false] at h;simp only[Bool.false_eq_true,if_false,Option.bind_some];exact skip h (hA' _ rfl)
       ·rw[hq] at h
        simp only[cond_true] at h;simp only[if_true];exact take h (hA' _ rfl)
     ·rename_i hb
      have hgv:zck all s g=some false:=by simp only[zck,hog,hdd,zc2 hA hb]
      rw[hgv,Option.bind_some];simp only[Bool.false_eq_true,if_false,Option.bind_some];exact skip h hA
     ·cases h
    ·cases h
   ·cases h
theorem zuN [Home] {c:Code}{ks:List Fr}{o:Ov}{q:List AC}{r:AV×List AC} (h:GT Y c ks o q=some r) {s:List AV} (hs:s.length=Y.X.fn.ntmps) (hA:AgO o s):(Y.vc c (s,q)).bind (zdP Y ks)=some r:=by
 unfold GT at h;split at h
 ·rename_i hh
  cases h;exact hh.choose_spec.2 s hs hA
 ·cases h
theorem zAL [Home] {c:Code}{ks:List Fr}{o:Ov}{q:List AC}{r:AV×List AC} (hw:∃s:List AV,s.length=Y.X.fn.ntmps∧AgO o s) (h:∀s:List AV,s.length=Y.X.fn.ntmps→AgO o s→(Y.vc c (s,q)).bind (zdP Y ks)=some r):GT Y c ks o q=some r:=by
 unfold GT;have hh:∃r,(∃s:List AV,s.length=Y.X.fn.ntmps∧AgO o s)∧∀s:List AV,s.length=Y.X.fn.ntmps→AgO o s→(Y.vc c (s,q)).bind (zdP Y ks)=some r:=⟨r,hw,h⟩
 rw[dif_pos hh];obtain⟨s,hs,hA⟩:=hw;rw[←hh.choose_spec.2 s hs hA,h s hs hA]
theorem zyg [Home] (s:List AV×List AC):Y.vc .skip s=some (.norm,s):=zx5 s
theorem zAr [Home] (id:Nat) (s:List AV×List AC):Y.vc (.exit id) s=some (.exit id,s):=zxX id s
theorem zBj [Home] (s:List AV×List AC):Y.vc .ret s=some (.ret,s):=zzp s
theorem zvH [Home] (id:Nat) (ops:Array Oper) (d:Bool) (s:List AV×List AC):Y.vc (.region id ops d) s=(zkl Y.X.L Y.T (V Y.X.P Y.X.L Y.X.F Y.X.E) Y.tv ops.toList d s).map fun s=>(.norm,s):=zuK id ops d s
theorem zCb [Home] (a b:Code) (s:List AV×List AC):Y.vc (.seq a b) s=(Y.vc a s).bind (zhD Y.X.P Y.X.L Y.T (V Y.X.P Y.X.L Y.X.F Y.X.E) Y.E b):=zz8 a b s
theorem zzj [Home] (b:Code) (s:List AV×List AC):Y.vc (.loop b) s=(Y.vc b s).bind (zhD Y.X.P Y.X.L Y.T (V Y.X.P Y.X.L Y.X.F Y.X.E) Y.E (.loop b)):=zwN b s
theorem zyq [Home] (x:Operand) (a b:Code) (s:List AV×List AC):Y.vc (.cond x a b) s=(zfk Y.X.L {σ:=s.1,pe:=[]} x).bind fun t=>if t then Y.vc a s else Y.vc b s:=zxn x a b s
theorem zxA [Home] (id:Nat) (b:Code) (s:List AV×List AC):Y.vc (.block id b) s=(Y.vc b s).map (znp id):=zvR id b s
theorem zcF [Home]:∀(n:Nat) (m:Mode) (ks:List Fr) (o:Ov) (q:List AC) (r:AV×List AC),evT Y n m ks o q=some r→∀s:List AV,s.length=Y.X.fn.ntmps→AgO o s →
  (match m with|.run c=>(Y.vc c (s,q)).bind (zdP Y ks)|.ret e=>zdP Y ks (e,(s,q)))=some r
 | 0,_,_,_,_,_,h,_,_,_=>by cases h
 | n+1,.run c,ks,o,q,r,h,s,hs,hA=>by
  cases c <;> simp only[evT] at h <;> simp only
  case skip =>
   rw[zyg,Option.bind_some];exact zcF n _ _ _ _ _ h s hs hA
  case region id ops d =>
   rw[zvH];unfold zkl;cases d
   ·simp only[cond_false] at h
    obtain⟨s',st',tk',q',h1,h2,h3,h4⟩:=zl6 (s:={σ:=s,pe:=[]}) h ⟨hA,rfl⟩ hs;rw[zaB] at h4;have h1:zdb (vop Y.X.L (V Y.X.P Y.X.L Y.X.F Y.X.E)) Y.X.L Y.T Y.tv ops.toList ops.toList ⟨{σ:=s,pe:=[]},[Home.hm],q⟩=some ⟨s',tk',q'⟩:=h1
    simp only[Bool.false_eq_true,if_false];rw[h1];simp only[Option.bind_some,h4.1,if_true,Option.map_some];exact zcF n _ _ _ _ _ h4.2 s'.σ (by rw[h3];exact hs) h2.1
   ·simp only[cond_true] at h
    have hlm:(zit s).length=Y.X.fn.ntmps:=by simp[zit,hs]
    obtain⟨s',st',tk',q',h1,h2,h3,h4⟩:=zl6 (s:={σ:=zit s,pe:=[]}) h ⟨zu6 hA,rfl⟩ hlm;rw[zaB] at h4;have h1:zdb (zaK Y.X.L (V Y.X.P Y.X.L Y.X.F Y.X.E)) Y.X.L Y.T Y.tv ops.toList ops.toList ⟨{σ:=zit s,pe:=[]},[Home.hm],q⟩=some ⟨s',tk',q'⟩:=h1
    simp only[if_true];rw[h1];simp only[Option.bind_some,h4.1,if_true,Option.map_some];exact zcF n _ _ _ _ _ h4.2 s'.σ (by rw[h3];exact hlm) h2.1
  case seq a b =>
   rw[zCb];have:=zcF n _ _ _ _ _ h s hs hA
   simp only at this;rw[←this,Option.bind_assoc]
   congr 1
   funext x
   obtain⟨e,s'⟩:=x;cases e <;> simp[zhD,zdP,CtxT.vc]
  case cond x a b =>
   simp only[zzOb] at h;obtain⟨t,ht,h⟩:=h;rw[zyq,zhZ (s:={σ:=s,pe:=[]}) ⟨hA,rfl⟩ ht,Option.bind_some];cases t
   ·simp only[cond_false] at h
    simp only[Bool.false_eq_true,if_false];exact zcF n _ _ _ _ _ h s hs hA
   ·simp only[cond_true] at h
    simp only[if_true];exact zcF n _ _ _ _ _ h s hs hA
  case block id b =>
   rw[zxA];have:=zcF n _ _ _ _ _ h s hs hA
   simp only at this;rw[←this];rcases Y.vc b (s,q) with _|x
   ·rfl
   ·simp[zdP]
  case loop b =>
   simp only[zzOb] at h;obtain⟨id,_,l,_,o',ho',h⟩:=h;exact zuN h hs (zib hA ho')
  case exit id =>
   rw[zAr,Option.bind_some];exact zcF n _ _ _ _ _ h s hs hA
  case ret =>
   rw[zBj,Option.bind_some];exact zcF n _ _ _ _ _ h s hs hA
  all_goals cases h
 | n+1,.ret e,ks,o,q,r,h,s,hs,hA=>by
  simp only;rcases ks with _|⟨f,ks⟩
  ·simp only[evT] at h
   simp only[zdP];have key:zwH Y o q=some r→e≠.norm∧(∀i,e≠.exit i)∨e=.norm→zo7 Y.X.L Y.X.fn (e,(s,q))=some r:=by
    intro h _;simp only[zwH,zzOm] at h;obtain⟨vs,h1,h2⟩:=h;cases e with
    | norm=>simp only[zo7,zkw hA h1,Option.map_some];exact congrArg some h2
    | exit i=>simp_all
    | ret=>simp only[zo7,zkw hA h1,Option.map_some];exact congrArg some h2
   cases e with
   | norm=>exact key h (.inr rfl)
   | exit i=>cases h
   | ret=>exact key h (.inl ⟨(by simp),fun i=>by simp⟩)
  ·cases f with
   | seq c =>
    cases e with
    | norm =>
     simp only[evT] at h;simp only[zdP];split at h
     ·exact zcF n _ _ _ _ _ h s hs hA
     ·simp only[zzOb] at h
      obtain⟨o',ho',h⟩:=h;exact zuN h hs (zib hA ho')
    | exit i=>simp only[evT] at h;simp only[zdP];exact zcF n _ _ _ _ _ h s hs hA
    | ret=>simp only[evT] at h;simp only[zdP];exact zcF n _ _ _ _ _ h s hs hA
   | blk id =>
    cases e with
    | norm=>simp only[evT] at h;simp only[zdP,znp];exact zcF n _ _ _ _ _ h s hs hA
    | exit i =>
     simp only[evT] at h;simp only[zdP,znp];rcases hq:Nat.beq i id with _|_
     ·rw[hq] at h
      simp only[cond_false] at h;have:i≠id:=fun e=>by rw[e] at hq;simp at hq
      rw[if_neg this];exact zcF n _ _ _ _ _ h s hs hA
     ·rw[hq] at h
      simp only[cond_true] at h;rw[if_pos (Nat.eq_of_beq_eq_true hq)];exact zcF n _ _ _ _ _ h s hs hA
    | ret=>simp only[evT] at h;simp only[zdP,znp];exact zcF n _ _ _ _ _ h s hs hA
   | loop b =>
    cases e with
    | norm =>
     simp only[evT,zzOb] at h;obtain⟨id,_,l,_,o',ho',h⟩:=h;simp only[zdP];exact zuN h hs (zib hA ho')
    | exit i=>simp only[evT] at h;simp only[zdP];exact zcF n _ _ _ _ _ h s hs hA
    | ret=>simp only[evT] at h;simp only[zdP];exact zcF n _ _ _ _ _ h s hs hA
theorem zBz [Home] {id:Nat}{o:Ov}{q:List AC}{r:AV×List AC}{n:Nat} (hok:zqe Y.X.fn.ntmps o=true) {b:Code}{ks:List Fr} (hl:(Y.X.fn.body.bind fun c=>ziq id c [])=some (.loop b,ks)) (h:evT Y n (.run b) (.loop b::ks) o q=some r):GTL Y id o q=some r:=by
 unfold GTL;rw[hl,Option.bind_some];refine zAL (zpS hok) fun s hs hA=>?_
 have:=zcF n _ _ _ _ _ h s hs hA
 simp only at this;rw[zzj,←this,Option.bind_assoc]
 congr 1
 funext x
 obtain⟨e,s'⟩:=x;cases e <;> simp[zhD,zdP,CtxT.vc]
theorem zBk [Home] {id:Nat}{o:Ov}{q:List AC}{r:AV×List AC}{n:Nat} (hok:zqe Y.X.fn.ntmps o=true) {c:Code}{ks:List Fr} (hl:(Y.X.fn.body.bind fun b=>zir id b [])=some (c,ks)) (h:evT Y n (.run c) ks o q=some r):GTJ Y id o q=some r:=by
 unfold GTJ;rw[hl,Option.bind_some];refine zAL (zpS hok) fun s hs hA=>?_
 exact zcF n _ _ _ _ _ h s hs hA
theorem zCv {f:FuncId}{c:Code}{q:List AC}{x:List SV}{r:AV×List AC}{n:Nat} (hT:Y.T f=true) (hE:Y.E f=none) (hf:Y.X.P.funcs[f]?=some Y.X.fn) (hb:Y.X.fn.body=some c) (hx:x.length+1≤Y.X.fn.ntmps) (h:evT Y n (.run c) [] ((0,.und)::zrS 1 x) q=some r):Y.tv f q x=some r:=by
 unfold CtxT.tv;rw[zCF hT hE hf hb q x hx];have hag:AgO ((0,.und)::zrS 1 x) (AV.und::(x.map .v++List.replicate (Y.X.fn.ntmps-(x.length+1)) .und)):=by
  intro i y hy;rw[zcT] at hy;split at hy
  ·rename_i e
   subst e;cases hy;rfl
  ·have:=zrT [AV.und] (List.replicate (Y.X.fn.ntmps-(x.length+1)) .und) x
   exact this i y hy
 have:=zcF n _ _ _ _ _ h (.und::(x.map .v++List.replicate (Y.X.fn.ntmps-(x.length+1)) .und)) (by simp;omega) hag
 simp only at this;rw[←this]
 congr 1
end
end
end Go.Proofs.Ytcpcagdialnbeaa
