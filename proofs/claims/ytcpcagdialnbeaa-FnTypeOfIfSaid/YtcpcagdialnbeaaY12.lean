/- Generic texts and models for the proofs of this seat: part 12. -/
import Derived.Test.YtcpcagdialnbeaaY11
set_option linter.unusedVariables false
set_option linter.unusedSimpArgs false
namespace Go.Proofs.Ytcpcagdialnbeaa
section
open Go Go.RowKit
def znJ (m:Array Value):ResultVar→Sem Value
 | .tmp t=>pure (m.getD t undef)
 | .cell a t=>do loadVar t (←asAddr (m.getD a undef))
def zfo (us:List Value):Value :=
 match us with
 | [u]=>u
 | us=>.tuple us.toArray
def zqi:ResultVar→Nat
 | .tmp t=>t
 | .cell t _=>t
def zki (rs:List ResultVar) (n:Nat):Option (Nat×Nat) :=
 match rs with
 | [r]=>some (zqi r,n)
 | rs=>(rs[n / 64]?).map fun r=>(zqi r,n % 64)
def zuA (st:Stt) (rs:List ResultVar) (n:Nat):Option Nat:=(zki rs n).bind fun q=>st.pid.lookup q
def ztL (st:Stt) (rs:List ResultVar) (gives:List (Nat×Nat)):Bool :=
 gives.all (fun e=>match zuA st rs e.1 with|some id=>st.alive.lookup id==some e.2|none=>false) &&
 gives.all fun e=>gives.all fun e'=>e.1==e'.1||!(zuA st rs e.1==zuA st rs e'.1)
def st0 (sg:Sg) (n:Nat):Stt :=
 {pid:=(List.range sg.takes.length).filterMap fun i=>((sg.takes[i]?).bind id).map fun _=>((i,0),i),
  alive:=(List.range sg.takes.length).filterMap fun i=>((sg.takes[i]?).bind id).map fun k=>(i,k),spe:=[],len:=n}
def zAO (o:Option Stt) (rs:List ResultVar) (gives:List (Nat×Nat)):Bool:=match o with|some st=>ztL st rs gives|none=>true
def zay (D:zjN) (L:Lay) (S:Sig) (fn:Func) (sg:Sg):Bool :=
 !(fn.name == "runtime.NumGoroutine")&&decide (sg.takes.length≤fn.params.size)&&decide (fn.params.size≤fn.ntmps) &&
 match fn.body with
 | some c=>match zb2 D L S c (st0 sg fn.ntmps) with
  | some O=>zAO O.norm fn.results.toList sg.gives&&zAO O.ret fn.results.toList sg.gives
  | none=>false
 | none=>false
def Sig.has (S:Sig) (f:Nat):Bool:=(S.lookup f).isSome
section
variable {P:Program}{L:Lay}{S:Sig}{E:zpI}{call:Orc}{Own:Nat→Prop}{D:zjN}
theorem zkz (hL:LayOk P L) {st:Stt}{p:Stb}{w:World}{m:Array Value}{σ:List AV} (hI:Inv st p w m {σ:=σ,pe:=[]} Own):∀(rs:List ResultVar) (vs:List SV),zeq L σ rs=some vs →
  ∃us:List Value,(rs.mapM (znJ m)).run P w=.ok us w∧RepSs (zdy p m {σ:=σ,pe:=[]}) w us vs ∧
   ∀(i:Nat) (r:ResultVar) (u:Value) (j:Nat) (c:Value),rs[i]?=some r→us[i]?=some u→zax w (m.getD (zqi r) undef) j=some c→zax w u j=some c
 | [],vs,h=>by cases h;exact⟨[],by simp,trivial,fun i r u j c hr=>by simp at hr⟩
 | r::rs,vs,h=>by
  simp only[zeq,zzOb,zzOm] at h;obtain⟨v,hv,vs',hvs,rfl⟩:=h;obtain⟨us,h1,h2,h3⟩:=zkz hL hI rs vs' hvs;have hone:∃u,(znJ m r).run P w=.ok u w∧RepS (zdy p m {σ:=σ,pe:=[]}) w u v∧∀j c,zax w (m.getD (zqi r) undef) j=some c→zax w u j=some c:=by
   cases r with
   | tmp t =>
    have hsl:=(hI.slots t).1
    simp only[zhk] at hv;split at hv
    ·rename_i x hx
     cases hv;have:VS.get {σ:=σ,pe:=[]} t=.v v:=hx
     rw[this] at hsl;exact⟨m.getD t undef,by simp[znJ],RepS.evo (zbV hI) hsl,fun j c h=>h⟩
    ·simp only[zzOm] at hv
     obtain⟨⟨d,k,rows⟩,ha,rfl⟩:=hv;refine⟨m.getD t undef,by simp[znJ],?_,fun j c h=>h⟩
     unfold zgg at ha;split at ha
     ·rename_i hx
      cases ha;exact zkm hI hx
     ·rename_i d' hx
      split at ha
      ·rename_i hd
       cases ha;rw[hI.al t d k rows hx hd];exact zkm hI hd
      ·cases ha
     ·cases ha
   | cell t ty =>
    have hsl:=(hI.slots t).1
    simp only[zhk] at hv;split at hv
    ·rename_i cs hcs
     simp only[zzOb] at hv;obtain⟨i,hi,hv⟩:=hv;split at hv
     ·rename_i hsz
      have:VS.get {σ:=σ,pe:=[]} t=.box cs:=hcs
      rw[this] at hsl;obtain⟨b,arr,T,e,hb,hrl⟩:=hsl;have hmk:mkV i ((cs.drop 0).take i.size)=some v:=by rw[List.drop_zero,hsz,List.take_length];exact hv
      obtain⟨u,hu,hru,hcells⟩:=zmr (P:=P) (hL ty i hi) hb hrl (off:=0) (by omega) hmk
      refine⟨u,?_,RepS.evo (zbV hI) hru,fun j c h=>?_⟩
      ·simp only[Instr.loadAt,Instr.sureAddr] at hu
       simp only[znJ];rw[e]
       simpa [asAddr] using hu
      ·simp only[zqi] at h
       rw[e] at h;have h:w.cell? ⟨b,j,none⟩=some c:=h
       rw[zaV hb] at h;rw[zbm hru];have hl:=hrl.length
       have:u.cells.toList[j]?=some c:=by
        rw[hcells,List.drop_zero,List.take_of_length_le (by omega)]
        simpa using h
       simpa using this
     ·cases hv
    ·cases hv
  obtain⟨u,hu,hru,hcell⟩:=hone;refine⟨u::us,?_,⟨hru,h2⟩,fun i r' u' j c hr hu' hc=>?_⟩
  ·simp only[List.mapM_cons,Sem.run_bind,hu,Result.andThen,h1,Sem.run_pure]
  ·match i with
   | 0=>simp at hr hu';subst hr hu';exact hcell j c hc
   | i+1=>exact h3 i r' u' j c (by simpa using hr) (by simpa using hu') hc
theorem st0_mem {sg:Sg}{n:Nat}:(∀q i,(q,i)∈(st0 sg n).pid→q=(i,0)∧∃k,sg.takes[i]?=some (some k))∧(∀i k,(i,k)∈(st0 sg n).alive→sg.takes[i]?=some (some k)):=by
 constructor
 ·intro q i h
  simp only[st0,List.mem_filterMap,List.mem_range,zzOm,Prod.mk.injEq] at h;obtain⟨j,hj,k,hk,rfl,rfl⟩:=h;refine⟨rfl,k,?_⟩
  cases ht:sg.takes[j]? with
  | none=>rw[ht] at hk;cases hk
  | some x=>rw[ht] at hk;simp at hk;rw[hk]
 ·intro i k h
  simp only[st0,List.mem_filterMap,List.mem_range,zzOm,Prod.mk.injEq] at h;obtain⟨j,hj,k',hk,rfl,rfl⟩:=h;cases ht:sg.takes[j]? with
  | none=>rw[ht] at hk;cases hk
  | some x=>rw[ht] at hk;simp at hk;rw[hk]
theorem zuw (args:List SV) (n t:Nat):VS.get {σ:=args.map .v++List.replicate n .und,pe:=[]} t=match args[t]? with|some x=>.v x|none=>.und:=by
 simp only[VS.get,List.getD];rcases Nat.lt_or_ge t args.length with h|h
 ·rw[List.getElem?_append_left (by simpa using h),List.getElem?_map,List.getElem?_eq_getElem h]
  rfl
 ·rw[List.getElem?_append_right (by simpa using h),List.getElem?_eq_none h]
  simp only[List.getElem?_replicate];split <;> rfl
theorem zlg {α β:Type}{f:α→Option β}:∀{l:List α}{i:Nat}{x:α}{y:β},l[i]?=some x→f x=some y→∃j,(l.filterMap f)[j]?=some y∧j≤i
 | [],_,_,_,h,_=>by simp at h
 | a::l,0,x,y,h,hf=>by
  simp at h
  subst h;exact⟨0,by rw[List.filterMap_cons,hf];rfl,Nat.le_refl _⟩
 | a::l,i+1,x,y,h,hf=>by
  obtain⟨j,hj,hle⟩:=zlg (l:=l) (f:=f) (by simpa using h) hf
  rw[List.filterMap_cons];split
  ·exact⟨j,hj,by omega⟩
  ·exact⟨j+1,by simpa using hj,by omega⟩
theorem zq9 {vals:List Value}{ts:List (Option Nat)} (h:znP ((vals.zip ts).filterMap fun xk=>xk.2.map fun _=>xk.1)):∀(i j ki kj:Nat) (u v:Value) (b:Nat),i<j→ts[i]?=some (some ki)→ts[j]?=some (some kj)→vals[i]?=some u→vals[j]?=some v →
  ¬(zar u=some b∧zar v=some b):=by
 have key:∀(l:List (Value×Option Nat)),znP (l.filterMap fun xk=>xk.2.map fun _=>xk.1)→∀(i j ki kj:Nat) (u v:Value) (b:Nat),i<j→l[i]?=some (u,some ki)→l[j]?=some (v,some kj)→¬(zar u=some b∧zar v=some b):=by
  intro l;induction l with
  | nil=>intro _ i j ki kj u v b _ hi;simp at hi
  | cons x l ih =>
   intro hA i j ki kj u v b hij hi hj ⟨hb,hb'⟩
   match i,j with
   | 0,j+1 =>
    simp at hi
    subst hi;obtain⟨j',hj',_⟩:=zlg (f:=fun xk:Value×Option Nat=>xk.2.map fun _=>xk.1) (l:=l) (i:=j) (x:=(v,some kj)) (y:=v) (by simpa using hj) rfl
    exact hA 0 (j'+1) u v b (by omega) (by simp) (by simpa using hj') hb hb'
   | i+1,j+1 =>
    refine ih (fun i' j' u' v' b' hne hi' hj'=>?_) i j ki kj u v b (by omega) (by simpa using hi) (by simpa using hj) ⟨hb,hb'⟩
    rw[List.filterMap_cons] at hA;split at hA
    ·exact hA i' j' u' v' b' hne hi' hj'
    ·exact hA (i'+1) (j'+1) u' v' b' (by omega) (by simpa using hi') (by simpa using hj')
 intro i j ki kj u v b hij hti htj hu hv;refine key _ h i j ki kj u v b hij ?_ ?_
 ·rw[List.getElem?_zip_eq_some];exact⟨hu,hti⟩
 ·rw[List.getElem?_zip_eq_some];exact⟨hv,htj⟩
theorem zAs (hL:LayOk P L) (hC:za4 P S call) (hD:zk5 P L S call D) {f:FuncId}{fn:Func}{sg:Sg} (hf:P.funcs[f]?=some fn) (hok:zay D L S fn sg=true) {n:Nat}{args:List SV}{r:AV} (hv:zkq L call n fn args=some r)
  {p:Stb}{w:World}{vals:List Value} (hreps:RepSs p w vals args) (hz:Zp p w) (hrt:∀(i k:Nat),sg.takes[i]?=some (some k)→∃v:Value,vals[i]?=some v∧Rt p w v k)
  (hap:znP ((vals.zip sg.takes).filterMap fun xk=>xk.2.map fun _=>xk.1)) :
  Calls P f vals.toArray w fun e w'=>∃v,e=.returned v∧∃p',SR p' w' v r∧(∀cs,r≠.box cs)∧r≠.und∧Evo (fun b=>∃(i k:Nat) (v:Value),sg.takes[i]?=some (some k)∧vals[i]?=some v∧zar v=some b) p w p' w'∧Zp p' w' ∧
   (∀e∈sg.gives,∃u,zax w' v e.1=some u∧Rt p' w' u e.2∧∀b,zar u=some b→w.heap.size≤b∨∃(i k:Nat) (v:Value),sg.takes[i]?=some (some k)∧vals[i]?=some v∧zar v=some b) ∧
   (∀(e e':Nat×Nat) (u u':Value) (b:Nat),e∈sg.gives→e'∈sg.gives→e.1≠e'.1→zax w' v e.1=some u→zax w' v e'.1=some u'→zar u=some b→zar u'≠some b):=by
 unfold zay at hok;simp only[Bool.and_eq_true,decide_eq_true_eq] at hok;obtain⟨⟨⟨_,htl⟩,hpn⟩,hok⟩:=hok;unfold zkq at hv;cases hb:fn.body with
 | none=>rw[hb] at hv;cases hv
 | some c =>
  rw[hb] at hv hok;simp only at hv hok;split at hv
  case isFalse=>cases hv
  rename_i hnp;simp only[zzOb] at hv;split at hok
  case h_2=>cases hok
  rename_i O hO;simp only[Bool.and_eq_true] at hok;obtain⟨⟨e,σ'⟩,hrun,hres⟩:=hv;have hlen:=hreps.length
  let Own:Nat→Prop:=fun b=>w.heap.size≤b∨∃(i k:Nat) (v:Value),sg.takes[i]?=some (some k)∧vals[i]?=some v∧zar v=some b
  let m0:Array Value:=vals.toArray++Array.replicate (fn.ntmps-vals.toArray.size) undef
  have hm0:∀t,m0.getD t undef=match vals[t]? with|some v=>v|none=>undef:=by
   intro t;simp only[m0,Array.getD_eq_getD_getElem?,Array.getElem?_append,List.size_toArray,List.getElem?_toArray];rcases Nat.lt_or_ge t vals.length with h|h
   ·rw[if_pos h,List.getElem?_eq_getElem h];rfl
   ·rw[if_neg (by omega),List.getElem?_eq_none h,Array.getElem?_replicate]
    split <;> rfl
  have hI:Inv (st0 sg fn.ntmps) p w m0 {σ:=args.map .v++List.replicate (fn.ntmps-args.length) .und,pe:=[]} Own:=by
   have hnone:∀t,zbH (VS.get {σ:=args.map .v++List.replicate (fn.ntmps-args.length) .und,pe:=[]} t)=false:=fun t=>by
    rw[zuw];split <;> rfl
   refine⟨by simp[m0];omega,by simp[st0];omega,fun t ht=>(by cases ht),trivial,fun t=>⟨?_,fun q hq=>by cases hq⟩,hz,trivial,⟨fun _ _=>rfl,fun _ _ _ h=>by cases h⟩,fun b hb=>.inl hb,fun d cs h=>?_,fun d d' cs cs' b _ h=>?_,fun d k r b h=>(by have:=hnone d;rw[h] at this;cases this),fun t d k r h _=>(by have:=hnone t;rw[h] at this;cases this),⟨fun t d h=>(by have:=hnone t;rw[h] at this;cases this),fun d k r h=>(by have:=hnone d;rw[h] at this;cases this)⟩,fun i=>vals.getD i undef,?_⟩
   ·rw[zuw,hm0]
    cases ha:args[t]? with
    | none =>
     have:vals[t]?=none:=by
      rw[List.getElem?_eq_none_iff] at ha ⊢;omega
     rw[this];intro b hb;cases hb
    | some x =>
     obtain⟨v,hv,hr⟩:=hreps.get ha;rw[hv];exact hr
   ·rw[zuw] at h
    split at h <;> cases h
   ·rw[zuw] at h
    split at h <;> cases h
   ·have hval:∀i k,sg.takes[i]?=some (some k)→∃v,vals[i]?=some v∧vals.getD i undef=v∧Rt p w v k:=fun i k h=>by
     obtain⟨v,hv,hr⟩:=hrt i k h;exact⟨v,hv,by simp[List.getD,hv],hr⟩
    refine⟨fun q i hm=>?_,fun i k hm=>?_,fun i k b hm hb=>⟨?_,fun d cs h=>?_⟩,fun i k i' k' b hm hm' hne hb hb'=>?_,fun q i k d k' r b _ _ h=>(by have:=hnone d;rw[h] at this;cases this)⟩
    ·obtain⟨rfl,k,hk⟩:=st0_mem.1 q i hm
     obtain⟨v,hv,he,hr⟩:=hval i k hk;simp only;rw[hm0,hv,he];refine⟨?_,?_⟩
     ·rcases hr with rfl|⟨b,off,len,cap,a,T,rfl,_⟩ <;> rfl
     ·rw[zuw]
      have:i<args.length:=by
       rw[←hlen];exact(List.getElem?_eq_some_iff.1 hv).1
      rw[List.getElem?_eq_getElem this];intro h;cases h
    ·obtain⟨v,hv,he,hr⟩:=hval i k (st0_mem.2 i k hm)
     rw[he];exact hr
    ·have hk:=st0_mem.2 i k hm
     obtain⟨v,hv,he,hr⟩:=hval i k hk;rw[he] at hb;exact .inr ⟨i,k,v,hk,hv,hb⟩
    ·rw[zuw] at h
     split at h <;> cases h
    ·have hk:=st0_mem.2 i k hm
     have hk':=st0_mem.2 i' k' hm'
     obtain⟨v,hv,he,_⟩:=hval i k hk;obtain⟨v',hv',he',_⟩:=hval i' k' hk';rw[he] at hb;rw[he'] at hb';rcases Nat.lt_or_ge i i' with hlt|hge
     ·exact zq9 hap i i' k k' v v' b hlt hk hk' hv hv' ⟨hb,hb'⟩
     ·exact zq9 hap i' i k' k v' v b (by omega) hk' hk hv' hv ⟨hb',hb⟩
  refine calls_of_wp hf hb (zva (Own:=Own) hL hC hD n c _ e σ' _ O hrun hO p w {tmps:=m0,defers:=[]} hI rfl _ fun st' a' w' p' hat hI' hev' hd'=>?_)
  have hfin:(∀i,e≠.exit i)→ztL st' fn.results.toList sg.gives=true→a'.defers=[]∧∃v,(results fn a'.tmps).run P w'=.ok v w'∧∃v',Ending.returned v=.returned v'∧∃p',SR p' w' v' r∧(∀cs,r≠.box cs)∧r≠.und∧Evo (fun b=>∃(i k:Nat) (v:Value),sg.takes[i]?=some (some k)∧vals[i]?=some v∧zar v=some b) p w p' w'∧Zp p' w' ∧
   (∀e∈sg.gives,∃u,zax w' v' e.1=some u∧Rt p' w' u e.2∧∀b,zar u=some b→w.heap.size≤b∨∃(i k:Nat) (v:Value),sg.takes[i]?=some (some k)∧vals[i]?=some v∧zar v=some b) ∧
   (∀(e e':Nat×Nat) (u u':Value) (b:Nat),e∈sg.gives→e'∈sg.gives→e.1≠e'.1→zax w' v' e.1=some u→zax w' v' e'.1=some u'→zar u=some b→zar u'≠some b):=by
   intro hne hro;have hres':∃vs,zeq L σ' fn.results.toList=some vs∧r=(match vs with|[v]=>.v v|vs=>.tup vs):=by
    cases e with
    | exit i=>exact absurd rfl (hne i)
    | norm =>
     simp only[zzOm] at hres;obtain⟨vs,h1,h2⟩:=hres;exact⟨vs,h1,h2.symm⟩
    | ret =>
     simp only[zzOm] at hres;obtain⟨vs,h1,h2⟩:=hres;exact⟨vs,h1,h2.symm⟩
   obtain⟨vs,hvs,rfl⟩:=hres';obtain⟨us,hu1,hu2,hu3⟩:=zkz (P:=P) hL hI' fn.results.toList vs hvs;have hul:=hu2.length
   have hrl:fn.results.toList.length=us.length:=by
    have:∀(rs:List ResultVar) (vs:List SV),zeq L σ' rs=some vs→rs.length=vs.length:=by
     intro rs;induction rs with
     | nil=>intro vs h;cases h;rfl
     | cons r rs ih =>
      intro vs h;simp only[zeq,zzOb,zzOm] at h;obtain⟨_,_,vs',h,rfl⟩:=h;simp[ih vs' h]
    rw[this _ _ hvs,hul]
   have hrunres:(results fn a'.tmps).run P w'=.ok (zfo us) w':=by
    have hr:results fn a'.tmps=(fn.results.mapM (znJ a'.tmps) >>= fun vs=>pure (if h:vs.size=1 then vs[0] else .tuple vs)):=by
     unfold results
     congr 2
    have hmap:(fn.results.mapM (znJ a'.tmps)).run P w'=.ok us.toArray w':=by
     rw[Array.mapM_eq_mapM_toList,map_eq_pure_bind];simp only[Sem.run_bind,hu1,Result.andThen,Sem.run_pure]
    rw[hr];simp only[Sem.run_bind,hmap,Result.andThen,Sem.run_pure]
    congr 1
    match us with
    | []=>rfl
    | [u]=>rfl
    | _::_::_=>simp[zfo]
   -- the cells of the result
   have hcells:∀(n:Nat) (q:Nat×Nat) (c:Value),zki fn.results.toList n=some q→zax w' (a'.tmps.getD q.1 undef) q.2=some c→zax w' (zfo us) n=some c:=by
    intro n q c hq hc;unfold zki at hq;split at hq
    ·rename_i r hr
     cases hq;have h1:us.length=1:=by rw[←hrl,hr];rfl
     match us,h1,hu3 with
     | [u],_,hu3=>exact hu3 0 r u n c (by rw[hr];rfl) rfl hc
    ·rename_i hnone
     simp only[zzOm] at hq;obtain⟨r,hr,rfl⟩:=hq;have h1:¬us.length=1:=by
      intro h1;rw[←hrl] at h1
      match hl:fn.results.toList,h1 with
      | [r],_=>exact hnone r hl
     have hrv:zfo us=.tuple us.toArray:=by
      match us,h1 with
      | [],_=>rfl
      | [u],h1=>exact absurd rfl h1
      | _::_::_,_=>rfl
     rw[hrv];have hlt:n / 64<us.length:=by rw[←hrl];exact(List.getElem?_eq_some_iff.1 hr).1
     have hu:=hu3 (n / 64) r us[n / 64] (n % 64) c hr (List.getElem?_eq_getElem hlt) hc
     obtain⟨x,hx⟩:∃x,vs[n / 64]?=some x:=⟨vs[n / 64]'(by omega),List.getElem?_eq_getElem _⟩
     obtain⟨u',hu',hru⟩:=hu2.get hx;rw[List.getElem?_eq_getElem hlt] at hu';cases hu';rw[zbm hru] at hu;show(us.toArray[n / 64]?).bind (fun u=>u.cells[n % 64]?)=some c
     rw[List.getElem?_toArray,List.getElem?_eq_getElem hlt];exact hu
   obtain⟨val,hR⟩:=hI'.rooms;unfold ztL at hro;simp only[Bool.and_eq_true,List.all_eq_true] at hro;have hid:∀e∈sg.gives,∃id q,(q,id)∈st'.pid∧zuA st' fn.results.toList e.1=some id∧(id,e.2)∈st'.alive∧zax w' (zfo us) e.1=some (val id):=by
    intro e he;have:=hro.1 e he
    split at this
    ·rename_i id hid
     have hid':=hid
     unfold zuA at hid';simp only[zzOb] at hid';obtain⟨q,hq,hl⟩:=hid';exact⟨id,q,zau hl,hid,za2 (by simpa using this),hcells _ q _ hq (hR.place _ _ (zau hl)).1⟩
    ·cases this
   have hrt':∀q id k,(q,id)∈st'.pid→(id,k)∈st'.alive→Rt (zdy p' a'.tmps {σ:=σ',pe:=[]}) w' (val id) k:=fun q id k hq hal=>by
    rcases hR.alive id k hal with e|⟨b,off,len,cap,arr,T,e,h1,h2,h3,h4⟩
    ·exact .inl e
    ·refine .inr ⟨b,off,len,cap,arr,T,e,h1,h2,h3,?_⟩
     by_cases h:∃n,zdg a'.tmps {σ:=σ',pe:=[]} b n
     ·obtain⟨n,d,k',rows,hd,hdb,_⟩:=h
      obtain⟨r1,r2,r3⟩:=hR.row q id k d k' rows b hq hal hd hdb (by rw[e];rfl)
      have hv:a'.tmps.getD d undef=val id:=by
       have h5:=(hR.place q id hq).1
       have h6:a'.tmps.getD q.1 undef=a'.tmps.getD d undef:=by
        rcases r2 with r2|r2
        ·rw[r2]
        ·exact hI'.al q.1 d k' rows r2 hd
       have hsr:=(hI'.slots d).1
       rw[hd] at hsr;obtain⟨ad,cp,hsl⟩:=zkS hsr;rw[h6,r1,hsl] at h5;rw[hsl]
       simpa [zax,Value.cells] using h5
      rw[zqr hI' hd hdb,hv,e,←r3];exact⟨Nat.le_refl _,h4.2⟩
     ·rw[zdJ h];exact h4
   refine⟨hd',_,hrunres,_,rfl,zdy p' a'.tmps {σ:=σ',pe:=[]},?_,?_,?_,(hev'.trans (zbV hI') (C:=Own) (fun _ _ h=>h) (fun b hb ⟨n,hn⟩=>(zfY hI' hn).2.1)).weaken (fun b hb h=>h.resolve_left (by omega)),zje hI',fun e he=>?_,fun e e' u u' b he he' hne' hu hu' hbu=>?_⟩
   ·clear hrunres hcells hid hu3 hu1 hrl hvs
    match us,vs,hul,hu2 with
    | [],[],_,_=>exact⟨_,rfl,trivial⟩
    | [u],[v],_,hu2=>exact hu2.1
    | u::u'::us,v::v'::vs,_,hu2=>exact⟨_,rfl,by simpa using hu2⟩
   ·intro cs h
    split at h <;> cases h
   ·intro h
    split at h <;> cases h
   ·obtain⟨id,q,hq,_,hm,hc⟩:=hid e he
    exact⟨val id,hc,hrt' q id _ hq hm,fun b hb=>(hR.own _ _ b hm hb).1⟩
   ·obtain⟨id,q,_,hi,hm,hc⟩:=hid e he
    obtain⟨id',q',_,hi',hm',hc'⟩:=hid e' he';rw[hc] at hu;cases hu;rw[hc'] at hu';cases hu';refine hR.apart id _ id' _ b hm hm' (fun hid=>?_) hbu
    have:=hro.2 e he e' he'
    rw[hi,hi',hid] at this;simp at this
    exact hne' this
  cases e with
  | exit i=>cases hres
  | norm =>
   have hat:O.norm=some st':=hat
   exact hfin (fun i h=>by cases h) (by have:=hok.1;rw[hat] at this;exact this)
  | ret =>
   have hat:O.ret=some st':=hat
   exact hfin (fun i h=>by cases h) (by have:=hok.2;rw[hat] at this;exact this)
theorem zvi {n:Nat}{fn:Func}{args:List SV}{r:AV} (h:zkq L call n fn args=some r):zix r=true:=by
 unfold zkq at h;split at h
 ·cases h
 ·split at h
  case isFalse=>cases h
  simp only[zzOb] at h;obtain⟨⟨e,s⟩,_,h⟩:=h;split at h
  ·cases h
  ·simp only[zzOm] at h
   obtain⟨vs,_,rfl⟩:=h;split <;> rfl
theorem zu0 (hL:LayOk P L) (hE:∀f e,S.has f=false→E.lookup f=some e→∀call,za4 P S call→zjm P S f (ziT call e)) (hall:∀f,S.has f=true→∃fn,P.funcs[f]?=some fn∧zay D L S fn (S.sg f)=true) (hD:∀call,za4 P S call→zk5 P L S call D):∀n,za4 P S (zfa P L S.has E n)
 | 0=>fun f args r h=>by cases h
 | n+1=>by
  have ih:=zu0 hL hE hall hD n
  intro f args r h;simp only[zfa] at h;split at h
  case isFalse hF =>
   split at h
   ·rename_i e he
    exact hE f e (by simpa using hF) he _ ih args r h
   ·cases h
  rename_i hF;obtain⟨fn,hf,hok⟩:=hall f hF;rw[hf] at h;simp only at h;refine⟨⟨zvi h,fn,hf,?_,?_⟩,fun p w vals hreps hz hrt hap=>zAs hL ih (hD _ ih) hf hok h hreps hz hrt hap⟩
  ·unfold zkq at h
   split at h
   ·cases h
   ·rename_i c hc;rw[hc];rfl
  ·unfold zay at hok
   simp only[Bool.and_eq_true,Bool.not_eq_true'] at hok;exact hok.1.1.1
theorem zCn (hL:LayOk P L) (hE:∀f e,S.has f=false→E.lookup f=some e→∀call,za4 P S call→zjm P S f (ziT call e)) (hall:∀f,S.has f=true→∃fn,P.funcs[f]?=some fn∧zay D L S fn (S.sg f)=true) (hD:∀call,za4 P S call→zk5 P L S call D):za4 P S (V P L S.has E):=fun f args r h=>by
 obtain⟨n,hn⟩:=V_iff.1 h;exact zu0 hL hE hall hD n f args r hn
theorem zAJ (hL:LayOk P L) (hE:∀f e,S.has f=false→E.lookup f=some e→∀call,za4 P S call→zjm P S f (ziT call e)) (hall:∀f,S.has f=true→∃fn,P.funcs[f]?=some fn∧zay D L S fn (S.sg f)=true) (hD:∀call,za4 P S call→zk5 P L S call D) {f:FuncId}{args:List SV}{r:AV} (h:V P L S.has E f args=some r) (ht:(S.sg f).takes=[])
  {p:Stb}{w:World}{vals:List Value} (hreps:RepSs p w vals args) (hz:Zp p w) :
  Calls P f vals.toArray w fun e w'=>∃v,e=.returned v∧Below w.heap.size w w'∧∃p',SR p' w' v r∧Evo (fun _=>False) p w p' w'∧Zp p' w' ∧
   (∀e∈(S.sg f).gives,∃u,zax w' v e.1=some u∧Rt p' w' u e.2∧∀b,zar u=some b→w.heap.size≤b):=by
 obtain⟨_,hc⟩:=zCn hL hE hall hD f args r h;refine(hc p w vals hreps hz (fun i k hk=>by rw[ht] at hk;simp at hk) (fun i j u v b _ hi=>by rw[ht] at hi;simp at hi)).mono ?_
 rintro e w' ⟨v,rfl,p',hsr,_,_,hev,hz',hg,_⟩
 have hno:∀b,¬∃(i k:Nat) (v:Value),(S.sg f).takes[i]?=some (some k)∧vals[i]?=some v∧zar v=some b:=by
  rintro b ⟨i,k,v,hk,_⟩
  rw[ht] at hk;simp at hk
 refine⟨v,rfl,⟨hev.os,hev.tape,hev.output,hev.size,fun k hk=>hev.block k hk (hno k)⟩,p',hsr,hev.weaken (fun b _ hb=>hno b hb),hz',fun e he=>?_⟩
 obtain⟨u,h1,h2,h3⟩:=hg e he;exact⟨u,h1,h2,fun b hb=>(h3 b hb).resolve_right (hno b)⟩
end
end
section
open Go Go.RowKit
structure Rec where
 o:Oper
 s:VS
 s':VS
 base:Nat
 st:Stt
 st':Stt
def zkv (o:Oper):Bool:=match o.op with|.fieldAddr ..|.indexAddr ..=>true|_=>false
def zyi (L:Lay) (call:Orc) (all:List Oper) (o:Oper) (s s':VS):Prop:=zc8 L call all o s=some s'∨((∃x,s'=s.put o.dst x)∧zkv o=false)
structure ztP (L:Lay) (S:Sig) (call:Orc) (all:List Oper) (r:Rec):Prop where
 run:zyi L call all r.o r.s r.s'
 step:zc0 L S r.base r.o r.st=some r.st'
 ids:zcG r.st r.base
 once:NoTwice r.s.pe
 sonce:NoTwice r.st.spe
 spe:zbR r.st.spe r.s
 norow:(∀t d k n j,r.s.pe.lookup t≠some (.el d k n j))∧(∀t k r',r.s.get t≠.arr k r')∧∀t d,r.s.get t=.al d→d=zbK
section
variable {P:Program}{L:Lay}{S:Sig}{call:Orc}{p p':Stb}{w w':World}{a:Act}{s s':VS}{q:SPe}{o:Oper}{st st':Stt}{Own:Nat→Prop}{base:Nat}{all:List Oper}
theorem zx9 (h:zbR q s) (h1:NoTwice q) (h2:NoTwice s.pe) {g:Nat×Bool} (hg:o.guard=some g):zbR (zbI L o q) (s.put o.dst .und):=by
 unfold zbI;cases hd:o.dst with
 | none=>exact h
 | some d =>
  have hc:=zjL h h1 h2 d .und
  have hp:zbR ((d,none)::znr d q) (s.put (some d) .und):=by
   constructor
   ·intro t ht
    simp only[List.lookup] at ht;split at ht
    ·cases ht
    ·exact hc.1 t ht
   ·intro t b off ht
    simp only[List.lookup] at ht;split at ht
    ·cases ht
    ·exact hc.2 t b off ht
  cases ho:o.op <;> simp only[hg] <;> first|exact hc|exact hp
theorem zbp (hst:zaA o=false) (h:zc0 L S base o st=some st'):zdF L S base o st=some st':=by
 unfold zc0 at h;split at h
 ·rename_i hop;simp[zaA,hop] at hst
 ·exact h
theorem zne (h:zdF L S base o st=some st'):st'.spe=zbI L o st.spe∧st'.len=st.len:=by
 unfold zdF at h;split at h
 case isFalse=>cases h
 simp only[zzOb] at h;obtain⟨E,_,h⟩:=h;split at h
 ·cases h
 cases h;exact⟨rfl,rfl⟩
theorem zmd (hs:zc8 L call all o s=some s') (hst:zaA o=false) (hn:NoTwice s.pe):ze1 o s s'∧NoTwice s'.pe:=by
 unfold zc8 at hs;split at hs
 ·exact zd4 hs hst hn
 ·simp only[zzOb] at hs
  obtain⟨t,_,hs⟩:=hs;cases t with
  | true=>exact zd4 hs hst hn
  | false=>cases hs;exact zap hn _
theorem ztr (hs:zc8 L call all o s=some s') (hst:zaA o=false) (hq:zbR q s) (h1:NoTwice q) (h2:NoTwice s.pe):zbR (zbI L o q) s':=by
 unfold zc8 at hs;split at hs
 ·exact znu hs hst hq h1 h2
 ·rename_i g hg
  simp only[zzOb] at hs;obtain⟨t,_,hs⟩:=hs;cases t with
  | true=>exact znu hs hst hq h1 h2
  | false=>cases hs;exact zx9 hq h1 h2 hg
def zeD (s:VS):Prop:=(∀t d k n j,s.pe.lookup t≠some (.el d k n j))∧(∀t k r,s.get t≠.arr k r)∧∀t d,s.get t=.al d→d=zbK
theorem zvK {o:Oper}{s s':VS} (hs:zaK L call o s=some s') (hst:zaA o=false) (hn:NoTwice s.pe) (h0:∀t d k n j,s.pe.lookup t≠some (.el d k n j)):∀t d k n j,s'.pe.lookup t≠some (.el d k n j):=by
 intro t d k n j h;by_cases hd:o.dst=some t
 ·unfold zaK at hs
  have plain:∀x,s'=s.put o.dst x→False:=fun x e=>by
   rw[e,hd,zcD] at h;cases h
  split at hs <;> try simp only[zzOb,zzOm] at hs
  ·obtain⟨v,_,rfl⟩:=hs;exact(plain _ rfl).elim
  ·obtain⟨v,_,rfl⟩:=hs;exact(plain _ rfl).elim
  ·obtain⟨_,_,v,_,rfl⟩:=hs;exact(plain _ rfl).elim
  ·obtain⟨_,_,rfl⟩:=hs;exact(plain _ rfl).elim
  ·obtain⟨_,_,_,_,hs⟩:=hs;split at hs <;> cases hs;exact(plain _ rfl).elim
  ·obtain⟨_,_,hs⟩:=hs;split at hs
   ·simp only[zzOm] at hs;obtain⟨_,_,rfl⟩:=hs;exact(plain _ rfl).elim
   ·cases hs
  ·obtain⟨_,_,_,_,hs⟩:=hs;split at hs <;> cases hs;exact(plain _ rfl).elim
  ·obtain⟨_,_,_,_,hs⟩:=hs
   split at hs
   ·split at hs
    ·simp only[zzOm] at hs;obtain⟨_,_,rfl⟩:=hs;exact(plain _ rfl).elim
    ·cases hs
   ·split at hs
    ·split at hs
     ·simp only[zzOm] at hs;obtain⟨_,_,rfl⟩:=hs;exact(plain _ rfl).elim
     ·cases hs
    ·cases hs
   ·cases hs
  ·rename_i hop;simp[zaA,hop] at hst
  ·split at hs
   ·simp only[zzOb] at hs
    obtain⟨_,_,hs⟩:=hs;split at hs
    ·simp only[zzOb,zzOm] at hs
     obtain⟨_,_,_,_,rfl⟩:=hs;exact(plain _ rfl).elim
    ·cases hs
   ·simp only[zzOb,zzOm] at hs
    obtain⟨_,_,_,_,_,_,rfl⟩:=hs;exact(plain _ rfl).elim
  ·obtain⟨_,_,rfl⟩:=hs;exact(plain _ rfl).elim
  ·obtain⟨_,_,r,_,e,_,hs⟩:=hs
   rw[hd] at hs;simp only at hs;split at hs
   ·rename_i hc
    cases hs;simp only[List.lookup,beq_self_eq_true] at h;cases r with
    | ref cs=>cases h
    | box b' off'=>cases h
    | el _ _ _ _=>simp[Ptr.fits] at hc
   ·cases hs
  ·obtain⟨_,_,_,_,_,_,hs⟩:=hs
   rw[hd] at hs;simp only at hs;split at hs
   ·split at hs
    ·cases hs
     simp only[List.lookup,beq_self_eq_true] at h;cases h
    ·cases hs
   ·cases hs
  ·obtain⟨_,_,_,_,_,_,_,_,hs⟩:=hs;split at hs <;> cases hs;exact(plain _ rfl).elim
  ·split at hs
   ·simp only[zzOm] at hs;obtain⟨_,_,rfl⟩:=hs;exact(plain _ rfl).elim
   ·cases hs
  ·obtain⟨_,_,_,_,_,_,hs⟩:=hs;split at hs <;> cases hs;exact(plain _ rfl).elim
  ·split at hs
   ·split at hs
    ·simp only[zzOb,zzOm] at hs;obtain⟨_,_,_,_,rfl⟩:=hs;exact(plain _ rfl).elim
    ·cases hs
   ·cases hs
  ·split at hs
   ·simp only[zzOb] at hs
    obtain⟨_,_,_,_,_,_,hs⟩:=hs;split at hs <;> cases hs;exact(plain _ rfl).elim
   ·cases hs
  ·split at hs
   ·simp only[zzOb,zzOm] at hs;obtain⟨_,_,_,_,rfl⟩:=hs;exact(plain _ rfl).elim
   ·cases hs
  ·obtain⟨_,_,_,_,rfl⟩:=hs;exact(plain _ rfl).elim
  ·cases hs
 ·exact h0 t d k n j ((zd4 hs hst hn).1.pe t _ hd h).1
theorem zn5 (hs:zc8 L call all o s=some s') (hst:zaA o=false) (hval:∀f args r,call f args=some r→zix r=true) (hn:NoTwice s.pe) (h:zeD s):zeD s':=by
 have key:ze1 o s s'→(∀t d k n j,s'.pe.lookup t≠some (.el d k n j))→(∀d,o.dst=some d→zbH (s'.get d)=false)→zeD s':=fun hF h1 h2=>by
  refine⟨h1,fun t k r e=>?_,fun t d e=>?_⟩
  ·by_cases hd:o.dst=some t
   ·have:=h2 t hd
    rw[e] at this;cases this
   ·rw[hF.get t hd] at e
    exact h.2.1 t k r e
  ·by_cases hd:o.dst=some t
   ·have:=h2 t hd
    rw[e] at this;cases this
   ·rw[hF.get t hd] at e
    exact h.2.2 t d e
 have run:zaK L call o s=some s'→zeD s':=fun hs=>key (zd4 hs hst hn).1 (zvK hs hst hn h.1) (zpb hs hst hval)
 unfold zc8 at hs;split at hs
 ·exact run hs
 ·simp only[zzOb] at hs
  obtain⟨t,_,hs⟩:=hs;cases t with
  | true=>exact run hs
  | false =>
   cases hs;have hF:=(zap (o:=o) hn .und).1
   refine key hF (fun t d k n j hl=>?_) (za5 rfl)
   ·by_cases hd:o.dst=some t
    ·rw[hd,zcD] at hl;cases hl
    ·exact h.1 t d k n j (hF.pe t _ hd hl).1
theorem zwz (hpe:NoTwice s.pe) (hval:∀f args r,call f args=some r→zix r=true):∀(os:List Oper) (base bm:Nat) (s sm:VS) (st stm:Stt),(∀o∈os,zaA o=false)→zdC L call all os s=some sm→zcl L S base os st=some (bm,stm)→zcG st base→NoTwice s.pe→NoTwice st.spe→zbR st.spe s→zeD s →
  ∃tr:List Rec,tr.map (·.o)=os∧(∀r∈tr,ztP L S call all r∧zc8 L call all r.o r.s=some r.s')∧(∀r,tr[0]?=some r→r.s=s∧r.st=st∧r.base=base) ∧
   (∀(j:Nat) (r r':Rec),tr[j]?=some r→tr[j+1]?=some r'→r'.s=r.s'∧r'.st=r.st'∧r'.base=r.base+zgG L S r.o) ∧
   (∀r,tr.getLast?=some r→sm=r.s'∧stm=r.st')∧(tr=[]→sm=s∧stm=st)∧NoTwice sm.pe∧NoTwice stm.spe∧zbR stm.spe sm∧zcG stm bm∧zeD sm
 | [],base,bm,s,sm,st,stm,_,hv,hst,hids,h1,h2,h3,h4=>by
  cases hv;cases hst;exact⟨[],rfl,fun r h=>(by cases h),fun r h=>(by cases h),fun j r r' h=>(by simp at h),fun r h=>(by cases h),fun _=>⟨rfl,rfl⟩,h1,h2,h3,hids,h4⟩
 | o::os,base,bm,s,sm,st,stm,hns,hv,hst,hids,h1,h2,h3,h4=>by
  rw[zjj] at hv;simp only[zzOb] at hv;obtain⟨s1,hv1,hv⟩:=hv;simp only[zcl,zzOb] at hst;obtain⟨st1,hst1,hst⟩:=hst;have hso:=hns o List.mem_cons_self
  have hsv:=zne (zbp hso hst1)
  have hids1:=znE hids hst1
  obtain⟨tr,k1,k2,k3,k4,k5,k6,k7⟩:=zwz hpe hval os _ bm s1 sm st1 stm (fun o ho=>hns o (List.mem_cons_of_mem _ ho)) hv hst hids1 (zmd hv1 hso h1).2 (by rw[hsv.1];exact zkY L o h2) (by rw[hsv.1];exact ztr hv1 hso h3 h2 h1) (zn5 hv1 hso hval h1 h4)
  refine⟨⟨o,s,s1,base,st,st1⟩::tr,by simp[k1],fun r hr=>?_,fun r hr=>?_,fun j r r' hr hr'=>?_,fun r hr=>?_,fun h=>(by cases h),k7⟩
  ·rcases List.mem_cons.1 hr with rfl|hr
   ·exact⟨⟨.inl hv1,hst1,hids,h1,h2,h3,h4⟩,hv1⟩
   ·exact k2 r hr
  ·simp at hr
   subst hr;exact⟨rfl,rfl,rfl⟩
  ·match j with
   | 0 =>
    simp at hr hr'
    subst hr;obtain⟨e1,e2,e3⟩:=k3 r' hr';exact⟨e1,e2,e3⟩
   | j+1=>exact k4 j r r' (by simpa using hr) (by simpa using hr')
  ·cases htr:tr with
   | nil =>
    rw[htr] at hr;simp at hr
    subst hr;exact k6 htr
   | cons x l =>
    rw[htr] at hr;rw[List.getLast?_cons_cons] at hr;exact k5 r (by rw[htr];exact hr)
end
def zic (L:Lay) (S:Sig) (r:Rec):List Nat:=(zbJ r.st (zbQ L S r.o)).getD []
structure Tr (L:Lay) (S:Sig) (call:Orc) (all:List Oper) (tr:List Rec) (s0:VS) (t0:Stt) (b0:Nat) (sm:VS) (tm:Stt):Prop where
 ok:∀(j:Nat) (r:Rec),tr[j]?=some r→ztP L S call all r∧zaA r.o=false
 first:∀r,tr[0]?=some r→r.s=s0∧r.st=t0∧r.base=b0
 next:∀(j:Nat) (r r':Rec),tr[j]?=some r→tr[j+1]?=some r'→r'.s=r.s'∧r'.st=r.st'∧r'.base=r.base+zgG L S r.o
 last:∀(j:Nat) (r:Rec),tr[j]?=some r→tr[j+1]?=none→sm=r.s'∧tm=r.st'
 none:tr=[]→sm=s0∧tm=t0
def Keeps (t:Nat) (x y:VS×Stt):Prop:=y.1.get t=x.1.get t∧(∀r,y.1.pe.lookup t=some r→x.1.pe.lookup t=some r)∧∀n id,((t,n),id)∈y.2.pid↔((t,n),id)∈x.2.pid
theorem Keeps.refl (t:Nat) (x:VS×Stt):Keeps t x x:=⟨rfl,fun _ h=>h,fun _ _=>Iff.rfl⟩
theorem Keeps.trans {t:Nat}{x y z:VS×Stt} (h:Keeps t x y) (k:Keeps t y z):Keeps t x z:=⟨k.1.trans h.1,fun r hr=>h.2.1 r (k.2.1 r hr),fun n id=>(k.2.2 n id).trans (h.2.2 n id)⟩
section
variable {P:Program}{L:Lay}{S:Sig}{call:Orc}{all:List Oper}{tr:List Rec}{s0 sm:VS}{t0 tm:Stt}{b0:Nat}
theorem zdm {base:Nat}{o:Oper}{st st':Stt} (h:zdF L S base o st=some st'):∃E,zbJ st (zbQ L S o)=some E∧zkZ L S o=true∧zqt st.len o=true∧(o.guard.isSome=true→E=[]) ∧
  st'.pid=zgF L S base o st++st.pid.filter (fun e=>!(o.dst==some e.1.1))∧st'.alive=zbG L S base o++st.alive.filter (fun e=>!E.contains e.1):=by
 unfold zdF at h;split at h
 case isFalse=>cases h
 rename_i htk;simp only[Bool.and_eq_true] at htk;simp only[zzOb] at h;obtain⟨E,hE,h⟩:=h;split at h
 ·cases h
 rename_i hg;cases h;refine⟨E,hE,htk.1,htk.2,fun hgs=>?_,rfl,rfl⟩
 cases E with
 | nil=>rfl
 | cons x l=>simp[hgs] at hg
theorem zuL {base:Nat}{o:Oper}{st:Stt}{q:Nat×Nat}{id:Nat} (h:(q,id)∈zgF L S base o st):o.dst=some q.1:=by
 unfold zgF at h;split at h
 ·rename_i d hd
  split at h
  ·cases h
  ·rcases List.mem_append.1 h with h|h
   ·simp only[List.mem_map,Prod.mk.injEq] at h
    obtain⟨e,_,rfl,_⟩:=h;exact hd
   ·simp only[List.mem_filterMap,zzOm,Prod.mk.injEq] at h
    obtain⟨e,_,_,_,rfl,_⟩:=h;exact hd
 ·cases h
theorem ziA {o:Oper}{s s':VS} (hs:zyi L call all o s s') (hst:zaA o=false) (hn:NoTwice s.pe):ze1 o s s'∧NoTwice s'.pe:=by
 rcases hs with hs|⟨⟨x,rfl⟩,_⟩
 ·exact zmd hs hst hn
 ·exact zap hn x
theorem zvz {r:Rec} (h:ztP L S call all r) (hst:zaA r.o=false) {t:Nat} (hd:r.o.dst≠some t):Keeps t (r.s,r.st) (r.s',r.st'):=by
 obtain⟨hF,_⟩:=ziA h.run hst h.once;obtain⟨E,_,_,_,_,hpid,_⟩:=zdm (zbp hst h.step);refine⟨hF.get t hd,fun x hx=>(hF.pe t x hd hx).1,fun n id=>?_⟩
 simp only;rw[hpid,List.mem_append,List.mem_filter];constructor
 ·rintro(hm|⟨hm,_⟩)
  ·exact absurd (zuL hm) hd
  ·exact hm
 ·intro hm
  exact .inr ⟨hm,by simp only[Bool.not_eq_true',beq_eq_false_iff_ne];exact hd⟩
def atR (tr:List Rec) (sm:VS) (tm:Stt) (j:Nat):VS×Stt:=match tr[j]? with|some r=>(r.s,r.st)|none=>(sm,tm)
theorem Tr.step (h:Tr L S call all tr s0 t0 b0 sm tm) {j:Nat}{r:Rec} (hr:tr[j]?=some r):atR tr sm tm (j+1)=(r.s',r.st'):=by
 unfold atR;cases hn:tr[j+1]? with
 | none=>obtain⟨e1,e2⟩:=h.last j r hr hn;simp[e1,e2]
 | some r'=>obtain⟨e1,e2,_⟩:=h.next j r r' hr hn;simp[e1,e2]
theorem Tr.keeps (h:Tr L S call all tr s0 t0 b0 sm tm) {t:Nat}:∀(k i:Nat),i+k≤tr.length→(∀(x:Nat) (r:Rec),i≤x→x<i+k→tr[x]?=some r→r.o.dst≠some t)→Keeps t (atR tr sm tm i) (atR tr sm tm (i+k))
 | 0,i,_,_=>Keeps.refl _ _
 | k+1,i,hle,hd=>by
  have ih:=Tr.keeps h k i (by omega) (fun x r h1 h2 hr=>hd x r h1 (by omega) hr)
  obtain⟨r,hr⟩:∃r,tr[i+k]?=some r:=⟨tr[i+k]'(by omega),List.getElem?_eq_getElem _⟩
  have h1:atR tr sm tm (i+k)=(r.s,r.st):=by unfold atR;rw[hr]
  have h2:=h.step hr
  obtain⟨hok,hst⟩:=h.ok _ r hr;refine ih.trans ?_
  rw[h1,show i+(k+1)=i+k+1 by omega,h2]
  exact zvz hok hst (hd (i+k) r (by omega) (by omega) hr)
theorem Tr.zero (h:Tr L S call all tr s0 t0 b0 sm tm):atR tr sm tm 0=(s0,t0):=by
 unfold atR;cases hn:tr[0]? with
 | none =>
  have:tr=[]:=by simpa using hn
  obtain⟨e1,e2⟩:=h.none this;simp[e1,e2]
 | some r=>obtain⟨e1,e2,_⟩:=h.first r hn;simp[e1,e2]
theorem zdL {n:Nat} (hn:tr.length≤n):atR tr sm tm n=(sm,tm):=by
 unfold atR;rw[List.getElem?_eq_none hn]
theorem zjf {st:Stt}{base:Nat} (hids:zcG st base):∀{l:List (Operand×Nat)}{E:List Nat},zbJ st l=some E→∀id∈E,id<base∧∃k,(id,k)∈st.alive
 | [],E,h,id,hid=>by cases h;cases hid
 | (.tmp t,k)::r,E,h,id,hid=>by
  unfold zbJ at h;split at h
  ·split at h
   ·rename_i hk
    simp only[zzOb] at h;obtain⟨l,hl,h⟩:=h;split at h
    ·cases h
    ·cases h
     rcases List.mem_cons.1 hid with rfl|hid
     ·exact⟨hids.2 _ _ (za2 hk),_,za2 hk⟩
     ·exact zjf hids hl id hid
   ·cases h
  ·cases h
 | (.const c,k)::r,E,h,id,hid=>by
  unfold zbJ at h;split at h
  ·rename_i heq;cases heq
  ·rename_i heq;cases heq
  ·rename_i heq;cases heq;exact zjf hids h id hid
  ·cases h
 | (.global g,k)::r,E,h,_,_=>by simp[zbJ] at h
 | (.func g,k)::r,E,h,_,_=>by simp[zbJ] at h
theorem zbP {base:Nat}{o:Oper}{id k:Nat} (h:(id,k)∈zbG L S base o):base≤id∧id<base+zgG L S o:=by
 unfold zbG at h;split at h
 ·split at h
  ·cases h
  ·simp only[List.mem_map,Prod.mk.injEq] at h
   obtain⟨e,he,rfl,_⟩:=h;have:=zee _ 0 e he
   unfold zgG;omega
 ·cases h
theorem Tr.base_mono (h:Tr L S call all tr s0 t0 b0 sm tm):∀(k i:Nat) (r r':Rec),tr[i]?=some r→tr[i+(k+1)]?=some r'→r.base+zgG L S r.o≤r'.base
 | 0,i,r,r',hr,hr'=>by obtain⟨_,_,e⟩:=h.next i r r' hr hr';omega
 | k+1,i,r,r',hr,hr'=>by
  obtain⟨r1,hr1⟩:∃r1,tr[i+(k+1)]?=some r1:=by
   have:=(List.getElem?_eq_some_iff.1 hr').1
   exact⟨tr[i+(k+1)]'(by omega),List.getElem?_eq_getElem _⟩
  have h1:=Tr.base_mono h k i r r1 hr hr1
  obtain⟨_,_,e⟩:=h.next _ r1 r' hr1 hr';omega
theorem Tr.base_lt (h:Tr L S call all tr s0 t0 b0 sm tm) {i j:Nat}{r r':Rec} (hij:i<j) (hr:tr[i]?=some r) (hr':tr[j]?=some r'):r.base+zgG L S r.o≤r'.base:=by
 obtain⟨k,rfl⟩:∃k,j=i+(k+1):=⟨j-i-1,by omega⟩
 exact h.base_mono k i r r' hr hr'
theorem Tr.base_ge (h:Tr L S call all tr s0 t0 b0 sm tm) {j:Nat}{r:Rec} (hr:tr[j]?=some r):b0≤r.base:=by
 obtain⟨r0,h0⟩:∃r0,tr[0]?=some r0:=by
  have:=(List.getElem?_eq_some_iff.1 hr).1
  exact⟨tr[0]'(by omega),List.getElem?_eq_getElem _⟩
 obtain⟨_,_,e⟩:=h.first r0 h0;rcases Nat.eq_zero_or_pos j with rfl|hj
 ·rw[h0] at hr;cases hr;omega
 ·have:=h.base_lt hj h0 hr
  omega
theorem Tr.alive (h:Tr L S call all tr s0 t0 b0 sm tm) (h0:zcG t0 b0):∀(j:Nat),j≤tr.length→∀id k,(id,k)∈(atR tr sm tm j).2.alive →
  ((id,k)∈t0.alive∨∃(i:Nat) (r:Rec),i<j∧tr[i]?=some r∧(id,k)∈zbG L S r.base r.o)∧∀(i:Nat) (r:Rec),i<j→tr[i]?=some r→id ∉ zic L S r
 | 0,_,id,k,hm=>by
  rw[h.zero] at hm;exact⟨.inl hm,fun i r hi=>by omega⟩
 | j+1,hle,id,k,hm=>by
  obtain⟨r,hr⟩:∃r,tr[j]?=some r:=⟨tr[j]'(by omega),List.getElem?_eq_getElem _⟩
  rw[h.step hr] at hm;obtain⟨hok,hst⟩:=h.ok j r hr;obtain⟨E,hE,_,_,_,_,hal⟩:=zdm (zbp hst hok.step);have heat:zic L S r=E:=by unfold zic;rw[hE];rfl
  simp only at hm;rw[hal] at hm;rcases List.mem_append.1 hm with hm|hm
  ·refine⟨.inr ⟨j,r,by omega,hr,hm⟩,fun i r' hi hr' hmem=>?_⟩
   have h1:=zbP hm
   obtain⟨hok',hst'⟩:=h.ok i r' hr';obtain⟨E',hE',_,_,_,_,_⟩:=zdm (zbp hst' hok'.step);have heat':zic L S r'=E':=by unfold zic;rw[hE'];rfl
   rw[heat'] at hmem;have h2:=(zjf hok'.ids hE' id hmem).1
   rcases Nat.lt_or_ge i j with hij|hij
   ·have:=h.base_lt hij hr' hr
    omega
   ·have:i=j:=by omega
    subst this;rw[hr] at hr';cases hr';omega
  ·obtain⟨hm,hnE⟩:=List.mem_filter.1 hm
   have h1:atR tr sm tm j=(r.s,r.st):=by unfold atR;rw[hr]
   obtain⟨c1,c2⟩:=Tr.alive h h0 j (by omega) id k (by rw[h1];exact hm)
   refine⟨c1.imp (fun h=>h) (fun⟨i,r',hi,rest⟩=>⟨i,r',by omega,rest⟩),fun i r' hi hr'=>?_⟩
   rcases Nat.lt_or_ge i j with hij|hij
   ·exact c2 i r' hij hr'
   ·have:i=j:=by omega
    subst this;rw[hr] at hr';cases hr';rw[heat]
    simpa using hnE
end
end
end Go.Proofs.Ytcpcagdialnbeaa
