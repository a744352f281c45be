/- Generic texts and models for the proofs of this seat: part 30. -/
import Derived.Test.YtkgbadeobdbinaaGreatZ29
set_option linter.unusedVariables false
set_option linter.unusedSimpArgs false
namespace Go.Proofs.YtkgbadeobdbinaaGreat
section
open Go Go.RowKit
def zwA:Value→AV
 | .bool x=>.v (.cell (.bool x))
 | _=>.und
def ziZ (m:Array Value) (n:Nat) (o:List (Nat×AV)):List AV:=(List.range n).map fun t=>match o.lookup t with
 | some x=>x
 | none=>zwA (m.getD t undef)
theorem zeX (m:Array Value) (n:Nat) (o:List (Nat×AV)):(ziZ m n o).length=n:=by simp[ziZ]
theorem zeP (m:Array Value) (n:Nat) (o:List (Nat×AV)) (t:Nat):VS.get {σ:=ziZ m n o,pe:=[]} t=if t<n then(match o.lookup t with
 | some x=>x
 | none=>zwA (m.getD t undef)) else .und:=by
 unfold VS.get ziZ;by_cases h:t<n
 ·rw[if_pos h]
  simp[List.getD,h]
 ·rw[if_neg h]
  simp[List.getD,h]
theorem zw9 (v:Value):zbS (zwA v)=false:=by cases v <;> rfl
theorem zwG (v:Value) (cs:List AC):zwA v≠.box cs:=by cases v <;> simp[zwA]
def stM (n:Nat):Stt:=⟨[],[],[],n,[],[]⟩
structure zv8 (p:Stb) (w:World) (m:Array Value) (n:Nat) (o:List (Nat×AV)) (Own:Nat→Prop):Prop where
 lt:∀t x,o.lookup t=some x→t<n∧SR p w (m.getD t undef) x
 kind:∀t x,o.lookup t=some x→(∃v,x=.v v)∨∃cs c,x=.box cs∧m.getD t undef=.pointer (some ⟨c,0,none⟩)∧p c=0∧Own c
 apart:∀t t' cs cs' c,t≠t'→o.lookup t=some (.box cs)→o.lookup t'=some (.box cs')→m.getD t undef=.pointer (some ⟨c,0,none⟩)→m.getD t' undef≠.pointer (some ⟨c,0,none⟩)
theorem zt1 {p:Stb}{w:World}{m:Array Value}{n:Nat}{o:List (Nat×AV)}{Own:Nat→Prop}{b:Nat}{q:List AC} (hs:m.size=n) (hk:zv8 p w m n o Own) (hz:Zp p w) (hown:∀c,w.heap.size≤c→Own c) (h0:m.getD 0 undef=zbh b) (hT:TK p w Own b q) :
  InvC (stM n) p w m (ziZ m n o,q) Own b:=by
 have hrow:∀t,zbS (VS.get {σ:=ziZ m n o,pe:=[]} t)=false:=fun t=>by
  rw[zeP];split
  ·split
   ·rename_i x hx
    rcases hk.kind t x hx with ⟨v,rfl⟩|⟨cs,c,rfl,_⟩ <;> rfl
   ·exact zw9 _
  ·rfl
 have hbox:∀t cs,VS.get {σ:=ziZ m n o,pe:=[]} t=.box cs→o.lookup t=some (.box cs):=fun t cs h=>by
  rw[zeP] at h;split at h
  ·split at h
   ·rename_i x hx
    rw[hx,h]
   ·exact absurd h (zwG _ _)
  ·cases h
 refine⟨⟨by rw[zeX];exact hs,(zeX _ _ _).symm,fun t ht=>(by cases ht),trivial,fun t=>⟨?_,fun q hq=>(by cases hq)⟩,hz,trivial,⟨fun _ _=>rfl,fun _ _ _ h=>(by cases h)⟩,hown,fun d cs h=>?_,fun d d' cs cs' c hd h1 h2 h3=>hk.apart d d' cs cs' c hd (hbox _ _ h1) (hbox _ _ h2) h3,
  fun d k r c h=>(by have:=hrow d;rw[h] at this;cases this),fun t d k r h=>(by have:=hrow t;rw[h] at this;cases this),⟨fun t d h=>(by have:=hrow t;rw[h] at this;cases this),fun d k r h=>(by have:=hrow d;rw[h] at this;cases this)⟩,fun _=>undef,
  ⟨fun q id h=>(by cases h),fun id k h=>(by cases h),fun id k b h=>(by cases h),fun id k id' k' b h=>(by cases h),fun q id k d k' r b h=>(by cases h)⟩⟩,h0,hT⟩
 ·rw[zeP]
  split
  ·split
   ·rename_i x hx
    exact(hk.lt t x hx).2
   ·cases e:m.getD t undef with
    | bool x=>exact .bool x
    | _=>intro c hc;cases hc
  ·rename_i hlt
   rw[Array.getD_eq_getD_getElem?,Array.getElem?_eq_none (by omega)]
   intro c hc;cases hc
 ·have hl:=hbox d cs h
  rcases hk.kind d _ hl with ⟨v,e⟩|⟨cs',c,e,h1,h2,h3⟩
  ·cases e
  ·have hsr:=(hk.lt d _ hl).2
   obtain⟨c',a,T,e1,e2,_⟩:=hsr;rw[h1] at e1;cases e1;exact⟨c,h1,h2,h3,(Array.getElem?_eq_some_iff.1 e2).1⟩
theorem zwa {m:Array Value}{n:Nat}{o:List (Nat×AV)}{b:Nat} (h0:m.getD 0 undef=zbh b) (hn:0<n) (hl:∀t x,o.lookup t=some x→t<n) (hz:o.lookup 0=none):AgO ((0,.und)::o) (ziZ m n o):=by
 intro i y hy;have hg:=zeP m n o i
 unfold VS.get at hg;simp only at hg;rw[hg];rw[zdb] at hy;split at hy
 ·rename_i e
  subst e;cases hy;rw[if_pos hn,hz];simp only[h0];rfl
 ·have hy':o.lookup i=some y:=by
   clear hg hl hz;induction o with
   | nil=>cases hy
   | cons e o ih =>
    rw[List.lookup_cons];obtain⟨j,z⟩:=e;rw[zdb] at hy;split at hy
    ·rename_i e
     subst e;cases hy;simp
    ·rename_i e
     rw[show(i==j)=false by simpa using fun h:i=j=>e h.symm]
     exact ih hy
  rw[if_pos (hl i y hy'),hy']
theorem zET {L:Lay}{fn:Func}{σ:List AV}{q q':List AC}{vs:List SV} (h:zsi L fn (.norm,(σ,q))=some (.tup vs,q')):q=q'∧zfi L σ fn.results.toList=some vs:=by
 unfold zsi at h;simp only[zzOm,Prod.mk.injEq] at h;obtain⟨ws,h1,h2,h3⟩:=h;refine⟨h3,?_⟩
 split at h2
 ·cases h2
 ·cases h2
  exact h1
theorem znq {L:Lay}{σ:List AV}:∀{rs:List ResultVar}{vs:List SV},zfi L σ rs=some vs→∀(i:Nat) (r:ResultVar) (v:SV),rs[i]?=some r→vs[i]?=some v→zjv L σ r=some v
 | [],vs,h,i,r,v,hr,_=>by simp at hr
 | r0::rs,vs,h,i,r,v,hr,hv=>by
  simp only[zfi,zzOb,zzOm] at h;obtain⟨v0,h0,vs',h1,rfl⟩:=h;cases i with
  | zero =>
   simp only[List.getElem?_cons_zero,Option.some.injEq] at hr hv;subst hr;subst hv;exact h0
  | succ i =>
   simp only[List.getElem?_cons_succ] at hr hv;exact znq h1 i r v hr hv
theorem zyJ {L:Lay}{σ:List AV}{t ty:Nat}{cs:List AC} (h:zjv L σ (.cell t ty)=some (.agg cs)):σ.getD t .und=.box cs:=by
 simp only[zjv] at h;generalize σ.getD t .und=z at h
 cases z with
 | box cs' =>
  simp only[zzOb] at h;obtain⟨i,_,h⟩:=h;split at h
  ·unfold mkV at h
   split at h
   ·cases h;rfl
   ·split at h <;> cases h
  ·cases h
 | _=>cases h
theorem zD2 {L:Lay}{σ:List AV}{t:Nat}{k:Int} (h:zjv L σ (.tmp t)=some (.cell (.int k))):σ.getD t .und=.v (.cell (.int k)):=by
 simp only[zjv] at h;cases hz:σ.getD t .und with
 | v x=>rw[hz] at h;cases h;rfl
 | _ =>
  rw[hz] at h;simp only[zzOm] at h;obtain⟨_,_,h⟩:=h;cases h
theorem InvC.box {st:Stt}{p:Stb}{w:World}{m:Array Value}{σ:List AV}{q:List AC}{Own:Nat→Prop}{b:Nat} (h:InvC st p w m (σ,q) Own b) {d:Nat}{cs:List AC} (hd:σ.getD d .und=.box cs) :
  ∃c a T,m.getD d undef=.pointer (some ⟨c,0,none⟩)∧w.heap[c]?=some (.cells a T (0,0))∧RepL p w a.toList cs∧p c=0∧Own c∧c<w.heap.size∧c≠b:=by
 obtain⟨c,e,h1,h2,h3⟩:=h.1.box d cs hd;have hs:=(h.1.slots d).1
 rw[show VS.get {σ:=σ,pe:=[]} d=.box cs from hd] at hs;obtain⟨c',a,T,e1,e2,e3⟩:=hs;rw[e] at e1;cases e1;exact⟨c,a,T,e,e2,e3,h1,h2,h3,fun hcb=>h.2.2.not (hcb▸h2)⟩
theorem InvC.int {st:Stt}{p:Stb}{w:World}{m:Array Value}{σ:List AV}{q:List AC}{Own:Nat→Prop}{b:Nat} (h:InvC st p w m (σ,q) Own b) {d:Nat}{k:Int} (hd:σ.getD d .und=.v (.cell (.int k))):m.getD d undef=.int .i64 k:=by
 have hs:=(h.1.slots d).1
 rw[show VS.get {σ:=σ,pe:=[]} d=.v (.cell (.int k)) from hd] at hs;have hs':Rep p w (m.getD d undef) (.int k):=hs
 generalize m.getD d undef=v at hs'
 cases hs';rfl
theorem InvC.bool {st:Stt}{p:Stb}{w:World}{m:Array Value}{σ:List AV}{q:List AC}{Own:Nat→Prop}{b:Nat} (h:InvC st p w m (σ,q) Own b) {d:Nat}{k:Bool} (hd:σ.getD d .und=.v (.cell (.bool k))):m.getD d undef=.bool k:=by
 have hs:=(h.1.slots d).1
 rw[show VS.get {σ:=σ,pe:=[]} d=.v (.cell (.bool k)) from hd] at hs;have hs':Rep p w (m.getD d undef) (.bool k):=hs
 generalize m.getD d undef=v at hs'
 cases hs';rfl
end
section
open Go Go.RowKit
def zgo:Nat→Code→Code
 | n+1,.seq _ b=>zgo n b
 | _,c=>c
theorem zD1 {Y:CtxT}{S:Sig} (hP:Y.X.P.follows .mixedOrders=true) (hL:LayOk Y.X.P Y.X.L) (hC:zbe Y.X.P S (V Y.X.P Y.X.L Y.X.F Y.X.E)) (hA:zAs Y.X.P Y.X.L S Y.T Y.E) {c:Code}{n:Nat}{o:Ov}{q:List AC}{r:AV×List AC}
  (he:evT Y n (.run c) [] o q=some r) {σ:List AV} (hl:σ.length=Y.X.fn.ntmps) (hag:AgO o σ) {st:Stt}{O:Out} (ht:zcn (zbH Y.T) Y.X.L S c st=some O)
  {p0 p:Stb}{w0 w:World}{a:Act}{b:Nat} (hI:InvC st p w a.tmps (σ,q) (fun x=>w0.heap.size≤x) b) (hd:a.defers=[]) (hev:Evo (·=b) p0 w0 p w) :
  c.wp Y.X.P (bodyPost Y.X.P Y.X.fn fun e w'=>∃v,e=.returned v∧∃p',SR p' w' v r.1∧(∀cs,r.1≠.box cs)∧r.1≠.und∧Evo (·=b) p0 w0 p' w'∧Zp p' w'∧TK p' w' (fun _=>False) b r.2) a w:=by
 have h1:=zcW n _ _ _ _ _ he σ hl hag
 simp only[zzOb] at h1;obtain⟨⟨e,σ',q'⟩,h1,h2⟩:=h1;unfold CtxT.vc at h1;obtain⟨m,h1⟩:=TVC_iff.1 h1;refine zsR hP hL hC (zry hP hL hC hA m) m c (σ,q) e (σ',q') st O h1 ht p w a hI hd _ fun st' a' w' p' hat hIC hev' hd'=>?_
 obtain⟨hI',_,hTK'⟩:=hIC;have h2:zsi Y.X.L Y.X.fn (e,(σ',q'))=some r:=h2
 have hfin:(∀i,e≠.exit i)→a'.defers=[]∧∃v,(results Y.X.fn a'.tmps).run Y.X.P w'=.ok v w'∧∃v',Ending.returned v=.returned v'∧∃p',SR p' w' v' r.1∧(∀cs,r.1≠.box cs)∧r.1≠.und∧Evo (·=b) p0 w0 p' w'∧Zp p' w'∧TK p' w' (fun _=>False) b r.2:=by
  intro hne;have hres':∃vs,zfi Y.X.L σ' Y.X.fn.results.toList=some vs∧r=((match vs with|[v]=>.v v|vs=>.tup vs),q'):=by
   cases e with
   | exit i=>exact absurd rfl (hne i)
   | norm =>
    simp only[zsi,zzOm] at h2;obtain⟨vs,h1,h2⟩:=h2;exact⟨vs,h1,h2.symm⟩
   | ret =>
    simp only[zsi,zzOm] at h2;obtain⟨vs,h1,h2⟩:=h2;exact⟨vs,h1,h2.symm⟩
  obtain⟨vs,hvs,rfl⟩:=hres';obtain⟨us,hu1,hu2,hu3⟩:=zmH (P:=Y.X.P) hL hI' Y.X.fn.results.toList vs hvs;have hul:=hu2.length
  have hrunres:(results Y.X.fn a'.tmps).run Y.X.P w'=.ok (zgu us) w':=by
   have hr:results Y.X.fn a'.tmps=(Y.X.fn.results.mapM (zpv a'.tmps) >>= fun vs=>pure (if h:vs.size=1 then vs[0] else .tuple vs)):=by
    unfold results
    congr 2
   have hmap:(Y.X.fn.results.mapM (zpv a'.tmps)).run Y.X.P w'=.ok us.toArray w':=by
    rw[Array.mapM_eq_mapM_toList,map_eq_pure_bind];simp only[Sem.run_bind,hu1,Result.andThen,Sem.run_pure]
   rw[hr];simp only[Sem.run_bind,hmap,Result.andThen,Sem.run_pure]
   congr 1
   match us with
   | []=>rfl
   | [u]=>rfl
   | _::_::_=>simp[zgu]
  have hnt:¬∃n,zdB a'.tmps {σ:=σ',pe:=[]} b n:=fun⟨n,hn⟩=>hTK'.not (zhM hI' hn).2.1
  have hevr:=EvoC.trans hev' ((zca hI').weaken (C:=fun c=>w0.heap.size≤c∨c=b) (fun c hc ⟨n,hn⟩=>.inl (zhM hI' hn).2.1))
  refine⟨hd',_,hrunres,_,rfl,zdV p' a'.tmps {σ:=σ',pe:=[]},?_,?_,?_,hev.trans hevr (fun _ _ e=>e) (fun c hc e=>?_),zll hI',?_⟩
  ·match us,vs,hul,hu2 with
   | [],[],_,_=>exact⟨_,rfl,trivial⟩
   | [u],[v],_,hu2=>exact hu2.1
   | u::u'::us,v::v'::vs,_,hu2=>exact⟨_,rfl,by simpa using hu2⟩
  ·intro cs h
   simp only at h;split at h <;> cases h
  ·intro h
   simp only at h;split at h <;> cases h
  ·rcases e with e|e
   ·exact absurd hc (by omega)
   ·exact e
  ·exact(((hTK'.own (Own':=fun c=>∃n,zdB a'.tmps {σ:=σ',pe:=[]} c n) hnt).evo (zca hI')).own (fun h=>h))
 cases e with
 | exit i=>cases h2
 | norm=>exact hfin (fun i h=>by cases h)
 | ret=>exact hfin (fun i h=>by cases h)
end
set_option maxRecDepth 100000
section
open Go
noncomputable def zBy:CtxT:={X:={P:=Tryz.prog,L:=lay,F:=sig.has,E:=ext,fn:=Tryz.f80,lv:=[],jv:=[],tp:=[]},T:=tt,E:=zgA}
theorem zrO {n1:Int}{n2:Int}{l3:List (List AC)}{n4:Int}{n5:Int}{l6:List (List AC)}{q:List AC}{r:AV×List AC} (h:( zdU (zah q [.cell (.int 5)]) false [(false,[.int 0])] fun q8 n7=>bif (n7==0) then zdU (zah q8 [.cell (.int 15)]) false [(false,[.int 0])] fun q10 n9=>zaC (zai [.cell (.int n9),.cell (.int n2),.cell (.sl 3 l3)]) false [(true,[.int 0,.int 0,.sl 3 []])] fun n11 n12 l13=>some (.v (.agg [.int n11,.int n12,.sl 3 l13]),q10) else bif (n7==1) then zdU (za7 q8 [.cell (.sl 1 [[.int 1],[.int (-1)],[.int 1000],[.int 2]])]) false [(false,[.int 0])] fun q15 n14=>zaC (zai [.cell (.int n1),.cell (.int (zae (n2+n14))),.cell (.sl 3 l3)]) false [(true,[.int 0,.int 0,.sl 3 []])] fun n16 n17 l18=>some (.v (.agg [.int n16,.int n17,.sl 3 l18]),q15) else bif (n7==2) then zaC (zgr [.cell (.sl 3 l3)]) false [(false,[.sl 3 []])] fun l19=>zaC (zbE [.cell (.int 1)]) false [(true,[.int 0,.int 0,.sl 3 []])] fun n20 n21 l22=>zcy l19 [[.int n20,.int n21,.sl 3 l22]] fun l23=>zaC (zai [.cell (.int n1),.cell (.int n2),.cell (.sl 3 l23)]) false [(true,[.int 0,.int 0,.sl 3 []])] fun n24 n25 l26=>some (.v (.agg [.int n24,.int n25,.sl 3 l26]),q8) else bif (n7==3) then zdU (za7 q8 [.cell (.sl 1 [[.int 0],[.int 1],[.int 2],[.int 5],[.int 100],[.int (-1)]])]) false [(false,[.int 0])] fun q28 n27=>zaC (zap [.cell (.int n27)]) false [(true,[.int 0,.int 0,.sl 3 []])] fun n29 n30 l31=>some (.v (.agg [.int n29,.int n30,.sl 3 l31]),q28) else zdU (za7 q8 [.cell (.sl 1 [[.int 0],[.int 1000],[.int (-1000)],[.int 5]])]) false [(false,[.int 0])] fun q33 n32=>zaC (zbE [.cell (.int n32)]) false [(true,[.int 0,.int 0,.sl 3 []])] fun n34 n35 l36=>some (.v (.agg [.int n34,.int n35,.sl 3 l36]),q33):Option (AV×List AC))=some r):evT zBy 100000 (.run (zgo 2 (cOf Tryz.f80))) [] [(0,.und),(3,.box [.int n1,.int n2,.sl 3 l3]),(4,.box [.int n4,.int n5,.sl 3 l6])] q=some r:=Eq.trans (by kernel_rfl) h
theorem zGv:(zcn (zbH tt) lay sig (zgo 2 (cOf Tryz.f80)) ⟨[],[],[],85,[],[]⟩).isSome=true:=by kernel_rfl
end
section
open Go
theorem zrV {o n:Int}{kids:List (List AC)} (hk:zcN kids) (hs:kids.length+rsS kids≤100000):zhS [.agg [.int o,.int n,.sl 3 kids]]=some (.v (.agg [.int o,.int n,.sl 3 kids])) :=
 zlu (zav (zqt 100000 (Nat.le_refl _) kids hk hs) rfl)
theorem zA2 (z:Int):inI (zae z):=by
 unfold inI zae;rw[IntKind.wrap_i64];omega
section
variable {ns:List Nat} (hns:ns.length≤2000)
include hns
theorem zxO {o n:Int}{kids:List (List AC)}{n4 n5:Int}{l6:List (List AC)} (hf:Fit .expr [.int o,.int n,.sl 3 kids]) {M:Nat} (hs:1+kids.length+rsS kids≤M) (hM:M≤100000) {p:Nat} (hp:p+10≤800000) :
  EG ns p 2 (M+1) (evT zBy 100000 (.run (zgo 2 (cOf Tryz.f80))) [] [(0,.und),(3,.box [.int o,.int n,.sl 3 kids]),(4,.box [.int n4,.int n5,.sl 3 l6])] (Qr ns p)):=by
 have hf':=hf
 cases hf with
 | expr _ _ _ ho hn hl hk =>
 obtain⟨x,hx,h1⟩:=zbJ hns (p:=p) (by omega) (m:=5) (by omega)
 rcases(by omega:x=0∨x=1∨x=2∨x=3∨x=4) with rfl|rfl|rfl|rfl|rfl
 ·obtain⟨y,hy,h2⟩:=zbJ hns (p:=p+1) (by omega) (m:=15) (by omega)
  exact⟨_,_,_,_,zrO (zam h1 (zac rfl (zam h2 (zag (zay _ _ _) rfl)))),by omega,.expr _ _ _ (by unfold inI;omega) hn hl hk,by omega⟩
 ·obtain⟨y,hy,h2⟩:=zml hns (p:=p+1) (by omega) (xs:=[1,-1,1000,2]) (by simp) (by simp)
  exact⟨_,_,_,_,zrO (zam h1 (zaa rfl (zac rfl (zam h2 (zag (zay _ _ _) rfl))))),by omega,.expr _ _ _ ho (zA2 _) hl hk,by omega⟩
 ·have hsz:=zfh (kids:=kids) (o:=0) (n:=1) (l:=[])
  rw[zaQ] at hsz;have hlen:(kids++[[AC.int 0,.int 1,.sl 3 []]]).length=kids.length+1:=by simp
  refine⟨_,_,_,_,zrO (zam h1 (zaa rfl (zaa rfl (zac rfl (zav (zqt 100000 (Nat.le_refl _) kids hk (by omega)) (zag (zcJ _) (zbs (by simp;omega) (zag (zay _ _ _) rfl)))))))),by omega,.expr _ _ _ ho hn (by rw[hlen];unfold zaI;omega) (fun c hc=>?_),by simp only[List.length_nil] at hsz;omega⟩
  rw[List.mem_append,List.mem_singleton] at hc;rcases hc with hc|rfl
  ·exact hk c hc
  ·exact zal (by omega) (by omega) (by simp) (fun c hc=>by cases hc)
 ·obtain⟨y,hy,h2⟩:=zml hns (p:=p+1) (by omega) (xs:=[0,1,2,5,100,-1]) (by simp) (by simp)
  have hy2:-1≤y∧y≤100:=by
   simp only[List.mem_cons,List.not_mem_nil,or_false] at hy;omega
  exact⟨_,_,_,_,zrO (zam h1 (zaa rfl (zaa rfl (zaa rfl (zac rfl (zam h2 (zag (zaW _) rfl))))))),by omega,zch (by omega),by rw[zaQ];simp⟩
 ·obtain⟨y,hy,h2⟩:=zml hns (p:=p+1) (by omega) (xs:=[0,1000,-1000,5]) (by simp) (by simp)
  have hy2:-1000≤y∧y≤1000:=by
   simp only[List.mem_cons,List.not_mem_nil,or_false] at hy;omega
  exact⟨_,_,_,_,zrO (zam h1 (zaa rfl (zaa rfl (zaa rfl (zaa rfl (zam h2 (zag (zcJ _) rfl))))))),by omega,zal (by omega) (by omega) (by simp) (fun c hc=>by cases hc),by rw[zaQ];simp⟩
end
end
section
open Go Go.RowKit
def znO:Nat→List AC→Bool
 | s+1,[.int o,.int n,.sl 3 kids]=>(!(o==12)||(decide (0≤n)&&decide (n≤100000)))&&kids.all (znO s)
 | _,_=>true
theorem zlq (s:Nat) (o n:Int) (kids:List (List AC)):znO (s+1) [.int o,.int n,.sl 3 kids]=((!(o==12)||(decide (0≤n)&&decide (n≤100000)))&&kids.all (znO s)):=rfl
theorem ztN {s:Nat}{o n:Int}{kids:List (List AC)} (h:znO (s+1) [.int o,.int n,.sl 3 kids]=true):(o=12→0≤n∧n≤100000)∧∀c∈kids,znO s c=true:=by
 rw[zlq,Bool.and_eq_true,List.all_eq_true] at h;refine⟨fun ho=>?_,h.2⟩
 have h1:=h.1
 subst ho
 simpa using h1
theorem ztb {a b:Int} (hb:0≤b∧b≤99):∀s row,Fit .expr row→cS row<s→cS row≤100000→znO s row=true→zda [.agg row,.cell (.int a),.cell (.int b)]=some (.v (.agg (shr a b s row))) :=
 zvp (P:=fun s row=>cS row≤100000→znO s row=true→zda [.agg row,.cell (.int a),.cell (.int b)]=some (.v (.agg (shr a b s row)))) fun s o n kids hf hk hc hv=>by
  rw[zbv] at hc;obtain⟨ho,hn,hl,hkf⟩:=zd3 hf;obtain⟨h1,h2⟩:=ztN hv;have key:∀N:Int,∀m k:Nat,k+m=kids.length→zc5 a b 0 0 [] o N ((kids.take k).map (shr a b s)) kids ((kids.length:Nat):Int) (k:Int)=some (.v (.agg [.int o,.int N,.sl 3 (kids.map (shr a b s))])):=by
   intro N m;induction m with
   | zero =>
    intro k hkm;rw[List.take_of_length_le (by omega)]
    exact zjT (zaa (decide_eq_false (by omega)) rfl)
   | succ m ih =>
    intro k hkm;have hlt:k<kids.length:=by omega
    obtain⟨o',n',ks,e,_⟩:=zcE hkf hlt;obtain⟨g1,g2,g3⟩:=hk _ (zaE hlt []);have hle:=zjo (zaE hlt [])
    have g4:=g3 (by omega) (h2 _ (zaE hlt []))
    have e2:kids[k]=kids.getD k []:=by simp[List.getD,hlt]
    have hn:=ih (k+1) (by omega)
    rw[List.take_succ_eq_append_getElem hlt,List.map_append,e2,e] at hn;rw[e] at g4 g2;obtain⟨s',rfl⟩:∃j,s=j+1:=⟨s-1,by omega⟩
    rw[zeh] at g4;simp only[List.map_cons,List.map_nil,zeh] at hn;refine zjT (zac (decide_eq_true (by omega)) (zbu hlt e (zag g4 (zbs (by simp;omega) ?_))))
    rw[wrk (by unfold zaI at *;omega)]
    exact hn
  rw[zeh];have k0:=fun N=>key N kids.length 0 (by omega)
  simp only[List.take_zero,List.map_nil] at k0;by_cases h12:o=12
  ·by_cases h:a≤n
   ·have hn':=h1 h12
    refine ziJ (zac (eqt h12) (zac (decide_eq_true h) ?_))
    rw[wr (by omega) (by omega),show shF a b o n=n+b by unfold shF;rw[if_pos ⟨h12,h⟩]]
    exact k0 _
   ·refine ziJ (zac (eqt h12) (zaa (decide_eq_false h) ?_))
    rw[show shF a b o n=n by unfold shF;rw[if_neg (fun x=>h x.2)]]
    exact k0 _
  ·refine ziJ (zaa (eqf h12) ?_)
   rw[show shF a b o n=n by unfold shF;rw[if_neg (fun x=>h12 x.1)]]
   exact k0 _
theorem zwy {a b:Int} (hb:0≤b∧b≤99):∀s row,Fit .expr row→cS row<s→cS row≤100000→znO s row=true→zeM [.agg row,.cell (.int a),.cell (.int b)]=some (.v (.agg (shr a b s row))) :=
 zvp (P:=fun s row=>cS row≤100000→znO s row=true→zeM [.agg row,.cell (.int a),.cell (.int b)]=some (.v (.agg (shr a b s row)))) fun s o n kids hf hk hc hv=>by
  rw[zbv] at hc;obtain⟨ho,hn,hl,hkf⟩:=zd3 hf;obtain⟨h1,h2⟩:=ztN hv;have key:∀m k:Nat,k+m=kids.length→ze3 kids a b ((kids.take k).map (shr a b s)) (k:Int)=some (.v (.cell (.sl 3 (kids.map (shr a b s))))):=by
   intro m;induction m with
   | zero =>
    intro k hkm;rw[List.take_of_length_le (by omega)]
    exact zja (zaa (decide_eq_false (by omega)) rfl)
   | succ m ih =>
    intro k hkm;have hlt:k<kids.length:=by omega
    obtain⟨o',n',ks,e,_⟩:=zcE hkf hlt;obtain⟨g1,g2,g3⟩:=hk _ (zaE hlt []);have hle:=zjo (zaE hlt [])
    have g4:=g3 (by omega) (h2 _ (zaE hlt []))
    have e2:kids[k]=kids.getD k []:=by simp[List.getD,hlt]
    have hn:=ih (k+1) (by omega)
    rw[List.take_succ_eq_append_getElem hlt,List.map_append,e2,e] at hn;rw[e] at g4 g2;obtain⟨s',rfl⟩:∃j,s=j+1:=⟨s-1,by omega⟩
    rw[zeh] at g4;simp only[List.map_cons,List.map_nil,zeh] at hn;refine zja (zac (decide_eq_true (by omega)) (zbu hlt e (zag g4 (zbs (by simp;omega) ?_))))
    rw[wrk (by unfold zaI at *;omega)]
    exact hn
  have k0:=key kids.length 0 (by omega)
  simp only[List.take_zero,List.map_nil] at k0;have all:zfv [.cell (.sl 3 kids),.cell (.int a),.cell (.int b)]=some (.v (.cell (.sl 3 (kids.map (shr a b s))))):=zpt k0
  rw[zeh];by_cases h12:o=12
  ·by_cases h:a≤n
   ·have hn':=h1 h12
    refine zk1 (zac (eqt h12) (zac (decide_eq_true h) (zav all ?_)))
    rw[wr (by omega) (by omega),show shF a b o n=n+b by unfold shF;rw[if_pos ⟨h12,h⟩]]
   ·refine zk1 (zac (eqt h12) (zaa (decide_eq_false h) (zav all ?_)))
    rw[show shF a b o n=n by unfold shF;rw[if_neg (fun x=>h x.2)]]
  ·refine zk1 (zaa (eqf h12) (zav all ?_))
   rw[show shF a b o n=n by unfold shF;rw[if_neg (fun x=>h12 x.1)]]
section
variable {D:List DM}{R:List PM} (hv:CP D R)
include hv
theorem zv7 {V:List Int}{x:List AC}{t:Int} (h:HT D R V x t):∀s,Fit .expr x→cS x<s→V.length+3*s≤100000→znO s x=true:=by
 induction h with
 | var V n kids hk h =>
  intro s hf hs hl;obtain⟨s,rfl⟩:∃j,s=j+1:=⟨s-1,by omega⟩
  rw[zlq,List.length_eq_zero_iff.1 hk];simp
  omega
 | bind V kids t0 t hl h0 h1 h2 i1 i2 =>
  intro s hf hs hb;obtain⟨s,rfl⟩:∃j,s=j+1:=⟨s-1,by omega⟩
  obtain⟨_,_,_,hk⟩:=zd3 hf;rw[zlq,show(!((13:Int)==12))=true from rfl,Bool.true_or,Bool.true_and,List.all_eq_true];intro c hc;obtain⟨k,hkl,rfl⟩:=List.getElem_of_mem hc;rw[show kids[k]=kids.getD k [] by simp[List.getD,hkl]]
  have hlt:=zaO hkl (o:=13) (n:=0)
  have hfk:=hk _ (zaE hkl [])
  rcases(by omega:k=0∨k=1) with rfl|rfl
  ·exact i1 s hfk (by omega) (by omega)
  ·exact i2 s hfk (by omega) (by rw[List.length_append,List.length_singleton];omega)
 | ifz V kids t hl h0 h1 h2 i0 i1 i2 =>
  intro s hf hs hb;obtain⟨s,rfl⟩:∃j,s=j+1:=⟨s-1,by omega⟩
  obtain⟨_,_,_,hk⟩:=zd3 hf;rw[zlq,show(!((7:Int)==12))=true from rfl,Bool.true_or,Bool.true_and,List.all_eq_true];intro c hc;obtain⟨k,hkl,rfl⟩:=List.getElem_of_mem hc;rw[show kids[k]=kids.getD k [] by simp[List.getD,hkl]]
  have hlt:=zaO hkl (o:=7) (n:=0)
  have hfk:=hk _ (zaE hkl [])
  rcases(by omega:k=0∨k=1∨k=2) with rfl|rfl|rfl
  ·exact i0 s hfk (by omega) (by omega)
  ·exact i1 s hfk (by omega) (by omega)
  ·exact i2 s hfk (by omega) (by omega)
 | mtch V kids j n t hn hj hc hl h0 hs' i0 is =>
  intro s hf hs hb;obtain⟨s,rfl⟩:∃j,s=j+1:=⟨s-1,by omega⟩
  obtain⟨_,_,_,hk⟩:=zd3 hf;rw[zlq,show(!((8:Int)==12))=true from rfl,Bool.true_or,Bool.true_and,List.all_eq_true];intro c hc;obtain⟨k,hkl,rfl⟩:=List.getElem_of_mem hc;rw[show kids[k]=kids.getD k [] by simp[List.getD,hkl]]
  have hlt:=zaO hkl (o:=8) (n:=n)
  have hfk:=hk _ (zaE hkl [])
  rcases k with _|k
  ·exact i0 s hfk (by omega) (by omega)
  ·have h3:=(hv.dv.c j hj _ (zaE (show k<(gD D j).cs.length by omega) [])).1
   have:=is k (by omega) s
   rw[Nat.add_comm 1 k] at this;exact this hfk (by omega) (by rw[List.length_append];omega)
 | op V o n kids T t h12 h13 h7 h8 hk' ht h0 ih =>
  intro s hf hs hb;obtain⟨s,rfl⟩:∃j,s=j+1:=⟨s-1,by omega⟩
  obtain⟨_,_,_,hk⟩:=zd3 hf;rw[zlq,eqf h12,Bool.not_false,Bool.true_or,Bool.true_and,List.all_eq_true];intro c hc;obtain⟨k,hkl,rfl⟩:=List.getElem_of_mem hc;rw[show kids[k]=kids.getD k [] by simp[List.getD,hkl]]
  have hlt:=zaO hkl (o:=o) (n:=n)
  exact ih k hkl s (hk _ (zaE hkl [])) (by omega) (by omega)
theorem zxW {n:Int} (h:¬zjr D n<0):0≤n∧n≤1000:=by
 rcases zf1 (D:=D) n with h0|⟨j,i,hj,he,hc,hi,hf⟩
 ·omega
 have h1:=zh0 hv.dv.cs j (by omega)
 have h2:=hv.dv.cs j hj
 have h3:=hv.dv.len
 omega
theorem zyd {V:List Int}{x:List AC}{t:Int} (h:HT D R V x t):V.length+3*cS x≤100000→Fit .expr x:=by
 induction h with
 | var V n kids hk h =>
  intro hl;refine zal (by omega) (by omega) (by omega) (fun c hc=>?_)
  rw[List.length_eq_zero_iff.1 hk] at hc;cases hc
 | bind V kids t0 t hl h0 h1 h2 i1 i2 =>
  intro hb;have l0:=zaO (show 0<kids.length by omega) (o:=13) (n:=0)
  have l1:=zaO (show 1<kids.length by omega) (o:=13) (n:=0)
  have g1:=i1 (by omega)
  have g2:=i2 (by rw[List.length_append,List.length_singleton];omega)
  refine zal (by omega) (by omega) (by omega) (fun c hc=>?_)
  obtain⟨k,hkl,rfl⟩:=List.getElem_of_mem hc;rw[show kids[k]=kids.getD k [] by simp[List.getD,hkl]]
  rcases(by omega:k=0∨k=1) with rfl|rfl
  ·exact g1
  ·exact g2
 | ifz V kids t hl h0 h1 h2 i0 i1 i2 =>
  intro hb;have l0:=zaO (show 0<kids.length by omega) (o:=7) (n:=0)
  have l1:=zaO (show 1<kids.length by omega) (o:=7) (n:=0)
  have l2:=zaO (show 2<kids.length by omega) (o:=7) (n:=0)
  have g0:=i0 (by omega)
  have g1:=i1 (by omega)
  have g2:=i2 (by omega)
  refine zal (by omega) (by omega) (by omega) (fun c hc=>?_)
  obtain⟨k,hkl,rfl⟩:=List.getElem_of_mem hc;rw[show kids[k]=kids.getD k [] by simp[List.getD,hkl]]
  rcases(by omega:k=0∨k=1∨k=2) with rfl|rfl|rfl
  ·exact g0
  ·exact g1
  ·exact g2
 | mtch V kids j n t hn hj hc hl h0 hs' i0 is =>
  intro hb;have hcs:=zbv 8 n kids
  have hl4:=hv.dv.len
  have l0:=zaO (show 0<kids.length by omega) (o:=8) (n:=n)
  have g0:=i0 (by omega)
  refine zal (by omega) (by omega) (by omega) (fun c hc=>?_)
  obtain⟨k,hkl,rfl⟩:=List.getElem_of_mem hc;rw[show kids[k]=kids.getD k [] by simp[List.getD,hkl]]
  rcases k with _|k
  ·exact g0
  ·have h3:=(hv.dv.c j hj _ (zaE (show k<(gD D j).cs.length by omega) [])).1
   have l1:=zaO (show k+1<kids.length by omega) (o:=8) (n:=n)
   have:=is k (by omega)
   rw[Nat.add_comm 1 k] at this;exact this (by rw[List.length_append];omega)
 | op V o n kids T t h12 h13 h7 h8 hk' ht h0 ih =>
  intro hb;have hcs:=zbv o n kids
  have hR:=hv.rl
  obtain⟨ho,hn⟩:(0≤o∧o≤11)∧(-1000≤n∧n≤1000):=by
   subst ht;unfold zmp at h0;split at h0
   ·split at h0
    ·omega
    ·exact zeU h0
   split at h0
   ·split at h0
    ·omega
    ·exact zeU h0
   split at h0
   ·split at h0
    ·omega
    ·exact zeU h0
   split at h0
   ·split at h0
    ·exact zeU h0
    ·rename_i hc
     have:=zxW hv hc
     omega
   split at h0
   ·split at h0
    ·omega
    ·exact zeU h0
   split at h0
   ·split at h0
    ·omega
    ·exact zeU h0
   split at h0
   ·split at h0
    ·omega
    ·exact zeU h0
   ·exact zeU h0
  refine zal (by omega) (by omega) (by omega) (fun c hc=>?_)
  obtain⟨k,hkl,rfl⟩:=List.getElem_of_mem hc;rw[show kids[k]=kids.getD k [] by simp[List.getD,hkl]]
  have l1:=zaO hkl (o:=o) (n:=n)
  exact ih k hkl (by omega)
end
end
section
open Go Go.RowKit
theorem zuj {x:List AC}{o m:Int}{ks:List (List AC)} (hx:x=[.int o,.int m,.sl 3 ks]) (a b:Int) (s:Nat):∃o' m' ks',shr a b s x=[.int o',.int m',.sl 3 ks']:=by
 subst hx;cases s <;> exact⟨_,_,_,rfl⟩
theorem zur {xs:List (List AC)}{i:Nat} (h:i<xs.length):xs.drop i=xs.getD i []::xs.drop (i+1):=by
 rw[List.drop_eq_getElem_cons h];simp[List.getD,h]
section
variable {D:List DM}{R:List PM} (hv:CP D R)
include hv
end
end
section
open Go Go.RowKit
section
variable {D:List DM}{R:List PM} (hv:CP D R)
include hv
end
end
section
open Go Go.RowKit
section
variable {D:List DM}{R:List PM} (hv:CP D R)
theorem zyP (m:Int) (k:Nat) (h:k≠1):zcl D 13 m k=0:=by
 unfold zcl;rw[if_neg (fun x=>h x.2),if_neg (fun x=>absurd x.1 (by decide))]
theorem zvn {j k:Nat} (h:0<k):zcl D 8 ((j:Int)+1) k=((gD D j).cs.getD (k-1) []).length:=by
 unfold zcl;rw[if_neg (fun x=>absurd x.1 (by decide)),if_pos ⟨rfl,h⟩,show((j:Int)+1-1).toNat=j by omega]
theorem zqb {o:Int} (m:Int) (k:Nat) (h13:o≠13) (h8:o≠8):zcl D o m k=0:=by
 unfold zcl;rw[if_neg (fun x=>h13 x.1),if_neg (fun x=>h8 x.1)]
def zzy (D:List DM) (o m:Int) (k:Nat):Prop:=(o=13→k<2)∧(o=8→0<k→∃j:Nat,m=(j:Int)+1∧j<D.length∧k-1<(gD D j).cs.length)
include hv
theorem zDi {o m:Int}{k:Nat} (hk:k≤1000) (h:zzy D o m k) (kids:List (List AC)):zlI [.cell (.sl 3 (zaf D)),.agg [.int o,.int m,.sl 3 kids],.cell (.int (k:Int))]=rI ((zcl D o m k:Nat):Int):=by
 have hD:=hv.dv.len
 by_cases h13:o=13
 ·subst h13
  by_cases k1:k=1
  ·subst k1;exact zd7 (zac rfl (zac rfl rfl))
  ·rw[zyP m k k1]
   exact zd7 (zac rfl (zaa (eqf (by omega)) (zaa rfl rfl)))
 by_cases h8:o=8
 ·subst h8
  by_cases k0:k=0
  ·subst k0;exact zd7 (zaa rfl (zac rfl (zaa rfl rfl)))
  obtain⟨j,rfl,hj,hk'⟩:=h.2 rfl (by omega)
  have w1:zae ((j:Int)+1-1)=(j:Int):=by rw[wr (by omega) (by omega)];omega
  have w2:zae ((k:Int)-1)=((k-1:Nat):Int):=by rw[wr (by omega) (by omega)];omega
  refine zd7 (zaa rfl (zac rfl (zac (decide_eq_true (by omega)) (za5 (k:=j) w1 hj (zhP (k:=k-1) w2 hk' ?_)))))
  rw[zab,zvn (by omega)]
 rw[zqb m k h13 h8];exact zd7 (zaa (eqf h13) (zaa (eqf h8) rfl))
theorem zES {o m:Int}{k n:Nat} (hk:k≤1000) (hn:n≤100000) (h:zzy D o m k) (kids:List (List AC)):zlV [.agg [.sl 3 (zaf D),.sl 5 (zak R)],.agg [.int o,.int m,.sl 3 kids],.cell (.int (k:Int)),.cell (.int (n:Int))]=rI ((n+zcl D o m k:Nat):Int):=by
 have hD:=hv.dv.len
 by_cases k0:k=0
 ·subst k0
  have e:zcl D o m 0=0:=by
   unfold zcl;rw[if_neg (fun x=>absurd x.2 (by decide)),if_neg (fun x=>absurd x.2 (by decide))]
  rw[e];exact zfQ (zac rfl rfl)
 by_cases h13:o=13
 ·subst h13
  have:=h.1 rfl
  obtain rfl:k=1:=by omega
  refine zfQ (zaa rfl (zac rfl ?_))
  rw[wr (by omega) (by omega)]
  rfl
 by_cases h8:o=8
 ·subst h8
  obtain⟨j,rfl,hj,hk'⟩:=h.2 rfl (by omega)
  have w2:zae ((k:Int)-1)=((k-1:Nat):Int):=by rw[wr (by omega) (by omega)];omega
  have hc:=zsO hv.dv ((j:Int)+1)
  rw[if_pos (by omega),show((j:Int)+1).toNat-1=j by omega] at hc
  have hf:=zh3 hv.dv ((zbG (D.take j)+(k-1):Nat):Int)
  obtain⟨g1,g2⟩:=zr7 hj hk';rw[g1,g2,if_neg (by omega)] at hf
  have h3:=(hv.dv.c j hj _ (zaE hk' [])).1
  refine zfQ (zaa (eqf (by omega)) (zaa rfl (zac rfl (zav hc (zjV (k:=k-1) w2 (by rw[zla];exact hk') ?_)))))
  rw[zuJ hk'];refine zav hf ?_
  rw[zab,wr (by omega) (by omega),zvn (by omega)]
  rfl
 rw[zqb m k h13 h8];exact zfQ (zaa (eqf (by omega)) (zaa (eqf h13) (zaa (eqf h8) rfl)))
structure FdK (D:List DM) (R:List PM) (V:List Int) (s:Nat) (o m:Int) (kids:List (List AC)) (k:Nat):Prop where
 bd:zzy D o m k
 sh:∃o' m' ks,kids.getD k []=[.int o',.int m',.sl 3 ks]
 sf:∃o' m' ks,fd D s (V.length+zcl D o m k) (kids.getD k [])=[.int o',.int m',.sl 3 ks]
 i:zqJ [.cell (.sl 3 (zaf D)),.agg (kids.getD k []),.cell (.int ((V.length+zcl D o m k:Nat):Int))]=some (.v (.agg (fd D s (V.length+zcl D o m k) (kids.getD k []))))
 s:ztQ [.agg [.sl 3 (zaf D),.sl 5 (zak R)],.agg (kids.getD k []),.cell (.int ((V.length+zcl D o m k:Nat):Int))]=some (.v (.agg (fd D s (V.length+zcl D o m k) (kids.getD k []))))
end
end
section
open Go Go.RowKit
section
variable {D:List DM}{R:List PM}
theorem FdK.of {V W:List Int}{s:Nat}{o m:Int}{kids:List (List AC)}{k:Nat}{t:Int} (hbd:zzy D o m k) (hW:W.length=V.length+zcl D o m k) (hk:HT D R W (kids.getD k []) t) (hf:HT D R W (fd D s W.length (kids.getD k [])) t)
  (hi:zqJ [.cell (.sl 3 (zaf D)),.agg (kids.getD k []),.cell (.int (W.length:Int))]=some (.v (.agg (fd D s W.length (kids.getD k []))))∧ztQ [.agg [.sl 3 (zaf D),.sl 5 (zak R)],.agg (kids.getD k []),.cell (.int (W.length:Int))]=some (.v (.agg (fd D s W.length (kids.getD k []))))):FdK D R V s o m kids k:=by
 rw[hW] at hf hi;exact⟨hbd,⟨_,_,_,zfC hk⟩,⟨_,_,_,zfC hf⟩,hi.1,hi.2⟩
end
end
section
open Go Go.RowKit
theorem zg5 {ρ:Type}{r:ρ}{x:Option AV}{a0 a1:List (List AC)}{b:Bool} (h:x=some (.tup [.agg [.sl 3 a0,.sl 5 a1],.cell (.bool b)])) {K:Fn (Option ρ) (za1 [(true,[.sl 3 [],.sl 5 []]),(false,[.bool false])])} (h2:(K:List (List AC)→List (List AC)→Bool→Option ρ) a0 a1 b=some r):zaC x true [(true,[.sl 3 [],.sl 5 []]),(false,[.bool false])] K=some r:=by rw[h];exact h2
theorem zrJ {cs:List (List Int)}{i:Nat} (h:i<cs.length):zbZ (cs.take (i+1))=zbZ (cs.take i)++[[.sl 1 (zad (cs.getD i []))]]:=by
 rw[List.take_succ_eq_append_getElem h,show cs[i]=cs.getD i [] by simp[List.getD,h]]
 simp[zbZ,zDl]
theorem zsC {D:List DM}{k:Nat} (h:k<D.length):zaf (D.take (k+1))=zaf (D.take k)++[[.int (gD D k).f,.int (gD D k).t,.sl 1 (zbZ (gD D k).cs)]]:=by
 rw[List.take_succ_eq_append_getElem h,zl3 h];simp[zaf,zl5]
theorem zuA {R:List PM}{k:Nat} (h:k<R.length):zak (R.take (k+1))=zak (R.take k)++[[.sl 1 (zad (gP R k).ps),.int (gP R k).r,.int (gP R k).o,.int (gP R k).n,.sl 3 (gP R k).kids]]:=by
 rw[List.take_succ_eq_append_getElem h,zl7 h];simp[zak,pmC]
section
variable {D:List DM}{R:List PM}
theorem zwu (hv:DV D):zkn [.cell (.sl 3 (zaf D))]=some (.v (.cell (.sl 3 (zaf D)))):=by
 have hD:=hv.len
 have key:∀q k:Nat,k+q=D.length→zeE (zaf (D.take k)) (zaf D) (((zaf D).length:Nat):Int) (k:Int)=some (.v (.cell (.sl 3 (zaf D)))):=by
  intro q;induction q with
  | zero =>
   intro k hk;refine zh2 (zaa (decide_eq_false (by rw[zaU];omega)) ?_)
   rw[List.take_of_length_le (by omega)]
  | succ q ih =>
   intro k hk;have hlt:k<D.length:=by omega
   have h3:=hv.cs k hlt
   have hn:=ih (k+1) (by omega)
   rw[zsC hlt] at hn;have inner:∀p i:Nat,i+p=(gD D k).cs.length→zel (zaf (D.take k)) (gD D k).f (gD D k).t (zbZ ((gD D k).cs.take i)) (zaf D) (((zaf D).length:Nat):Int) (k:Int) (zbZ (gD D k).cs) (((zbZ (gD D k).cs).length:Nat):Int) (i:Int)=some (.v (.cell (.sl 3 (zaf D)))):=by
    intro p;induction p with
    | zero =>
     intro i hi;refine zif (zaa (decide_eq_false (by rw[zaK];omega)) (zbs (by simp[zaf];omega) ?_))
     rw[show(gD D k).cs.take i=(gD D k).cs from List.take_of_length_le (by omega),wrk (by unfold zaI;omega)]
     exact hn
    | succ p ih2 =>
     intro i hi;have hlti:i<(gD D k).cs.length:=by omega
     have hc3:=(hv.c k hlt _ (zaE hlti [])).1
     have hn2:=ih2 (i+1) (by omega)
     rw[zrJ hlti] at hn2;refine zif (zac (decide_eq_true (by rw[zaK];omega)) (zhP (k:=i) rfl hlti (zav (znU _ (by omega)) (zbs (by simp[zbZ];omega) ?_))))
     rw[wrk (by unfold zaI;omega)]
     exact hn2
   exact zh2 (zac (decide_eq_true (by rw[zaU];omega)) (za5 (k:=k) rfl hlt (inner (gD D k).cs.length 0 (by omega))))
 exact zo3 (key D.length 0 (by omega))
theorem zwp (hv:DV D):zks [.cell (.sl 3 (zaf D))]=some (.v (.cell (.sl 3 (zaf D)))):=by
 have hD:=hv.len
 have key:∀q k:Nat,k+q=D.length→zep (zaf D) (zaf (D.take k)) (k:Int)=some (.v (.cell (.sl 3 (zaf D)))):=by
  intro q;induction q with
  | zero =>
   intro k hk;refine zir (zaa (decide_eq_false (by rw[zaU];omega)) ?_)
   rw[List.take_of_length_le (by omega)]
  | succ q ih =>
   intro k hk;have hlt:k<D.length:=by omega
   have h3:=hv.cs k hlt
   have hn:=ih (k+1) (by omega)
   rw[zsC hlt] at hn;have inner:∀p i:Nat,i+p=(gD D k).cs.length→zeH (zaf D) (zaf (D.take k)) (k:Int) (zbZ ((gD D k).cs.take i)) (i:Int)=some (.v (.cell (.sl 3 (zaf D)))):=by
    intro p;induction p with
    | zero =>
     intro i hi;refine zim (za5 (k:=k) rfl hlt (zaa (decide_eq_false (by rw[zaK];omega)) (za5 (k:=k) rfl hlt (za5 (k:=k) rfl hlt (zbs (by simp[zaf];omega) ?_)))))
     rw[show(gD D k).cs.take i=(gD D k).cs from List.take_of_length_le (by omega),wrk (by unfold zaI;omega)]
     exact hn
    | succ p ih2 =>
     intro i hi;have hlti:i<(gD D k).cs.length:=by omega
     have hc3:=(hv.c k hlt _ (zaE hlti [])).1
     have hn2:=ih2 (i+1) (by omega)
     rw[zrJ hlti] at hn2;refine zim (za5 (k:=k) rfl hlt (zac (decide_eq_true (by rw[zaK];omega)) (za5 (k:=k) rfl hlt (zhP (k:=i) rfl hlti (zav (znQ _ (by omega)) (zbs (by simp[zbZ];omega) ?_))))))
     rw[wrk (by unfold zaI;omega)]
     exact hn2
   exact zir (zac (decide_eq_true (by rw[zaU];omega)) (inner (gD D k).cs.length 0 (by omega)))
 exact zoQ (key D.length 0 (by omega))
def okB (R:List PM):Bool:=R.all fun x=>decide (cS (zaH x)≤29)
def wbR (D:List DM) (R:List PM) (b:Bool):AV:=bif b then .tup [.agg [.sl 3 (zaf D),.sl 5 (zak R)],.cell (.bool true)] else .tup [.agg [.sl 3 [],.sl 5 []],.cell (.bool false)]
theorem okB_iff:okB R=true↔∀k,k<R.length→cS (zaH (gP R k))≤29:=by
 unfold okB;rw[List.all_eq_true];constructor
 ·intro h k hk
  have:=h _ (zf2 hk)
  simpa using this
 ·intro h x hx
  obtain⟨k,hk,rfl⟩:=List.getElem_of_mem hx;rw[zl7 hk]
  simpa using h k hk
structure Wbs (D:List DM) (R R':List PM):Prop where
 cp:CP D R
 sg:zlY R R'
 fit:∀k,k<R.length→Fit .expr (zaH (gP R' k))∧cS (zaH (gP R' k))≤20000
theorem znt {R':List PM}{k:Nat} (h:k<R'.length):(R'.map zaH).getD k []=[.int (gP R' k).o,.int (gP R' k).n,.sl 3 (gP R' k).kids]:=by
 simp[List.getD,h,gP,zaH]
theorem zvW {R':List PM}{k:Nat} (h:k<R'.length):okB (R'.drop k)=(decide (cS (zaH (gP R' k))≤29)&&okB (R'.drop (k+1))):=by
 unfold okB;rw[List.drop_eq_getElem_cons h,List.all_cons,zl7 h]
theorem zvt {R':List PM} (h:Wbs D R R'):zi0 [.agg [.sl 3 (zaf D),.sl 5 (zak R)],.cell (.sl 3 (R'.map zaH))]=some (wbR D R' (okB R')):=by
 have hR:=h.cp.rl
 have hl:=h.sg.1
 have key:∀q k:Nat,k+q=R.length→zd6 (R'.map zaH) [] [] (zaf D) (zak (R'.take k)) (zak R) (((zak R).length:Nat):Int) (k:Int)=some (wbR D R' (okB (R'.drop k))):=by
  intro q;induction q with
  | zero =>
   intro k hk;refine zhc (zaa (decide_eq_false (by rw[zaA];omega)) ?_)
   rw[List.take_of_length_le (by omega),List.drop_eq_nil_of_le (by omega)]
   rfl
  | succ q ih =>
   intro k hk;have hlt:k<R.length:=by omega
   have hlt':k<R'.length:=by omega
   obtain⟨hf,hc⟩:=h.fit k hlt;have hps:=(h.cp.ps k hlt).1
   have hs:=h.sg.2 k
   rw[zvW hlt'];refine zhc (zac (decide_eq_true (by rw[zaA];omega)) (zaB (k:=k) rfl hlt (zbu (by simpa using hlt') (znt hlt') (zar (zqm hf) ?_))))
   rw[zmN];rcases hd:decide (cS (zaH (gP R' k))≤29) with _|_
   ·have hd':decide (cS [.int (gP R' k).o,.int (gP R' k).n,.sl 3 (gP R' k).kids]≤29)=false:=hd
    rw[hd'];exact zac rfl rfl
   ·have hd':decide (cS [.int (gP R' k).o,.int (gP R' k).n,.sl 3 (gP R' k).kids]≤29)=true:=hd
    rw[hd'];refine zaa rfl (zav (znU _ (by omega)) (zbu (by simpa using hlt') (znt hlt') (zbs (by simp[zak];omega) ?_)))
    rw[wrk (by unfold zaI;omega)]
    have hn:=ih (k+1) (by omega)
    rw[zuA hlt',hs.1,hs.2] at hn;exact hn
 refine zoh (zav (zwu h.cp.dv) ?_)
 exact key R.length 0 (by omega)
theorem zvb {R':List PM} (h:Wbs D R R'):ziY [.agg [.sl 3 (zaf D),.sl 5 (zak R)],.cell (.sl 3 (R'.map zaH))]=some (wbR D R' (okB R')):=by
 have hR:=h.cp.rl
 have hl:=h.sg.1
 have key:∀q k:Nat,k+q=R.length→zdQ (R'.map zaH) (zaf D) (zak R) [] [] (zaf D) (zak (R'.take k)) (k:Int)=some (wbR D R' (okB (R'.drop k))):=by
  intro q;induction q with
  | zero =>
   intro k hk;refine zhj (zaa (decide_eq_false (by rw[zaA];omega)) ?_)
   rw[List.take_of_length_le (by omega),List.drop_eq_nil_of_le (by omega)]
   rfl
  | succ q ih =>
   intro k hk;have hlt:k<R.length:=by omega
   have hlt':k<R'.length:=by omega
   obtain⟨hf,hc⟩:=h.fit k hlt;obtain⟨_,_,_,hkk⟩:=zd3 hf;have hcs:cS (zaH (gP R' k))=(gP R' k).kids.length+rsS (gP R' k).kids:=zbv _ _ _
   have hps:=(h.cp.ps k hlt).1
   have hs:=h.sg.2 k
   rw[zvW hlt'];refine zhj (zac (decide_eq_true (by rw[zaA];omega)) (zbu (by simpa using hlt') (znt hlt') (zar (znr hf) ?_)))
   rw[zmN];rcases hd:decide (cS (zaH (gP R' k))≤29) with _|_
   ·have hd':decide (cS [.int (gP R' k).o,.int (gP R' k).n,.sl 3 (gP R' k).kids]≤29)=false:=hd
    rw[hd'];exact zac rfl rfl
   ·have hd':decide (cS [.int (gP R' k).o,.int (gP R' k).n,.sl 3 (gP R' k).kids]≤29)=true:=hd
    rw[hd'];refine zaa rfl (zaB (k:=k) rfl hlt (zav (znQ _ (by omega)) (zaB (k:=k) rfl hlt (zbu (by simpa using hlt') (znt hlt') (zag (zrV hkk (by omega)) (zbs (by simp[zak];omega) ?_))))))
    rw[wrk (by unfold zaI;omega)]
    have hn:=ih (k+1) (by omega)
    rw[zuA hlt',hs.1,hs.2] at hn;exact hn
 refine znS (zav (zwp h.cp.dv) ?_)
 exact key R.length 0 (by omega)
theorem zu3 (hv:DV D):ziH [.cell (.sl 3 (zaf D)),.cell (.sl 3 (zaf D))]=rB true:=by
 have hD:=hv.len
 have key:∀q k:Nat,k+q=D.length→zdZ (zaf D) (zaf D) (k:Int)=rB true:=by
  intro q;induction q with
  | zero=>intro k hk;exact zhf (zaa (decide_eq_false (by rw[zaU];omega)) rfl)
  | succ q ih =>
   intro k hk;have hlt:k<D.length:=by omega
   have h3:=hv.cs k hlt
   have hn:=ih (k+1) (by omega)
   have inner:∀p i:Nat,i+p=(gD D k).cs.length→zd0 (zaf D) (zaf D) (k:Int) (i:Int)=rB true:=by
    intro p;induction p with
    | zero =>
     intro i hi;refine zhk (za5 (k:=k) rfl hlt (zaa (decide_eq_false (by rw[zaK];omega)) ?_))
     rw[wrk (by unfold zaI;omega)]
     exact hn
    | succ p ih2 =>
     intro i hi;have hlti:i<(gD D k).cs.length:=by omega
     have hc3:=(hv.c k hlt _ (zaE hlti [])).1
     refine zhk (za5 (k:=k) rfl hlt (zac (decide_eq_true (by rw[zaK];omega)) (za5 (k:=k) rfl hlt (zhP (k:=i) rfl hlti (za5 (k:=k) rfl hlt (zhP (k:=i) rfl hlti (zan (zvc _ (by omega)) (zaa rfl ?_))))))))
     rw[wrk (by unfold zaI;omega)]
     exact ih2 (i+1) (by omega)
   exact zhf (zac (decide_eq_true (by rw[zaU];omega)) (za5 (k:=k) rfl hlt (za5 (k:=k) rfl hlt (zaa (nef rfl) (za5 (k:=k) rfl hlt (za5 (k:=k) rfl hlt (zaa (nef rfl) (za5 (k:=k) rfl hlt (za5 (k:=k) rfl hlt (zaa (nef rfl) (inner (gD D k).cs.length 0 (by omega))))))))))))
 exact zn9 (zaa (nef rfl) (key D.length 0 (by omega)))
theorem zmC (hv:DV D) (hl:R.length≤4) (h:∀k,k<R.length→(gP R k).ps.length≤3∧Fit .expr (zaH (gP R k))∧cS (zaH (gP R k))≤1000):zaJ [.agg [.sl 3 (zaf D),.sl 5 (zak R)],.agg [.sl 3 (zaf D),.sl 5 (zak R)]]=rB true:=by
 have key:∀q k:Nat,k+q=R.length→zc9 (zaf D) (zak R) (zaf D) (zak R) (k:Int)=rB true:=by
  intro q;induction q with
  | zero=>intro k hk;exact zgf (zaa (decide_eq_false (by rw[zaA];omega)) rfl)
  | succ q ih =>
   intro k hk;have hlt:k<R.length:=by omega
   obtain⟨h1,h2,h3⟩:=h k hlt;have g:=zCb 1001 _ h2 (by omega) (by omega)
   refine zgf (zac (decide_eq_true (by rw[zaA];omega)) (zaB (k:=k) rfl hlt (zaB (k:=k) rfl hlt (zan (zvc _ (by omega)) (zaa rfl (zaB (k:=k) rfl hlt (zaB (k:=k) rfl hlt (zaa (nef rfl) (zaB (k:=k) rfl hlt (zaB (k:=k) rfl hlt (zan g (zaa rfl ?_))))))))))))
   rw[wrk (by unfold zaI;omega)]
   exact ih (k+1) (by omega)
 exact zmZ (zan (zu3 hv) (zaa rfl (zaa (nef rfl) (key R.length 0 (by omega)))))
theorem zji:zaJ [.agg [.sl 3 [],.sl 5 []],.agg [.sl 3 [],.sl 5 []]]=rB true :=
 zmC (D:=[]) (R:=[]) ⟨by simp,(fun k h=>by cases h),(fun k h=>by cases h),(fun k h=>by cases h)⟩ (by simp) (fun k h=>by cases h)
end
end
end Go.Proofs.YtkgbadeobdbinaaGreat
