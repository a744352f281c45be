/- Generic texts and models for the proofs of this seat: part 20. -/
import Derived.Test.YtcpcagdialnbeaaY19
import Derived.Test.YtcpcagdialnbeaaProg
set_option linter.unusedVariables false
set_option linter.unusedSimpArgs false
namespace Go.Proofs.Ytcpcagdialnbeaa
section
open Go Go.RowKit
abbrev Rg:=Nat×Array Oper×Bool
def zt0 (id:Nat):Code→Option Rg
 | .region i ops d=>bif Nat.beq i id then some (i,ops,d) else none
 | .seq a b=>match zt0 id a with
  | some r=>some r
  | none=>zt0 id b
 | .cond _ a b=>match zt0 id a with
  | some r=>some r
  | none=>zt0 id b
 | .block _ b=>zt0 id b
 | .loop b=>zt0 id b
 | _=>none
def zif:List Rg→Code→Code
 | [],c=>c
 | r::rs,c=>.seq (.region r.1 r.2.1 r.2.2) (zif rs c)
section
variable {P:Program}{L:Lay}{S:Sig}{T:Nat→Bool}{call:Orc}{ct:TOrc}{Own:Nat→Prop}{bb:Nat}
theorem zwg [Home] (hP:P.follows .mixedOrders=true) (hL:LayOk P L) (hC:za4 P S call) (hT:zcR P S T ct):∀(rs:List Rg) (n:Nat) (σ:List AV×List AC) (e:Xt) (σ':List AV×List AC) (st:Stt) (O:Out),
  zaS L T call ct n (zif rs .skip) σ=some (e,σ')→zb2 (zbu T) L S (zif rs .skip) st=some O →
  ∀(p:Stb) (w:World) (a:Act),InvC st p w a.tmps σ Own bb→a.defers=[]→∀(Q:Exit→Act→World→Prop) (y:Code),
  (∀st' a' w' p',e=.norm→O.norm=some st'→InvC st' p' w' a'.tmps σ' Own bb→EvoC Own bb p w p' w'→a'.defers=[]→y.wp P Q a' w')→(zif rs y).wp P Q a w
 | [],n,σ,e,σ',st,O,hv,ht,p,w,a,hI,hd,Q,y,h=>by
  cases n with
  | zero=>cases hv
  | succ n =>
   simp only[zif,zaS,Option.some.injEq,Prod.mk.injEq] at hv;obtain⟨rfl,rfl⟩:=hv;cases ht;exact h st a w p rfl rfl hI (EvoC.refl _ _ _ _) hd
 | r::rs,n,σ,e,σ',st,O,hv,ht,p,w,a,hI,hd,Q,y,h=>by
  cases n with
  | zero=>cases hv
  | succ n =>
   simp only[zif,zaS,zzOb] at hv;obtain⟨⟨e1,σ1⟩,h1,h2⟩:=hv;simp only[zif,zb2,zzOb] at ht;obtain⟨A,hA,ht⟩:=ht;have he1:e1=.norm:=by
    cases n with
    | zero=>cases h1
    | succ n =>
     simp only[zaS,zzOm,Prod.mk.injEq] at h1;obtain⟨_,_,e,_⟩:=h1;exact e.symm
   subst he1;simp only at h2;refine wp_seq (zpk hP hL hC hT n (.region r.1 r.2.1 r.2.2) σ .norm σ1 st A h1 (by simpa only [zb2] using hA) p w a hI hd _ fun st1 a1 w1 p1 ha1 hI1 hev1 hd1=>?_)
   have ha1':A.norm=some st1:=ha1
   rw[ha1'] at ht;simp only[zzOb] at ht;obtain⟨B,hB,hj⟩:=ht;refine zwg hP hL hC hT rs n σ1 e σ' st1 B h2 hB p1 w1 a1 hI1 hd1 Q y fun st2 a2 w2 p2 he ha2 hI2 hev2 hd2=>?_
   subst he;obtain⟨st',h3,h4⟩:=(zdq hj .norm).2 st2 ha2;refine h st' a2 w2 p2 rfl h3 ?_ (EvoC.trans hev1 hev2) hd2
   rcases h4 with rfl|h4
   ·exact hI2
   ·exact Le.c h4 hI2
end
theorem zxh [Home] {Y:CtxT}{S:Sig}{Own:Nat→Prop}{bb:Nat} (hP:Y.X.P.follows .mixedOrders=true) (hL:LayOk Y.X.P Y.X.L) (hC:za4 Y.X.P S (V Y.X.P Y.X.L Y.X.F Y.X.E)) (hA:zwe Y.X.P Y.X.L S Y.T Y.E) {rs:List Rg}{n:Nat}{o:Ov}{q:List AC}{r:AV×List AC}
  (he:evT Y n (.run (zif rs .skip)) [] o q=some r) {σ:List AV} (hl:σ.length=Y.X.fn.ntmps) (hag:AgO o σ) {st:Stt}{O:Out} (ht:zb2 (zbu Y.T) Y.X.L S (zif rs .skip) st=some O)
  {p:Stb}{w:World}{a:Act} (hI:InvC st p w a.tmps (σ,q) Own bb) (hd:a.defers=[]) (Q:Exit→Act→World→Prop) (y:Code)
  (h:∀st' a' w' p' σ' q',O.norm=some st'→zo7 Y.X.L Y.X.fn (.norm,(σ',q'))=some r→InvC st' p' w' a'.tmps (σ',q') Own bb→EvoC Own bb p w p' w'→a'.defers=[]→y.wp Y.X.P Q a' w'):(zif rs y).wp Y.X.P Q a w:=by
 have h1:=zcF n _ _ _ _ _ he σ hl hag
 simp only[zzOb] at h1;obtain⟨⟨e,σ',q'⟩,h1,h2⟩:=h1;unfold CtxT.vc at h1;obtain⟨m,h1⟩:=TVC_iff.1 h1;refine zwg hP hL hC (zoX hP hL hC hA m) rs m (σ,q) e (σ',q') st O h1 ht p w a hI hd Q y fun st' a' w' p' he hn hI' hev hd'=>?_
 subst he;exact h st' a' w' p' σ' q' hn h2 hI' hev hd'
end
section
open Go Go.RowKit
def ztY:Value→AV
 | .bool x=>.v (.cell (.bool x))
 | _=>.und
def zf1 (m:Array Value) (n:Nat) (o:List (Nat×AV)):List AV:=(List.range n).map fun t=>match o.lookup t with
 | some x=>x
 | none=>ztY (m.getD t undef)
theorem zds (m:Array Value) (n:Nat) (o:List (Nat×AV)):(zf1 m n o).length=n:=by simp[zf1]
theorem zd3 (m:Array Value) (n:Nat) (o:List (Nat×AV)) (t:Nat):VS.get {σ:=zf1 m n o,pe:=[]} t=if t<n then(match o.lookup t with
 | some x=>x
 | none=>ztY (m.getD t undef)) else .und:=by
 unfold VS.get zf1;by_cases h:t<n
 ·rw[if_pos h]
  simp[List.getD,h]
 ·rw[if_neg h]
  simp[List.getD,h]
theorem ztG (v:Value):zbH (ztY v)=false:=by cases v <;> rfl
theorem ztS (v:Value) (cs:List AC):ztY v≠.box cs:=by cases v <;> simp[ztY]
def stM (n:Nat):Stt:=⟨[],[],[],n,[],[]⟩
structure zrh (p:Stb) (w:World) (m:Array Value) (n:Nat) (o:List (Nat×AV)) (Own:Nat→Prop):Prop where
 lt:∀t x,o.lookup t=some x→t<n∧SR p w (m.getD t undef) x
 kind:∀t x,o.lookup t=some x→(∃v,x=.v v)∨∃cs c,x=.box cs∧m.getD t undef=.pointer (some ⟨c,0,none⟩)∧p c=0∧Own c
 apart:∀t t' cs cs' c,t≠t'→o.lookup t=some (.box cs)→o.lookup t'=some (.box cs')→m.getD t undef=.pointer (some ⟨c,0,none⟩)→m.getD t' undef≠.pointer (some ⟨c,0,none⟩)
theorem zrs [Home] {p:Stb}{w:World}{m:Array Value}{n:Nat}{o:List (Nat×AV)}{Own:Nat→Prop}{b:Nat}{q:List AC} (hs:m.size=n) (hk:zrh p w m n o Own) (hz:Zp p w) (hown:∀c,w.heap.size≤c→Own c) (h0:m.getD Home.hm undef=zaU b) (hT:TK p w Own b q) :
  InvC (stM n) p w m (zf1 m n o,q) Own b:=by
 have hrow:∀t,zbH (VS.get {σ:=zf1 m n o,pe:=[]} t)=false:=fun t=>by
  rw[zd3];split
  ·split
   ·rename_i x hx
    rcases hk.kind t x hx with ⟨v,rfl⟩|⟨cs,c,rfl,_⟩ <;> rfl
   ·exact ztG _
  ·rfl
 have hbox:∀t cs,VS.get {σ:=zf1 m n o,pe:=[]} t=.box cs→o.lookup t=some (.box cs):=fun t cs h=>by
  rw[zd3] at h;split at h
  ·split at h
   ·rename_i x hx
    rw[hx,h]
   ·exact absurd h (ztS _ _)
  ·cases h
 refine⟨⟨by rw[zds];exact hs,(zds _ _ _).symm,fun t ht=>(by cases ht),trivial,fun t=>⟨?_,fun q hq=>(by cases hq)⟩,hz,trivial,⟨fun _ _=>rfl,fun _ _ _ h=>(by cases h)⟩,hown,fun d cs h=>?_,fun d d' cs cs' c hd h1 h2 h3=>hk.apart d d' cs cs' c hd (hbox _ _ h1) (hbox _ _ h2) h3,
  fun d k r c h=>(by have:=hrow d;rw[h] at this;cases this),fun t d k r h=>(by have:=hrow t;rw[h] at this;cases this),⟨fun t d h=>(by have:=hrow t;rw[h] at this;cases this),fun d k r h=>(by have:=hrow d;rw[h] at this;cases this)⟩,fun _=>undef,
  ⟨fun q id h=>(by cases h),fun id k h=>(by cases h),fun id k b h=>(by cases h),fun id k id' k' b h=>(by cases h),fun q id k d k' r b h=>(by cases h)⟩⟩,h0,hT⟩
 ·rw[zd3]
  split
  ·split
   ·rename_i x hx
    exact(hk.lt t x hx).2
   ·cases e:m.getD t undef with
    | bool x=>exact .bool x
    | _=>intro c hc;cases hc
  ·rename_i hlt
   rw[Array.getD_eq_getD_getElem?,Array.getElem?_eq_none (by omega)]
   intro c hc;cases hc
 ·have hl:=hbox d cs h
  rcases hk.kind d _ hl with ⟨v,e⟩|⟨cs',c,e,h1,h2,h3⟩
  ·cases e
  ·have hsr:=(hk.lt d _ hl).2
   obtain⟨c',a,T,e1,e2,_⟩:=hsr;rw[h1] at e1;cases e1;exact⟨c,h1,h2,h3,(Array.getElem?_eq_some_iff.1 e2).1⟩
theorem zvG [Home] {m:Array Value}{n:Nat}{o:List (Nat×AV)}{b:Nat} (h0:m.getD Home.hm undef=zaU b) (hn:Home.hm<n) (hl:∀t x,o.lookup t=some x→t<n) (hz:o.lookup Home.hm=none):AgO ((Home.hm,.und)::o) (zf1 m n o):=by
 intro i y hy;have hg:=zd3 m n o i
 unfold VS.get at hg;simp only at hg;rw[hg];rw[zcT] at hy;split at hy
 ·rename_i e
  subst e;cases hy;rw[if_pos hn,hz];simp only[h0];rfl
 ·have hy':o.lookup i=some y:=by
   clear hg hl hz;induction o with
   | nil=>cases hy
   | cons e o ih =>
    rw[List.lookup_cons];obtain⟨j,z⟩:=e;rw[zcT] at hy;split at hy
    ·rename_i e
     subst e;cases hy;simp
    ·rename_i e
     rw[show(i==j)=false by simpa using fun h:i=j=>e h.symm]
     exact ih hy
  rw[if_pos (hl i y hy'),hy']
theorem ztn {m:Array Value}{n:Nat}{o:List (Nat×AV)}{b:Nat} (h0:m.getD 0 undef=zaU b) (hn:0<n) (hl:∀t x,o.lookup t=some x→t<n) (hz:o.lookup 0=none):AgO ((0,.und)::o) (zf1 m n o):=zvG h0 hn hl hz
theorem zzK {L:Lay}{fn:Func}{σ:List AV}{q q':List AC}{vs:List SV} (h:zo7 L fn (.norm,(σ,q))=some (.tup vs,q')):q=q'∧zeq L σ fn.results.toList=some vs:=by
 unfold zo7 at h;simp only[zzOm,Prod.mk.injEq] at h;obtain⟨ws,h1,h2,h3⟩:=h;refine⟨h3,?_⟩
 split at h2
 ·cases h2
 ·cases h2
  exact h1
theorem zk3 {L:Lay}{σ:List AV}:∀{rs:List ResultVar}{vs:List SV},zeq L σ rs=some vs→∀(i:Nat) (r:ResultVar) (v:SV),rs[i]?=some r→vs[i]?=some v→zhk L σ r=some v
 | [],vs,h,i,r,v,hr,_=>by simp at hr
 | r0::rs,vs,h,i,r,v,hr,hv=>by
  simp only[zeq,zzOb,zzOm] at h;obtain⟨v0,h0,vs',h1,rfl⟩:=h;cases i with
  | zero =>
   simp only[List.getElem?_cons_zero,Option.some.injEq] at hr hv;subst hr;subst hv;exact h0
  | succ i =>
   simp only[List.getElem?_cons_succ] at hr hv;exact zk3 h1 i r v hr hv
theorem zuW {L:Lay}{σ:List AV}{t ty:Nat}{cs:List AC} (h:zhk L σ (.cell t ty)=some (.agg cs)):σ.getD t .und=.box cs:=by
 simp only[zhk] at h;generalize σ.getD t .und=z at h
 cases z with
 | box cs' =>
  simp only[zzOb] at h;obtain⟨i,_,h⟩:=h;split at h
  ·unfold mkV at h
   split at h
   ·cases h;rfl
   ·split at h <;> cases h
  ·cases h
 | _=>cases h
theorem zzP {L:Lay}{σ:List AV}{t:Nat}{k:Int} (h:zhk L σ (.tmp t)=some (.cell (.int k))):σ.getD t .und=.v (.cell (.int k)):=by
 simp only[zhk] at h;cases hz:σ.getD t .und with
 | v x=>rw[hz] at h;cases h;rfl
 | _ =>
  rw[hz] at h;simp only[zzOm] at h;obtain⟨_,_,h⟩:=h;cases h
theorem InvC.box [Home] {st:Stt}{p:Stb}{w:World}{m:Array Value}{σ:List AV}{q:List AC}{Own:Nat→Prop}{b:Nat} (h:InvC st p w m (σ,q) Own b) {d:Nat}{cs:List AC} (hd:σ.getD d .und=.box cs) :
  ∃c a T,m.getD d undef=.pointer (some ⟨c,0,none⟩)∧w.heap[c]?=some (.cells a T (0,0))∧RepL p w a.toList cs∧p c=0∧Own c∧c<w.heap.size∧c≠b:=by
 obtain⟨c,e,h1,h2,h3⟩:=h.1.box d cs hd;have hs:=(h.1.slots d).1
 rw[show VS.get {σ:=σ,pe:=[]} d=.box cs from hd] at hs;obtain⟨c',a,T,e1,e2,e3⟩:=hs;rw[e] at e1;cases e1;exact⟨c,a,T,e,e2,e3,h1,h2,h3,fun hcb=>h.2.2.not (hcb▸h2)⟩
theorem InvC.int [Home] {st:Stt}{p:Stb}{w:World}{m:Array Value}{σ:List AV}{q:List AC}{Own:Nat→Prop}{b:Nat} (h:InvC st p w m (σ,q) Own b) {d:Nat}{k:Int} (hd:σ.getD d .und=.v (.cell (.int k))):m.getD d undef=.int .i64 k:=by
 have hs:=(h.1.slots d).1
 rw[show VS.get {σ:=σ,pe:=[]} d=.v (.cell (.int k)) from hd] at hs;have hs':Rep p w (m.getD d undef) (.int k):=hs
 generalize m.getD d undef=v at hs'
 cases hs';rfl
theorem InvC.bool [Home] {st:Stt}{p:Stb}{w:World}{m:Array Value}{σ:List AV}{q:List AC}{Own:Nat→Prop}{b:Nat} (h:InvC st p w m (σ,q) Own b) {d:Nat}{k:Bool} (hd:σ.getD d .und=.v (.cell (.bool k))):m.getD d undef=.bool k:=by
 have hs:=(h.1.slots d).1
 rw[show VS.get {σ:=σ,pe:=[]} d=.v (.cell (.bool k)) from hd] at hs;have hs':Rep p w (m.getD d undef) (.bool k):=hs
 generalize m.getD d undef=v at hs'
 cases hs';rfl
end
section
open Go
def acS:AC→Nat
 | .int _=>0
 | .bool _=>0
 | .sl _ rows=>rows.length+rsS rows
where
 rsS:List (List AC)→Nat
  | []=>0
  | r::rs=>cS r+rsS rs
 cS:List AC→Nat
  | []=>0
  | c::cs=>acS c+cS cs
abbrev cS:=acS.cS
abbrev rsS:=acS.rsS
theorem zAZ:cS []=0:=by simp[cS,acS.cS]
theorem zxp (n:Int) (cs:List AC):cS (.int n::cs)=cS cs:=by simp[cS,acS.cS,acS]
theorem zCR (k:Nat) (r:List (List AC)) (cs:List AC):cS (.sl k r::cs)=r.length+rsS r+cS cs:=by simp[cS,acS.cS,acS,rsS]
theorem zaG:rsS []=0:=by simp[rsS,acS.rsS]
theorem zaJ (r:List AC) (rs:List (List AC)):rsS (r::rs)=cS r+rsS rs:=by simp[rsS,acS.rsS,cS]
theorem zxl {rs:List (List AC)}{k:Nat} (h:k<rs.length):rsS (rs.drop k)=cS (rs.getD k [])+rsS (rs.drop (k+1)):=by
 rw[List.drop_eq_getElem_cons h,zaJ];simp[List.getD,h]
theorem zkX {rs:List (List AC)}{r:List AC} (h:r∈rs):cS r≤rsS rs:=by
 induction rs with
 | nil=>cases h
 | cons x rs ih =>
  rw[zaJ];rcases List.mem_cons.1 h with rfl|h
  ·omega
  ·have:=ih h;omega
def zab (xs:List Int):List (List AC):=xs.map fun n=>[.int n]
theorem zac (xs:List Int):(zab xs).length=xs.length:=by simp[zab]
theorem zvy {xs:List Int}{k:Nat} (h:k<xs.length):(zab xs).getD k []=[.int xs[k]]:=by simp[zab,List.getD,h]
theorem zhm (xs ys:List Int):zab xs++zab ys=zab (xs++ys):=by simp[zab]
theorem zo6 (xs:List Int) (n:Nat):(zab xs).take n=zab (xs.take n):=by simp[zab]
def inI (n:Int):Prop:=-9223372036854775808≤n∧n≤9223372036854775807
def za9:Nat:=9223372036854775807
structure zde (xs:List Int):Prop where
 len:xs.length≤za9
 all:∀x∈xs,inI x
theorem wr {n:Int} (h1:-9223372036854775808≤n) (h2:n≤9223372036854775807):zaf n=n:=zzJ h1 h2
theorem wrk {k:Nat} (h:k<za9):zaf ((k:Int)+1)=((k+1:Nat):Int):=by
 unfold za9 at h;rw[wr (by omega) (by omega)]
 omega
section
variable {ρ:Type}{r:ρ}
theorem ztt {rows:List (List AC)}{k:Nat} (h:k<rows.length) {sh:List AC}{K:Fn (Option ρ) sh} (h2:zi4 sh (rows.getD k []) K=some r):zei rows (k:Int) sh K=some r:=by
 unfold zei ztN;rw[decide_eq_true (by omega),decide_eq_true (by omega)]
 exact h2
theorem zal {x:Option AV}{n:Int} (h:x=some (.v (.cell (.int n)))) {K:Fn (Option ρ) (zaW [(false,[.int 0])])} (h2:(K:Int→Option ρ) n=some r):zaz x false [(false,[.int 0])] K=some r:=by rw[h];exact h2
theorem zat {x:Option AV}{n:Bool} (h:x=some (.v (.cell (.bool n)))) {K:Fn (Option ρ) (zaW [(false,[.bool false])])} (h2:(K:Bool→Option ρ) n=some r):zaz x false [(false,[.bool false])] K=some r:=by rw[h];exact h2
theorem zaO {x:Option AV}{k:Nat}{l:List (List AC)} (h:x=some (.v (.cell (.sl k l)))) {K:Fn (Option ρ) (zaW [(false,[.sl k []])])} (h2:(K:List (List AC)→Option ρ) l=some r):zaz x false [(false,[.sl k []])] K=some r:=by
 rw[h];show(bif Nat.beq k k then _ else none)=_
 rw[Nat.beq_refl];exact h2
theorem zcL {l l':List (List AC)} (h:l.length+l'.length≤68719476736) {K:List (List AC)→Option ρ} (h2:K (l++l')=some r):ze8 l l' K=some r:=by
 unfold ze8 zgY;rw[decide_eq_true (by rw[List.length_append];exact h)]
 exact h2
theorem zuS {l:List (List AC)}{lo hi:Int} (h0:0≤lo) (h1:lo≤hi) (h2:hi≤l.length) {K:List (List AC)→Option ρ} (h3:K ((l.drop lo.toNat).take (hi.toNat-lo.toNat))=some r):zti l lo hi K=some r:=by
 unfold zti;rw[decide_eq_true ⟨h0,h1,h2⟩];exact h3
theorem zad {b:Bool}{x y:Option ρ} (h:b=true) (h2:x=some r):(bif b then x else y)=some r:=by rw[h];exact h2
theorem zaa {b:Bool}{x y:Option ρ} (h:b=false) (h2:y=some r):(bif b then x else y)=some r:=by rw[h];exact h2
theorem zC1 {rows:List (List AC)}{k:Nat} (h:k<rows.length) {a0:Int} (e:rows.getD k []=[.int a0]) {K:Fn (Option ρ) [.int 0]} (h2:(K:Int→Option ρ) a0=some r):zei rows (k:Int) [.int 0] K=some r:=ztt h (by rw[e];exact h2)
theorem zC6 {rows:List (List AC)}{k:Nat} (h:k<rows.length) {a0:List (List AC)} (e:rows.getD k []=[.sl 1 a0]) {K:Fn (Option ρ) [.sl 1 []]} (h2:(K:List (List AC)→Option ρ) a0=some r):zei rows (k:Int) [.sl 1 []] K=some r:=ztt h (by rw[e];exact h2)
theorem zaR {x:Option AV}{a0:List (List AC)} (h:x=some (.v (.agg [.sl 1 a0]))) {K:Fn (Option ρ) (zaW [(true,[.sl 1 []])])} (h2:(K:List (List AC)→Option ρ) a0=some r):zaz x false [(true,[.sl 1 []])] K=some r:=by rw[h];exact h2
theorem zqn {rows:List (List AC)}{k:Nat} (h:k<rows.length) {a0:Int}{a1:Int}{a2:List (List AC)} (e:rows.getD k []=[.int a0,.int a1,.sl 1 a2]) {K:Fn (Option ρ) [.int 0,.int 0,.sl 1 []]} (h2:(K:Int→Int→List (List AC)→Option ρ) a0 a1 a2=some r):zei rows (k:Int) [.int 0,.int 0,.sl 1 []] K=some r:=ztt h (by rw[e];exact h2)
theorem zcc {rows:List (List AC)}{k:Nat} (h:k<rows.length) {a0:Int}{a1:Int}{a2:List (List AC)} (e:rows.getD k []=[.int a0,.int a1,.sl 3 a2]) {K:Fn (Option ρ) [.int 0,.int 0,.sl 3 []]} (h2:(K:Int→Int→List (List AC)→Option ρ) a0 a1 a2=some r):zei rows (k:Int) [.int 0,.int 0,.sl 3 []] K=some r:=ztt h (by rw[e];exact h2)
theorem zdx {rows:List (List AC)} (h:0<rows.length) {a0:Int}{a1:Int}{a2:List (List AC)} (e:rows.getD 0 []=[.int a0,.int a1,.sl 3 a2]) {K:Fn (Option ρ) [.int 0,.int 0,.sl 3 []]} (h2:(K:Int→Int→List (List AC)→Option ρ) a0 a1 a2=some r):zei rows 0 [.int 0,.int 0,.sl 3 []] K=some r:=zcc h e h2
theorem zae {x:Option AV}{a0:Int}{a1:Int}{a2:List (List AC)} (h:x=some (.v (.agg [.int a0,.int a1,.sl 3 a2]))) {K:Fn (Option ρ) (zaW [(true,[.int 0,.int 0,.sl 3 []])])} (h2:(K:Int→Int→List (List AC)→Option ρ) a0 a1 a2=some r):zaz x false [(true,[.int 0,.int 0,.sl 3 []])] K=some r:=by rw[h];exact h2
theorem zsk {rows:List (List AC)}{k:Nat} (h:k<rows.length) {a0:List (List AC)}{a1:Int}{a2:Int}{a3:Int}{a4:List (List AC)} (e:rows.getD k []=[.sl 1 a0,.int a1,.int a2,.int a3,.sl 3 a4]) {K:Fn (Option ρ) [.sl 1 [],.int 0,.int 0,.int 0,.sl 3 []]} (h2:(K:List (List AC)→Int→Int→Int→List (List AC)→Option ρ) a0 a1 a2 a3 a4=some r):zei rows (k:Int) [.sl 1 [],.int 0,.int 0,.int 0,.sl 3 []] K=some r:=ztt h (by rw[e];exact h2)
theorem callFunc {x:Option AV}{a0:List (List AC)}{a1:Int}{a2:Int}{a3:Int}{a4:List (List AC)} (h:x=some (.v (.agg [.sl 1 a0,.int a1,.int a2,.int a3,.sl 3 a4]))) {K:Fn (Option ρ) (zaW [(true,[.sl 1 [],.int 0,.int 0,.int 0,.sl 3 []])])} (h2:(K:List (List AC)→Int→Int→Int→List (List AC)→Option ρ) a0 a1 a2 a3 a4=some r):zaz x false [(true,[.sl 1 [],.int 0,.int 0,.int 0,.sl 3 []])] K=some r:=by rw[h];exact h2
theorem zbo {xs:List Int}{k:Nat} (h:k<xs.length) {K:Fn (Option ρ) [.int 0]} (h2:(K:Int→Option ρ) xs[k]=some r):zei (zab xs) (k:Int) [.int 0] K=some r:=zC1 (by rw[zac];exact h) (zvy h) h2
end
inductive Ty where
 | con
 | decl
 | expr
 | func
 | prog
 | step
 | block
 | routine
 | normal
 | cell
 | instr
 | proc
 | image
 | frame
 | state
inductive Fit:Ty→List AC→Prop
 | con (fs:List Int) (h:zde fs):Fit .con [.sl 1 (zab fs)]
 | decl (f t:Int) (cons:List (List AC)) (hf:inI f) (ht:inI t) (hl:cons.length≤za9) (h:∀c∈cons,Fit .con c):Fit .decl [.int f,.int t,.sl 1 cons]
 | expr (o n:Int) (kids:List (List AC)) (ho:inI o) (hn:inI n) (hl:kids.length≤za9) (h:∀c∈kids,Fit .expr c):Fit .expr [.int o,.int n,.sl 3 kids]
 | func (ps:List Int) (r o n:Int) (kids:List (List AC)) (hp:zde ps) (hr:inI r) (h:Fit .expr [.int o,.int n,.sl 3 kids]):Fit .func [.sl 1 (zab ps),.int r,.int o,.int n,.sl 3 kids]
 | prog (ds fs:List (List AC)) (hd:ds.length≤za9) (hf:fs.length≤za9) (h1:∀d∈ds,Fit .decl d) (h2:∀f∈fs,Fit .func f):Fit .prog [.sl 3 ds,.sl 5 fs]
 | step (o n i:Int) (args:List Int) (kids:List (List AC)) (ho:inI o) (hn:inI n) (hi:inI i) (ha:zde args) (hl:kids.length≤za9) (h:∀b∈kids,Fit .block b):Fit .step [.int o,.int n,.int i,.sl 1 (zab args),.sl 2 kids]
 | block (steps:List (List AC)) (r:Int) (hr:inI r) (hl:steps.length≤za9) (h:∀s∈steps,Fit .step s):Fit .block [.sl 5 steps,.int r]
 | routine (ps lent:List Int) (r:Int) (steps:List (List AC)) (x:Int) (hp:zde ps) (hl:zde lent) (hr:inI r) (h:Fit .block [.sl 5 steps,.int x]):Fit .routine [.sl 1 (zab ps),.sl 1 (zab lent),.int r,.sl 5 steps,.int x]
 | normal (ds rs:List (List AC)) (hd:ds.length≤za9) (hr:rs.length≤za9) (h1:∀d∈ds,Fit .decl d) (h2:∀r∈rs,Fit .routine r):Fit .normal [.sl 3 ds,.sl 5 rs]
 | cell (c t:Int) (fs:List Int) (hc:inI c) (ht:inI t) (h:zde fs):Fit .cell [.int c,.int t,.sl 1 (zab fs)]
 | instr (o d n i:Int) (args jumps:List Int) (ho:inI o) (hd:inI d) (hn:inI n) (hi:inI i) (ha:zde args) (hj:zde jumps):Fit .instr [.int o,.int d,.int n,.int i,.sl 1 (zab args),.sl 1 (zab jumps)]
 | proc (ps lent:List Int) (r regs:Int) (code:List (List AC)) (hp:zde ps) (hl:zde lent) (hr:inI r) (hg:inI regs) (hc:code.length≤za9) (h:∀x∈code,Fit .instr x):Fit .proc [.sl 1 (zab ps),.sl 1 (zab lent),.int r,.int regs,.sl 6 code]
 | image (ds procs:List (List AC)) (hd:ds.length≤za9) (hp:procs.length≤za9) (h1:∀d∈ds,Fit .decl d) (h2:∀p∈procs,Fit .proc p):Fit .image [.sl 3 ds,.sl 5 procs]
 | frame (p a d:Int) (regs own held:List Int) (hp:inI p) (ha:inI a) (hd:inI d) (h1:zde regs) (h2:zde own) (h3:zde held):Fit .frame [.int p,.int a,.int d,.sl 1 (zab regs),.sl 1 (zab own),.sl 1 (zab held)]
 | state (s v c m:Int) (out:List Int) (heap frames:List (List AC)) (hs:inI s) (hv:inI v) (hc:inI c) (hm:inI m) (ho:zde out) (hh:heap.length≤za9) (hf:frames.length≤za9) (h1:∀x∈heap,Fit .cell x) (h2:∀x∈frames,Fit .frame x):Fit .state [.int s,.int v,.int c,.int m,.sl 1 (zab out),.sl 3 heap,.sl 6 frames]
theorem zaZ {α:Type}{l:List α}{k:Nat} (h:k<l.length) (d:α):l.getD k d∈l:=by simp[List.getD,List.getElem?_eq_getElem h]
end
section
open Go Go.RowKit
theorem zhh {p:Stb}{w w':World}{B k:Nat} (hu:∀j,p.ok B j→j=k) (h:Evo (·=B) (raP p B 0) w (raP p B 0) w') {v:Value}{c:AC} (hr:Rep p w v c) (ha:apC k c=true):Rep p w' v c:=by
 have h1:∀b,(raP p B 0) b=p b∨∀j,p.ok b j→j=k:=fun b=>by
  by_cases e:b=B
  ·subst e;exact .inr hu
  ·exact .inl (zlx e)
 have h2:∀b,p b=(raP p B 0) b∨∀j,(raP p B 0).ok b j→j=k:=fun b=>by
  rcases h1 b with e|e
  ·exact .inl e.symm
  ·exact .inr e
 exact((hr.low h1 rfl ha).evo h).low h2 rfl ha
theorem zpE {p:Stb}{w w':World}{B k:Nat} (hu:∀j,p.ok B j→j=k) (hB:p.ok B k) (hk:2≤k) (h:Evo (·=B) (raP p B 0) w (raP p B 0) w') {v:Value}{ns:List Nat} (hr:RepQ p w v (.sl 1 (ns.map fun(u:Nat)=>[.bool true,.int (u:Int)]))):RepQ p w' v (.sl 1 (ns.map fun(u:Nat)=>[.bool true,.int (u:Int)])):=by
 rcases hr with hr|⟨A,n,cap,e,hc,ms,hl,hq,hx⟩
 ·refine .inl (zhh hu h hr ?_)
  have:apR k (ns.map fun(u:Nat)=>[AC.bool true,.int (u:Int)])=true:=by
   clear hr;induction ns with
   | nil=>rfl
   | cons n ns ih=>simp only[List.map_cons,apR,apL,apC,Bool.and_true,ih]
  simp only[apC,this,Bool.and_true,Bool.not_eq_true'];exact Bool.eq_false_iff.2 fun e=>by have:=Nat.eq_of_beq_eq_true e;omega
 ·refine .inr ⟨A,n,cap,e,hc,ms,hl,hq,fun hn=>?_⟩
  obtain⟨b,o,hA,hb,hp,hok,hy⟩:=hx hn;have hne:b≠B:=fun e=>hok k (e▸hB)
  refine⟨b,o,hA,Nat.lt_of_lt_of_le hb h.size,hp,hok,fun i u hu=>?_⟩
  obtain⟨h1,h2⟩:=hy i u hu;refine⟨h1,?_⟩
  rw[World.cell?_of_block (w:=w) (h.block b hb hne)];exact h2
theorem zcU {p:Stb}{w:World}{b o n cap k:Nat}{rows:List (List AC)} (h:Rep p w (.slice (some ⟨b,o,none⟩) n cap) (.sl k rows)) (hn:rows≠[]):n=rows.length∧0<k∧(∀r∈rows,r.length=k)∧b<w.heap.size∧o+rows.length*k≤p b∧p.ok b k∧rows.length≤cap ∧
  ∃f:Nat→Nat→Value,(∀i j c,(rows.getD i [])[j]?=some c→w.cell? ⟨b,o+i*k+j,none⟩=some (f i j))∧∀i j c,(rows.getD i [])[j]?=some c→Rep p w (f i j) c:=by
 generalize hv:Value.slice (some ⟨b,o,none⟩) n cap=v at h
 generalize hc:AC.sl k rows=c at h
 cases h with
 | int n=>cases hc
 | bool b=>cases hc
 | nil a k=>cases hc;exact absurd rfl hn
 | sl b' o' cap' k' rows' f hk hrows hb hp hok hcap hcc hrr =>
  cases hc;cases hv;exact⟨rfl,hk,hrows,hb,hp,hok,hcap,f,hcc,hrr⟩
theorem zmo (k:Nat):∀xs:List Int,apR k (zab xs)=true
 | []=>rfl
 | x::xs=>by
  have:=zmo k xs
  simp only[zab] at this;simp only[zab,List.map_cons,apR,apL,apC,Bool.and_true,this]
theorem zr8 {row:List AC} (h:Fit .expr row):apL 5 row=true:=by
 generalize hk:Ty.expr=kd at h
 induction h with
 | expr o n kids ho hn hl h ih =>
  have:∀l:List (List AC),(∀c∈l,apL 5 c=true)→apR 5 l=true:=by
   intro l;induction l with
   | nil=>intro _;rfl
   | cons c l ih=>intro h;simp only[apR,h c (by simp),ih fun x hx=>h x (by simp[hx]),Bool.and_true]
  simp only[apL,apC,Bool.and_true,Bool.true_and,this kids fun c hc=>ih c hc rfl]
  rfl
 | _=>cases hk
def zfb (w:World) (B o:Nat) (x0 x1 x2 x3 x4:Value):World:=((((w.setCell ⟨B,o,none⟩ x0).setCell ⟨B,o+1,none⟩ x1).setCell ⟨B,o+2,none⟩ x2).setCell ⟨B,o+3,none⟩ x3).setCell ⟨B,o+4,none⟩ x4
section
variable {w:World}{B o:Nat}{x0 x1 x2 x3 x4:Value}
theorem znG {a:Array Value}{T:TypeId} (h:w.heap[B]?=some (.cells a T (0,0))):(zfb w B o x0 x1 x2 x3 x4).heap[B]?=some (.cells (((((a.setIfInBounds o x0).setIfInBounds (o+1) x1).setIfInBounds (o+2) x2).setIfInBounds (o+3) x3).setIfInBounds (o+4) x4) T (0,0)) :=
 heap_setCell_same _ _ _ _ _ _ (heap_setCell_same _ _ _ _ _ _ (heap_setCell_same _ _ _ _ _ _ (heap_setCell_same _ _ _ _ _ _ (heap_setCell_same _ _ _ _ _ _ h))))
theorem zbM {b:Nat} (h:b≠B):(zfb w B o x0 x1 x2 x3 x4).heap[b]?=w.heap[b]?:=by
 unfold zfb;rw[heap_setCell_other _ _ _ _ h,heap_setCell_other _ _ _ _ h,heap_setCell_other _ _ _ _ h,heap_setCell_other _ _ _ _ h,heap_setCell_other _ _ _ _ h]
theorem zcb:(zfb w B o x0 x1 x2 x3 x4).heap.size=w.heap.size:=by simp[zfb,World.setCell]
theorem zmk (p:Stb) (hp:p B=0):Evo (·=B) p w p (zfb w B o x0 x1 x2 x3 x4):=by
 refine zbw hp zcb (fun y hy=>zbM hy) ?_ ?_ ?_ <;> simp[zfb,World.setCell]
theorem zvZ {a:Array Value}{T:TypeId} (h:w.heap[B]?=some (.cells a T (0,0))) (ho:o+5≤a.size) (i:Nat):(zfb w B o x0 x1 x2 x3 x4).cell? ⟨B,i,none⟩=if i=o then some x0 else if i=o+1 then some x1 else if i=o+2 then some x2 else if i=o+3 then some x3 else if i=o+4 then some x4 else w.cell? ⟨B,i,none⟩:=by
 have hc:∀{w:World}{a:Array Value},w.heap[B]?=some (.cells a T (0,0))→w.cell? ⟨B,i,none⟩=a[i]?:=fun h=>by simp[World.cell?,h]
 rw[hc (znG h),hc h];simp only[Array.getElem?_setIfInBounds,Array.size_setIfInBounds];by_cases h4:i=o+4
 ·subst h4;simp;omega
 by_cases h3:i=o+3
 ·subst h3;simp;omega
 by_cases h2:i=o+2
 ·subst h2;simp;omega
 by_cases h1:i=o+1
 ·subst h1;simp;omega
 by_cases h0:i=o
 ·subst h0;simp;omega
 rw[if_neg (fun e=>h4 e.symm),if_neg (fun e=>h3 e.symm),if_neg (fun e=>h2 e.symm),if_neg (fun e=>h1 e.symm),if_neg (fun e=>h0 e.symm),if_neg h0,if_neg h1,if_neg h2,if_neg h3,if_neg h4]
end
theorem zqv {p:Stb}{w:World}{B o n cap k:Nat}{rows:List (List AC)}{a:Array Value}{T:TypeId} (hb:w.heap[B]?=some (.cells a T (0,0))) (hs:o+n*5≤a.size) (hu:∀j,p.ok B j→j=5) (h:Rep p w (.slice (some ⟨B,o,none⟩) n cap) (.sl 5 rows)) (ha:∀r∈rows,apL 5 r=true) (hk:k<rows.length)
  {x0 x1 x2 x3 x4:Value}{c0 c1 c2 c3 c4:AC} (hr:RepL p w [x0,x1,x2,x3,x4] [c0,c1,c2,c3,c4]) (hc:apL 5 [c0,c1,c2,c3,c4]=true) :
  Rep p (zfb w B (o+k*5) x0 x1 x2 x3 x4) (.slice (some ⟨B,o,none⟩) n cap) (.sl 5 (rows.set k [c0,c1,c2,c3,c4])):=by
 obtain⟨rfl,h5,hrows,hB,hp,hok,hcap,f,hcc,hrr⟩:=zcU h (by intro e;rw[e] at hk;simp at hk)
 have hev:=zmk (w:=w) (B:=B) (o:=o+k*5) (x0:=x0) (x1:=x1) (x2:=x2) (x3:=x3) (x4:=x4) (raP p B 0) (by rw[zep,if_pos rfl])
 have hl:=fun {v:Value}{c:AC} (hr:Rep p w v c) (ha:apC 5 c=true)=>zhh hu hev hr ha
 have hlen:(rows.set k [c0,c1,c2,c3,c4]).length=rows.length:=by simp
 simp only[RepL] at hr;obtain⟨r0,r1,r2,r3,r4,_⟩:=hr;simp only[apL,Bool.and_eq_true] at hc;obtain⟨a0,a1,a2,a3,a4,_⟩:=hc;have hget:∀(i j:Nat) (c:AC),((rows.set k [c0,c1,c2,c3,c4]).getD i [])[j]?=some c→(i=k∧[c0,c1,c2,c3,c4][j]?=some c)∨(i≠k∧(rows.getD i [])[j]?=some c):=fun i j c h=>by
  by_cases hik:i=k
  ·subst hik
   simp only[List.getD,List.getElem?_set_self hk,Option.getD_some] at h;exact .inl ⟨rfl,h⟩
  ·simp only[List.getD,List.getElem?_set_ne (fun e=>hik e.symm)] at h
   exact .inr ⟨hik,h⟩
 rw[←hlen];refine .sl B o cap 5 _ (fun i j=>if i=k then[x0,x1,x2,x3,x4].getD j undef else f i j) h5 (fun r hr=>?_) (by rw[zcb];exact hB) (by rw[hlen];exact hp) hok (by rw[hlen];exact hcap) (fun i j c h=>?_) (fun i j c h=>?_)
 ·rcases List.mem_or_eq_of_mem_set hr with h|rfl
  ·exact hrows r h
  ·rfl
 ·rw[zvZ hb (by omega)]
  rcases hget i j c h with ⟨rfl,hj⟩|⟨hik,hj⟩
  ·have hj5:=(List.getElem?_eq_some_iff.1 hj).1
   simp only[List.length_cons,List.length_nil] at hj5;rcases(by omega:j=0∨j=1∨j=2∨j=3∨j=4) with rfl|rfl|rfl|rfl|rfl <;> simp
  ·have hlt:i<rows.length:=by
    rcases Nat.lt_or_ge i rows.length with h|h
    ·exact h
    ·simp[List.getD,List.getElem?_eq_none h] at hj
   have hj5:=(List.getElem?_eq_some_iff.1 hj).1
   rw[hrows _ (by simp[List.getD,hlt])] at hj5
   rw[if_neg (by omega),if_neg (by omega),if_neg (by omega),if_neg (by omega),if_neg (by omega),if_neg hik]
   exact hcc i j c hj
 ·rcases hget i j c h with ⟨rfl,hj⟩|⟨hik,hj⟩
  ·have hj5:=(List.getElem?_eq_some_iff.1 hj).1
   simp only[List.length_cons,List.length_nil] at hj5;rw[if_pos rfl];rcases(by omega:j=0∨j=1∨j=2∨j=3∨j=4) with rfl|rfl|rfl|rfl|rfl <;> simp only[List.getElem?_cons_zero,List.getElem?_cons_succ,Option.some.injEq] at hj <;> subst hj
   ·exact hl r0 a0
   ·exact hl r1 a1
   ·exact hl r2 a2
   ·exact hl r3 a3
   ·exact hl r4 a4
  ·have hlt:i<rows.length:=by
    rcases Nat.lt_or_ge i rows.length with h|h
    ·exact h
    ·simp[List.getD,List.getElem?_eq_none h] at hj
   rw[if_neg hik];have hap:=ha (rows.getD i []) (by simp[List.getD,hlt])
   exact hl (hrr i j c hj) (zjy hap c (List.mem_of_getElem? hj))
end
section
open Go
def lay:Lay:=⟨[(3,⟨0,1,[.int 0],[],0⟩),(4,⟨1,1,[.bool false],[],0⟩),(23,⟨2,1,[.sl 3 []],[],83⟩),(24,⟨2,1,[.sl 5 []],[],35⟩),(26,⟨3,2,[.sl 3 [],.sl 5 []],[(0,1),(1,1)],0⟩),(30,⟨2,1,[.sl 3 []],[],32⟩),(32,⟨3,3,[.int 0,.int 0,.sl 3 []],[(0,1),(1,1),(2,1)],0⟩),(33,⟨2,1,[.sl 1 []],[],3⟩),(35,⟨3,5,[.sl 1 [],.int 0,.int 0,.int 0,.sl 3 []],[(0,1),(1,1),(2,3)],0⟩),(62,⟨3,2,[.sl 1 [],.sl 1 []],[(0,1),(1,1)],0⟩),(68,⟨3,2,[.sl 1 [],.int 0],[(0,1),(1,1)],0⟩),(81,⟨2,1,[.sl 1 []],[],94⟩),(83,⟨3,3,[.int 0,.int 0,.sl 1 []],[(0,1),(1,1),(2,1)],0⟩),(94,⟨3,1,[.sl 1 []],[(0,1)],0⟩)],[(48,18),(68,6)],[13,14,22,23,32,35,36,42,43,44,57,60,61,62,64,65,66,70,71,72,74,82,84,85,86,87,88,89,91,92,98,101,104,107,109,110],[]⟩
theorem zeY:LayOk Try.prog lay:=zvT (by kernel_rfl)
def sig:Sig:=[(3,⟨[],[]⟩),(5,⟨[],[]⟩),(6,⟨[],[]⟩),(7,⟨[],[]⟩),(8,⟨[],[]⟩),(9,⟨[],[]⟩),(10,⟨[],[]⟩),(13,⟨[],[]⟩),(14,⟨[],[]⟩),(15,⟨[],[(2,3)]⟩),(16,⟨[],[(0,1)]⟩),(17,⟨[],[]⟩),(18,⟨[],[]⟩),(19,⟨[],[(2,3)]⟩),(20,⟨[],[]⟩),(21,⟨[],[]⟩),(22,⟨[],[]⟩),(23,⟨[],[]⟩),(24,⟨[],[]⟩),(26,⟨[],[(0,1)]⟩),(28,⟨[],[]⟩),(30,⟨[],[]⟩),(32,⟨[],[]⟩),(33,⟨[],[]⟩),(34,⟨[],[]⟩),(35,⟨[],[]⟩),(36,⟨[],[]⟩),(37,⟨[],[]⟩),(38,⟨[],[]⟩),(39,⟨[],[(2,3)]⟩),(40,⟨[],[]⟩),(42,⟨[],[]⟩),(43,⟨[],[]⟩),(44,⟨[],[]⟩),(45,⟨[],[]⟩),(46,⟨[],[]⟩),(47,⟨[],[(0,3)]⟩),(48,⟨[],[]⟩),(49,⟨[],[(2,3)]⟩),(50,⟨[],[(2,3)]⟩),(51,⟨[],[(0,1)]⟩),(52,⟨[],[(0,3)]⟩),(53,⟨[],[]⟩),(54,⟨[],[]⟩),(55,⟨[],[]⟩),(56,⟨[],[]⟩),(57,⟨[],[]⟩),(58,⟨[],[(0,1)]⟩),(59,⟨[],[]⟩),(60,⟨[],[]⟩),(61,⟨[],[]⟩),(62,⟨[],[]⟩),(63,⟨[],[]⟩),(64,⟨[],[]⟩),(65,⟨[],[]⟩),(66,⟨[],[]⟩),(67,⟨[],[(0,3)]⟩),(68,⟨[],[]⟩),(69,⟨[],[]⟩),(70,⟨[],[]⟩),(71,⟨[],[]⟩),(72,⟨[],[]⟩),(73,⟨[],[]⟩),(74,⟨[],[]⟩),(75,⟨[],[(0,3)]⟩),(76,⟨[],[]⟩),(77,⟨[],[(0,1)]⟩),(78,⟨[],[]⟩),(79,⟨[],[(2,3)]⟩),(80,⟨[],[]⟩),(81,⟨[],[]⟩),(82,⟨[],[]⟩),(83,⟨[],[]⟩),(84,⟨[],[]⟩),(85,⟨[],[]⟩),(86,⟨[],[]⟩),(87,⟨[],[]⟩),(88,⟨[],[]⟩),(89,⟨[],[]⟩),(90,⟨[],[(0,1)]⟩),(91,⟨[],[]⟩),(92,⟨[],[]⟩),(93,⟨[],[]⟩),(94,⟨[],[]⟩),(95,⟨[],[]⟩),(96,⟨[],[]⟩),(97,⟨[],[(0,1)]⟩),(98,⟨[],[]⟩),(99,⟨[],[]⟩),(100,⟨[],[(0,1)]⟩),(101,⟨[],[]⟩),(102,⟨[],[]⟩),(103,⟨[],[]⟩),(104,⟨[],[]⟩),(105,⟨[],[]⟩),(106,⟨[],[(0,1)]⟩),(107,⟨[],[]⟩),(108,⟨[],[]⟩),(109,⟨[],[]⟩),(110,⟨[],[]⟩)]
theorem zdI:Try.prog.follows .mixedOrders=true:=by kernel_rfl
theorem zBQ:zay zao lay sig Try.f3 (sig.sg 3)=true:=by kernel_rfl
theorem zBW:zay zao lay sig Try.f5 (sig.sg 5)=true:=by kernel_rfl
theorem zAY:zay zao lay sig Try.f6 (sig.sg 6)=true:=by kernel_rfl
theorem zB0:zay zao lay sig Try.f7 (sig.sg 7)=true:=by kernel_rfl
theorem zB4:zay zao lay sig Try.f8 (sig.sg 8)=true:=by kernel_rfl
theorem zBc:zay zao lay sig Try.f9 (sig.sg 9)=true:=by kernel_rfl
theorem zyV:zay zao lay sig Try.f10 (sig.sg 10)=true:=by kernel_rfl
theorem zyp:zay zao lay sig Try.f13 (sig.sg 13)=true:=by kernel_rfl
theorem zzy:zay zao lay sig Try.f14 (sig.sg 14)=true:=by kernel_rfl
theorem zAt:zay zao lay sig Try.f15 (sig.sg 15)=true:=by kernel_rfl
theorem zzW:zay zao lay sig Try.f16 (sig.sg 16)=true:=by kernel_rfl
theorem zz2:zay zao lay sig Try.f17 (sig.sg 17)=true:=by kernel_rfl
theorem zzi:zay zao lay sig Try.f18 (sig.sg 18)=true:=by kernel_rfl
theorem zy5:zay zao lay sig Try.f19 (sig.sg 19)=true:=by kernel_rfl
theorem zAb:zay zao lay sig Try.f20 (sig.sg 20)=true:=by kernel_rfl
theorem zAm:zay zao lay sig Try.f21 (sig.sg 21)=true:=by kernel_rfl
theorem zAn:zay zao lay sig Try.f22 (sig.sg 22)=true:=by kernel_rfl
theorem zAh:zay zao lay sig Try.f23 (sig.sg 23)=true:=by kernel_rfl
theorem zAj:zay zao lay sig Try.f24 (sig.sg 24)=true:=by kernel_rfl
theorem zyI:zay zao lay sig Try.f26 (sig.sg 26)=true:=by kernel_rfl
theorem zyl:zay zao lay sig Try.f28 (sig.sg 28)=true:=by kernel_rfl
theorem zz0:zay zao lay sig Try.f30 (sig.sg 30)=true:=by kernel_rfl
theorem zy1:zay zao lay sig Try.f32 (sig.sg 32)=true:=by kernel_rfl
theorem zzH:zay zao lay sig Try.f33 (sig.sg 33)=true:=by kernel_rfl
theorem zyP:zay zao lay sig Try.f34 (sig.sg 34)=true:=by kernel_rfl
theorem zz9:zay zao lay sig Try.f35 (sig.sg 35)=true:=by kernel_rfl
theorem zyU:zay zao lay sig Try.f36 (sig.sg 36)=true:=by kernel_rfl
theorem zzG:zay zao lay sig Try.f37 (sig.sg 37)=true:=by kernel_rfl
theorem zzd:zay zao lay sig Try.f38 (sig.sg 38)=true:=by kernel_rfl
theorem zyv:zay zao lay sig Try.f39 (sig.sg 39)=true:=by kernel_rfl
theorem zAH:zay zao lay sig Try.f40 (sig.sg 40)=true:=by kernel_rfl
theorem zyG:zay zao lay sig Try.f42 (sig.sg 42)=true:=by kernel_rfl
theorem zzh:zay zao lay sig Try.f43 (sig.sg 43)=true:=by kernel_rfl
theorem zAF:zay zao lay sig Try.f44 (sig.sg 44)=true:=by kernel_rfl
theorem zzM:zay zao lay sig Try.f45 (sig.sg 45)=true:=by kernel_rfl
theorem zzB:zay zao lay sig Try.f46 (sig.sg 46)=true:=by kernel_rfl
theorem zzD:zay zao lay sig Try.f47 (sig.sg 47)=true:=by kernel_rfl
theorem zyn:zay zao lay sig Try.f48 (sig.sg 48)=true:=by kernel_rfl
theorem zz5:zay zao lay sig Try.f49 (sig.sg 49)=true:=by kernel_rfl
theorem zyN:zay zao lay sig Try.f50 (sig.sg 50)=true:=by kernel_rfl
theorem zzs:zay zao lay sig Try.f51 (sig.sg 51)=true:=by kernel_rfl
theorem zz7:zay zao lay sig Try.f52 (sig.sg 52)=true:=by kernel_rfl
theorem zyW:zay zao lay sig Try.f53 (sig.sg 53)=true:=by kernel_rfl
theorem zAd:zay zao lay sig Try.f54 (sig.sg 54)=true:=by kernel_rfl
theorem zAq:zay zao lay sig Try.f55 (sig.sg 55)=true:=by kernel_rfl
theorem zz6:zay zao lay sig Try.f56 (sig.sg 56)=true:=by kernel_rfl
theorem zAc:zay zao lay sig Try.f57 (sig.sg 57)=true:=by kernel_rfl
theorem zz3:zay zao lay sig Try.f58 (sig.sg 58)=true:=by kernel_rfl
theorem zAv:zay zao lay sig Try.f59 (sig.sg 59)=true:=by kernel_rfl
theorem zAE:zay zao lay sig Try.f60 (sig.sg 60)=true:=by kernel_rfl
theorem zzq:zay zao lay sig Try.f61 (sig.sg 61)=true:=by kernel_rfl
theorem zyf:zay zao lay sig Try.f62 (sig.sg 62)=true:=by kernel_rfl
theorem zzQ:zay zao lay sig Try.f63 (sig.sg 63)=true:=by kernel_rfl
theorem zAz:zay zao lay sig Try.f64 (sig.sg 64)=true:=by kernel_rfl
theorem zyB:zay zao lay sig Try.f65 (sig.sg 65)=true:=by kernel_rfl
theorem zzT:zay zao lay sig Try.f66 (sig.sg 66)=true:=by kernel_rfl
theorem zys:zay zao lay sig Try.f67 (sig.sg 67)=true:=by kernel_rfl
theorem zz1:zay zao lay sig Try.f68 (sig.sg 68)=true:=by kernel_rfl
theorem zzI:zay zao lay sig Try.f69 (sig.sg 69)=true:=by kernel_rfl
theorem zzR:zay zao lay sig Try.f70 (sig.sg 70)=true:=by kernel_rfl
theorem zyy:zay zao lay sig Try.f71 (sig.sg 71)=true:=by kernel_rfl
theorem zzb:zay zao lay sig Try.f72 (sig.sg 72)=true:=by kernel_rfl
theorem zyw:zay zao lay sig Try.f73 (sig.sg 73)=true:=by kernel_rfl
theorem zyr:zay zao lay sig Try.f74 (sig.sg 74)=true:=by kernel_rfl
theorem zzV:zay zao lay sig Try.f75 (sig.sg 75)=true:=by kernel_rfl
theorem zAy:zay zao lay sig Try.f76 (sig.sg 76)=true:=by kernel_rfl
theorem zAx:zay zao lay sig Try.f77 (sig.sg 77)=true:=by kernel_rfl
theorem zzU:zay zao lay sig Try.f78 (sig.sg 78)=true:=by kernel_rfl
theorem zzN:zay zao lay sig Try.f79 (sig.sg 79)=true:=by kernel_rfl
theorem zyD:zay zao lay sig Try.f80 (sig.sg 80)=true:=by kernel_rfl
theorem zAl:zay zao lay sig Try.f81 (sig.sg 81)=true:=by kernel_rfl
theorem zAp:zay zao lay sig Try.f82 (sig.sg 82)=true:=by kernel_rfl
theorem zAa:zay zao lay sig Try.f83 (sig.sg 83)=true:=by kernel_rfl
theorem zyS:zay zao lay sig Try.f84 (sig.sg 84)=true:=by kernel_rfl
theorem zyz:zay zao lay sig Try.f85 (sig.sg 85)=true:=by kernel_rfl
theorem zzo:zay zao lay sig Try.f86 (sig.sg 86)=true:=by kernel_rfl
theorem zzr:zay zao lay sig Try.f87 (sig.sg 87)=true:=by kernel_rfl
theorem zAw:zay zao lay sig Try.f88 (sig.sg 88)=true:=by kernel_rfl
theorem zy3:zay zao lay sig Try.f89 (sig.sg 89)=true:=by kernel_rfl
theorem zy8:zay zao lay sig Try.f90 (sig.sg 90)=true:=by kernel_rfl
theorem zyX:zay zao lay sig Try.f91 (sig.sg 91)=true:=by kernel_rfl
theorem zAf:zay zao lay sig Try.f92 (sig.sg 92)=true:=by kernel_rfl
theorem zAo:zay zao lay sig Try.f93 (sig.sg 93)=true:=by kernel_rfl
theorem zzX:zay zao lay sig Try.f94 (sig.sg 94)=true:=by kernel_rfl
theorem zym:zay zao lay sig Try.f95 (sig.sg 95)=true:=by kernel_rfl
theorem zzC:zay zao lay sig Try.f96 (sig.sg 96)=true:=by kernel_rfl
theorem zAC:zay zao lay sig Try.f97 (sig.sg 97)=true:=by kernel_rfl
theorem zy0:zay zao lay sig Try.f98 (sig.sg 98)=true:=by kernel_rfl
theorem zyF:zay zao lay sig Try.f99 (sig.sg 99)=true:=by kernel_rfl
theorem zwA:zay zao lay sig Try.f100 (sig.sg 100)=true:=by kernel_rfl
theorem zv7:zay zao lay sig Try.f101 (sig.sg 101)=true:=by kernel_rfl
theorem zwo:zay zao lay sig Try.f102 (sig.sg 102)=true:=by kernel_rfl
theorem zwO:zay zao lay sig Try.f103 (sig.sg 103)=true:=by kernel_rfl
theorem zxC:zay zao lay sig Try.f104 (sig.sg 104)=true:=by kernel_rfl
theorem zx8:zay zao lay sig Try.f105 (sig.sg 105)=true:=by kernel_rfl
theorem zyc:zay zao lay sig Try.f106 (sig.sg 106)=true:=by kernel_rfl
theorem zxg:zay zao lay sig Try.f107 (sig.sg 107)=true:=by kernel_rfl
theorem zwj:zay zao lay sig Try.f108 (sig.sg 108)=true:=by kernel_rfl
theorem zx1:zay zao lay sig Try.f109 (sig.sg 109)=true:=by kernel_rfl
theorem zw2:zay zao lay sig Try.f110 (sig.sg 110)=true:=by kernel_rfl
theorem zss:∀f,sig.has f=true→∃fn,Try.prog.funcs[f]?=some fn∧zay zao lay sig fn (sig.sg f)=true:=by
 intro f hf;have hm:f∈[3,5,6,7,8,9,10,13,14,15,16,17,18,19,20,21,22,23,24,26,28,30,32,33,34,35,36,37,38,39,40,42,43,44,45,46,47,48,49,50,51,52,53,54,55,56,57,58,59,60,61,62,63,64,65,66,67,68,69,70,71,72,73,74,75,76,77,78,79,80,81,82,83,84,85,86,87,88,89,90,91,92,93,94,95,96,97,98,99,100,101,102,103,104,105,106,107,108,109,110]:=by
  unfold Sig.has at hf;obtain⟨x,hx⟩:=Option.isSome_iff_exists.1 hf;have:=za2 hx
  have h2:f∈sig.map (·.1):=List.mem_map.2 ⟨_,this,rfl⟩
  exact h2
 simp only[List.mem_cons,List.not_mem_nil,or_false] at hm;rcases hm with rfl|rfl|rfl|rfl|rfl|rfl|rfl|rfl|rfl|rfl|rfl|rfl|rfl|rfl|rfl|rfl|rfl|rfl|rfl|rfl|rfl|rfl|rfl|rfl|rfl|rfl|rfl|rfl|rfl|rfl|rfl|rfl|rfl|rfl|rfl|rfl|rfl|rfl|rfl|rfl|rfl|rfl|rfl|rfl|rfl|rfl|rfl|rfl|rfl|rfl|rfl|rfl|rfl|rfl|rfl|rfl|rfl|rfl|rfl|rfl|rfl|rfl|rfl|rfl|rfl|rfl|rfl|rfl|rfl|rfl|rfl|rfl|rfl|rfl|rfl|rfl|rfl|rfl|rfl|rfl|rfl|rfl|rfl|rfl|rfl|rfl|rfl|rfl|rfl|rfl|rfl|rfl|rfl|rfl|rfl|rfl|rfl|rfl|rfl|rfl
 ·exact⟨_,Try.func3,zBQ⟩
 ·exact⟨_,Try.func5,zBW⟩
 ·exact⟨_,Try.func6,zAY⟩
 ·exact⟨_,Try.func7,zB0⟩
 ·exact⟨_,Try.func8,zB4⟩
 ·exact⟨_,Try.func9,zBc⟩
 ·exact⟨_,Try.func10,zyV⟩
 ·exact⟨_,Try.func13,zyp⟩
 ·exact⟨_,Try.func14,zzy⟩
 ·exact⟨_,Try.func15,zAt⟩
 ·exact⟨_,Try.func16,zzW⟩
 ·exact⟨_,Try.func17,zz2⟩
 ·exact⟨_,Try.func18,zzi⟩
 ·exact⟨_,Try.func19,zy5⟩
 ·exact⟨_,Try.func20,zAb⟩
 ·exact⟨_,Try.func21,zAm⟩
 ·exact⟨_,Try.func22,zAn⟩
 ·exact⟨_,Try.func23,zAh⟩
 ·exact⟨_,Try.func24,zAj⟩
 ·exact⟨_,Try.func26,zyI⟩
 ·exact⟨_,Try.func28,zyl⟩
 ·exact⟨_,Try.func30,zz0⟩
 ·exact⟨_,Try.func32,zy1⟩
 ·exact⟨_,Try.func33,zzH⟩
 ·exact⟨_,Try.func34,zyP⟩
 ·exact⟨_,Try.func35,zz9⟩
 ·exact⟨_,Try.func36,zyU⟩
 ·exact⟨_,Try.func37,zzG⟩
 ·exact⟨_,Try.func38,zzd⟩
 ·exact⟨_,Try.func39,zyv⟩
 ·exact⟨_,Try.func40,zAH⟩
 ·exact⟨_,Try.func42,zyG⟩
 ·exact⟨_,Try.func43,zzh⟩
 ·exact⟨_,Try.func44,zAF⟩
 ·exact⟨_,Try.func45,zzM⟩
 ·exact⟨_,Try.func46,zzB⟩
 ·exact⟨_,Try.func47,zzD⟩
 ·exact⟨_,Try.func48,zyn⟩
 ·exact⟨_,Try.func49,zz5⟩
 ·exact⟨_,Try.func50,zyN⟩
 ·exact⟨_,Try.func51,zzs⟩
 ·exact⟨_,Try.func52,zz7⟩
 ·exact⟨_,Try.func53,zyW⟩
 ·exact⟨_,Try.func54,zAd⟩
 ·exact⟨_,Try.func55,zAq⟩
 ·exact⟨_,Try.func56,zz6⟩
 ·exact⟨_,Try.func57,zAc⟩
 ·exact⟨_,Try.func58,zz3⟩
 ·exact⟨_,Try.func59,zAv⟩
 ·exact⟨_,Try.func60,zAE⟩
 ·exact⟨_,Try.func61,zzq⟩
 ·exact⟨_,Try.func62,zyf⟩
 ·exact⟨_,Try.func63,zzQ⟩
 ·exact⟨_,Try.func64,zAz⟩
 ·exact⟨_,Try.func65,zyB⟩
 ·exact⟨_,Try.func66,zzT⟩
 ·exact⟨_,Try.func67,zys⟩
 ·exact⟨_,Try.func68,zz1⟩
 ·exact⟨_,Try.func69,zzI⟩
 ·exact⟨_,Try.func70,zzR⟩
 ·exact⟨_,Try.func71,zyy⟩
 ·exact⟨_,Try.func72,zzb⟩
 ·exact⟨_,Try.func73,zyw⟩
 ·exact⟨_,Try.func74,zyr⟩
 ·exact⟨_,Try.func75,zzV⟩
 ·exact⟨_,Try.func76,zAy⟩
 ·exact⟨_,Try.func77,zAx⟩
 ·exact⟨_,Try.func78,zzU⟩
 ·exact⟨_,Try.func79,zzN⟩
 ·exact⟨_,Try.func80,zyD⟩
 ·exact⟨_,Try.func81,zAl⟩
 ·exact⟨_,Try.func82,zAp⟩
 ·exact⟨_,Try.func83,zAa⟩
 ·exact⟨_,Try.func84,zyS⟩
 ·exact⟨_,Try.func85,zyz⟩
 ·exact⟨_,Try.func86,zzo⟩
 ·exact⟨_,Try.func87,zzr⟩
 ·exact⟨_,Try.func88,zAw⟩
 ·exact⟨_,Try.func89,zy3⟩
 ·exact⟨_,Try.func90,zy8⟩
 ·exact⟨_,Try.func91,zyX⟩
 ·exact⟨_,Try.func92,zAf⟩
 ·exact⟨_,Try.func93,zAo⟩
 ·exact⟨_,Try.func94,zzX⟩
 ·exact⟨_,Try.func95,zym⟩
 ·exact⟨_,Try.func96,zzC⟩
 ·exact⟨_,Try.func97,zAC⟩
 ·exact⟨_,Try.func98,zy0⟩
 ·exact⟨_,Try.func99,zyF⟩
 ·exact⟨_,Try.func100,zwA⟩
 ·exact⟨_,Try.func101,zv7⟩
 ·exact⟨_,Try.func102,zwo⟩
 ·exact⟨_,Try.func103,zwO⟩
 ·exact⟨_,Try.func104,zxC⟩
 ·exact⟨_,Try.func105,zx8⟩
 ·exact⟨_,Try.func106,zyc⟩
 ·exact⟨_,Try.func107,zxg⟩
 ·exact⟨_,Try.func108,zwj⟩
 ·exact⟨_,Try.func109,zx1⟩
 ·exact⟨_,Try.func110,zw2⟩
end
end Go.Proofs.Ytcpcagdialnbeaa
