/- Generic texts and models for the proofs of this seat: part 20. -/
import Derived.Test.YtcpcagdialnbeaaY19
import Derived.Test.YtcpcagdialnbeaaProg
set_option linter.unusedVariables false
set_option linter.unusedSimpArgs false
namespace Go.Proofs.Ytcpcagdialnbeaa
open Go Go.RowKit
abbrev Rg:=Nat × Array Oper × Bool
def zp4 (id:Nat):Code → Option Rg
 | .region i ops d => bif Nat.beq i id then some (i,ops,d) else none
 | .seq a b => match zp4 id a with
  | some r => some r
  | none => zp4 id b
 | .cond _ a b => match zp4 id a with
  | some r => some r
  | none => zp4 id b
 | .block _ b => zp4 id b
 | .loop b => zp4 id b
 | _ => none
def zgj:List Rg → Code → Code
 | [],c => c
 | r :: rs,c => .seq (.region r.1 r.2.1 r.2.2) (zgj rs c)
section
variable {P:Program} {L:Lay} {S:Sig} {T:Nat → Bool} {call:Orc} {ct:TOrc} {Own:Nat → Prop} {bb:Nat}
theorem zsy (hP:P.follows .mixedOrders = true) (hL:LayOk P L) (hC:zaR P S call) (hT:zck P S T ct):∀ (rs:List Rg) (n:Nat) (σ:List AV × List AC) (e:Xt) (σ':List AV × List AC) (st:Stt) (O:Out),
  zaH L T call ct n (zgj rs .skip) σ = some (e,σ') → zbU (zbe T) L S (zgj rs .skip) st = some O →
  ∀ (p:Stb) (w:World) (a:Act),InvC st p w a.tmps σ Own bb → a.defers = [] → ∀ (Q:Exit → Act → World → Prop) (y:Code),
  (∀ st' a' w' p',e = .norm → O.norm = some st' → InvC st' p' w' a'.tmps σ' Own bb → EvoC Own bb p w p' w' → a'.defers = [] → y.wp P Q a' w') → (zgj rs y).wp P Q a w
 | [],n,σ,e,σ',st,O,hv,ht,p,w,a,hI,hd,Q,y,h => by
  cases n with
  | zero => cases hv
  | succ n =>
   simp only [zgj,zaH,Option.some.injEq,Prod.mk.injEq] at hv
   obtain ⟨rfl,rfl⟩:=hv
   cases ht
   exact h st a w p rfl rfl hI (EvoC.refl _ _ _ _) hd
 | r :: rs,n,σ,e,σ',st,O,hv,ht,p,w,a,hI,hd,Q,y,h => by
  cases n with
  | zero => cases hv
  | succ n =>
   simp only [zgj,zaH,Option.bind_eq_some_iff] at hv
   obtain ⟨⟨e1,σ1⟩,h1,h2⟩:=hv
   simp only [zgj,zbU,Option.bind_eq_some_iff] at ht
   obtain ⟨A,hA,ht⟩:=ht
   have he1:e1 = .norm:=by
    cases n with
    | zero => cases h1
    | succ n =>
     simp only [zaH,Option.map_eq_some_iff,Prod.mk.injEq] at h1
     obtain ⟨_,_,e,_⟩:=h1
     exact e.symm
   subst he1
   simp only at h2
   refine wp_seq (zmy hP hL hC hT n (.region r.1 r.2.1 r.2.2) σ .norm σ1 st A h1 (by simpa only [zbU] using hA) p w a hI hd _ fun st1 a1 w1 p1 ha1 hI1 hev1 hd1 => ?_)
   have ha1':A.norm = some st1:=ha1
   rw [ha1'] at ht
   simp only [Option.bind_eq_some_iff] at ht
   obtain ⟨B,hB,hj⟩:=ht
   refine zsy hP hL hC hT rs n σ1 e σ' st1 B h2 hB p1 w1 a1 hI1 hd1 Q y fun st2 a2 w2 p2 he ha2 hI2 hev2 hd2 => ?_
   subst he
   obtain ⟨st',h3,h4⟩:=(zcL hj .norm).2 st2 ha2
   refine h st' a2 w2 p2 rfl h3 ?_ (EvoC.trans hev1 hev2) hd2
   rcases h4 with rfl | h4
   ·exact hI2
   ·exact Le.c h4 hI2
end
theorem zth {Y:CtxT} {S:Sig} {Own:Nat → Prop} {bb:Nat} (hP:Y.X.P.follows .mixedOrders = true) (hL:LayOk Y.X.P Y.X.L) (hC:zaR Y.X.P S (V Y.X.P Y.X.L Y.X.F Y.X.E)) (hA:ztz Y.X.P Y.X.L S Y.T Y.E) {rs:List Rg} {n:Nat} {o:Ov} {q:List AC} {r:AV × List AC}
  (he:evT Y n (.run (zgj rs .skip)) [] o q = some r) {σ:List AV} (hl:σ.length = Y.X.fn.ntmps) (hag:AgO o σ) {st:Stt} {O:Out} (ht:zbU (zbe Y.T) Y.X.L S (zgj rs .skip) st = some O)
  {p:Stb} {w:World} {a:Act} (hI:InvC st p w a.tmps (σ,q) Own bb) (hd:a.defers = []) (Q:Exit → Act → World → Prop) (y:Code)
  (h:∀ st' a' w' p' σ' q',O.norm = some st' → zmF Y.X.L Y.X.fn (.norm,(σ',q')) = some r → InvC st' p' w' a'.tmps (σ',q') Own bb → EvoC Own bb p w p' w' → a'.defers = [] → y.wp Y.X.P Q a' w'):(zgj rs y).wp Y.X.P Q a w:=by
 have h1:=zb6 n _ _ _ _ _ he σ hl hag
 simp only [Option.bind_eq_some_iff] at h1
 obtain ⟨⟨e,σ',q'⟩,h1,h2⟩:=h1
 unfold CtxT.vc at h1
 obtain ⟨m,h1⟩:=TVC_iff.1 h1
 refine zsy hP hL hC (zlx hP hL hC hA m) rs m (σ,q) e (σ',q') st O h1 ht p w a hI hd Q y fun st' a' w' p' he hn hI' hev hd' => ?_
 subst he
 exact h st' a' w' p' σ' q' hn h2 hI' hev hd'
end Go.Proofs.Ytcpcagdialnbeaa
namespace Go.Proofs.Ytcpcagdialnbeaa
open Go Go.RowKit
def zo4:Value → AV
 | .bool x => .v (.cell (.bool x))
 | _ => .und
def zft (m:Array Value) (n:Nat) (o:List (Nat × AV)):List AV:=(List.range n).map fun t => match o.lookup t with
 | some x => x
 | none => zo4 (m.getD t undef)
theorem zd0 (m:Array Value) (n:Nat) (o:List (Nat × AV)):(zft m n o).length = n:=by simp [zft]
theorem zdh (m:Array Value) (n:Nat) (o:List (Nat × AV)) (t:Nat):VS.get { σ:=zft m n o,pe:=[] } t = if t < n then (match o.lookup t with
 | some x => x
 | none => zo4 (m.getD t undef)) else .und:=by
 unfold VS.get zft
 by_cases h:t < n
 ·rw [if_pos h]
  simp [List.getD,h]
 ·rw [if_neg h]
  simp [List.getD,h]
theorem zo5 (v:Value):zbr (zo4 v) = false:=by cases v <;> rfl
theorem zpM (v:Value) (cs:List AC):zo4 v ≠ .box cs:=by cases v <;> simp [zo4]
def stM (n:Nat):Stt:=⟨[],[],[],n,[],[]⟩
structure zqR (p:Stb) (w:World) (m:Array Value) (n:Nat) (o:List (Nat × AV)) (Own:Nat → Prop):Prop where
 lt:∀ t x,o.lookup t = some x → t < n ∧ SR p w (m.getD t undef) x
 kind:∀ t x,o.lookup t = some x → (∃ v,x = .v v) ∨ ∃ cs c,x = .box cs ∧ m.getD t undef = .pointer (some ⟨c,0,none⟩) ∧ p c = 0 ∧ Own c
 apart:∀ t t' cs cs' c,t ≠ t' → o.lookup t = some (.box cs) → o.lookup t' = some (.box cs') → m.getD t undef = .pointer (some ⟨c,0,none⟩) → m.getD t' undef ≠ .pointer (some ⟨c,0,none⟩)
theorem znQ {p:Stb} {w:World} {m:Array Value} {n:Nat} {o:List (Nat × AV)} {Own:Nat → Prop} {b:Nat} {q:List AC} (hs:m.size = n) (hk:zqR p w m n o Own) (hz:Zp p w) (hown:∀ c,w.heap.size ≤ c → Own c) (h0:m.getD 0 undef = zaV b) (hT:TK p w Own b q) :
  InvC (stM n) p w m (zft m n o,q) Own b:=by
 have hrow:∀ t,zbr (VS.get { σ:=zft m n o,pe:=[] } t) = false:=fun t => by
  rw [zdh]
  split
  ·split
   ·rename_i x hx
    rcases hk.kind t x hx with ⟨v,rfl⟩ | ⟨cs,c,rfl,_⟩ <;> rfl
   ·exact zo5 _
  ·rfl
 have hbox:∀ t cs,VS.get { σ:=zft m n o,pe:=[] } t = .box cs → o.lookup t = some (.box cs):=fun t cs h => by
  rw [zdh] at h
  split at h
  ·split at h
   ·rename_i x hx
    rw [hx,h]
   ·exact absurd h (zpM _ _)
  ·cases h
 refine ⟨⟨by rw [zd0]; exact hs,(zd0 _ _ _).symm,fun t ht => (by cases ht),trivial,fun t => ⟨?_,fun q hq => (by cases hq)⟩,hz,trivial,⟨fun _ _ => rfl,fun _ _ _ h => (by cases h)⟩,hown,fun d cs h => ?_,fun d d' cs cs' c hd h1 h2 h3 => hk.apart d d' cs cs' c hd (hbox _ _ h1) (hbox _ _ h2) h3,
  fun d k r c h => (by have:=hrow d; rw [h] at this; cases this),fun t d k r h => (by have:=hrow t; rw [h] at this; cases this),⟨fun t d h => (by have:=hrow t; rw [h] at this; cases this),fun d k r h => (by have:=hrow d; rw [h] at this; cases this)⟩,fun _ => undef,
  ⟨fun q id h => (by cases h),fun id k h => (by cases h),fun id k b h => (by cases h),fun id k id' k' b h => (by cases h),fun q id k d k' r b h => (by cases h)⟩⟩,h0,hT⟩
 ·rw [zdh]
  split
  ·split
   ·rename_i x hx
    exact (hk.lt t x hx).2
   ·cases e:m.getD t undef with
    | bool x => exact .bool x
    | _ => intro c hc; cases hc
  ·rename_i hlt
   rw [Array.getD_eq_getD_getElem?,Array.getElem?_eq_none (by omega)]
   intro c hc
   cases hc
 ·have hl:=hbox d cs h
  rcases hk.kind d _ hl with ⟨v,e⟩ | ⟨cs',c,e,h1,h2,h3⟩
  ·cases e
  ·have hsr:=(hk.lt d _ hl).2
   obtain ⟨c',a,T,e1,e2,_⟩:=hsr
   rw [h1] at e1
   cases e1
   exact ⟨c,h1,h2,h3,(Array.getElem?_eq_some_iff.1 e2).1⟩
theorem zpE {m:Array Value} {n:Nat} {o:List (Nat × AV)} {b:Nat} (h0:m.getD 0 undef = zaV b) (hn:0 < n) (hl:∀ t x,o.lookup t = some x → t < n) (hz:o.lookup 0 = none):AgO ((0,.und) :: o) (zft m n o):=by
 intro i y hy
 have hg:=zdh m n o i
 unfold VS.get at hg
 simp only at hg
 rw [hg]
 rw [zcl] at hy
 split at hy
 ·rename_i e
  subst e
  cases hy
  rw [if_pos hn,hz]
  simp only [h0]
  rfl
 ·have hy':o.lookup i = some y:=by
   clear hg hl hz
   induction o with
   | nil => cases hy
   | cons e o ih =>
    rw [List.lookup_cons]
    obtain ⟨j,z⟩:=e
    rw [zcl] at hy
    split at hy
    ·rename_i e
     subst e
     cases hy
     simp
    ·rename_i e
     rw [show (i == j) = false by simpa using fun h:i = j => e h.symm]
     exact ih hy
  rw [if_pos (hl i y hy'),hy']
theorem zuy {L:Lay} {fn:Func} {σ:List AV} {q q':List AC} {vs:List SV} (h:zmF L fn (.norm,(σ,q)) = some (.tup vs,q')):q = q' ∧ zdy L σ fn.results.toList = some vs:=by
 unfold zmF at h
 simp only [Option.map_eq_some_iff,Prod.mk.injEq] at h
 obtain ⟨ws,h1,h2,h3⟩:=h
 refine ⟨h3,?_⟩
 split at h2
 ·cases h2
 ·cases h2
  exact h1
theorem ziB {L:Lay} {σ:List AV}:∀ {rs:List ResultVar} {vs:List SV},zdy L σ rs = some vs → ∀ (i:Nat) (r:ResultVar) (v:SV),rs[i]? = some r → vs[i]? = some v → zfL L σ r = some v
 | [],vs,h,i,r,v,hr,_ => by simp at hr
 | r0 :: rs,vs,h,i,r,v,hr,hv => by
  simp only [zdy,Option.bind_eq_some_iff,Option.map_eq_some_iff] at h
  obtain ⟨v0,h0,vs',h1,rfl⟩:=h
  cases i with
  | zero =>
   simp only [List.getElem?_cons_zero,Option.some.injEq] at hr hv
   subst hr; subst hv
   exact h0
  | succ i =>
   simp only [List.getElem?_cons_succ] at hr hv
   exact ziB h1 i r v hr hv
theorem zqY {L:Lay} {σ:List AV} {t ty:Nat} {cs:List AC} (h:zfL L σ (.cell t ty) = some (.agg cs)):σ.getD t .und = .box cs:=by
 simp only [zfL] at h
 generalize σ.getD t .und = z at h
 cases z with
 | box cs' =>
  simp only [Option.bind_eq_some_iff] at h
  obtain ⟨i,_,h⟩:=h
  split at h
  ·unfold mkV at h
   split at h
   ·cases h; rfl
   ·split at h <;> cases h
  ·cases h
 | _ => cases h
theorem zws {L:Lay} {σ:List AV} {t:Nat} {k:Int} (h:zfL L σ (.tmp t) = some (.cell (.int k))):σ.getD t .und = .v (.cell (.int k)):=by
 simp only [zfL] at h
 cases hz:σ.getD t .und with
 | v x => rw [hz] at h; cases h; rfl
 | _ =>
  rw [hz] at h
  simp only [Option.map_eq_some_iff] at h
  obtain ⟨_,_,h⟩:=h
  cases h
theorem InvC.box {st:Stt} {p:Stb} {w:World} {m:Array Value} {σ:List AV} {q:List AC} {Own:Nat → Prop} {b:Nat} (h:InvC st p w m (σ,q) Own b) {d:Nat} {cs:List AC} (hd:σ.getD d .und = .box cs) :
  ∃ c a T,m.getD d undef = .pointer (some ⟨c,0,none⟩) ∧ w.heap[c]? = some (.cells a T (0,0)) ∧ RepL p w a.toList cs ∧ p c = 0 ∧ Own c ∧ c < w.heap.size ∧ c ≠ b:=by
 obtain ⟨c,e,h1,h2,h3⟩:=h.1.box d cs hd
 have hs:=(h.1.slots d).1
 rw [show VS.get { σ:=σ,pe:=[] } d = .box cs from hd] at hs
 obtain ⟨c',a,T,e1,e2,e3⟩:=hs
 rw [e] at e1
 cases e1
 exact ⟨c,a,T,e,e2,e3,h1,h2,h3,fun hcb => h.2.2.not (hcb ▸ h2)⟩
theorem InvC.int {st:Stt} {p:Stb} {w:World} {m:Array Value} {σ:List AV} {q:List AC} {Own:Nat → Prop} {b:Nat} (h:InvC st p w m (σ,q) Own b) {d:Nat} {k:Int} (hd:σ.getD d .und = .v (.cell (.int k))):m.getD d undef = .int .i64 k:=by
 have hs:=(h.1.slots d).1
 rw [show VS.get { σ:=σ,pe:=[] } d = .v (.cell (.int k)) from hd] at hs
 have hs':Rep p w (m.getD d undef) (.int k):=hs
 generalize m.getD d undef = v at hs'
 cases hs'
 rfl
theorem InvC.bool {st:Stt} {p:Stb} {w:World} {m:Array Value} {σ:List AV} {q:List AC} {Own:Nat → Prop} {b:Nat} (h:InvC st p w m (σ,q) Own b) {d:Nat} {k:Bool} (hd:σ.getD d .und = .v (.cell (.bool k))):m.getD d undef = .bool k:=by
 have hs:=(h.1.slots d).1
 rw [show VS.get { σ:=σ,pe:=[] } d = .v (.cell (.bool k)) from hd] at hs
 have hs':Rep p w (m.getD d undef) (.bool k):=hs
 generalize m.getD d undef = v at hs'
 cases hs'
 rfl
end Go.Proofs.Ytcpcagdialnbeaa
namespace Go.Proofs.Ytcpcagdialnbeaa
open Go
def acS:AC → Nat
 | .int _ => 0
 | .bool _ => 0
 | .sl _ rows => rows.length + rsS rows
where
 rsS:List (List AC) → Nat
  | [] => 0
  | r :: rs => cS r + rsS rs
 cS:List AC → Nat
  | [] => 0
  | c :: cs => acS c + cS cs
abbrev cS:=acS.cS
abbrev rsS:=acS.rsS
theorem zxl:cS [] = 0:=by simp [cS,acS.cS]
theorem ztn (n:Int) (cs:List AC):cS (.int n :: cs) = cS cs:=by simp [cS,acS.cS,acS]
theorem zys (k:Nat) (r:List (List AC)) (cs:List AC):cS (.sl k r :: cs) = r.length + rsS r + cS cs:=by simp [cS,acS.cS,acS,rsS]
theorem zaE:rsS [] = 0:=by simp [rsS,acS.rsS]
theorem za0 (r:List AC) (rs:List (List AC)):rsS (r :: rs) = cS r + rsS rs:=by simp [rsS,acS.rsS,cS]
theorem zr9 {rs:List (List AC)} {k:Nat} (h:k < rs.length):rsS (rs.drop k) = cS (rs.getD k []) + rsS (rs.drop (k + 1)):=by
 rw [List.drop_eq_getElem_cons h,za0]
 simp [List.getD,h]
theorem zlC {rs:List (List AC)} {r:List AC} (h:r ∈ rs):cS r ≤ rsS rs:=by
 induction rs with
 | nil => cases h
 | cons x rs ih =>
  rw [za0]
  rcases List.mem_cons.1 h with rfl | h
  ·omega
  ·have:=ih h; omega
def zah (xs:List Int):List (List AC):=xs.map fun n => [.int n]
theorem zac (xs:List Int):(zah xs).length = xs.length:=by simp [zah]
theorem zrp {xs:List Int} {k:Nat} (h:k < xs.length):(zah xs).getD k [] = [.int xs[k]]:=by simp [zah,List.getD,h]
theorem zn7 (xs ys:List Int):zah xs ++ zah ys = zah (xs ++ ys):=by simp [zah]
def inI (n:Int):Prop:=-9223372036854775808 ≤ n ∧ n ≤ 9223372036854775807
def zbd:Nat:=9223372036854775807
structure zcz (xs:List Int):Prop where
 len:xs.length ≤ zbd
 all:∀ x ∈ xs,inI x
theorem wr {n:Int} (h1:-9223372036854775808 ≤ n) (h2:n ≤ 9223372036854775807):zag n = n:=zuT h1 h2
theorem wrk {k:Nat} (h:k < zbd):zag ((k:Int) + 1) = ((k + 1:Nat):Int):=by
 unfold zbd at h
 rw [wr (by omega) (by omega)]
 omega
section
variable {ρ:Type} {r:ρ}
theorem zpc {rows:List (List AC)} {k:Nat} (h:k < rows.length) {sh:List AC} {K:Fn (Option ρ) sh} (h2:zhd sh (rows.getD k []) K = some r):zgI rows (k:Int) sh K = some r:=by
 unfold zgI zoT
 rw [decide_eq_true (by omega),decide_eq_true (by omega)]
 exact h2
theorem zfD {x:Option AV} {n:Int} (h:x = some (.v (.cell (.int n)))) {K:Fn (Option ρ) (zaQ [(false,[.int 0])])} (h2:(K:Int → Option ρ) n = some r):za8 x false [(false,[.int 0])] K = some r:=by rw [h]; exact h2
theorem za6 {x:Option AV} {n:Bool} (h:x = some (.v (.cell (.bool n)))) {K:Fn (Option ρ) (zaQ [(false,[.bool false])])} (h2:(K:Bool → Option ρ) n = some r):za8 x false [(false,[.bool false])] K = some r:=by rw [h]; exact h2
theorem zaU {x:Option AV} {k:Nat} {l:List (List AC)} (h:x = some (.v (.cell (.sl k l)))) {K:Fn (Option ρ) (zaQ [(false,[.sl k []])])} (h2:(K:List (List AC) → Option ρ) l = some r):za8 x false [(false,[.sl k []])] K = some r:=by
 rw [h]
 show (bif Nat.beq k k then _ else none) = _
 rw [Nat.beq_refl]
 exact h2
theorem zdf {l l':List (List AC)} (h:l.length + l'.length ≤ 68719476736) {K:List (List AC) → Option ρ} (h2:K (l ++ l') = some r):zfO l l' K = some r:=by
 unfold zfO zgu
 rw [decide_eq_true (by rw [List.length_append]; exact h)]
 exact h2
theorem zx8 {l:List (List AC)} {lo hi:Int} (h0:0 ≤ lo) (h1:lo ≤ hi) (h2:hi ≤ l.length) {K:List (List AC) → Option ρ} (h3:K ((l.drop lo.toNat).take (hi.toNat - lo.toNat)) = some r):zsf l lo hi K = some r:=by
 unfold zsf
 rw [decide_eq_true ⟨h0,h1,h2⟩]
 exact h3
theorem zaf {b:Bool} {x y:Option ρ} (h:b = true) (h2:x = some r):(bif b then x else y) = some r:=by rw [h]; exact h2
theorem zab {b:Bool} {x y:Option ρ} (h:b = false) (h2:y = some r):(bif b then x else y) = some r:=by rw [h]; exact h2
theorem zyv {rows:List (List AC)} {k:Nat} (h:k < rows.length) {a0:Int} (e:rows.getD k [] = [.int a0]) {K:Fn (Option ρ) [.int 0]} (h2:(K:Int → Option ρ) a0 = some r):zgI rows (k:Int) [.int 0] K = some r:=zpc h (by rw [e]; exact h2)
theorem zyh {rows:List (List AC)} {k:Nat} (h:k < rows.length) {a0:List (List AC)} (e:rows.getD k [] = [.sl 1 a0]) {K:Fn (Option ρ) [.sl 1 []]} (h2:(K:List (List AC) → Option ρ) a0 = some r):zgI rows (k:Int) [.sl 1 []] K = some r:=zpc h (by rw [e]; exact h2)
theorem zaG {x:Option AV} {a0:List (List AC)} (h:x = some (.v (.agg [.sl 1 a0]))) {K:Fn (Option ρ) (zaQ [(true,[.sl 1 []])])} (h2:(K:List (List AC) → Option ρ) a0 = some r):za8 x false [(true,[.sl 1 []])] K = some r:=by rw [h]; exact h2
theorem zlV {rows:List (List AC)} {k:Nat} (h:k < rows.length) {a0:Int} {a1:Int} {a2:List (List AC)} (e:rows.getD k [] = [.int a0,.int a1,.sl 1 a2]) {K:Fn (Option ρ) [.int 0,.int 0,.sl 1 []]} (h2:(K:Int → Int → List (List AC) → Option ρ) a0 a1 a2 = some r):zgI rows (k:Int) [.int 0,.int 0,.sl 1 []] K = some r:=zpc h (by rw [e]; exact h2)
theorem ztT {rows:List (List AC)} {k:Nat} (h:k < rows.length) {a0:Int} {a1:Int} {a2:List (List AC)} (e:rows.getD k [] = [.int a0,.int a1,.sl 3 a2]) {K:Fn (Option ρ) [.int 0,.int 0,.sl 3 []]} (h2:(K:Int → Int → List (List AC) → Option ρ) a0 a1 a2 = some r):zgI rows (k:Int) [.int 0,.int 0,.sl 3 []] K = some r:=zpc h (by rw [e]; exact h2)
theorem zaa {x:Option AV} {a0:Int} {a1:Int} {a2:List (List AC)} (h:x = some (.v (.agg [.int a0,.int a1,.sl 3 a2]))) {K:Fn (Option ρ) (zaQ [(true,[.int 0,.int 0,.sl 3 []])])} (h2:(K:Int → Int → List (List AC) → Option ρ) a0 a1 a2 = some r):za8 x false [(true,[.int 0,.int 0,.sl 3 []])] K = some r:=by rw [h]; exact h2
theorem zoM {rows:List (List AC)} {k:Nat} (h:k < rows.length) {a0:List (List AC)} {a1:Int} {a2:Int} {a3:Int} {a4:List (List AC)} (e:rows.getD k [] = [.sl 1 a0,.int a1,.int a2,.int a3,.sl 3 a4]) {K:Fn (Option ρ) [.sl 1 [],.int 0,.int 0,.int 0,.sl 3 []]} (h2:(K:List (List AC) → Int → Int → Int → List (List AC) → Option ρ) a0 a1 a2 a3 a4 = some r):zgI rows (k:Int) [.sl 1 [],.int 0,.int 0,.int 0,.sl 3 []] K = some r:=zpc h (by rw [e]; exact h2)
theorem callFunc {x:Option AV} {a0:List (List AC)} {a1:Int} {a2:Int} {a3:Int} {a4:List (List AC)} (h:x = some (.v (.agg [.sl 1 a0,.int a1,.int a2,.int a3,.sl 3 a4]))) {K:Fn (Option ρ) (zaQ [(true,[.sl 1 [],.int 0,.int 0,.int 0,.sl 3 []])])} (h2:(K:List (List AC) → Int → Int → Int → List (List AC) → Option ρ) a0 a1 a2 a3 a4 = some r):za8 x false [(true,[.sl 1 [],.int 0,.int 0,.int 0,.sl 3 []])] K = some r:=by rw [h]; exact h2
theorem zue {x:Option AV} {a0:List (List AC)} {a1:List (List AC)} (h:x = some (.v (.agg [.sl 3 a0,.sl 5 a1]))) {K:Fn (Option ρ) (zaQ [(true,[.sl 3 [],.sl 5 []])])} (h2:(K:List (List AC) → List (List AC) → Option ρ) a0 a1 = some r):za8 x false [(true,[.sl 3 [],.sl 5 []])] K = some r:=by rw [h]; exact h2
theorem zbm {xs:List Int} {k:Nat} (h:k < xs.length) {K:Fn (Option ρ) [.int 0]} (h2:(K:Int → Option ρ) xs[k] = some r):zgI (zah xs) (k:Int) [.int 0] K = some r:=zyv (by rw [zac]; exact h) (zrp h) h2
end
inductive Ty where
 | con
 | decl
 | expr
 | func
 | prog
 | step
 | block
 | routine
 | normal
 | cell
 | instr
 | proc
 | image
 | frame
 | state
inductive Fit:Ty → List AC → Prop
 | con (fs:List Int) (h:zcz fs):Fit .con [.sl 1 (zah fs)]
 | decl (f t:Int) (cons:List (List AC)) (hf:inI f) (ht:inI t) (hl:cons.length ≤ zbd) (h:∀ c ∈ cons,Fit .con c):Fit .decl [.int f,.int t,.sl 1 cons]
 | expr (o n:Int) (kids:List (List AC)) (ho:inI o) (hn:inI n) (hl:kids.length ≤ zbd) (h:∀ c ∈ kids,Fit .expr c):Fit .expr [.int o,.int n,.sl 3 kids]
 | func (ps:List Int) (r o n:Int) (kids:List (List AC)) (hp:zcz ps) (hr:inI r) (h:Fit .expr [.int o,.int n,.sl 3 kids]):Fit .func [.sl 1 (zah ps),.int r,.int o,.int n,.sl 3 kids]
 | prog (ds fs:List (List AC)) (hd:ds.length ≤ zbd) (hf:fs.length ≤ zbd) (h1:∀ d ∈ ds,Fit .decl d) (h2:∀ f ∈ fs,Fit .func f):Fit .prog [.sl 3 ds,.sl 5 fs]
 | step (o n i:Int) (args:List Int) (kids:List (List AC)) (ho:inI o) (hn:inI n) (hi:inI i) (ha:zcz args) (hl:kids.length ≤ zbd) (h:∀ b ∈ kids,Fit .block b):Fit .step [.int o,.int n,.int i,.sl 1 (zah args),.sl 2 kids]
 | block (steps:List (List AC)) (r:Int) (hr:inI r) (hl:steps.length ≤ zbd) (h:∀ s ∈ steps,Fit .step s):Fit .block [.sl 5 steps,.int r]
 | routine (ps lent:List Int) (r:Int) (steps:List (List AC)) (x:Int) (hp:zcz ps) (hl:zcz lent) (hr:inI r) (h:Fit .block [.sl 5 steps,.int x]):Fit .routine [.sl 1 (zah ps),.sl 1 (zah lent),.int r,.sl 5 steps,.int x]
 | normal (ds rs:List (List AC)) (hd:ds.length ≤ zbd) (hr:rs.length ≤ zbd) (h1:∀ d ∈ ds,Fit .decl d) (h2:∀ r ∈ rs,Fit .routine r):Fit .normal [.sl 3 ds,.sl 5 rs]
 | cell (c t:Int) (fs:List Int) (hc:inI c) (ht:inI t) (h:zcz fs):Fit .cell [.int c,.int t,.sl 1 (zah fs)]
 | instr (o d n i:Int) (args jumps:List Int) (ho:inI o) (hd:inI d) (hn:inI n) (hi:inI i) (ha:zcz args) (hj:zcz jumps):Fit .instr [.int o,.int d,.int n,.int i,.sl 1 (zah args),.sl 1 (zah jumps)]
 | proc (ps lent:List Int) (r regs:Int) (code:List (List AC)) (hp:zcz ps) (hl:zcz lent) (hr:inI r) (hg:inI regs) (hc:code.length ≤ zbd) (h:∀ x ∈ code,Fit .instr x):Fit .proc [.sl 1 (zah ps),.sl 1 (zah lent),.int r,.int regs,.sl 6 code]
 | image (ds procs:List (List AC)) (hd:ds.length ≤ zbd) (hp:procs.length ≤ zbd) (h1:∀ d ∈ ds,Fit .decl d) (h2:∀ p ∈ procs,Fit .proc p):Fit .image [.sl 3 ds,.sl 5 procs]
 | frame (p a d:Int) (regs own held:List Int) (hp:inI p) (ha:inI a) (hd:inI d) (h1:zcz regs) (h2:zcz own) (h3:zcz held):Fit .frame [.int p,.int a,.int d,.sl 1 (zah regs),.sl 1 (zah own),.sl 1 (zah held)]
 | state (s v c m:Int) (out:List Int) (heap frames:List (List AC)) (hs:inI s) (hv:inI v) (hc:inI c) (hm:inI m) (ho:zcz out) (hh:heap.length ≤ zbd) (hf:frames.length ≤ zbd) (h1:∀ x ∈ heap,Fit .cell x) (h2:∀ x ∈ frames,Fit .frame x):Fit .state [.int s,.int v,.int c,.int m,.sl 1 (zah out),.sl 3 heap,.sl 6 frames]
theorem zgx {α:Type} {l:List α} {k:Nat} (h:k < l.length) (d:α):l.getD k d ∈ l:=by simp [List.getD,List.getElem?_eq_getElem h]
end Go.Proofs.Ytcpcagdialnbeaa
namespace Go.Proofs.Ytcpcagdialnbeaa
open Go Go.RowKit
theorem zfW {p:Stb} {w w':World} {B k:Nat} (hu:∀ j,p.ok B j → j = k) (h:Evo (· = B) (raP p B 0) w (raP p B 0) w') {v:Value} {c:AC} (hr:Rep p w v c) (ha:apC k c = true):Rep p w' v c:=by
 have h1:∀ b,(raP p B 0) b = p b ∨ ∀ j,p.ok b j → j = k:=fun b => by
  by_cases e:b = B
  ·subst e; exact .inr hu
  ·exact .inl (zqp e)
 have h2:∀ b,p b = (raP p B 0) b ∨ ∀ j,(raP p B 0).ok b j → j = k:=fun b => by
  rcases h1 b with e | e
  ·exact .inl e.symm
  ·exact .inr e
 exact ((hr.low h1 rfl ha).evo h).low h2 rfl ha
theorem zmw {p:Stb} {w w':World} {B k:Nat} (hu:∀ j,p.ok B j → j = k) (hB:p.ok B k) (hk:2 ≤ k) (h:Evo (· = B) (raP p B 0) w (raP p B 0) w') {v:Value} {ns:List Nat} (hr:RepQ p w v (.sl 1 (ns.map fun (u:Nat) => [.bool true,.int (u:Int)]))):RepQ p w' v (.sl 1 (ns.map fun (u:Nat) => [.bool true,.int (u:Int)])):=by
 rcases hr with hr | ⟨A,n,cap,e,hc,ms,hl,hq,hx⟩
 ·refine .inl (zfW hu h hr ?_)
  have:apR k (ns.map fun (u:Nat) => [AC.bool true,.int (u:Int)]) = true:=by
   clear hr
   induction ns with
   | nil => rfl
   | cons n ns ih => simp only [List.map_cons,apR,apL,apC,Bool.and_true,ih]
  simp only [apC,this,Bool.and_true,Bool.not_eq_true']
  exact Bool.eq_false_iff.2 fun e => by have:=Nat.eq_of_beq_eq_true e; omega
 ·refine .inr ⟨A,n,cap,e,hc,ms,hl,hq,fun hn => ?_⟩
  obtain ⟨b,o,hA,hb,hp,hok,hy⟩:=hx hn
  have hne:b ≠ B:=fun e => hok k (e ▸ hB)
  refine ⟨b,o,hA,Nat.lt_of_lt_of_le hb h.size,hp,hok,fun i u hu => ?_⟩
  obtain ⟨h1,h2⟩:=hy i u hu
  refine ⟨h1,?_⟩
  rw [World.cell?_of_block (w:=w) (h.block b hb hne)]
  exact h2
theorem zcw {p:Stb} {w:World} {b o n cap k:Nat} {rows:List (List AC)} (h:Rep p w (.slice (some ⟨b,o,none⟩) n cap) (.sl k rows)) (hn:rows ≠ []):n = rows.length ∧ 0 < k ∧ (∀ r ∈ rows,r.length = k) ∧ b < w.heap.size ∧ o + rows.length * k ≤ p b ∧ p.ok b k ∧ rows.length ≤ cap ∧
  ∃ f:Nat → Nat → Value,(∀ i j c,(rows.getD i [])[j]? = some c → w.cell? ⟨b,o + i * k + j,none⟩ = some (f i j)) ∧ ∀ i j c,(rows.getD i [])[j]? = some c → Rep p w (f i j) c:=by
 generalize hv:Value.slice (some ⟨b,o,none⟩) n cap = v at h
 generalize hc:AC.sl k rows = c at h
 cases h with
 | int n => cases hc
 | bool b => cases hc
 | nil a k => cases hc; exact absurd rfl hn
 | sl b' o' cap' k' rows' f hk hrows hb hp hok hcap hcc hrr =>
  cases hc
  cases hv
  exact ⟨rfl,hk,hrows,hb,hp,hok,hcap,f,hcc,hrr⟩
theorem zjE (k:Nat):∀ xs:List Int,apR k (zah xs) = true
 | [] => rfl
 | x :: xs => by
  have:=zjE k xs
  simp only [zah] at this
  simp only [zah,List.map_cons,apR,apL,apC,Bool.and_true,this]
theorem znX {row:List AC} (h:Fit .expr row):apL 5 row = true:=by
 generalize hk:Ty.expr = kd at h
 induction h with
 | expr o n kids ho hn hl h ih =>
  have:∀ l:List (List AC),(∀ c ∈ l,apL 5 c = true) → apR 5 l = true:=by
   intro l
   induction l with
   | nil => intro _; rfl
   | cons c l ih => intro h; simp only [apR,h c (by simp),ih fun x hx => h x (by simp [hx]),Bool.and_true]
  simp only [apL,apC,Bool.and_true,Bool.true_and,this kids fun c hc => ih c hc rfl]
  rfl
 | _ => cases hk
def zec (w:World) (B o:Nat) (x0 x1 x2 x3 x4:Value):World:=((((w.setCell ⟨B,o,none⟩ x0).setCell ⟨B,o + 1,none⟩ x1).setCell ⟨B,o + 2,none⟩ x2).setCell ⟨B,o + 3,none⟩ x3).setCell ⟨B,o + 4,none⟩ x4
section
variable {w:World} {B o:Nat} {x0 x1 x2 x3 x4:Value}
theorem zkE {a:Array Value} {T:TypeId} (h:w.heap[B]? = some (.cells a T (0,0))):(zec w B o x0 x1 x2 x3 x4).heap[B]? = some (.cells (((((a.setIfInBounds o x0).setIfInBounds (o + 1) x1).setIfInBounds (o + 2) x2).setIfInBounds (o + 3) x3).setIfInBounds (o + 4) x4) T (0,0)) :=
 heap_setCell_same _ _ _ _ _ _ (heap_setCell_same _ _ _ _ _ _ (heap_setCell_same _ _ _ _ _ _ (heap_setCell_same _ _ _ _ _ _ (heap_setCell_same _ _ _ _ _ _ h))))
theorem zbw {b:Nat} (h:b ≠ B):(zec w B o x0 x1 x2 x3 x4).heap[b]? = w.heap[b]?:=by
 unfold zec
 rw [heap_setCell_other _ _ _ _ h,heap_setCell_other _ _ _ _ h,heap_setCell_other _ _ _ _ h,heap_setCell_other _ _ _ _ h,heap_setCell_other _ _ _ _ h]
theorem zbO:(zec w B o x0 x1 x2 x3 x4).heap.size = w.heap.size:=by simp [zec,World.setCell]
theorem zjI (p:Stb) (hp:p B = 0):Evo (· = B) p w p (zec w B o x0 x1 x2 x3 x4):=by
 refine zbI hp zbO (fun y hy => zbw hy) ?_ ?_ ?_ <;> simp [zec,World.setCell]
theorem zrr {a:Array Value} {T:TypeId} (h:w.heap[B]? = some (.cells a T (0,0))) (ho:o + 5 ≤ a.size) (i:Nat):(zec w B o x0 x1 x2 x3 x4).cell? ⟨B,i,none⟩ = if i = o then some x0 else if i = o + 1 then some x1 else if i = o + 2 then some x2 else if i = o + 3 then some x3 else if i = o + 4 then some x4 else w.cell? ⟨B,i,none⟩:=by
 have hc:∀ {w:World} {a:Array Value},w.heap[B]? = some (.cells a T (0,0)) → w.cell? ⟨B,i,none⟩ = a[i]?:=fun h => by simp [World.cell?,h]
 rw [hc (zkE h),hc h]
 simp only [Array.getElem?_setIfInBounds,Array.size_setIfInBounds]
 by_cases h4:i = o + 4
 ·subst h4; simp; omega
 by_cases h3:i = o + 3
 ·subst h3; simp; omega
 by_cases h2:i = o + 2
 ·subst h2; simp; omega
 by_cases h1:i = o + 1
 ·subst h1; simp; omega
 by_cases h0:i = o
 ·subst h0; simp; omega
 rw [if_neg (fun e => h4 e.symm),if_neg (fun e => h3 e.symm),if_neg (fun e => h2 e.symm),if_neg (fun e => h1 e.symm),if_neg (fun e => h0 e.symm),if_neg h0,if_neg h1,if_neg h2,if_neg h3,if_neg h4]
end
theorem zmK {p:Stb} {w:World} {B o n cap k:Nat} {rows:List (List AC)} {a:Array Value} {T:TypeId} (hb:w.heap[B]? = some (.cells a T (0,0))) (hs:o + n * 5 ≤ a.size) (hu:∀ j,p.ok B j → j = 5) (h:Rep p w (.slice (some ⟨B,o,none⟩) n cap) (.sl 5 rows)) (ha:∀ r ∈ rows,apL 5 r = true) (hk:k < rows.length)
  {x0 x1 x2 x3 x4:Value} {c0 c1 c2 c3 c4:AC} (hr:RepL p w [x0,x1,x2,x3,x4] [c0,c1,c2,c3,c4]) (hc:apL 5 [c0,c1,c2,c3,c4] = true) :
  Rep p (zec w B (o + k * 5) x0 x1 x2 x3 x4) (.slice (some ⟨B,o,none⟩) n cap) (.sl 5 (rows.set k [c0,c1,c2,c3,c4])):=by
 obtain ⟨rfl,h5,hrows,hB,hp,hok,hcap,f,hcc,hrr⟩:=zcw h (by intro e; rw [e] at hk; simp at hk)
 have hev:=zjI (w:=w) (B:=B) (o:=o + k * 5) (x0:=x0) (x1:=x1) (x2:=x2) (x3:=x3) (x4:=x4) (raP p B 0) (by rw [zeE,if_pos rfl])
 have hl:=fun {v:Value} {c:AC} (hr:Rep p w v c) (ha:apC 5 c = true) => zfW hu hev hr ha
 have hlen:(rows.set k [c0,c1,c2,c3,c4]).length = rows.length:=by simp
 simp only [RepL] at hr
 obtain ⟨r0,r1,r2,r3,r4,_⟩:=hr
 simp only [apL,Bool.and_eq_true] at hc
 obtain ⟨a0,a1,a2,a3,a4,_⟩:=hc
 have hget:∀ (i j:Nat) (c:AC),((rows.set k [c0,c1,c2,c3,c4]).getD i [])[j]? = some c → (i = k ∧ [c0,c1,c2,c3,c4][j]? = some c) ∨ (i ≠ k ∧ (rows.getD i [])[j]? = some c):=fun i j c h => by
  by_cases hik:i = k
  ·subst hik
   simp only [List.getD,List.getElem?_set_self hk,Option.getD_some] at h
   exact .inl ⟨rfl,h⟩
  ·simp only [List.getD,List.getElem?_set_ne (fun e => hik e.symm)] at h
   exact .inr ⟨hik,h⟩
 rw [← hlen]
 refine .sl B o cap 5 _ (fun i j => if i = k then [x0,x1,x2,x3,x4].getD j undef else f i j) h5 (fun r hr => ?_) (by rw [zbO]; exact hB) (by rw [hlen]; exact hp) hok (by rw [hlen]; exact hcap) (fun i j c h => ?_) (fun i j c h => ?_)
 ·rcases List.mem_or_eq_of_mem_set hr with h | rfl
  ·exact hrows r h
  ·rfl
 ·rw [zrr hb (by omega)]
  rcases hget i j c h with ⟨rfl,hj⟩ | ⟨hik,hj⟩
  ·have hj5:=(List.getElem?_eq_some_iff.1 hj).1
   simp only [List.length_cons,List.length_nil] at hj5
   rcases (by omega:j = 0 ∨ j = 1 ∨ j = 2 ∨ j = 3 ∨ j = 4) with rfl | rfl | rfl | rfl | rfl <;> simp
  ·have hlt:i < rows.length:=by
    rcases Nat.lt_or_ge i rows.length with h | h
    ·exact h
    ·simp [List.getD,List.getElem?_eq_none h] at hj
   have hj5:=(List.getElem?_eq_some_iff.1 hj).1
   rw [hrows _ (by simp [List.getD,hlt])] at hj5
   rw [if_neg (by omega),if_neg (by omega),if_neg (by omega),if_neg (by omega),if_neg (by omega),if_neg hik]
   exact hcc i j c hj
 ·rcases hget i j c h with ⟨rfl,hj⟩ | ⟨hik,hj⟩
  ·have hj5:=(List.getElem?_eq_some_iff.1 hj).1
   simp only [List.length_cons,List.length_nil] at hj5
   rw [if_pos rfl]
   rcases (by omega:j = 0 ∨ j = 1 ∨ j = 2 ∨ j = 3 ∨ j = 4) with rfl | rfl | rfl | rfl | rfl <;> simp only [List.getElem?_cons_zero,List.getElem?_cons_succ,Option.some.injEq] at hj <;> subst hj
   ·exact hl r0 a0
   ·exact hl r1 a1
   ·exact hl r2 a2
   ·exact hl r3 a3
   ·exact hl r4 a4
  ·have hlt:i < rows.length:=by
    rcases Nat.lt_or_ge i rows.length with h | h
    ·exact h
    ·simp [List.getD,List.getElem?_eq_none h] at hj
   rw [if_neg hik]
   have hap:=ha (rows.getD i []) (by simp [List.getD,hlt])
   exact hl (hrr i j c hj) (zhF hap c (List.mem_of_getElem? hj))
end Go.Proofs.Ytcpcagdialnbeaa
namespace Go.Proofs.Ytcpcagdialnbeaa
open Go
def lay:Lay:=⟨[(3,⟨0,1,[.int 0],[],0⟩),(4,⟨1,1,[.bool false],[],0⟩),(23,⟨2,1,[.sl 3 []],[],83⟩),(24,⟨2,1,[.sl 5 []],[],35⟩),(26,⟨3,2,[.sl 3 [],.sl 5 []],[(0,1),(1,1)],0⟩),(30,⟨2,1,[.sl 3 []],[],32⟩),(32,⟨3,3,[.int 0,.int 0,.sl 3 []],[(0,1),(1,1),(2,1)],0⟩),(33,⟨2,1,[.sl 1 []],[],3⟩),(35,⟨3,5,[.sl 1 [],.int 0,.int 0,.int 0,.sl 3 []],[(0,1),(1,1),(2,3)],0⟩),(62,⟨3,2,[.sl 1 [],.sl 1 []],[(0,1),(1,1)],0⟩),(68,⟨3,2,[.sl 1 [],.int 0],[(0,1),(1,1)],0⟩),(81,⟨2,1,[.sl 1 []],[],94⟩),(83,⟨3,3,[.int 0,.int 0,.sl 1 []],[(0,1),(1,1),(2,1)],0⟩),(94,⟨3,1,[.sl 1 []],[(0,1)],0⟩)],[(48,18),(68,6)],[13,14,22,23,32,35,36,42,43,44,57,60,61,62,64,65,66,70,71,72,74,82,84,85,86,87,88,89,91,92,98,101,104,107,109,110],[]⟩
theorem zfn:LayOk Try.prog lay:=zrQ (by kernel_rfl)
def sig:Sig:=[(3,⟨[],[]⟩),(5,⟨[],[]⟩),(6,⟨[],[]⟩),(7,⟨[],[]⟩),(8,⟨[],[]⟩),(9,⟨[],[]⟩),(10,⟨[],[]⟩),(13,⟨[],[]⟩),(14,⟨[],[]⟩),(15,⟨[],[(2,3)]⟩),(16,⟨[],[(0,1)]⟩),(17,⟨[],[]⟩),(18,⟨[],[]⟩),(19,⟨[],[(2,3)]⟩),(20,⟨[],[]⟩),(21,⟨[],[]⟩),(22,⟨[],[]⟩),(23,⟨[],[]⟩),(24,⟨[],[]⟩),(26,⟨[],[(0,1)]⟩),(28,⟨[],[]⟩),(30,⟨[],[]⟩),(32,⟨[],[]⟩),(33,⟨[],[]⟩),(34,⟨[],[]⟩),(35,⟨[],[]⟩),(36,⟨[],[]⟩),(37,⟨[],[]⟩),(38,⟨[],[]⟩),(39,⟨[],[(2,3)]⟩),(40,⟨[],[]⟩),(42,⟨[],[]⟩),(43,⟨[],[]⟩),(44,⟨[],[]⟩),(45,⟨[],[]⟩),(46,⟨[],[]⟩),(47,⟨[],[(0,3)]⟩),(48,⟨[],[]⟩),(49,⟨[],[(2,3)]⟩),(50,⟨[],[(2,3)]⟩),(51,⟨[],[(0,1)]⟩),(52,⟨[],[(0,3)]⟩),(53,⟨[],[]⟩),(54,⟨[],[]⟩),(55,⟨[],[]⟩),(56,⟨[],[]⟩),(57,⟨[],[]⟩),(58,⟨[],[(0,1)]⟩),(59,⟨[],[]⟩),(60,⟨[],[]⟩),(61,⟨[],[]⟩),(62,⟨[],[]⟩),(63,⟨[],[]⟩),(64,⟨[],[]⟩),(65,⟨[],[]⟩),(66,⟨[],[]⟩),(67,⟨[],[(0,3)]⟩),(68,⟨[],[]⟩),(69,⟨[],[]⟩),(70,⟨[],[]⟩),(71,⟨[],[]⟩),(72,⟨[],[]⟩),(73,⟨[],[]⟩),(74,⟨[],[]⟩),(75,⟨[],[(0,3)]⟩),(76,⟨[],[]⟩),(77,⟨[],[(0,1)]⟩),(78,⟨[],[]⟩),(79,⟨[],[(2,3)]⟩),(80,⟨[],[]⟩),(81,⟨[],[]⟩),(82,⟨[],[]⟩),(83,⟨[],[]⟩),(84,⟨[],[]⟩),(85,⟨[],[]⟩),(86,⟨[],[]⟩),(87,⟨[],[]⟩),(88,⟨[],[]⟩),(89,⟨[],[]⟩),(90,⟨[],[(0,1)]⟩),(91,⟨[],[]⟩),(92,⟨[],[]⟩),(93,⟨[],[]⟩),(94,⟨[],[]⟩),(95,⟨[],[]⟩),(96,⟨[],[]⟩),(97,⟨[],[(0,1)]⟩),(98,⟨[],[]⟩),(99,⟨[],[]⟩),(100,⟨[],[(0,1)]⟩),(101,⟨[],[]⟩),(102,⟨[],[]⟩),(103,⟨[],[]⟩),(104,⟨[],[]⟩),(105,⟨[],[]⟩),(106,⟨[],[(0,1)]⟩),(107,⟨[],[]⟩),(108,⟨[],[]⟩),(109,⟨[],[]⟩),(110,⟨[],[]⟩)]
theorem zd9:Try.prog.follows .mixedOrders = true:=by kernel_rfl
theorem zxu:zas zam lay sig Try.f3 (sig.sg 3) = true:=by kernel_rfl
theorem zxF:zas zam lay sig Try.f5 (sig.sg 5) = true:=by kernel_rfl
theorem zw8:zas zam lay sig Try.f6 (sig.sg 6) = true:=by kernel_rfl
theorem zwR:zas zam lay sig Try.f7 (sig.sg 7) = true:=by kernel_rfl
theorem zxv:zas zam lay sig Try.f8 (sig.sg 8) = true:=by kernel_rfl
theorem zxm:zas zam lay sig Try.f9 (sig.sg 9) = true:=by kernel_rfl
theorem zwr:zas zam lay sig Try.f10 (sig.sg 10) = true:=by kernel_rfl
theorem zwF:zas zam lay sig Try.f13 (sig.sg 13) = true:=by kernel_rfl
theorem zww:zas zam lay sig Try.f14 (sig.sg 14) = true:=by kernel_rfl
theorem zuR:zas zam lay sig Try.f15 (sig.sg 15) = true:=by kernel_rfl
theorem zuC:zas zam lay sig Try.f16 (sig.sg 16) = true:=by kernel_rfl
theorem zvT:zas zam lay sig Try.f17 (sig.sg 17) = true:=by kernel_rfl
theorem zuq:zas zam lay sig Try.f18 (sig.sg 18) = true:=by kernel_rfl
theorem zum:zas zam lay sig Try.f19 (sig.sg 19) = true:=by kernel_rfl
theorem zwv:zas zam lay sig Try.f20 (sig.sg 20) = true:=by kernel_rfl
theorem zvH:zas zam lay sig Try.f21 (sig.sg 21) = true:=by kernel_rfl
theorem zwk:zas zam lay sig Try.f22 (sig.sg 22) = true:=by kernel_rfl
theorem zwA:zas zam lay sig Try.f23 (sig.sg 23) = true:=by kernel_rfl
theorem zuJ:zas zam lay sig Try.f24 (sig.sg 24) = true:=by kernel_rfl
theorem zwy:zas zam lay sig Try.f26 (sig.sg 26) = true:=by kernel_rfl
theorem zwp:zas zam lay sig Try.f28 (sig.sg 28) = true:=by kernel_rfl
theorem zwb:zas zam lay sig Try.f30 (sig.sg 30) = true:=by kernel_rfl
theorem zuO:zas zam lay sig Try.f32 (sig.sg 32) = true:=by kernel_rfl
theorem zwG:zas zam lay sig Try.f33 (sig.sg 33) = true:=by kernel_rfl
theorem zv5:zas zam lay sig Try.f34 (sig.sg 34) = true:=by kernel_rfl
theorem zvF:zas zam lay sig Try.f35 (sig.sg 35) = true:=by kernel_rfl
theorem zvU:zas zam lay sig Try.f36 (sig.sg 36) = true:=by kernel_rfl
theorem zvP:zas zam lay sig Try.f37 (sig.sg 37) = true:=by kernel_rfl
theorem zuZ:zas zam lay sig Try.f38 (sig.sg 38) = true:=by kernel_rfl
theorem zvI:zas zam lay sig Try.f39 (sig.sg 39) = true:=by kernel_rfl
theorem zvq:zas zam lay sig Try.f40 (sig.sg 40) = true:=by kernel_rfl
theorem zuu:zas zam lay sig Try.f42 (sig.sg 42) = true:=by kernel_rfl
theorem zwo:zas zam lay sig Try.f43 (sig.sg 43) = true:=by kernel_rfl
theorem zwm:zas zam lay sig Try.f44 (sig.sg 44) = true:=by kernel_rfl
theorem zvz:zas zam lay sig Try.f45 (sig.sg 45) = true:=by kernel_rfl
theorem zv9:zas zam lay sig Try.f46 (sig.sg 46) = true:=by kernel_rfl
theorem zup:zas zam lay sig Try.f47 (sig.sg 47) = true:=by kernel_rfl
theorem zus:zas zam lay sig Try.f48 (sig.sg 48) = true:=by kernel_rfl
theorem zuE:zas zam lay sig Try.f49 (sig.sg 49) = true:=by kernel_rfl
theorem zuv:zas zam lay sig Try.f50 (sig.sg 50) = true:=by kernel_rfl
theorem zuW:zas zam lay sig Try.f51 (sig.sg 51) = true:=by kernel_rfl
theorem zu8:zas zam lay sig Try.f52 (sig.sg 52) = true:=by kernel_rfl
theorem zuV:zas zam lay sig Try.f53 (sig.sg 53) = true:=by kernel_rfl
theorem zuX:zas zam lay sig Try.f54 (sig.sg 54) = true:=by kernel_rfl
theorem zuK:zas zam lay sig Try.f55 (sig.sg 55) = true:=by kernel_rfl
theorem zuA:zas zam lay sig Try.f56 (sig.sg 56) = true:=by kernel_rfl
theorem zvZ:zas zam lay sig Try.f57 (sig.sg 57) = true:=by kernel_rfl
theorem zwh:zas zam lay sig Try.f58 (sig.sg 58) = true:=by kernel_rfl
theorem zuQ:zas zam lay sig Try.f59 (sig.sg 59) = true:=by kernel_rfl
theorem zut:zas zam lay sig Try.f60 (sig.sg 60) = true:=by kernel_rfl
theorem zu6:zas zam lay sig Try.f61 (sig.sg 61) = true:=by kernel_rfl
theorem zwa:zas zam lay sig Try.f62 (sig.sg 62) = true:=by kernel_rfl
theorem zvY:zas zam lay sig Try.f63 (sig.sg 63) = true:=by kernel_rfl
theorem zwI:zas zam lay sig Try.f64 (sig.sg 64) = true:=by kernel_rfl
theorem zuH:zas zam lay sig Try.f65 (sig.sg 65) = true:=by kernel_rfl
theorem zvx:zas zam lay sig Try.f66 (sig.sg 66) = true:=by kernel_rfl
theorem zu2:zas zam lay sig Try.f67 (sig.sg 67) = true:=by kernel_rfl
theorem zuB:zas zam lay sig Try.f68 (sig.sg 68) = true:=by kernel_rfl
theorem zv0:zas zam lay sig Try.f69 (sig.sg 69) = true:=by kernel_rfl
theorem zwu:zas zam lay sig Try.f70 (sig.sg 70) = true:=by kernel_rfl
theorem zwt:zas zam lay sig Try.f71 (sig.sg 71) = true:=by kernel_rfl
theorem zu5:zas zam lay sig Try.f72 (sig.sg 72) = true:=by kernel_rfl
theorem zvk:zas zam lay sig Try.f73 (sig.sg 73) = true:=by kernel_rfl
theorem zvG:zas zam lay sig Try.f74 (sig.sg 74) = true:=by kernel_rfl
theorem zuU:zas zam lay sig Try.f75 (sig.sg 75) = true:=by kernel_rfl
theorem zwg:zas zam lay sig Try.f76 (sig.sg 76) = true:=by kernel_rfl
theorem zvy:zas zam lay sig Try.f77 (sig.sg 77) = true:=by kernel_rfl
theorem zvW:zas zam lay sig Try.f78 (sig.sg 78) = true:=by kernel_rfl
theorem zvm:zas zam lay sig Try.f79 (sig.sg 79) = true:=by kernel_rfl
theorem zu1:zas zam lay sig Try.f80 (sig.sg 80) = true:=by kernel_rfl
theorem zwx:zas zam lay sig Try.f81 (sig.sg 81) = true:=by kernel_rfl
theorem zwj:zas zam lay sig Try.f82 (sig.sg 82) = true:=by kernel_rfl
theorem zwC:zas zam lay sig Try.f83 (sig.sg 83) = true:=by kernel_rfl
theorem zvw:zas zam lay sig Try.f84 (sig.sg 84) = true:=by kernel_rfl
theorem zvK:zas zam lay sig Try.f85 (sig.sg 85) = true:=by kernel_rfl
theorem zwH:zas zam lay sig Try.f86 (sig.sg 86) = true:=by kernel_rfl
theorem zvV:zas zam lay sig Try.f87 (sig.sg 87) = true:=by kernel_rfl
theorem zux:zas zam lay sig Try.f88 (sig.sg 88) = true:=by kernel_rfl
theorem zu9:zas zam lay sig Try.f89 (sig.sg 89) = true:=by kernel_rfl
theorem zvR:zas zam lay sig Try.f90 (sig.sg 90) = true:=by kernel_rfl
theorem zvB:zas zam lay sig Try.f91 (sig.sg 91) = true:=by kernel_rfl
theorem zvQ:zas zam lay sig Try.f92 (sig.sg 92) = true:=by kernel_rfl
theorem zv7:zas zam lay sig Try.f93 (sig.sg 93) = true:=by kernel_rfl
theorem zwB:zas zam lay sig Try.f94 (sig.sg 94) = true:=by kernel_rfl
theorem zwE:zas zam lay sig Try.f95 (sig.sg 95) = true:=by kernel_rfl
theorem zvr:zas zam lay sig Try.f96 (sig.sg 96) = true:=by kernel_rfl
theorem zv1:zas zam lay sig Try.f97 (sig.sg 97) = true:=by kernel_rfl
theorem zuD:zas zam lay sig Try.f98 (sig.sg 98) = true:=by kernel_rfl
theorem zvi:zas zam lay sig Try.f99 (sig.sg 99) = true:=by kernel_rfl
theorem zuh:zas zam lay sig Try.f100 (sig.sg 100) = true:=by kernel_rfl
theorem zsP:zas zam lay sig Try.f101 (sig.sg 101) = true:=by kernel_rfl
theorem zsp:zas zam lay sig Try.f102 (sig.sg 102) = true:=by kernel_rfl
theorem zs6:zas zam lay sig Try.f103 (sig.sg 103) = true:=by kernel_rfl
theorem ztJ:zas zam lay sig Try.f104 (sig.sg 104) = true:=by kernel_rfl
theorem ztG:zas zam lay sig Try.f105 (sig.sg 105) = true:=by kernel_rfl
theorem zsc:zas zam lay sig Try.f106 (sig.sg 106) = true:=by kernel_rfl
theorem ztK:zas zam lay sig Try.f107 (sig.sg 107) = true:=by kernel_rfl
theorem zud:zas zam lay sig Try.f108 (sig.sg 108) = true:=by kernel_rfl
theorem zsM:zas zam lay sig Try.f109 (sig.sg 109) = true:=by kernel_rfl
theorem zse:zas zam lay sig Try.f110 (sig.sg 110) = true:=by kernel_rfl
theorem zoj:∀ f,sig.has f = true → ∃ fn,Try.prog.funcs[f]? = some fn ∧ zas zam lay sig fn (sig.sg f) = true:=by
 intro f hf
 have hm:f ∈ [3,5,6,7,8,9,10,13,14,15,16,17,18,19,20,21,22,23,24,26,28,30,32,33,34,35,36,37,38,39,40,42,43,44,45,46,47,48,49,50,51,52,53,54,55,56,57,58,59,60,61,62,63,64,65,66,67,68,69,70,71,72,73,74,75,76,77,78,79,80,81,82,83,84,85,86,87,88,89,90,91,92,93,94,95,96,97,98,99,100,101,102,103,104,105,106,107,108,109,110]:=by
  unfold Sig.has at hf
  obtain ⟨x,hx⟩:=Option.isSome_iff_exists.1 hf
  have:=zaO hx
  have h2:f ∈ sig.map (·.1):=List.mem_map.2 ⟨_,this,rfl⟩
  exact h2
 simp only [List.mem_cons,List.not_mem_nil,or_false] at hm
 rcases hm with rfl | rfl | rfl | rfl | rfl | rfl | rfl | rfl | rfl | rfl | rfl | rfl | rfl | rfl | rfl | rfl | rfl | rfl | rfl | rfl | rfl | rfl | rfl | rfl | rfl | rfl | rfl | rfl | rfl | rfl | rfl | rfl | rfl | rfl | rfl | rfl | rfl | rfl | rfl | rfl | rfl | rfl | rfl | rfl | rfl | rfl | rfl | rfl | rfl | rfl | rfl | rfl | rfl | rfl | rfl | rfl | rfl | rfl | rfl | rfl | rfl | rfl | rfl | rfl | rfl | rfl | rfl | rfl | rfl | rfl | rfl | rfl | rfl | rfl | rfl | rfl | rfl | rfl | rfl | rfl | rfl | rfl | rfl | rfl | rfl | rfl | rfl | rfl | rfl | rfl | rfl | rfl | rfl | rfl | rfl | rfl | rfl | rfl | rfl | rfl
 ·exact ⟨_,Try.func3,zxu⟩
 ·exact ⟨_,Try.func5,zxF⟩
 ·exact ⟨_,Try.func6,zw8⟩
 ·exact ⟨_,Try.func7,zwR⟩
 ·exact ⟨_,Try.func8,zxv⟩
 ·exact ⟨_,Try.func9,zxm⟩
 ·exact ⟨_,Try.func10,zwr⟩
 ·exact ⟨_,Try.func13,zwF⟩
 ·exact ⟨_,Try.func14,zww⟩
 ·exact ⟨_,Try.func15,zuR⟩
 ·exact ⟨_,Try.func16,zuC⟩
 ·exact ⟨_,Try.func17,zvT⟩
 ·exact ⟨_,Try.func18,zuq⟩
 ·exact ⟨_,Try.func19,zum⟩
 ·exact ⟨_,Try.func20,zwv⟩
 ·exact ⟨_,Try.func21,zvH⟩
 ·exact ⟨_,Try.func22,zwk⟩
 ·exact ⟨_,Try.func23,zwA⟩
 ·exact ⟨_,Try.func24,zuJ⟩
 ·exact ⟨_,Try.func26,zwy⟩
 ·exact ⟨_,Try.func28,zwp⟩
 ·exact ⟨_,Try.func30,zwb⟩
 ·exact ⟨_,Try.func32,zuO⟩
 ·exact ⟨_,Try.func33,zwG⟩
 ·exact ⟨_,Try.func34,zv5⟩
 ·exact ⟨_,Try.func35,zvF⟩
 ·exact ⟨_,Try.func36,zvU⟩
 ·exact ⟨_,Try.func37,zvP⟩
 ·exact ⟨_,Try.func38,zuZ⟩
 ·exact ⟨_,Try.func39,zvI⟩
 ·exact ⟨_,Try.func40,zvq⟩
 ·exact ⟨_,Try.func42,zuu⟩
 ·exact ⟨_,Try.func43,zwo⟩
 ·exact ⟨_,Try.func44,zwm⟩
 ·exact ⟨_,Try.func45,zvz⟩
 ·exact ⟨_,Try.func46,zv9⟩
 ·exact ⟨_,Try.func47,zup⟩
 ·exact ⟨_,Try.func48,zus⟩
 ·exact ⟨_,Try.func49,zuE⟩
 ·exact ⟨_,Try.func50,zuv⟩
 ·exact ⟨_,Try.func51,zuW⟩
 ·exact ⟨_,Try.func52,zu8⟩
 ·exact ⟨_,Try.func53,zuV⟩
 ·exact ⟨_,Try.func54,zuX⟩
 ·exact ⟨_,Try.func55,zuK⟩
 ·exact ⟨_,Try.func56,zuA⟩
 ·exact ⟨_,Try.func57,zvZ⟩
 ·exact ⟨_,Try.func58,zwh⟩
 ·exact ⟨_,Try.func59,zuQ⟩
 ·exact ⟨_,Try.func60,zut⟩
 ·exact ⟨_,Try.func61,zu6⟩
 ·exact ⟨_,Try.func62,zwa⟩
 ·exact ⟨_,Try.func63,zvY⟩
 ·exact ⟨_,Try.func64,zwI⟩
 ·exact ⟨_,Try.func65,zuH⟩
 ·exact ⟨_,Try.func66,zvx⟩
 ·exact ⟨_,Try.func67,zu2⟩
 ·exact ⟨_,Try.func68,zuB⟩
 ·exact ⟨_,Try.func69,zv0⟩
 ·exact ⟨_,Try.func70,zwu⟩
 ·exact ⟨_,Try.func71,zwt⟩
 ·exact ⟨_,Try.func72,zu5⟩
 ·exact ⟨_,Try.func73,zvk⟩
 ·exact ⟨_,Try.func74,zvG⟩
 ·exact ⟨_,Try.func75,zuU⟩
 ·exact ⟨_,Try.func76,zwg⟩
 ·exact ⟨_,Try.func77,zvy⟩
 ·exact ⟨_,Try.func78,zvW⟩
 ·exact ⟨_,Try.func79,zvm⟩
 ·exact ⟨_,Try.func80,zu1⟩
 ·exact ⟨_,Try.func81,zwx⟩
 ·exact ⟨_,Try.func82,zwj⟩
 ·exact ⟨_,Try.func83,zwC⟩
 ·exact ⟨_,Try.func84,zvw⟩
 ·exact ⟨_,Try.func85,zvK⟩
 ·exact ⟨_,Try.func86,zwH⟩
 ·exact ⟨_,Try.func87,zvV⟩
 ·exact ⟨_,Try.func88,zux⟩
 ·exact ⟨_,Try.func89,zu9⟩
 ·exact ⟨_,Try.func90,zvR⟩
 ·exact ⟨_,Try.func91,zvB⟩
 ·exact ⟨_,Try.func92,zvQ⟩
 ·exact ⟨_,Try.func93,zv7⟩
 ·exact ⟨_,Try.func94,zwB⟩
 ·exact ⟨_,Try.func95,zwE⟩
 ·exact ⟨_,Try.func96,zvr⟩
 ·exact ⟨_,Try.func97,zv1⟩
 ·exact ⟨_,Try.func98,zuD⟩
 ·exact ⟨_,Try.func99,zvi⟩
 ·exact ⟨_,Try.func100,zuh⟩
 ·exact ⟨_,Try.func101,zsP⟩
 ·exact ⟨_,Try.func102,zsp⟩
 ·exact ⟨_,Try.func103,zs6⟩
 ·exact ⟨_,Try.func104,ztJ⟩
 ·exact ⟨_,Try.func105,ztG⟩
 ·exact ⟨_,Try.func106,zsc⟩
 ·exact ⟨_,Try.func107,ztK⟩
 ·exact ⟨_,Try.func108,zud⟩
 ·exact ⟨_,Try.func109,zsM⟩
 ·exact ⟨_,Try.func110,zse⟩
end Go.Proofs.Ytcpcagdialnbeaa
