/- Generic texts and models for the proofs of this seat: part 24. -/
import Derived.Test.YtcpcagdialnbeaaY23
import Derived.Test.YtcpcagdialnbeaaRows
set_option linter.unusedVariables false
set_option linter.unusedSimpArgs false
namespace Go.Proofs.Ytcpcagdialnbeaa
def zkC:Char:=Char.ofNat 32
def zlB:List Char:=[Char.ofNat 104,Char.ofNat 97,Char.ofNat 114,Char.ofNat 110,Char.ofNat 101,Char.ofNat 115,Char.ofNat 115]
def zot:List Char:=[Char.ofNat 101,Char.ofNat 54,Char.ofNat 52,Char.ofNat 54,Char.ofNat 97,Char.ofNat 54,Char.ofNat 52,Char.ofNat 99,Char.ofNat 54,Char.ofNat 101,Char.ofNat 51,Char.ofNat 52,Char.ofNat 97,Char.ofNat 98,Char.ofNat 56,Char.ofNat 101,Char.ofNat 49,Char.ofNat 57,Char.ofNat 57,Char.ofNat 97,Char.ofNat 54,Char.ofNat 100,Char.ofNat 97,Char.ofNat 57,Char.ofNat 98,Char.ofNat 54,Char.ofNat 97,Char.ofNat 98,Char.ofNat 49,Char.ofNat 51,Char.ofNat 57,Char.ofNat 97,Char.ofNat 52,Char.ofNat 53,Char.ofNat 56,Char.ofNat 55,Char.ofNat 53,Char.ofNat 99,Char.ofNat 97,Char.ofNat 54,Char.ofNat 51,Char.ofNat 49,Char.ofNat 97,Char.ofNat 50,Char.ofNat 55,Char.ofNat 50,Char.ofNat 54,Char.ofNat 100,Char.ofNat 98,Char.ofNat 53,Char.ofNat 99,Char.ofNat 100,Char.ofNat 100,Char.ofNat 55,Char.ofNat 100,Char.ofNat 102,Char.ofNat 56,Char.ofNat 49,Char.ofNat 57,Char.ofNat 102,Char.ofNat 57,Char.ofNat 52,Char.ofNat 54,Char.ofNat 100]
def zeF:List Char:=[Char.ofNat 99,Char.ofNat 117,Char.ofNat 116]
def zh3:List Char:=[Char.ofNat 97,Char.ofNat 116,Char.ofNat 32,Char.ofNat 108,Char.ofNat 111,Char.ofNat 111,Char.ofNat 112,Char.ofNat 46,Char.ofNat 101,Char.ofNat 120,Char.ofNat 97,Char.ofNat 109,Char.ofNat 112,Char.ofNat 108,Char.ofNat 101,Char.ofNat 47,Char.ofNat 114,Char.ofNat 101,Char.ofNat 102,Char.ofNat 99,Char.ofNat 111,Char.ofNat 117,Char.ofNat 110,Char.ofNat 116,Char.ofNat 109,Char.ofNat 108,Char.ofNat 47,Char.ofNat 108,Char.ofNat 97,Char.ofNat 119,Char.ofNat 115,Char.ofNat 46,Char.ofNat 70,Char.ofNat 110,Char.ofNat 86,Char.ofNat 97,Char.ofNat 108,Char.ofNat 105,Char.ofNat 100,Char.ofNat 83,Char.ofNat 105,Char.ofNat 103,Char.ofNat 115,Char.ofNat 32,Char.ofNat 108,Char.ofNat 111,Char.ofNat 111,Char.ofNat 112,Char.ofNat 46,Char.ofNat 101,Char.ofNat 120,Char.ofNat 97,Char.ofNat 109,Char.ofNat 112,Char.ofNat 108,Char.ofNat 101,Char.ofNat 47,Char.ofNat 114,Char.ofNat 101,Char.ofNat 102,Char.ofNat 99,Char.ofNat 111,Char.ofNat 117,Char.ofNat 110,Char.ofNat 116,Char.ofNat 109,Char.ofNat 108,Char.ofNat 47,Char.ofNat 108,Char.ofNat 97,Char.ofNat 119,Char.ofNat 115,Char.ofNat 46,Char.ofNat 70,Char.ofNat 110,Char.ofNat 84,Char.ofNat 121,Char.ofNat 112,Char.ofNat 101,Char.ofNat 79,Char.ofNat 102,Char.ofNat 32,Char.ofNat 108,Char.ofNat 111,Char.ofNat 111,Char.ofNat 112,Char.ofNat 46,Char.ofNat 101,Char.ofNat 120,Char.ofNat 97,Char.ofNat 109,Char.ofNat 112,Char.ofNat 108,Char.ofNat 101,Char.ofNat 47,Char.ofNat 114,Char.ofNat 101,Char.ofNat 102,Char.ofNat 99,Char.ofNat 111,Char.ofNat 117,Char.ofNat 110,Char.ofNat 116,Char.ofNat 109,Char.ofNat 108,Char.ofNat 47,Char.ofNat 108,Char.ofNat 97,Char.ofNat 119,Char.ofNat 115,Char.ofNat 46,Char.ofNat 70,Char.ofNat 110,Char.ofNat 84,Char.ofNat 121,Char.ofNat 112,Char.ofNat 101,Char.ofNat 79,Char.ofNat 102,Char.ofNat 70,Char.ofNat 114,Char.ofNat 111,Char.ofNat 110,Char.ofNat 116,Char.ofNat 32,Char.ofNat 108,Char.ofNat 111,Char.ofNat 111,Char.ofNat 112,Char.ofNat 46,Char.ofNat 101,Char.ofNat 120,Char.ofNat 97,Char.ofNat 109,Char.ofNat 112,Char.ofNat 108,Char.ofNat 101,Char.ofNat 47,Char.ofNat 114,Char.ofNat 101,Char.ofNat 102,Char.ofNat 99,Char.ofNat 111,Char.ofNat 117,Char.ofNat 110,Char.ofNat 116,Char.ofNat 109,Char.ofNat 108,Char.ofNat 47,Char.ofNat 108,Char.ofNat 97,Char.ofNat 119,Char.ofNat 115,Char.ofNat 46,Char.ofNat 70,Char.ofNat 110,Char.ofNat 84,Char.ofNat 121,Char.ofNat 112,Char.ofNat 101,Char.ofNat 79,Char.ofNat 102,Char.ofNat 76,Char.ofNat 101,Char.ofNat 116,Char.ofNat 32,Char.ofNat 108,Char.ofNat 111,Char.ofNat 111,Char.ofNat 112,Char.ofNat 46,Char.ofNat 101,Char.ofNat 120,Char.ofNat 97,Char.ofNat 109,Char.ofNat 112,Char.ofNat 108,Char.ofNat 101,Char.ofNat 47,Char.ofNat 114,Char.ofNat 101,Char.ofNat 102,Char.ofNat 99,Char.ofNat 111,Char.ofNat 117,Char.ofNat 110,Char.ofNat 116,Char.ofNat 109,Char.ofNat 108,Char.ofNat 47,Char.ofNat 108,Char.ofNat 97,Char.ofNat 119,Char.ofNat 115,Char.ofNat 46,Char.ofNat 70,Char.ofNat 110,Char.ofNat 84,Char.ofNat 121,Char.ofNat 112,Char.ofNat 101,Char.ofNat 79,Char.ofNat 102,Char.ofNat 73,Char.ofNat 102]
theorem zoS:Try.prog.initOrder = String.ofList (zlB ++ zkC :: (zot ++ zkC :: (zeF ++ zkC :: zh3))):=by kernel_rfl
theorem zkg:∀ (a b:List Char),(∀ c ∈ a,(c == zkC) = false) → wordsSigns (a ++ zkC :: b) = a :: wordsSigns b:=by
 intro a
 induction a with
 | nil => intro b _; rfl
 | cons c a ih =>
  intro b h
  have hc:c ≠ zkC:=by have:=h c (by simp); simpa using this
  have hr:=ih b fun x hx => h x (by simp [hx])
  rw [List.cons_append]
  conv => lhs; unfold wordsSigns
  split
  ·rename_i e; cases e
  ·rename_i e; injection e with e1 _; exact absurd e1 hc
  ·rename_i c' r' _ e
   injection e with e1 e2
   subst e1 e2
   rw [hr]
theorem zp5:wordsSigns Try.prog.initOrder.toList = zlB :: zot :: zeF :: wordsSigns zh3:=by
 rw [zoS,String.toList_ofList,zkg _ _ (by decide),zkg _ _ (by decide),zkg _ _ (by decide)]
theorem zro {h s:List Char} {r:List (List Char)} (hc:((h == "harness".toList || h == "ownmain".toList) && isSumSigns s) = true):behindMainWord (h :: s :: r) = r:=by
 unfold behindMainWord
 simp only [hc,if_true]
theorem zt9 {P:Program} {c:List Char} {rest:List (List Char)} (hb:behindMainWord (wordsSigns P.initOrder.toList) = c :: rest) (hs:stripLifts liftWords (c :: rest) = ([],c :: rest))
  (h1:(c == "gc".toList) = false) (h2:(c == "spec".toList) = false) (h3:(c == "carried".toList) = false) (h4:((some c:Option (List Char)) == some "cut".toList) = true) (h5:P.laysLater = false) (h6:P.bearsReflect = false) (h7:P.doorFits [] = true):P.mayEnter = true:=by
 unfold Program.mayEnter
 rw [hb]
 simp only [hs,List.head?_cons,h1,h2,h3,h4,h5,h6,h7,Bool.or_false,Bool.false_and,Bool.not_false,Bool.or_true,Bool.and_true,List.contains_nil]
theorem zv6 {P:Program} {c:List Char} {rest:List (List Char)} (hb:behindMainWord (wordsSigns P.initOrder.toList) = c :: rest)
  (h1:(c == "gc".toList) = false) (h2:(c == "spec".toList) = false) (h3:(c == "cut".toList) = true):P.make = some Make.cut:=by
 unfold Program.make
 rw [hb]
 simp only [h1,h2,h3,Bool.true_or,Bool.or_false,Bool.false_eq_true,if_false,if_true]
theorem zgJ:behindMainWord (wordsSigns Try.prog.initOrder.toList) = zeF :: wordsSigns zh3:=by
 have hc:((zlB == "harness".toList || zlB == "ownmain".toList) && isSumSigns zot) = true:=by as_aux_lemma => kernel_rfl
 rw [zp5]
 exact zro hc
theorem zca {o:String} {os:List String} {w:List Char} {ws:List (List Char)} (h:(w == o.toList) = false):stripLifts (o :: os) (w :: ws) = stripLifts os (w :: ws):=by
 unfold stripLifts
 rw [h]
 rw [if_neg Bool.false_ne_true]
 cases os <;> rfl
theorem znu (R:List (List Char)):stripLifts liftWords (zeF :: R) = ([],zeF :: R):=by
 unfold liftWords
 rw [zca (o:="finals") (by as_aux_lemma => kernel_rfl)]
 rw [zca (o:="reflectrows") (by as_aux_lemma => kernel_rfl)]
 rw [zca (o:="leanrows") (by as_aux_lemma => kernel_rfl)]
 rw [zca (o:="onebuild") (by as_aux_lemma => kernel_rfl)]
 rw [zca (o:="publicsums") (by as_aux_lemma => kernel_rfl)]
 rw [zca (o:="eqguard") (by as_aux_lemma => kernel_rfl)]
 rw [zca (o:="ownunsafe") (by as_aux_lemma => kernel_rfl)]
 rw [zca (o:="libbeside") (by as_aux_lemma => kernel_rfl)]
 rw [zca (o:="ownbeside") (by as_aux_lemma => kernel_rfl)]
 rw [zca (o:="reflbeside") (by as_aux_lemma => kernel_rfl)]
 rw [zca (o:="aliases") (by as_aux_lemma => kernel_rfl)]
 rw [zca (o:="afterinit") (by as_aux_lemma => kernel_rfl)]
 rw [zca (o:="crcplain") (by as_aux_lemma => kernel_rfl)]
 rw [zca (o:="roadunsafe") (by as_aux_lemma => kernel_rfl)]
 rw [zca (o:="fmthandon") (by as_aux_lemma => kernel_rfl)]
 rfl
theorem zxg:(zeF == "cut".toList) = true:=by kernel_rfl
theorem zta:(zeF == "gc".toList) = false:=by kernel_rfl
theorem zpj:(zeF == "spec".toList) = false:=by kernel_rfl
theorem zoZ:(zeF == "carried".toList) = false:=by kernel_rfl
theorem zpx:((some zeF:Option (List Char)) == some "cut".toList) = true:=by kernel_rfl
theorem zoO:((some zeF:Option (List Char)) == some "carried".toList) = false:=by kernel_rfl
theorem zrZ:Try.prog.laysLater = false:=by kernel_rfl
theorem zoE:Try.prog.bearsReflect = false:=by kernel_rfl
theorem zrK:Try.prog.doorFits [] = true:=by kernel_rfl
theorem zqG:Try.prog.mayEnter = true:=zt9 zgJ (znu _) zta zpj zoZ zpx zrZ zoE zrK
theorem zqx:Try.prog.headLifts = []:=by
 unfold Program.headLifts
 rw [zgJ,znu]
 generalize wordsSigns zh3 = R
 simp only [List.head?_cons,zpx,if_true]
theorem zpr:((false:Bool) == Try.prog.liftsFinal) = true:=by
 unfold Program.liftsFinal
 rw [zgJ,zqx]
 generalize wordsSigns zh3 = R
 simp only [List.head?_cons,zoO,Bool.false_and,Bool.false_or,List.contains_nil]
 rfl
theorem zrv:(Try.prog.make == some Make.cut) = true:=by
 rw [zv6 zgJ zta zpj zxg]
 rfl
end Go.Proofs.Ytcpcagdialnbeaa
namespace Go.Proofs.Ytcpcagdialnbeaa
end Go.Proofs.Ytcpcagdialnbeaa
namespace Go.Proofs.Ytcpcagdialnbeaa
open Go
abbrev rB (b:Bool):Option AV:=some (.v (.cell (.bool b)))
abbrev rI (n:Int):Option AV:=some (.v (.cell (.int n)))
abbrev rL (xs:List Int):Option AV:=some (.v (.cell (.sl 1 (zah xs))))
structure DM where
 f:Int
 t:Int
 cs:List (List Int)
 deriving Inhabited
def zsE (c:List Int):List AC:=[.sl 1 (zah c)]
def zcs (cs:List (List Int)):List (List AC):=cs.map zsE
def zhe (d:DM):List AC:=[.int d.f,.int d.t,.sl 1 (zcs d.cs)]
def zal (D:List DM):List (List AC):=D.map zhe
structure DOk (d:DM):Prop where
 f:inI d.f
 t:inI d.t
 len:d.cs.length ≤ zbd
 cs:∀ c ∈ d.cs,zcz c
theorem zo0:∀ {cs:List (List AC)},(∀ c ∈ cs,Fit .con c) → ∃ C,cs = zcs C ∧ ∀ c ∈ C,zcz c
 | [],_ => ⟨[],rfl,fun c h => by cases h⟩
 | c :: cs,h => by
  obtain ⟨C,rfl,hC⟩:=zo0 fun x hx => h x (List.mem_cons_of_mem _ hx)
  have h0:=h c List.mem_cons_self
  generalize ht:Ty.con = t at h0
  cases h0 with
  | con fs hf =>
   refine ⟨fs :: C,rfl,fun c hc => ?_⟩
   rcases List.mem_cons.1 hc with rfl | hc
   ·exact hf
   ·exact hC c hc
  | _ => cases ht
theorem zpV:∀ {ds:List (List AC)},(∀ d ∈ ds,Fit .decl d) → ∃ D,ds = zal D ∧ ∀ d ∈ D,DOk d
 | [],_ => ⟨[],rfl,fun c h => by cases h⟩
 | d :: ds,h => by
  obtain ⟨D,rfl,hD⟩:=zpV fun x hx => h x (List.mem_cons_of_mem _ hx)
  have h0:=h d List.mem_cons_self
  generalize ht:Ty.decl = t at h0
  cases h0 with
  | decl f t' cons hf ht' hl hc =>
   obtain ⟨C,rfl,hC⟩:=zo0 hc
   refine ⟨⟨f,t',C⟩ :: D,rfl,fun x hx => ?_⟩
   rcases List.mem_cons.1 hx with rfl | hx
   ·exact ⟨hf,ht',by simpa [zcs] using hl,hC⟩
   ·exact hD x hx
  | _ => cases ht
theorem zbf (D:List DM):(zal D).length = D.length:=by simp [zal]
theorem zbq (C:List (List Int)):(zcs C).length = C.length:=by simp [zcs]
def gD (D:List DM) (k:Nat):DM:=D.getD k default
theorem zrG {D:List DM} {k:Nat} (h:k < D.length):(zal D).getD k [] = [.int (gD D k).f,.int (gD D k).t,.sl 1 (zcs (gD D k).cs)]:=by simp [zal,List.getD,h,gD,zhe]
theorem zrA {C:List (List Int)} {k:Nat} (h:k < C.length):(zcs C).getD k [] = [.sl 1 (zah (C.getD k []))]:=by simp [zcs,List.getD,h,zsE]
theorem zub {D:List DM} {k:Nat} (h:k < D.length):gD D k ∈ D:=zgx h _
section
variable {ρ:Type} {r:ρ}
theorem zcM {D:List DM} {i:Int} {k:Nat} (hi:i = (k:Int)) (h:k < D.length) {K:Fn (Option ρ) [.int 0,.int 0,.sl 1 []]} (h2:(K:Int → Int → List (List AC) → Option ρ) (gD D k).f (gD D k).t (zcs (gD D k).cs) = some r):zgI (zal D) i [.int 0,.int 0,.sl 1 []] K = some r:=by
 subst hi
 exact zlV (by rw [zbf]; exact h) (zrG h) h2
theorem zn3 {C:List (List Int)} {i:Int} {k:Nat} (hi:i = (k:Int)) (h:k < C.length) {K:Fn (Option ρ) [.sl 1 []]} (h2:(K:List (List AC) → Option ρ) (zah (C.getD k [])) = some r):zgI (zcs C) i [.sl 1 []] K = some r:=by
 subst hi
 exact zyh (by rw [zbq]; exact h) (zrA h) h2
end
theorem zgt {α:Type} {l:List α} {k:Nat} (h:k < l.length) (p:α → Bool):(l.drop k).all p = (p l[k] && (l.drop (k + 1)).all p):=by rw [List.drop_eq_getElem_cons h,List.all_cons]
theorem zsF {α:Type} {l:List α} {k:Nat} (h:k < l.length) (p:α → Bool):(l.drop k).any p = (p l[k] || (l.drop (k + 1)).any p):=by rw [List.drop_eq_getElem_cons h,List.any_cons]
theorem zlN {D:List DM} {k:Nat} (h:k < D.length):D[k] = gD D k:=by simp [gD,List.getD,h]
theorem nz {n:Nat} (h:n ≠ 0):(((n:Nat):Int) == 0) = false:=by simp [h]
theorem zr {n:Nat} (h:n = 0):(((n:Nat):Int) == 0) = true:=by simp [h]
def zdB (D:List DM) (t:Int):Bool:=decide (0 ≤ t) && decide (t ≤ D.length)
def zst (D:List DM) (t:Int):Bool:=decide (0 < t) && (zdB D t && ((gD D (t.toNat - 1)).cs.length == 0))
def zpR (f t:Int) (d:DM):Bool:=(d.cs.length == 0) && (d.f == f && d.t == t)
def zhD (f t:Int):List DM → Nat → Int
 | [],_ => -1
 | d :: ds,k => if zpR f t d then ((k + 1:Nat):Int) else zhD f t ds (k + 1)
def zhi (D:List DM) (c:List Int):Bool:=decide (c.length ≤ 3) && c.all (zdB D)
def zhP (D:List DM) (k:Nat):Bool :=
 if 0 < (gD D k).cs.length then decide ((gD D k).cs.length ≤ 3) && (((gD D k).f == 0) && (((gD D k).t == 0) && (gD D k).cs.all (zhi D)))
 else zdB D (gD D k).f && (zdB D (gD D k).t && !(D.take k).any (zpR (gD D k).f (gD D k).t))
def zdU (D:List DM):Bool:=decide (D.length ≤ 4) && (List.range D.length).all (zhP D)
theorem zjP (D:List DM) (t:Int):zd2 [.cell (.sl 3 (zal D)),.cell (.int t)] = rB (zdB D t):=by
 refine zlP ?_
 by_cases h:0 ≤ t
 ·exact zaf (decide_eq_true h) (by simp [zdB,h,zbf])
 ·exact zab (decide_eq_false h) (by simp [zdB,h])
theorem zha (n lo hi:Int):zbz [.cell (.int n),.cell (.int lo),.cell (.int hi)] = rB (decide (lo ≤ n) && decide (n ≤ hi)):=by
 refine zlu ?_
 by_cases h:lo ≤ n
 ·exact zaf (decide_eq_true h) (by simp [h])
 ·exact zab (decide_eq_false h) (by simp [h])
theorem zoG (D:List DM) (t:Int):zbz [.cell (.int t),.cell (.int 0),.cell (.int (((zal D).length:Nat):Int))] = rB (zdB D t):=by
 rw [zha,zbf]
 rfl
theorem zmR (D:List DM) (xs:List Int) (hx:xs.length ≤ zbd):zeY [.cell (.sl 3 (zal D)),.cell (.sl 1 (zah xs))] = rB (xs.all (zdB D)):=by
 have key:∀ m k:Nat,k + m = xs.length → zdp (zal D) (zah xs) (((zah xs).length:Nat):Int) (k:Int) = rB ((xs.drop k).all (zdB D)):=by
  intro m
  induction m with
  | zero => intro k hk; exact zfE (zab (decide_eq_false (by rw [zac]; omega)) (by rw [List.drop_eq_nil_of_le (by omega)]; rfl))
  | succ m ih =>
   intro k hk
   have hlt:k < xs.length:=by omega
   rw [zgt hlt]
   refine zfE (zaf (decide_eq_true (by rw [zac]; omega)) (zbm hlt (za6 (zjP D _) ?_)))
   rcases zdB D xs[k] with _ | _
   ·exact zaf rfl rfl
   ·exact zab rfl (by rw [wrk (by omega)]; exact ih (k + 1) (by omega))
 exact zkG (key xs.length 0 (by omega))
theorem zmY (D:List DM) (xs:List Int) (hx:xs.length ≤ zbd):ze1 [.cell (.sl 3 (zal D)),.cell (.sl 1 (zah xs))] = rB (xs.all (zdB D)):=by
 have key:∀ m k:Nat,k + m = xs.length → zdu (zal D) (zah xs) (k:Int) = rB ((xs.drop k).all (zdB D)):=by
  intro m
  induction m with
  | zero => intro k hk; exact zfH (zab (decide_eq_false (by rw [zac]; omega)) (by rw [List.drop_eq_nil_of_le (by omega)]; rfl))
  | succ m ih =>
   intro k hk
   have hlt:k < xs.length:=by omega
   rw [zgt hlt]
   refine zfH (zaf (decide_eq_true (by rw [zac]; omega)) (zbm hlt (za6 (zoG D _) ?_)))
   rcases zdB D xs[k] with _ | _
   ·exact zaf rfl rfl
   ·exact zab rfl (by rw [wrk (by omega)]; exact ih (k + 1) (by omega))
 exact zkD (key xs.length 0 (by omega))
theorem hit_cases {f t:Int} {d:DM}:zpR f t d = true ↔ d.cs.length = 0 ∧ d.f = f ∧ d.t = t:=by simp [zpR]
theorem zvu (D:List DM) (hD:D.length ≤ 1000) (f t:Int):zei [.cell (.sl 3 (zal D)),.cell (.int f),.cell (.int t)] = rI (zhD f t D 0):=by
 have key:∀ m k:Nat,k + m = D.length → zbk f t (zal D) (((zal D).length:Nat):Int) (k:Int) = rI (zhD f t (D.drop k) k):=by
  intro m
  induction m with
  | zero => intro k hk; exact zd8 (zab (decide_eq_false (by rw [zbf]; omega)) (by rw [List.drop_eq_nil_of_le (by omega)]; rfl))
  | succ m ih =>
   intro k hk
   have hlt:k < D.length:=by omega
   have w1:zag ((k:Int) + 1) = ((k + 1:Nat):Int):=wrk (by unfold zbd; omega)
   have nx:=ih (k + 1) (by omega)
   rw [List.drop_eq_getElem_cons hlt,zlN hlt]
   refine zd8 (zaf (decide_eq_true (by rw [zbf]; omega)) (zcM rfl hlt ?_))
   rw [zbq,w1]
   by_cases h1:(gD D k).cs.length = 0
   ·refine zaf (by simp [h1]) ?_
    by_cases h2:(gD D k).f = f
    ·refine zaf (by simp [h2]) ?_
     by_cases h3:(gD D k).t = t
     ·exact zaf (by simp [h3]) (by rw [zhD,if_pos (hit_cases.2 ⟨h1,h2,h3⟩)])
     ·exact zab (by simp [h3]) (by rw [zhD,if_neg (fun h => h3 (hit_cases.1 h).2.2)]; exact nx)
    ·exact zab (by simp [h2]) (by rw [zhD,if_neg (fun h => h2 (hit_cases.1 h).2.1)]; exact nx)
   ·exact zab (nz h1) (by rw [zhD,if_neg (fun h => h1 (hit_cases.1 h).1)]; exact nx)
 exact zie (key D.length 0 (by omega))
theorem zq5 (D:List DM) (hD:D.length ≤ 1000) (f t:Int):zhE [.cell (.sl 3 (zal D)),.cell (.int f),.cell (.int t)] = rI (zhD f t D 0):=by
 have key:∀ m k:Nat,k + m = D.length → zcg (zal D) f t (k:Int) = rI (zhD f t (D.drop k) k):=by
  intro m
  induction m with
  | zero => intro k hk; exact zgD (zab (decide_eq_false (by rw [zbf]; omega)) (by rw [List.drop_eq_nil_of_le (by omega)]; rfl))
  | succ m ih =>
   intro k hk
   have hlt:k < D.length:=by omega
   have w1:zag ((k:Int) + 1) = ((k + 1:Nat):Int):=wrk (by unfold zbd; omega)
   have nx:=ih (k + 1) (by omega)
   rw [List.drop_eq_getElem_cons hlt,zlN hlt]
   refine zgD (zaf (decide_eq_true (by rw [zbf]; omega)) (zcM rfl hlt ?_))
   rw [zbq,w1]
   by_cases h1:(gD D k).cs.length = 0
   ·refine zaf (by simp [h1]) (zcM rfl hlt ?_)
    by_cases h2:(gD D k).f = f
    ·refine zaf (by simp [h2]) (zcM rfl hlt ?_)
     by_cases h3:(gD D k).t = t
     ·exact zaf (by simp [h3]) (by rw [zhD,if_pos (hit_cases.2 ⟨h1,h2,h3⟩)])
     ·exact zab (by simp [h3]) (by rw [zhD,if_neg (fun h => h3 (hit_cases.1 h).2.2)]; exact nx)
    ·exact zab (by simp [h2]) (by rw [zhD,if_neg (fun h => h2 (hit_cases.1 h).2.1)]; exact nx)
   ·exact zab (nz h1) (by rw [zhD,if_neg (fun h => h1 (hit_cases.1 h).1)]; exact nx)
 exact zlk (key D.length 0 (by omega))
theorem zpK (f t:Int):∀ (D:List DM) (k:Nat),decide (zhD f t D k < 0) = !D.any (zpR f t)
 | [],k => by simp [zhD]
 | d :: D,k => by
  unfold zhD
  rw [List.any_cons]
  cases h:zpR f t d
  ·simpa using zpK f t D (k + 1)
  ·simp; omega
theorem zpv (D:List DM) (C:List (List Int)) (hC:∀ c ∈ C,zcz c) (hl:C.length ≤ zbd):zgF [.cell (.sl 3 (zal D)),.cell (.sl 1 (zcs C))] = rB (decide (C.length ≤ 3) && C.all (zhi D)):=by
 have key:∀ m k:Nat,k + m = C.length → zc3 (zal D) (zcs C) (((zcs C).length:Nat):Int) (k:Int) = rB ((C.drop k).all (zhi D)):=by
  intro m
  induction m with
  | zero => intro k hk; exact zfc (zab (decide_eq_false (by rw [zbq]; omega)) (by rw [List.drop_eq_nil_of_le (by omega)]; rfl))
  | succ m ih =>
   intro k hk
   have hlt:k < C.length:=by omega
   have hc:=hC _ (zgx hlt [])
   rw [zgt hlt,show C[k] = C.getD k [] by simp [List.getD,hlt]]
   refine zfc (zaf (decide_eq_true (by rw [zbq]; omega)) (zn3 rfl hlt ?_))
   rw [zac]
   by_cases h3:(C.getD k []).length ≤ 3
   ·refine zab (decide_eq_false (by omega)) (za6 (zmR D _ hc.len) ?_)
    have e:zhi D (C.getD k []) = (C.getD k []).all (zdB D):=by unfold zhi; rw [decide_eq_true h3,Bool.true_and]
    rw [e]
    rcases (C.getD k []).all (zdB D) with _ | _
    ·exact zaf rfl rfl
    ·exact zab rfl (by rw [wrk (by omega)]; exact ih (k + 1) (by omega))
   ·refine zaf (decide_eq_true (by omega)) ?_
    have e:zhi D (C.getD k []) = false:=by unfold zhi; rw [decide_eq_false h3]; rfl
    rw [e]
    rfl
 refine zjB ?_
 rw [zbq]
 by_cases h:C.length ≤ 3
 ·refine zab (decide_eq_false (by omega)) ?_
  have:=key C.length 0 (by omega)
  rw [zbq] at this
  simpa [h] using this
 ·exact zaf (decide_eq_true (by omega)) (by simp [h])
theorem zqb (D:List DM) (k:Nat):(zal D).take k = zal (D.take k):=by simp [zal]
theorem zo6 (D:List DM) (hD:∀ d ∈ D,DOk d) (hl:D.length ≤ 1000) (k:Nat) (hk:k < D.length):zgw [.cell (.sl 3 (zal D)),.cell (.int (k:Int))] = rB (zhP D k):=by
 have hd:=hD _ (zub hk)
 refine zjk (zcM rfl hk ?_)
 rw [zbq]
 unfold zhP
 by_cases h0:0 < (gD D k).cs.length
 ·refine zaf (decide_eq_true (by omega)) ?_
  rw [if_pos h0]
  by_cases h1:(gD D k).f = 0
  ·refine zaf (by simp [h1]) ?_
   by_cases h2:(gD D k).t = 0
   ·exact zaf (by simp [h2]) (za6 (zpv D _ hd.cs hd.len) (by rw [h1,h2]; simp only [beq_self_eq_true,Bool.true_and]; rfl))
   ·exact zab (by simp [h2]) (by simp [h2])
  ·exact zab (by simp [h1]) (by simp [h1])
 ·refine zab (decide_eq_false (by omega)) (za6 (zjP D _) ?_)
  rw [if_neg h0]
  rcases zdB D (gD D k).f with _ | _
  ·exact zab rfl rfl
  ·refine zaf rfl (za6 (zjP D _) ?_)
   rcases zdB D (gD D k).t with _ | _
   ·exact zab rfl rfl
   ·refine zaf rfl (zx8 (by omega) (by omega) (by rw [zbf]; omega) ?_)
    rw [show (((zal D).drop (0:Int).toNat).take ((k:Int).toNat - (0:Int).toNat)) = zal (D.take k) by simp [zqb]]
    refine zfD (zvu _ (by rw [List.length_take]; omega) _ _) ?_
    rw [zpK]
    rfl
theorem zo3 (D:List DM) (hD:∀ d ∈ D,DOk d) (hl:D.length ≤ 1000) (k:Nat) (hk:k < D.length):zgm [.cell (.sl 3 (zal D)),.cell (.int (k:Int))] = rB (zhP D k):=by
 have hd:=hD _ (zub hk)
 have key1:∀ m j:Nat,j + m = (gD D k).cs.length → zc4 (zal D) (gD D k).f (gD D k).t (zcs (gD D k).cs) (j:Int) = rB (((gD D k).cs.drop j).all (zhi D)):=by
  intro m
  induction m with
  | zero => intro j hj; exact zfb (zab (decide_eq_false (by rw [zbq]; omega)) (by rw [List.drop_eq_nil_of_le (by omega)]; rfl))
  | succ m ih =>
   intro j hj
   have hlt:j < (gD D k).cs.length:=by omega
   have hc:=hd.cs _ (zgx hlt [])
   have hlen:=hd.len
   rw [zgt hlt,show (gD D k).cs[j] = (gD D k).cs.getD j [] by simp [List.getD,hlt]]
   refine zfb (zaf (decide_eq_true (by rw [zbq]; omega)) (zn3 rfl hlt ?_))
   rw [zac]
   by_cases h3:((gD D k).cs.getD j []).length ≤ 3
   ·refine zab (decide_eq_false (by omega)) (zn3 rfl hlt (za6 (zmY D _ hc.len) ?_))
    have e:zhi D ((gD D k).cs.getD j []) = ((gD D k).cs.getD j []).all (zdB D):=by unfold zhi; rw [decide_eq_true h3,Bool.true_and]
    rw [e]
    rcases ((gD D k).cs.getD j []).all (zdB D) with _ | _
    ·exact zaf rfl rfl
    ·exact zab rfl (by rw [wrk (by omega)]; exact ih (j + 1) (by omega))
   ·refine zaf (decide_eq_true (by omega)) ?_
    have e:zhi D ((gD D k).cs.getD j []) = false:=by unfold zhi; rw [decide_eq_false h3]; rfl
    rw [e]
    rfl
 have key2:∀ m j:Nat,j + m = k → zbQ (zal D) (k:Int) (gD D k).f (gD D k).t (zcs (gD D k).cs) (j:Int) = rB (!((D.take k).drop j).any (zpR (gD D k).f (gD D k).t) && (zdB D (gD D k).f && zdB D (gD D k).t)):=by
  intro m
  induction m with
  | zero =>
   intro j hj
   refine ze6 (zab (decide_eq_false (by omega)) (za6 (zoG D _) ?_))
   rw [List.drop_eq_nil_of_le (by rw [List.length_take]; omega)]
   rcases zdB D (gD D k).f with _ | _
   ·exact zab rfl rfl
   ·refine zaf rfl (za6 (zoG D _) ?_)
    simp
    rfl
  | succ m ih =>
   intro j hj
   have hlt:j < D.length:=by omega
   have hlt':j < (D.take k).length:=by rw [List.length_take]; omega
   have w1:zag ((j:Int) + 1) = ((j + 1:Nat):Int):=wrk (by unfold zbd; omega)
   have nx:=ih (j + 1) (by omega)
   rw [zsF hlt',show (D.take k)[j] = gD D j by rw [List.getElem_take,zlN hlt]]
   refine ze6 (zaf (decide_eq_true (by omega)) (zcM rfl hlt ?_))
   rw [zbq,w1]
   by_cases h1:(gD D j).cs.length = 0
   ·refine zaf (by simp [h1]) (zcM rfl hlt ?_)
    by_cases h2:(gD D j).f = (gD D k).f
    ·refine zaf (by simp [h2]) (zcM rfl hlt ?_)
     by_cases h3:(gD D j).t = (gD D k).t
     ·refine zaf (by simp [h3]) ?_
      rw [hit_cases.2 ⟨h1,h2,h3⟩]
      rfl
     ·refine zab (by simp [h3]) ?_
      rw [Bool.eq_false_iff.2 (fun h => h3 (hit_cases.1 h).2.2)]
      exact nx
    ·refine zab (by simp [h2]) ?_
     rw [Bool.eq_false_iff.2 (fun h => h2 (hit_cases.1 h).2.1)]
     exact nx
   ·refine zab (nz h1) ?_
    rw [Bool.eq_false_iff.2 (fun h => h1 (hit_cases.1 h).1)]
    exact nx
 refine zjr (zcM rfl hk ?_)
 rw [zbq]
 unfold zhP
 by_cases h0:0 < (gD D k).cs.length
 ·refine zaf (decide_eq_true (by omega)) ?_
  rw [if_pos h0]
  by_cases h3:(gD D k).cs.length ≤ 3
  ·refine zab (decide_eq_false (by omega)) ?_
   by_cases h1:(gD D k).f = 0
   ·refine zab (by simp [h1]) ?_
    by_cases h2:(gD D k).t = 0
    ·refine zab (by simp [h2]) ?_
     have:=key1 (gD D k).cs.length 0 (by omega)
     simpa [h1,h2,h3] using this
    ·exact zaf (by simp [h2]) (by simp [h2])
   ·exact zaf (by simp [h1]) (by simp [h1])
  ·exact zaf (decide_eq_true (by omega)) (by simp [h3])
 ·refine zab (decide_eq_false (by omega)) ?_
  rw [if_neg h0]
  have:=key2 k 0 (by omega)
  rw [List.drop_zero] at this
  refine Eq.trans this ?_
  rcases (List.take k D).any (zpR (gD D k).f (gD D k).t) with _ | _ <;> rcases zdB D (gD D k).f with _ | _ <;> rcases zdB D (gD D k).t with _ | _ <;> rfl
theorem zmi {n k:Nat} (h:k < n) (p:Nat → Bool):((List.range n).drop k).all p = (p k && ((List.range n).drop (k + 1)).all p):=by
 rw [zgt (by simpa using h)]
 simp
theorem zoy (D:List DM) (hD:∀ d ∈ D,DOk d) (hlen:D.length ≤ zbd):zff [.cell (.sl 3 (zal D))] = rB (zdU D):=by
 refine zi7 ?_
 rw [zbf]
 by_cases h4:D.length ≤ 4
 ·refine zab (decide_eq_false (by omega)) ?_
  have key:∀ m k:Nat,k + m = D.length → zcQ (zal D) ((D.length:Nat):Int) (k:Int) = rB (((List.range D.length).drop k).all (zhP D)):=by
   intro m
   induction m with
   | zero => intro k hk; exact zeJ (zab (decide_eq_false (by omega)) (by rw [List.drop_eq_nil_of_le (by simp; omega)]; rfl))
   | succ m ih =>
    intro k hk
    rw [zmi (by omega)]
    refine zeJ (zaf (decide_eq_true (by omega)) (za6 (zo6 D hD (by omega) k (by omega)) ?_))
    rcases zhP D k with _ | _
    ·exact zaf rfl rfl
    ·exact zab rfl (by rw [wrk (by unfold zbd; omega)]; exact ih (k + 1) (by omega))
  have:=key D.length 0 (by omega)
  simpa [zdU,h4] using this
 ·exact zaf (decide_eq_true (by omega)) (by simp [zdU,h4])
theorem zog (D:List DM) (hD:∀ d ∈ D,DOk d) (hlen:D.length ≤ zbd):zfh [.cell (.sl 3 (zal D))] = rB (zdU D):=by
 refine ziV ?_
 rw [zbf]
 by_cases h4:D.length ≤ 4
 ·refine zab (decide_eq_false (by omega)) ?_
  have key:∀ m k:Nat,k + m = D.length → zcP (zal D) (k:Int) = rB (((List.range D.length).drop k).all (zhP D)):=by
   intro m
   induction m with
   | zero => intro k hk; exact zeK (zab (decide_eq_false (by rw [zbf]; omega)) (by rw [List.drop_eq_nil_of_le (by simp; omega)]; rfl))
   | succ m ih =>
    intro k hk
    rw [zmi (by omega)]
    refine zeK (zaf (decide_eq_true (by rw [zbf]; omega)) (za6 (zo3 D hD (by omega) k (by omega)) ?_))
    rcases zhP D k with _ | _
    ·exact zaf rfl rfl
    ·exact zab rfl (by rw [wrk (by unfold zbd; omega)]; exact ih (k + 1) (by omega))
  have:=key D.length 0 (by omega)
  simpa [zdU,h4] using this
 ·exact zaf (decide_eq_true (by omega)) (by simp [zdU,h4])
end Go.Proofs.Ytcpcagdialnbeaa
namespace Go.Proofs.Ytcpcagdialnbeaa
open Go
end Go.Proofs.Ytcpcagdialnbeaa
namespace Go.Proofs.Ytcpcagdialnbeaa
open Go
structure DV (D:List DM):Prop where
 len:D.length ≤ 4
 cs:∀ k,k < D.length → (gD D k).cs.length ≤ 3
 c:∀ k,k < D.length → ∀ c ∈ (gD D k).cs,c.length ≤ 3 ∧ ∀ x ∈ c,0 ≤ x ∧ x ≤ D.length
 arr:∀ k,k < D.length → (gD D k).cs.length = 0 → (0 ≤ (gD D k).f ∧ (gD D k).f ≤ D.length) ∧ (0 ≤ (gD D k).t ∧ (gD D k).t ≤ D.length)
theorem isTy_iff {D:List DM} {t:Int}:zdB D t = true ↔ 0 ≤ t ∧ t ≤ D.length:=by simp [zdB]
theorem zyN {D:List DM} (h:zdU D = true):DV D:=by
 simp only [zdU,Bool.and_eq_true,decide_eq_true_eq,List.all_eq_true,List.mem_range] at h
 obtain ⟨h1,h2⟩:=h
 refine ⟨h1,fun k hk => ?_,fun k hk c hc => ?_,fun k hk h0 => ?_⟩
 ·have:=h2 k hk
  unfold zhP at this
  split at this
  ·simp only [Bool.and_eq_true,decide_eq_true_eq] at this; exact this.1
  ·omega
 ·have:=h2 k hk
  unfold zhP at this
  have hpos:0 < (gD D k).cs.length:=List.length_pos_of_mem hc
  rw [if_pos hpos] at this
  simp only [Bool.and_eq_true,List.all_eq_true,zhi,decide_eq_true_eq] at this
  obtain ⟨g1,g2⟩:=this.2.2.2 c hc
  exact ⟨g1,fun x hx => isTy_iff.1 (g2 x hx)⟩
 ·have:=h2 k hk
  unfold zhP at this
  rw [if_neg (by omega)] at this
  simp only [Bool.and_eq_true] at this
  exact ⟨isTy_iff.1 this.1,isTy_iff.1 this.2.1⟩
def zc0:List DM → Nat
 | [] => 0
 | d :: ds => d.cs.length + zc0 ds
theorem zoW (a b:List DM):zc0 (a ++ b) = zc0 a + zc0 b:=by
 induction a with
 | nil => simp [zc0]
 | cons x a ih => simp only [List.cons_append,zc0,ih]; omega
theorem zko {D:List DM} {k:Nat} (h:k < D.length):zc0 (D.take (k + 1)) = zc0 (D.take k) + (gD D k).cs.length:=by
 rw [List.take_succ_eq_append_getElem h,zoW,zlN h]
 simp [zc0]
theorem zjs {D:List DM} (h:∀ k,k < D.length → (gD D k).cs.length ≤ 3):∀ k,k ≤ D.length → zc0 (D.take k) ≤ 3 * k
 | 0,_ => by simp [zc0]
 | k + 1,hk => by
  rw [zko (by omega)]
  have:=zjs h k (by omega)
  have:=h k (by omega)
  omega
theorem zi0 {D:List DM} (hv:DV D) {k:Nat} (hk:k ≤ D.length):zdO [.cell (.sl 3 (zal D)),.cell (.int (k:Int))] = rI (zc0 (D.take k)):=by
 have h4:=hv.len
 have key:∀ m j:Nat,j + m = k → zdo (zal D) (k:Int) ((zc0 (D.take j):Nat):Int) (j:Int) = rI (zc0 (D.take k)):=by
  intro m
  induction m with
  | zero => intro j hj; exact zfF (zab (decide_eq_false (by omega)) (by rw [show j = k by omega]))
  | succ m ih =>
   intro j hj
   have hlt:j < D.length:=by omega
   have h1:=zjs hv.cs j (by omega)
   have h2:=hv.cs j hlt
   refine zfF (zaf (decide_eq_true (by omega)) (zcM rfl hlt ?_))
   rw [zbq,wr (by omega) (by omega),wrk (by unfold zbd; omega)]
   have:=ih (j + 1) (by omega)
   rw [zko hlt] at this
   change @Eq (Option AV) _ _
   simpa using this
 exact zj9 (key k 0 (by omega))
def zqO (c:Int):List DM → Nat → Nat → Int
 | [],_,_ => -1
 | d :: ds,first,k => if (first:Int) ≤ c ∧ c < (first:Int) + d.cs.length then ((k + 1:Nat):Int) else zqO c ds (first + d.cs.length) (k + 1)
def zoJ (D:List DM) (c:Int):Int:=zqO c D 0 0
theorem zrM {D:List DM} (hv:DV D) (c:Int):zhy [.cell (.sl 3 (zal D)),.cell (.int c)] = rI (zoJ D c):=by
 have h4:=hv.len
 have key:∀ m k:Nat,k + m = D.length → zdP (zal D) c (k:Int) = rI (zqO c (D.drop k) (zc0 (D.take k)) k):=by
  intro m
  induction m with
  | zero => intro k hk; exact zgC (zab (decide_eq_false (by rw [zbf]; omega)) (by rw [List.drop_eq_nil_of_le (by omega)]; rfl))
  | succ m ih =>
   intro k hk
   have hlt:k < D.length:=by omega
   have h1:=zjs hv.cs k (by omega)
   have h2:=hv.cs k hlt
   have nx:=ih (k + 1) (by omega)
   rw [zko hlt] at nx
   rw [List.drop_eq_getElem_cons hlt,zlN hlt]
   unfold zqO
   refine zgC (zaf (decide_eq_true (by rw [zbf]; omega)) (zfD (zi0 hv (by omega)) (zcM rfl hlt ?_)))
   rw [zbq,wr (n:=((zc0 (D.take k):Nat):Int) + ((gD D k).cs.length:Nat)) (by omega) (by omega),wr (n:=((zc0 (D.take k):Nat):Int) + ((gD D k).cs.length:Nat) - 1) (by omega) (by omega),wrk (by unfold zbd; omega)]
   refine za6 (zha _ _ _) ?_
   by_cases g1:((zc0 (D.take k):Nat):Int) ≤ c
   ·rw [decide_eq_true g1]
    by_cases g2:c < ((zc0 (D.take k):Nat):Int) + ((gD D k).cs.length:Nat)
    ·rw [if_pos ⟨g1,g2⟩,decide_eq_true (show c ≤ ((zc0 (D.take k):Nat):Int) + ((gD D k).cs.length:Nat) - 1 by omega)]
     exact zaf rfl rfl
    ·rw [if_neg (fun h => g2 h.2),decide_eq_false (show ¬ c ≤ ((zc0 (D.take k):Nat):Int) + ((gD D k).cs.length:Nat) - 1 by omega)]
     exact zab rfl nx
   ·rw [if_neg (fun h => g1 h.1),decide_eq_false g1]
    exact zab rfl nx
 exact zlt (key D.length 0 (by omega))
theorem znA (c:Int):∀ (ds:List DM) (first k:Nat),zqO c ds first k = -1 ∨ ∃ j,j < ds.length ∧ zqO c ds first k = ((k + j + 1:Nat):Int) ∧ ((first + zc0 (ds.take j):Nat):Int) ≤ c ∧ c < ((first + zc0 (ds.take j):Nat):Int) + (gD ds j).cs.length
 | [],first,k => .inl rfl
 | d :: ds,first,k => by
  unfold zqO
  split
  ·rename_i h
   exact .inr ⟨0,by simp,by simp,by simpa [zc0] using h.1,by simpa [zc0,gD] using h.2⟩
  ·rcases znA c ds (first + d.cs.length) (k + 1) with h | ⟨j,h1,h2,h3,h4⟩
   ·exact .inl h
   ·refine .inr ⟨j + 1,by simpa using h1,by rw [h2]; congr 1; omega,?_,?_⟩
    ·simp only [List.take_succ_cons,zc0]; omega
    ·simp only [List.take_succ_cons,zc0]
     have:gD (d :: ds) (j + 1) = gD ds j:=by simp [gD]
     rw [this]; omega
def fld (D:List DM) (c:Int):List Int:=(gD D ((zoJ D c).toNat - 1)).cs.getD (c - ((zc0 (D.take ((zoJ D c).toNat - 1)):Nat):Int)).toNat []
theorem zp0 {D:List DM} (c:Int):zoJ D c = -1 ∨ ∃ j i:Nat,j < D.length ∧ zoJ D c = ((j:Nat):Int) + 1 ∧ c = ((zc0 (D.take j) + i:Nat):Int) ∧ i < (gD D j).cs.length ∧ fld D c = (gD D j).cs.getD i []:=by
 rcases znA c D 0 0 with h | ⟨j,h1,h2,h3,h4⟩
 ·exact .inl h
 ·have e:zoJ D c = ((j:Nat):Int) + 1:=by unfold zoJ; rw [h2]; omega
  refine .inr ⟨j,(c - ((zc0 (D.take j):Nat):Int)).toNat,h1,e,by omega,by omega,?_⟩
  unfold fld
  rw [e,show (((j:Nat):Int) + 1).toNat - 1 = j by omega]
theorem zpD {D:List DM} (hv:DV D) (c:Int):zaM [.cell (.sl 3 (zal D)),.cell (.int c)] = rL (if zoJ D c < 1 then [] else fld D c):=by
 have h4:=hv.len
 refine zjw (zfD (zrM hv c) ?_)
 rcases zp0 (D:=D) c with h0 | ⟨j,i,hj,he,hc,hi,hf⟩
 ·rw [h0]
  exact zaf rfl rfl
 have h1:=zjs hv.cs j (by omega)
 have h2:=hv.cs j hj
 rw [he,if_neg (by omega)]
 refine zab (decide_eq_false (by omega)) ?_
 have w:zag (((j:Nat):Int) + 1 - 1) = j:=by rw [wr (by omega) (by omega)]; omega
 rw [w]
 refine zcM rfl hj (zfD (zi0 hv (by omega)) (zn3 (k:=i) (by rw [hc,wr (by omega) (by omega)]; omega) hi ?_))
 rw [hf]
theorem zdq {D:List DM} (hl:D.length ≤ 1000) (t:Int):zew [.cell (.sl 3 (zal D)),.cell (.int t)] = rB (zst D t):=by
 refine zk5 (za6 (zha _ _ _) ?_)
 rw [zbf]
 unfold zst
 by_cases h:0 < t
 rotate_left
 ·rw [decide_eq_false h,decide_eq_false (show ¬ (1:Int) ≤ t by omega)]
  exact zab rfl rfl
 rw [decide_eq_true h,decide_eq_true (show (1:Int) ≤ t by omega)]
 rcases ht:zdB D t with _ | _
 ·have:¬ (t ≤ D.length):=fun hle => by
   have:=isTy_iff.2 ⟨show 0 ≤ t by omega,hle⟩
   rw [ht] at this
   cases this
  rw [decide_eq_false this]
  exact zab rfl rfl
 have:=isTy_iff.1 ht
 rw [decide_eq_true this.2]
 refine zaf rfl (zcM (k:=t.toNat - 1) (by rw [wr (by omega) (by omega)]; omega) (by omega) ?_)
 rw [zbq]
 by_cases hc:(gD D (t.toNat - 1)).cs.length = 0
 ·rw [zr hc,hc]; rfl
 ·rw [nz hc,show ((gD D (t.toNat - 1)).cs.length == 0) = false by simpa using hc]; rfl
def tv (V:List Int) (v:Int):Int:=if 0 ≤ v ∧ v < V.length then V.getD v.toNat 0 else -1
theorem zqt (xs:List Int) (hx:xs.length ≤ 68719476736):zgS [.cell (.sl 1 (zah xs))] = rL xs :=
 zkk (zdf (by rw [zac]; simpa using hx) (by rw [List.nil_append]))
theorem zpl (xs ys:List Int) (hx:xs.length + ys.length ≤ 68719476736):zcn [.cell (.sl 1 (zah xs)),.cell (.sl 1 (zah ys))] = rL (xs ++ ys) :=
 zmu (zaU (zqt xs (by omega)) (zdf (by rw [zac,zac]; exact hx) (by rw [zn7])))
end Go.Proofs.Ytcpcagdialnbeaa
namespace Go.Proofs.Ytcpcagdialnbeaa
open Go
structure PM where
 ps:List Int
 r:Int
 o:Int
 n:Int
 kids:List (List AC)
 deriving Inhabited
def pmC (x:PM):List AC:=[.sl 1 (zah x.ps),.int x.r,.int x.o,.int x.n,.sl 3 x.kids]
def zaW (R:List PM):List (List AC):=R.map pmC
structure POk (x:PM):Prop where
 ps:zcz x.ps
 r:inI x.r
 b:Fit .expr [.int x.o,.int x.n,.sl 3 x.kids]
theorem zq4:∀ {rs:List (List AC)},(∀ d ∈ rs,Fit .func d) → ∃ R,rs = zaW R ∧ ∀ d ∈ R,POk d
 | [],_ => ⟨[],rfl,fun c h => by cases h⟩
 | d :: ds,h => by
  obtain ⟨R,rfl,hR⟩:=zq4 fun x hx => h x (List.mem_cons_of_mem _ hx)
  have h0:=h d List.mem_cons_self
  generalize ht:Ty.func = t at h0
  cases h0 with
  | func ps r o n kids hp hr hb =>
   refine ⟨⟨ps,r,o,n,kids⟩ :: R,rfl,fun x hx => ?_⟩
   rcases List.mem_cons.1 hx with rfl | hx
   ·exact ⟨hp,hr,hb⟩
   ·exact hR x hx
  | _ => cases ht
theorem zby (R:List PM):(zaW R).length = R.length:=by simp [zaW]
def gP (R:List PM) (k:Nat):PM:=R.getD k default
theorem zol {R:List PM} {k:Nat} (h:k < R.length):gP R k ∈ R:=zgx h _
theorem zt0 {R:List PM} {k:Nat} (h:k < R.length):R[k] = gP R k:=by simp [gP,List.getD,h]
theorem zo1 {R:List PM} {k:Nat} (h:k < R.length):(zaW R).getD k [] = [.sl 1 (zah (gP R k).ps),.int (gP R k).r,.int (gP R k).o,.int (gP R k).n,.sl 3 (gP R k).kids]:=by simp [zaW,List.getD,h,gP,pmC]
section
variable {ρ:Type} {r:ρ}
theorem zaZ {R:List PM} {i:Int} {k:Nat} (hi:i = (k:Int)) (h:k < R.length) {K:Fn (Option ρ) [.sl 1 [],.int 0,.int 0,.int 0,.sl 3 []]}
  (h2:(K:List (List AC) → Int → Int → Int → List (List AC) → Option ρ) (zah (gP R k).ps) (gP R k).r (gP R k).o (gP R k).n (gP R k).kids = some r):zgI (zaW R) i [.sl 1 [],.int 0,.int 0,.int 0,.sl 3 []] K = some r:=by
 subst hi
 exact zoM (by rw [zby]; exact h) (zo1 h) h2
end
def zlj (D:List DM) (x:PM):Bool:=decide (x.ps.length ≤ 3) && (x.ps.all (zdB D) && zdB D x.r)
def ziT (D:List DM) (R:List PM):Bool:=zdU D && (decide (1 ≤ R.length) && (decide (R.length ≤ 4) && (R.all (zlj D) && (((gP R 0).ps.length == 0) && ((gP R 0).r == 0)))))
theorem zpU (D:List DM) (x:PM) (hx:POk x):zg4 [.cell (.sl 3 (zal D)),.cell (.sl 1 (zah x.ps)),.cell (.int x.r)] = rB (zlj D x):=by
 refine zkp ?_
 rw [zac]
 unfold zlj
 by_cases h:x.ps.length ≤ 3
 ·rw [decide_eq_true h]
  refine zaf (decide_eq_true (by omega)) (za6 (zmR D _ hx.ps.len) ?_)
  rcases x.ps.all (zdB D) with _ | _
  ·exact zab rfl rfl
  ·exact zaf rfl (za6 (zjP D _) rfl)
 ·rw [decide_eq_false h]
  exact zab (decide_eq_false (by omega)) rfl
theorem zjJ (D:List DM) (R:List PM) (hD:∀ d ∈ D,DOk d) (hR:∀ x ∈ R,POk x) (hl:D.length ≤ zbd):zeA [.agg [.sl 3 (zal D),.sl 5 (zaW R)]] = rB (ziT D R):=by
 refine zjj (za6 (zoy D hD hl) ?_)
 unfold ziT
 rcases zdU D with _ | _
 ·exact zaf rfl rfl
 refine zab rfl ?_
 rw [zby]
 by_cases h1:1 ≤ R.length
 rotate_left
 ·rw [decide_eq_false h1]
  exact zaf (decide_eq_true (by omega)) rfl
 rw [decide_eq_true h1]
 refine zab (decide_eq_false (by omega)) ?_
 by_cases h4:R.length ≤ 4
 rotate_left
 ·rw [decide_eq_false h4]
  exact zaf (decide_eq_true (by omega)) rfl
 rw [decide_eq_true h4]
 refine zab (decide_eq_false (by omega)) ?_
 have key:∀ m k:Nat,k + m = R.length → zdb (zal D) (zaW R) (zaW R) ((R.length:Nat):Int) (k:Int) = rB ((R.drop k).all (zlj D) && (((gP R 0).ps.length == 0) && ((gP R 0).r == 0))):=by
  intro m
  induction m with
  | zero =>
   intro k hk
   rw [List.drop_eq_nil_of_le (by omega)]
   refine ze3 (zab (decide_eq_false (by omega)) (zaZ (k:=0) rfl (by omega) ?_))
   rw [zac]
   by_cases h0:(gP R 0).ps.length = 0
   ·exact zaf (zr h0) (zaZ (k:=0) rfl (by omega) (by rw [h0]; rfl))
   ·refine zab (nz h0) ?_
    rw [show ((gP R 0).ps.length == 0) = false by simpa using h0]
    rfl
  | succ m ih =>
   intro k hk
   have hlt:k < R.length:=by omega
   rw [zgt hlt,zt0 hlt]
   refine ze3 (zaf (decide_eq_true (by omega)) (zaZ rfl hlt (za6 (zpU D _ (hR _ (zol hlt))) ?_)))
   rcases zlj D (gP R k) with _ | _
   ·exact zaf rfl rfl
   ·exact zab rfl (by rw [wrk (by unfold zbd; omega)]; exact ih (k + 1) (by omega))
 exact key R.length 0 (by omega)
theorem zoD (D:List DM) (R:List PM) (hD:∀ d ∈ D,DOk d) (hR:∀ x ∈ R,POk x) (hl:D.length ≤ zbd):zf6 [.agg [.sl 3 (zal D),.sl 5 (zaW R)]] = rB (ziT D R):=by
 refine zjh (za6 (zog D hD hl) ?_)
 unfold ziT
 rcases zdU D with _ | _
 ·exact zaf rfl rfl
 refine zab rfl (za6 (zha _ _ _) ?_)
 rw [zby]
 by_cases h1:1 ≤ R.length
 rotate_left
 ·rw [decide_eq_false h1,decide_eq_false (show ¬ (1:Int) ≤ ((R.length:Nat):Int) by omega)]
  exact zaf rfl rfl
 rw [decide_eq_true h1,decide_eq_true (show (1:Int) ≤ ((R.length:Nat):Int) by omega)]
 by_cases h4:R.length ≤ 4
 rotate_left
 ·rw [decide_eq_false h4,decide_eq_false (show ¬ ((R.length:Nat):Int) ≤ 4 by omega)]
  exact zaf rfl rfl
 rw [decide_eq_true h4,decide_eq_true (show ((R.length:Nat):Int) ≤ 4 by omega)]
 refine zab rfl ?_
 have key:∀ m k:Nat,k + m = R.length → zc6 (zal D) (zaW R) (k:Int) = rB ((R.drop k).all (zlj D) && (((gP R 0).ps.length == 0) && ((gP R 0).r == 0))):=by
  intro m
  induction m with
  | zero =>
   intro k hk
   rw [List.drop_eq_nil_of_le (by omega)]
   refine zfa (zab (decide_eq_false (by rw [zby]; omega)) (zaZ (k:=0) rfl (by omega) ?_))
   rw [zac]
   by_cases h0:(gP R 0).ps.length = 0
   ·exact zaf (zr h0) (zaZ (k:=0) rfl (by omega) (by rw [h0]; rfl))
   ·refine zab (nz h0) ?_
    rw [show ((gP R 0).ps.length == 0) = false by simpa using h0]
    rfl
  | succ m ih =>
   intro k hk
   have hlt:k < R.length:=by omega
   have hx:=hR _ (zol hlt)
   rw [zgt hlt,zt0 hlt]
   refine zfa (zaf (decide_eq_true (by rw [zby]; omega)) (zaZ rfl hlt ?_))
   rw [zac]
   unfold zlj
   by_cases h3:(gP R k).ps.length ≤ 3
   rotate_left
   ·rw [decide_eq_false h3]
    exact zaf (decide_eq_true (by omega)) rfl
   rw [decide_eq_true h3]
   refine zab (decide_eq_false (by omega)) (za6 (zmY D _ hx.ps.len) ?_)
   rcases (gP R k).ps.all (zdB D) with _ | _
   ·exact zaf rfl rfl
   refine zab rfl (za6 (zoG D _) ?_)
   rcases zdB D (gP R k).r with _ | _
   ·exact zaf rfl rfl
   ·exact zab rfl (by rw [wrk (by unfold zbd; omega)]; exact ih (k + 1) (by omega))
 exact key R.length 0 (by omega)
end Go.Proofs.Ytcpcagdialnbeaa
namespace Go.Proofs.Ytcpcagdialnbeaa
open Go
structure CP (D:List DM) (R:List PM):Prop where
 dv:DV D
 rl:R.length ≤ 4
 rok:∀ x ∈ R,POk x
 ps:∀ k,k < R.length → (gP R k).ps.length ≤ 3 ∧ ∀ t ∈ (gP R k).ps,0 ≤ t ∧ t ≤ D.length
 r:∀ k,k < R.length → 0 ≤ (gP R k).r ∧ (gP R k).r ≤ D.length
section
variable {D:List DM} {R:List PM} (hv:CP D R)
include hv
end
end Go.Proofs.Ytcpcagdialnbeaa
namespace Go.Proofs.Ytcpcagdialnbeaa
open Go
section
variable {D:List DM} {R:List PM}
end
end Go.Proofs.Ytcpcagdialnbeaa
