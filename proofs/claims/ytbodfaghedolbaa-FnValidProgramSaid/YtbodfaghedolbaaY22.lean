/- Generic texts and models for the proofs of this seat: part 22. -/
import Derived.Test.YtbodfaghedolbaaY21
import Derived.Test.YtbodfaghedolbaaRows
set_option linter.unusedVariables false
set_option linter.unusedSimpArgs false
namespace Go.Proofs.Ytbodfaghedolbaa
def zlX:Char:=Char.ofNat 32
def zm9:List Char:=[Char.ofNat 104,Char.ofNat 97,Char.ofNat 114,Char.ofNat 110,Char.ofNat 101,Char.ofNat 115,Char.ofNat 115]
def zqj:List Char:=[Char.ofNat 97,Char.ofNat 97,Char.ofNat 56,Char.ofNat 99,Char.ofNat 97,Char.ofNat 54,Char.ofNat 48,Char.ofNat 51,Char.ofNat 102,Char.ofNat 52,Char.ofNat 100,Char.ofNat 56,Char.ofNat 55,Char.ofNat 56,Char.ofNat 102,Char.ofNat 53,Char.ofNat 52,Char.ofNat 49,Char.ofNat 102,Char.ofNat 55,Char.ofNat 50,Char.ofNat 98,Char.ofNat 98,Char.ofNat 98,Char.ofNat 53,Char.ofNat 54,Char.ofNat 54,Char.ofNat 55,Char.ofNat 57,Char.ofNat 50,Char.ofNat 98,Char.ofNat 56,Char.ofNat 48,Char.ofNat 48,Char.ofNat 48,Char.ofNat 100,Char.ofNat 97,Char.ofNat 52,Char.ofNat 49,Char.ofNat 102,Char.ofNat 55,Char.ofNat 55,Char.ofNat 99,Char.ofNat 48,Char.ofNat 51,Char.ofNat 98,Char.ofNat 101,Char.ofNat 52,Char.ofNat 53,Char.ofNat 102,Char.ofNat 52,Char.ofNat 56,Char.ofNat 102,Char.ofNat 97,Char.ofNat 97,Char.ofNat 98,Char.ofNat 97,Char.ofNat 56,Char.ofNat 99,Char.ofNat 48,Char.ofNat 51,Char.ofNat 54,Char.ofNat 51,Char.ofNat 52]
def ze8:List Char:=[Char.ofNat 99,Char.ofNat 117,Char.ofNat 116]
def zjd:List Char:=[Char.ofNat 97,Char.ofNat 116,Char.ofNat 32,Char.ofNat 108,Char.ofNat 111,Char.ofNat 111,Char.ofNat 112,Char.ofNat 46,Char.ofNat 101,Char.ofNat 120,Char.ofNat 97,Char.ofNat 109,Char.ofNat 112,Char.ofNat 108,Char.ofNat 101,Char.ofNat 47,Char.ofNat 114,Char.ofNat 101,Char.ofNat 102,Char.ofNat 99,Char.ofNat 111,Char.ofNat 117,Char.ofNat 110,Char.ofNat 116,Char.ofNat 109,Char.ofNat 108,Char.ofNat 47,Char.ofNat 108,Char.ofNat 97,Char.ofNat 119,Char.ofNat 115,Char.ofNat 46,Char.ofNat 70,Char.ofNat 110,Char.ofNat 86,Char.ofNat 97,Char.ofNat 108,Char.ofNat 105,Char.ofNat 100,Char.ofNat 83,Char.ofNat 105,Char.ofNat 103,Char.ofNat 115,Char.ofNat 32,Char.ofNat 108,Char.ofNat 111,Char.ofNat 111,Char.ofNat 112,Char.ofNat 46,Char.ofNat 101,Char.ofNat 120,Char.ofNat 97,Char.ofNat 109,Char.ofNat 112,Char.ofNat 108,Char.ofNat 101,Char.ofNat 47,Char.ofNat 114,Char.ofNat 101,Char.ofNat 102,Char.ofNat 99,Char.ofNat 111,Char.ofNat 117,Char.ofNat 110,Char.ofNat 116,Char.ofNat 109,Char.ofNat 108,Char.ofNat 47,Char.ofNat 108,Char.ofNat 97,Char.ofNat 119,Char.ofNat 115,Char.ofNat 46,Char.ofNat 70,Char.ofNat 110,Char.ofNat 86,Char.ofNat 97,Char.ofNat 108,Char.ofNat 105,Char.ofNat 100,Char.ofNat 80,Char.ofNat 114,Char.ofNat 111,Char.ofNat 103,Char.ofNat 114,Char.ofNat 97,Char.ofNat 109,Char.ofNat 32,Char.ofNat 108,Char.ofNat 111,Char.ofNat 111,Char.ofNat 112,Char.ofNat 46,Char.ofNat 101,Char.ofNat 120,Char.ofNat 97,Char.ofNat 109,Char.ofNat 112,Char.ofNat 108,Char.ofNat 101,Char.ofNat 47,Char.ofNat 114,Char.ofNat 101,Char.ofNat 102,Char.ofNat 99,Char.ofNat 111,Char.ofNat 117,Char.ofNat 110,Char.ofNat 116,Char.ofNat 109,Char.ofNat 108,Char.ofNat 47,Char.ofNat 108,Char.ofNat 97,Char.ofNat 119,Char.ofNat 115,Char.ofNat 46,Char.ofNat 70,Char.ofNat 110,Char.ofNat 83,Char.ofNat 104,Char.ofNat 105,Char.ofNat 102,Char.ofNat 116,Char.ofNat 32,Char.ofNat 108,Char.ofNat 111,Char.ofNat 111,Char.ofNat 112,Char.ofNat 46,Char.ofNat 101,Char.ofNat 120,Char.ofNat 97,Char.ofNat 109,Char.ofNat 112,Char.ofNat 108,Char.ofNat 101,Char.ofNat 47,Char.ofNat 114,Char.ofNat 101,Char.ofNat 102,Char.ofNat 99,Char.ofNat 111,Char.ofNat 117,Char.ofNat 110,Char.ofNat 116,Char.ofNat 109,Char.ofNat 108,Char.ofNat 47,Char.ofNat 108,Char.ofNat 97,Char.ofNat 119,Char.ofNat 115,Char.ofNat 46,Char.ofNat 70,Char.ofNat 110,Char.ofNat 83,Char.ofNat 104,Char.ofNat 105,Char.ofNat 102,Char.ofNat 116,Char.ofNat 84,Char.ofNat 119,Char.ofNat 105,Char.ofNat 99,Char.ofNat 101,Char.ofNat 32,Char.ofNat 108,Char.ofNat 111,Char.ofNat 111,Char.ofNat 112,Char.ofNat 46,Char.ofNat 101,Char.ofNat 120,Char.ofNat 97,Char.ofNat 109,Char.ofNat 112,Char.ofNat 108,Char.ofNat 101,Char.ofNat 47,Char.ofNat 114,Char.ofNat 101,Char.ofNat 102,Char.ofNat 99,Char.ofNat 111,Char.ofNat 117,Char.ofNat 110,Char.ofNat 116,Char.ofNat 109,Char.ofNat 108,Char.ofNat 47,Char.ofNat 108,Char.ofNat 97,Char.ofNat 119,Char.ofNat 115,Char.ofNat 46,Char.ofNat 70,Char.ofNat 110,Char.ofNat 83,Char.ofNat 104,Char.ofNat 105,Char.ofNat 102,Char.ofNat 116,Char.ofNat 77,Char.ofNat 101,Char.ofNat 110,Char.ofNat 116,Char.ofNat 105,Char.ofNat 111,Char.ofNat 110,Char.ofNat 115]
theorem zq9:Try.prog.initOrder = String.ofList (zm9 ++ zlX :: (zqj ++ zlX :: (ze8 ++ zlX :: zjd))):=by kernel_rfl
theorem zlq:∀ (a b:List Char),(∀ c ∈ a,(c == zlX) = false) → wordsSigns (a ++ zlX :: b) = a :: wordsSigns b:=by
 intro a
 induction a with
 | nil => intro b _; rfl
 | cons c a ih =>
  intro b h
  have hc:c ≠ zlX:=by have:=h c (by simp); simpa using this
  have hr:=ih b fun x hx => h x (by simp [hx])
  rw [List.cons_append]
  conv => lhs; unfold wordsSigns
  split
  ·rename_i e; cases e
  ·rename_i e; injection e with e1 _; exact absurd e1 hc
  ·rename_i c' r' _ e
   injection e with e1 e2
   subst e1 e2
   rw [hr]
theorem zr1:wordsSigns Try.prog.initOrder.toList = zm9 :: zqj :: ze8 :: wordsSigns zjd:=by
 rw [zq9,String.toList_ofList,zlq _ _ (by decide),zlq _ _ (by decide),zlq _ _ (by decide)]
theorem zth {h s:List Char} {r:List (List Char)} (hc:((h == "harness".toList || h == "ownmain".toList) && isSumSigns s) = true):behindMainWord (h :: s :: r) = r:=by
 unfold behindMainWord
 simp only [hc,if_true]
theorem zu1 {P:Program} {c:List Char} {rest:List (List Char)} (hb:behindMainWord (wordsSigns P.initOrder.toList) = c :: rest) (hs:stripLifts liftWords (c :: rest) = ([],c :: rest))
  (h1:(c == "gc".toList) = false) (h2:(c == "spec".toList) = false) (h3:(c == "carried".toList) = false) (h4:((some c:Option (List Char)) == some "cut".toList) = true) (h5:P.laysLater = false) (h6:P.bearsReflect = false) (h7:P.doorFits [] = true):P.mayEnter = true:=by
 unfold Program.mayEnter
 rw [hb]
 simp only [hs,List.head?_cons,h1,h2,h3,h4,h5,h6,h7,Bool.or_false,Bool.false_and,Bool.not_false,Bool.or_true,Bool.and_true,List.contains_nil]
theorem zxx {P:Program} {c:List Char} {rest:List (List Char)} (hb:behindMainWord (wordsSigns P.initOrder.toList) = c :: rest)
  (h1:(c == "gc".toList) = false) (h2:(c == "spec".toList) = false) (h3:(c == "cut".toList) = true):P.make = some Make.cut:=by
 unfold Program.make
 rw [hb]
 simp only [h1,h2,h3,Bool.true_or,Bool.or_false,Bool.false_eq_true,if_false,if_true]
theorem zhz:behindMainWord (wordsSigns Try.prog.initOrder.toList) = ze8 :: wordsSigns zjd:=by
 have hc:((zm9 == "harness".toList || zm9 == "ownmain".toList) && isSumSigns zqj) = true:=by as_aux_lemma => kernel_rfl
 rw [zr1]
 exact zth hc
theorem zcs {o:String} {os:List String} {w:List Char} {ws:List (List Char)} (h:(w == o.toList) = false):stripLifts (o :: os) (w :: ws) = stripLifts os (w :: ws):=by
 unfold stripLifts
 rw [h]
 rw [if_neg Bool.false_ne_true]
 cases os <;> rfl
theorem zpk (R:List (List Char)):stripLifts liftWords (ze8 :: R) = ([],ze8 :: R):=by
 unfold liftWords
 rw [zcs (o:="finals") (by as_aux_lemma => kernel_rfl)]
 rw [zcs (o:="reflectrows") (by as_aux_lemma => kernel_rfl)]
 rw [zcs (o:="leanrows") (by as_aux_lemma => kernel_rfl)]
 rw [zcs (o:="onebuild") (by as_aux_lemma => kernel_rfl)]
 rw [zcs (o:="publicsums") (by as_aux_lemma => kernel_rfl)]
 rw [zcs (o:="eqguard") (by as_aux_lemma => kernel_rfl)]
 rw [zcs (o:="ownunsafe") (by as_aux_lemma => kernel_rfl)]
 rw [zcs (o:="libbeside") (by as_aux_lemma => kernel_rfl)]
 rw [zcs (o:="ownbeside") (by as_aux_lemma => kernel_rfl)]
 rw [zcs (o:="reflbeside") (by as_aux_lemma => kernel_rfl)]
 rw [zcs (o:="aliases") (by as_aux_lemma => kernel_rfl)]
 rw [zcs (o:="afterinit") (by as_aux_lemma => kernel_rfl)]
 rw [zcs (o:="crcplain") (by as_aux_lemma => kernel_rfl)]
 rw [zcs (o:="roadunsafe") (by as_aux_lemma => kernel_rfl)]
 rw [zcs (o:="fmthandon") (by as_aux_lemma => kernel_rfl)]
 rfl
theorem zy9:(ze8 == "cut".toList) = true:=by kernel_rfl
theorem zt2:(ze8 == "gc".toList) = false:=by kernel_rfl
theorem zqT:(ze8 == "spec".toList) = false:=by kernel_rfl
theorem zqS:(ze8 == "carried".toList) = false:=by kernel_rfl
theorem zrm:((some ze8:Option (List Char)) == some "cut".toList) = true:=by kernel_rfl
theorem zp1:((some ze8:Option (List Char)) == some "carried".toList) = false:=by kernel_rfl
theorem ztD:Try.prog.laysLater = false:=by kernel_rfl
theorem zqe:Try.prog.bearsReflect = false:=by kernel_rfl
theorem ztq:Try.prog.doorFits [] = true:=by kernel_rfl
theorem zr0:Try.prog.mayEnter = true:=zu1 zhz (zpk _) zt2 zqT zqS zrm ztD zqe ztq
theorem zsx:Try.prog.headLifts = []:=by
 unfold Program.headLifts
 rw [zhz,zpk]
 generalize wordsSigns zjd = R
 simp only [List.head?_cons,zrm,if_true]
theorem zrk:((false:Bool) == Try.prog.liftsFinal) = true:=by
 unfold Program.liftsFinal
 rw [zhz,zsx]
 generalize wordsSigns zjd = R
 simp only [List.head?_cons,zp1,Bool.false_and,Bool.false_or,List.contains_nil]
 rfl
theorem ztE:(Try.prog.make == some Make.cut) = true:=by
 rw [zxx zhz zt2 zqT zy9]
 rfl
end Go.Proofs.Ytbodfaghedolbaa
namespace Go.Proofs.Ytbodfaghedolbaa
open Go
def acS:AC → Nat
 | .int _ => 0
 | .bool _ => 0
 | .sl _ rows => rows.length + rsS rows
where
 rsS:List (List AC) → Nat
  | [] => 0
  | r :: rs => cS r + rsS rs
 cS:List AC → Nat
  | [] => 0
  | c :: cs => acS c + cS cs
abbrev cS:=acS.cS
abbrev rsS:=acS.rsS
theorem zy6:cS [] = 0:=by simp [cS,acS.cS]
theorem zv1 (n:Int) (cs:List AC):cS (.int n :: cs) = cS cs:=by simp [cS,acS.cS,acS]
theorem zz0 (k:Nat) (r:List (List AC)) (cs:List AC):cS (.sl k r :: cs) = r.length + rsS r + cS cs:=by simp [cS,acS.cS,acS,rsS]
theorem zaO:rsS [] = 0:=by simp [rsS,acS.rsS]
theorem zbb (r:List AC) (rs:List (List AC)):rsS (r :: rs) = cS r + rsS rs:=by simp [rsS,acS.rsS,cS]
theorem zul {rs:List (List AC)} {k:Nat} (h:k < rs.length):rsS (rs.drop k) = cS (rs.getD k []) + rsS (rs.drop (k + 1)):=by
 rw [List.drop_eq_getElem_cons h,zbb]
 simp [List.getD,h]
theorem zm6 {rs:List (List AC)} {r:List AC} (h:r ∈ rs):cS r ≤ rsS rs:=by
 induction rs with
 | nil => cases h
 | cons x rs ih =>
  rw [zbb]
  rcases List.mem_cons.1 h with rfl | h
  ·omega
  ·have:=ih h; omega
def zae (xs:List Int):List (List AC):=xs.map fun n => [.int n]
theorem zac (xs:List Int):(zae xs).length = xs.length:=by simp [zae]
theorem ztx {xs:List Int} {k:Nat} (h:k < xs.length):(zae xs).getD k [] = [.int xs[k]]:=by simp [zae,List.getD,h]
theorem zgw (xs ys:List Int):zae xs ++ zae ys = zae (xs ++ ys):=by simp [zae]
theorem zoA (xs:List Int) (n:Nat):(zae xs).take n = zae (xs.take n):=by simp [zae]
def inI (n:Int):Prop:=-9223372036854775808 ≤ n ∧ n ≤ 9223372036854775807
def za8:Nat:=9223372036854775807
structure zcX (xs:List Int):Prop where
 len:xs.length ≤ za8
 all:∀ x ∈ xs,inI x
theorem wr {n:Int} (h1:-9223372036854775808 ≤ n) (h2:n ≤ 9223372036854775807):zai n = n:=zwq h1 h2
theorem wrk {k:Nat} (h:k < za8):zai ((k:Int) + 1) = ((k + 1:Nat):Int):=by
 unfold za8 at h
 rw [wr (by omega) (by omega)]
 omega
section
variable {ρ:Type} {r:ρ}
theorem zq5 {rows:List (List AC)} {k:Nat} (h:k < rows.length) {sh:List AC} {K:Fn (Option ρ) sh} (h2:zh5 sh (rows.getD k []) K = some r):zal rows (k:Int) sh K = some r:=by
 unfold zal zqC
 rw [decide_eq_true (by omega),decide_eq_true (by omega)]
 exact h2
theorem zaC {x:Option AV} {n:Int} (h:x = some (.v (.cell (.int n)))) {K:Fn (Option ρ) (zbt [(false,[.int 0])])} (h2:(K:Int → Option ρ) n = some r):zaa x false [(false,[.int 0])] K = some r:=by rw [h]; exact h2
theorem zaH {x:Option AV} {n:Bool} (h:x = some (.v (.cell (.bool n)))) {K:Fn (Option ρ) (zbt [(false,[.bool false])])} (h2:(K:Bool → Option ρ) n = some r):zaa x false [(false,[.bool false])] K = some r:=by rw [h]; exact h2
theorem zaP {x:Option AV} {k:Nat} {l:List (List AC)} (h:x = some (.v (.cell (.sl k l)))) {K:Fn (Option ρ) (zbt [(false,[.sl k []])])} (h2:(K:List (List AC) → Option ρ) l = some r):zaa x false [(false,[.sl k []])] K = some r:=by
 rw [h]
 show (bif Nat.beq k k then _ else none) = _
 rw [Nat.beq_refl]
 exact h2
theorem zcT {l l':List (List AC)} (h:l.length + l'.length ≤ 68719476736) {K:List (List AC) → Option ρ} (h2:K (l ++ l') = some r):zfr l l' K = some r:=by
 unfold zfr zhr
 rw [decide_eq_true (by rw [List.length_append]; exact h)]
 exact h2
theorem zsK {l:List (List AC)} {lo hi:Int} (h0:0 ≤ lo) (h1:lo ≤ hi) (h2:hi ≤ l.length) {K:List (List AC) → Option ρ} (h3:K ((l.drop lo.toNat).take (hi.toNat - lo.toNat)) = some r):zqP l lo hi K = some r:=by
 unfold zqP
 rw [decide_eq_true ⟨h0,h1,h2⟩]
 exact h3
theorem zad {b:Bool} {x y:Option ρ} (h:b = true) (h2:x = some r):(bif b then x else y) = some r:=by rw [h]; exact h2
theorem zab {b:Bool} {x y:Option ρ} (h:b = false) (h2:y = some r):(bif b then x else y) = some r:=by rw [h]; exact h2
theorem zAk {rows:List (List AC)} {k:Nat} (h:k < rows.length) {a0:Int} (e:rows.getD k [] = [.int a0]) {K:Fn (Option ρ) [.int 0]} (h2:(K:Int → Option ρ) a0 = some r):zal rows (k:Int) [.int 0] K = some r:=zq5 h (by rw [e]; exact h2)
theorem zAA {rows:List (List AC)} {k:Nat} (h:k < rows.length) {a0:List (List AC)} (e:rows.getD k [] = [.sl 1 a0]) {K:Fn (Option ρ) [.sl 1 []]} (h2:(K:List (List AC) → Option ρ) a0 = some r):zal rows (k:Int) [.sl 1 []] K = some r:=zq5 h (by rw [e]; exact h2)
theorem zaR {x:Option AV} {a0:List (List AC)} (h:x = some (.v (.agg [.sl 1 a0]))) {K:Fn (Option ρ) (zbt [(true,[.sl 1 []])])} (h2:(K:List (List AC) → Option ρ) a0 = some r):zaa x false [(true,[.sl 1 []])] K = some r:=by rw [h]; exact h2
theorem zoo {rows:List (List AC)} {k:Nat} (h:k < rows.length) {a0:Int} {a1:Int} {a2:List (List AC)} (e:rows.getD k [] = [.int a0,.int a1,.sl 1 a2]) {K:Fn (Option ρ) [.int 0,.int 0,.sl 1 []]} (h2:(K:Int → Int → List (List AC) → Option ρ) a0 a1 a2 = some r):zal rows (k:Int) [.int 0,.int 0,.sl 1 []] K = some r:=zq5 h (by rw [e]; exact h2)
theorem zdm {rows:List (List AC)} {k:Nat} (h:k < rows.length) {a0:Int} {a1:Int} {a2:List (List AC)} (e:rows.getD k [] = [.int a0,.int a1,.sl 3 a2]) {K:Fn (Option ρ) [.int 0,.int 0,.sl 3 []]} (h2:(K:Int → Int → List (List AC) → Option ρ) a0 a1 a2 = some r):zal rows (k:Int) [.int 0,.int 0,.sl 3 []] K = some r:=zq5 h (by rw [e]; exact h2)
theorem zeS {rows:List (List AC)} (h:0 < rows.length) {a0:Int} {a1:Int} {a2:List (List AC)} (e:rows.getD 0 [] = [.int a0,.int a1,.sl 3 a2]) {K:Fn (Option ρ) [.int 0,.int 0,.sl 3 []]} (h2:(K:Int → Int → List (List AC) → Option ρ) a0 a1 a2 = some r):zal rows 0 [.int 0,.int 0,.sl 3 []] K = some r:=zdm h e h2
theorem zag {x:Option AV} {a0:Int} {a1:Int} {a2:List (List AC)} (h:x = some (.v (.agg [.int a0,.int a1,.sl 3 a2]))) {K:Fn (Option ρ) (zbt [(true,[.int 0,.int 0,.sl 3 []])])} (h2:(K:Int → Int → List (List AC) → Option ρ) a0 a1 a2 = some r):zaa x false [(true,[.int 0,.int 0,.sl 3 []])] K = some r:=by rw [h]; exact h2
theorem zpG {rows:List (List AC)} {k:Nat} (h:k < rows.length) {a0:List (List AC)} {a1:Int} {a2:Int} {a3:Int} {a4:List (List AC)} (e:rows.getD k [] = [.sl 1 a0,.int a1,.int a2,.int a3,.sl 3 a4]) {K:Fn (Option ρ) [.sl 1 [],.int 0,.int 0,.int 0,.sl 3 []]} (h2:(K:List (List AC) → Int → Int → Int → List (List AC) → Option ρ) a0 a1 a2 a3 a4 = some r):zal rows (k:Int) [.sl 1 [],.int 0,.int 0,.int 0,.sl 3 []] K = some r:=zq5 h (by rw [e]; exact h2)
theorem callFunc {x:Option AV} {a0:List (List AC)} {a1:Int} {a2:Int} {a3:Int} {a4:List (List AC)} (h:x = some (.v (.agg [.sl 1 a0,.int a1,.int a2,.int a3,.sl 3 a4]))) {K:Fn (Option ρ) (zbt [(true,[.sl 1 [],.int 0,.int 0,.int 0,.sl 3 []])])} (h2:(K:List (List AC) → Int → Int → Int → List (List AC) → Option ρ) a0 a1 a2 a3 a4 = some r):zaa x false [(true,[.sl 1 [],.int 0,.int 0,.int 0,.sl 3 []])] K = some r:=by rw [h]; exact h2
theorem zbi {xs:List Int} {k:Nat} (h:k < xs.length) {K:Fn (Option ρ) [.int 0]} (h2:(K:Int → Option ρ) xs[k] = some r):zal (zae xs) (k:Int) [.int 0] K = some r:=zAk (by rw [zac]; exact h) (ztx h) h2
end
inductive Ty where
 | con
 | decl
 | expr
 | func
 | prog
 | step
 | block
 | routine
 | normal
 | cell
 | instr
 | proc
 | image
 | frame
 | state
inductive Fit:Ty → List AC → Prop
 | con (fs:List Int) (h:zcX fs):Fit .con [.sl 1 (zae fs)]
 | decl (f t:Int) (cons:List (List AC)) (hf:inI f) (ht:inI t) (hl:cons.length ≤ za8) (h:∀ c ∈ cons,Fit .con c):Fit .decl [.int f,.int t,.sl 1 cons]
 | expr (o n:Int) (kids:List (List AC)) (ho:inI o) (hn:inI n) (hl:kids.length ≤ za8) (h:∀ c ∈ kids,Fit .expr c):Fit .expr [.int o,.int n,.sl 3 kids]
 | func (ps:List Int) (r o n:Int) (kids:List (List AC)) (hp:zcX ps) (hr:inI r) (h:Fit .expr [.int o,.int n,.sl 3 kids]):Fit .func [.sl 1 (zae ps),.int r,.int o,.int n,.sl 3 kids]
 | prog (ds fs:List (List AC)) (hd:ds.length ≤ za8) (hf:fs.length ≤ za8) (h1:∀ d ∈ ds,Fit .decl d) (h2:∀ f ∈ fs,Fit .func f):Fit .prog [.sl 3 ds,.sl 5 fs]
 | step (o n i:Int) (args:List Int) (kids:List (List AC)) (ho:inI o) (hn:inI n) (hi:inI i) (ha:zcX args) (hl:kids.length ≤ za8) (h:∀ b ∈ kids,Fit .block b):Fit .step [.int o,.int n,.int i,.sl 1 (zae args),.sl 2 kids]
 | block (steps:List (List AC)) (r:Int) (hr:inI r) (hl:steps.length ≤ za8) (h:∀ s ∈ steps,Fit .step s):Fit .block [.sl 5 steps,.int r]
 | routine (ps lent:List Int) (r:Int) (steps:List (List AC)) (x:Int) (hp:zcX ps) (hl:zcX lent) (hr:inI r) (h:Fit .block [.sl 5 steps,.int x]):Fit .routine [.sl 1 (zae ps),.sl 1 (zae lent),.int r,.sl 5 steps,.int x]
 | normal (ds rs:List (List AC)) (hd:ds.length ≤ za8) (hr:rs.length ≤ za8) (h1:∀ d ∈ ds,Fit .decl d) (h2:∀ r ∈ rs,Fit .routine r):Fit .normal [.sl 3 ds,.sl 5 rs]
 | cell (c t:Int) (fs:List Int) (hc:inI c) (ht:inI t) (h:zcX fs):Fit .cell [.int c,.int t,.sl 1 (zae fs)]
 | instr (o d n i:Int) (args jumps:List Int) (ho:inI o) (hd:inI d) (hn:inI n) (hi:inI i) (ha:zcX args) (hj:zcX jumps):Fit .instr [.int o,.int d,.int n,.int i,.sl 1 (zae args),.sl 1 (zae jumps)]
 | proc (ps lent:List Int) (r regs:Int) (code:List (List AC)) (hp:zcX ps) (hl:zcX lent) (hr:inI r) (hg:inI regs) (hc:code.length ≤ za8) (h:∀ x ∈ code,Fit .instr x):Fit .proc [.sl 1 (zae ps),.sl 1 (zae lent),.int r,.int regs,.sl 6 code]
 | image (ds procs:List (List AC)) (hd:ds.length ≤ za8) (hp:procs.length ≤ za8) (h1:∀ d ∈ ds,Fit .decl d) (h2:∀ p ∈ procs,Fit .proc p):Fit .image [.sl 3 ds,.sl 5 procs]
 | frame (p a d:Int) (regs own held:List Int) (hp:inI p) (ha:inI a) (hd:inI d) (h1:zcX regs) (h2:zcX own) (h3:zcX held):Fit .frame [.int p,.int a,.int d,.sl 1 (zae regs),.sl 1 (zae own),.sl 1 (zae held)]
 | state (s v c m:Int) (out:List Int) (heap frames:List (List AC)) (hs:inI s) (hv:inI v) (hc:inI c) (hm:inI m) (ho:zcX out) (hh:heap.length ≤ za8) (hf:frames.length ≤ za8) (h1:∀ x ∈ heap,Fit .cell x) (h2:∀ x ∈ frames,Fit .frame x):Fit .state [.int s,.int v,.int c,.int m,.sl 1 (zae out),.sl 3 heap,.sl 6 frames]
theorem zef {α:Type} {l:List α} {k:Nat} (h:k < l.length) (d:α):l.getD k d ∈ l:=by simp [List.getD,List.getElem?_eq_getElem h]
end Go.Proofs.Ytbodfaghedolbaa
namespace Go.Proofs.Ytbodfaghedolbaa
open Go
abbrev rB (b:Bool):Option AV:=some (.v (.cell (.bool b)))
abbrev rI (n:Int):Option AV:=some (.v (.cell (.int n)))
abbrev rL (xs:List Int):Option AV:=some (.v (.cell (.sl 1 (zae xs))))
structure DM where
 f:Int
 t:Int
 cs:List (List Int)
 deriving Inhabited
def zy1 (c:List Int):List AC:=[.sl 1 (zae c)]
def zcF (cs:List (List Int)):List (List AC):=cs.map zy1
def ziY (d:DM):List AC:=[.int d.f,.int d.t,.sl 1 (zcF d.cs)]
def zak (D:List DM):List (List AC):=D.map ziY
structure DOk (d:DM):Prop where
 f:inI d.f
 t:inI d.t
 len:d.cs.length ≤ za8
 cs:∀ c ∈ d.cs,zcX c
theorem zrt:∀ {cs:List (List AC)},(∀ c ∈ cs,Fit .con c) → ∃ C,cs = zcF C ∧ ∀ c ∈ C,zcX c
 | [],_ => ⟨[],rfl,fun c h => by cases h⟩
 | c :: cs,h => by
  obtain ⟨C,rfl,hC⟩:=zrt fun x hx => h x (List.mem_cons_of_mem _ hx)
  have h0:=h c List.mem_cons_self
  generalize ht:Ty.con = t at h0
  cases h0 with
  | con fs hf =>
   refine ⟨fs :: C,rfl,fun c hc => ?_⟩
   rcases List.mem_cons.1 hc with rfl | hc
   ·exact hf
   ·exact hC c hc
  | _ => cases ht
theorem zq7:∀ {ds:List (List AC)},(∀ d ∈ ds,Fit .decl d) → ∃ D,ds = zak D ∧ ∀ d ∈ D,DOk d
 | [],_ => ⟨[],rfl,fun c h => by cases h⟩
 | d :: ds,h => by
  obtain ⟨D,rfl,hD⟩:=zq7 fun x hx => h x (List.mem_cons_of_mem _ hx)
  have h0:=h d List.mem_cons_self
  generalize ht:Ty.decl = t at h0
  cases h0 with
  | decl f t' cons hf ht' hl hc =>
   obtain ⟨C,rfl,hC⟩:=zrt hc
   refine ⟨⟨f,t',C⟩ :: D,rfl,fun x hx => ?_⟩
   rcases List.mem_cons.1 hx with rfl | hx
   ·exact ⟨hf,ht',by simpa [zcF] using hl,hC⟩
   ·exact hD x hx
  | _ => cases ht
theorem za4 (D:List DM):(zak D).length = D.length:=by simp [zak]
theorem zaW (C:List (List Int)):(zcF C).length = C.length:=by simp [zcF]
def gD (D:List DM) (k:Nat):DM:=D.getD k default
theorem ztU {D:List DM} {k:Nat} (h:k < D.length):(zak D).getD k [] = [.int (gD D k).f,.int (gD D k).t,.sl 1 (zcF (gD D k).cs)]:=by simp [zak,List.getD,h,gD,ziY]
theorem ztz {C:List (List Int)} {k:Nat} (h:k < C.length):(zcF C).getD k [] = [.sl 1 (zae (C.getD k []))]:=by simp [zcF,List.getD,h,zy1]
theorem zuc {D:List DM} {k:Nat} (h:k < D.length):gD D k ∈ D:=zef h _
section
variable {ρ:Type} {r:ρ}
theorem zbE {D:List DM} {i:Int} {k:Nat} (hi:i = (k:Int)) (h:k < D.length) {K:Fn (Option ρ) [.int 0,.int 0,.sl 1 []]} (h2:(K:Int → Int → List (List AC) → Option ρ) (gD D k).f (gD D k).t (zcF (gD D k).cs) = some r):zal (zak D) i [.int 0,.int 0,.sl 1 []] K = some r:=by
 subst hi
 exact zoo (by rw [za4]; exact h) (ztU h) h2
theorem zj9 {C:List (List Int)} {i:Int} {k:Nat} (hi:i = (k:Int)) (h:k < C.length) {K:Fn (Option ρ) [.sl 1 []]} (h2:(K:List (List AC) → Option ρ) (zae (C.getD k [])) = some r):zal (zcF C) i [.sl 1 []] K = some r:=by
 subst hi
 exact zAA (by rw [zaW]; exact h) (ztz h) h2
theorem zhP {xs:List Int} {i:Int} {k:Nat} (hi:i = (k:Int)) (h:k < xs.length) {K:Fn (Option ρ) [.int 0]} (h2:(K:Int → Option ρ) (xs.getD k 0) = some r):zal (zae xs) i [.int 0] K = some r:=by
 subst hi
 refine zbi h ?_
 simpa [List.getD,h] using h2
end
theorem zgR {α:Type} {l:List α} {k:Nat} (h:k < l.length) (p:α → Bool):(l.drop k).all p = (p l[k] && (l.drop (k + 1)).all p):=by rw [List.drop_eq_getElem_cons h,List.all_cons]
theorem zvm {α:Type} {l:List α} {k:Nat} (h:k < l.length) (p:α → Bool):(l.drop k).any p = (p l[k] || (l.drop (k + 1)).any p):=by rw [List.drop_eq_getElem_cons h,List.any_cons]
theorem zi2 {D:List DM} {k:Nat} (h:k < D.length):D[k] = gD D k:=by simp [gD,List.getD,h]
theorem nz {n:Nat} (h:n ≠ 0):(((n:Nat):Int) == 0) = false:=by simp [h]
theorem zr {n:Nat} (h:n = 0):(((n:Nat):Int) == 0) = true:=by simp [h]
theorem eqt {a b:Int} (h:a = b):(a == b) = true:=by simp [h]
theorem eqf {a b:Int} (h:a ≠ b):(a == b) = false:=by simp [h]
theorem net {a b:Int} (h:a ≠ b):(a != b) = true:=by simp [h]
theorem nef {a b:Int} (h:a = b):(a != b) = false:=by simp [h]
def zdl (D:List DM) (t:Int):Bool:=decide (0 ≤ t) && decide (t ≤ D.length)
def zvH (D:List DM) (t:Int):Bool:=decide (0 < t) && (zdl D t && decide (0 < (gD D (t.toNat - 1)).cs.length))
def zkb (D:List DM) (t:Int):Bool:=decide (0 < t) && (zdl D t && ((gD D (t.toNat - 1)).cs.length == 0))
def zq1 (f t:Int) (d:DM):Bool:=(d.cs.length == 0) && (d.f == f && d.t == t)
def zfL (f t:Int):List DM → Nat → Int
 | [],_ => -1
 | d :: ds,k => if zq1 f t d then ((k + 1:Nat):Int) else zfL f t ds (k + 1)
def zie (D:List DM) (c:List Int):Bool:=decide (c.length ≤ 3) && c.all (zdl D)
def ziU (D:List DM) (k:Nat):Bool :=
 if 0 < (gD D k).cs.length then decide ((gD D k).cs.length ≤ 3) && (((gD D k).f == 0) && (((gD D k).t == 0) && (gD D k).cs.all (zie D)))
 else zdl D (gD D k).f && (zdl D (gD D k).t && !(D.take k).any (zq1 (gD D k).f (gD D k).t))
def zej (D:List DM):Bool:=decide (D.length ≤ 4) && (List.range D.length).all (ziU D)
theorem zib (D:List DM) (t:Int):zc7 [.cell (.sl 3 (zak D)),.cell (.int t)] = rB (zdl D t):=by
 refine znV ?_
 by_cases h:0 ≤ t
 ·exact zad (decide_eq_true h) (by simp [zdl,h,za4])
 ·exact zab (decide_eq_false h) (by simp [zdl,h])
theorem zdO (n lo hi:Int):zbg [.cell (.int n),.cell (.int lo),.cell (.int hi)] = rB (decide (lo ≤ n) && decide (n ≤ hi)):=by
 refine zmH ?_
 by_cases h:lo ≤ n
 ·exact zad (decide_eq_true h) (by simp [h])
 ·exact zab (decide_eq_false h) (by simp [h])
theorem zpV (D:List DM) (t:Int):zbg [.cell (.int t),.cell (.int 0),.cell (.int (((zak D).length:Nat):Int))] = rB (zdl D t):=by
 rw [zdO,za4]
 rfl
theorem zkh (D:List DM) (xs:List Int) (hx:xs.length ≤ za8):zea [.cell (.sl 3 (zak D)),.cell (.sl 1 (zae xs))] = rB (xs.all (zdl D)):=by
 have key:∀ m k:Nat,k + m = xs.length → zdU (zak D) (zae xs) (((zae xs).length:Nat):Int) (k:Int) = rB ((xs.drop k).all (zdl D)):=by
  intro m
  induction m with
  | zero => intro k hk; exact zf6 (zab (decide_eq_false (by rw [zac]; omega)) (by rw [List.drop_eq_nil_of_le (by omega)]; rfl))
  | succ m ih =>
   intro k hk
   have hlt:k < xs.length:=by omega
   rw [zgR hlt]
   refine zf6 (zad (decide_eq_true (by rw [zac]; omega)) (zbi hlt (zaH (zib D _) ?_)))
   rcases zdl D xs[k] with _ | _
   ·exact zad rfl rfl
   ·exact zab rfl (by rw [wrk (by omega)]; exact ih (k + 1) (by omega))
 exact zls (key xs.length 0 (by omega))
theorem znS (D:List DM) (xs:List Int) (hx:xs.length ≤ za8):zfu [.cell (.sl 3 (zak D)),.cell (.sl 1 (zae xs))] = rB (xs.all (zdl D)):=by
 have key:∀ m k:Nat,k + m = xs.length → zdQ (zak D) (zae xs) (k:Int) = rB ((xs.drop k).all (zdl D)):=by
  intro m
  induction m with
  | zero => intro k hk; exact zgd (zab (decide_eq_false (by rw [zac]; omega)) (by rw [List.drop_eq_nil_of_le (by omega)]; rfl))
  | succ m ih =>
   intro k hk
   have hlt:k < xs.length:=by omega
   rw [zgR hlt]
   refine zgd (zad (decide_eq_true (by rw [zac]; omega)) (zbi hlt (zaH (zpV D _) ?_)))
   rcases zdl D xs[k] with _ | _
   ·exact zad rfl rfl
   ·exact zab rfl (by rw [wrk (by omega)]; exact ih (k + 1) (by omega))
 exact zlt (key xs.length 0 (by omega))
theorem hit_cases {f t:Int} {d:DM}:zq1 f t d = true ↔ d.cs.length = 0 ∧ d.f = f ∧ d.t = t:=by simp [zq1]
theorem zsN (D:List DM) (hD:D.length ≤ 1000) (f t:Int):zdz [.cell (.sl 3 (zak D)),.cell (.int f),.cell (.int t)] = rI (zfL f t D 0):=by
 have key:∀ m k:Nat,k + m = D.length → zbx f t (zak D) (((zak D).length:Nat):Int) (k:Int) = rI (zfL f t (D.drop k) k):=by
  intro m
  induction m with
  | zero => intro k hk; exact zeD (zab (decide_eq_false (by rw [za4]; omega)) (by rw [List.drop_eq_nil_of_le (by omega)]; rfl))
  | succ m ih =>
   intro k hk
   have hlt:k < D.length:=by omega
   have w1:zai ((k:Int) + 1) = ((k + 1:Nat):Int):=wrk (by unfold za8; omega)
   have nx:=ih (k + 1) (by omega)
   rw [List.drop_eq_getElem_cons hlt,zi2 hlt]
   refine zeD (zad (decide_eq_true (by rw [za4]; omega)) (zbE rfl hlt ?_))
   rw [zaW,w1]
   by_cases h1:(gD D k).cs.length = 0
   ·refine zad (by simp [h1]) ?_
    by_cases h2:(gD D k).f = f
    ·refine zad (by simp [h2]) ?_
     by_cases h3:(gD D k).t = t
     ·exact zad (by simp [h3]) (by rw [zfL,if_pos (hit_cases.2 ⟨h1,h2,h3⟩)])
     ·exact zab (by simp [h3]) (by rw [zfL,if_neg (fun h => h3 (hit_cases.1 h).2.2)]; exact nx)
    ·exact zab (by simp [h2]) (by rw [zfL,if_neg (fun h => h2 (hit_cases.1 h).2.1)]; exact nx)
   ·exact zab (nz h1) (by rw [zfL,if_neg (fun h => h1 (hit_cases.1 h).1)]; exact nx)
 exact zjq (key D.length 0 (by omega))
theorem zqa (D:List DM) (hD:D.length ≤ 1000) (f t:Int):zgf [.cell (.sl 3 (zak D)),.cell (.int f),.cell (.int t)] = rI (zfL f t D 0):=by
 have key:∀ m k:Nat,k + m = D.length → zcC (zak D) f t (k:Int) = rI (zfL f t (D.drop k) k):=by
  intro m
  induction m with
  | zero => intro k hk; exact zgU (zab (decide_eq_false (by rw [za4]; omega)) (by rw [List.drop_eq_nil_of_le (by omega)]; rfl))
  | succ m ih =>
   intro k hk
   have hlt:k < D.length:=by omega
   have w1:zai ((k:Int) + 1) = ((k + 1:Nat):Int):=wrk (by unfold za8; omega)
   have nx:=ih (k + 1) (by omega)
   rw [List.drop_eq_getElem_cons hlt,zi2 hlt]
   refine zgU (zad (decide_eq_true (by rw [za4]; omega)) (zbE rfl hlt ?_))
   rw [zaW,w1]
   by_cases h1:(gD D k).cs.length = 0
   ·refine zad (by simp [h1]) (zbE rfl hlt ?_)
    by_cases h2:(gD D k).f = f
    ·refine zad (by simp [h2]) (zbE rfl hlt ?_)
     by_cases h3:(gD D k).t = t
     ·exact zad (by simp [h3]) (by rw [zfL,if_pos (hit_cases.2 ⟨h1,h2,h3⟩)])
     ·exact zab (by simp [h3]) (by rw [zfL,if_neg (fun h => h3 (hit_cases.1 h).2.2)]; exact nx)
    ·exact zab (by simp [h2]) (by rw [zfL,if_neg (fun h => h2 (hit_cases.1 h).2.1)]; exact nx)
   ·exact zab (nz h1) (by rw [zfL,if_neg (fun h => h1 (hit_cases.1 h).1)]; exact nx)
 exact zmy (key D.length 0 (by omega))
theorem zrH (f t:Int):∀ (D:List DM) (k:Nat),decide (zfL f t D k < 0) = !D.any (zq1 f t)
 | [],k => by simp [zfL]
 | d :: D,k => by
  unfold zfL
  rw [List.any_cons]
  cases h:zq1 f t d
  ·simpa using zrH f t D (k + 1)
  ·simp; omega
theorem zqv (D:List DM) (C:List (List Int)) (hC:∀ c ∈ C,zcX c) (hl:C.length ≤ za8):zg1 [.cell (.sl 3 (zak D)),.cell (.sl 1 (zcF C))] = rB (decide (C.length ≤ 3) && C.all (zie D)):=by
 have key:∀ m k:Nat,k + m = C.length → zdB (zak D) (zcF C) (((zcF C).length:Nat):Int) (k:Int) = rB ((C.drop k).all (zie D)):=by
  intro m
  induction m with
  | zero => intro k hk; exact zfK (zab (decide_eq_false (by rw [zaW]; omega)) (by rw [List.drop_eq_nil_of_le (by omega)]; rfl))
  | succ m ih =>
   intro k hk
   have hlt:k < C.length:=by omega
   have hc:=hC _ (zef hlt [])
   rw [zgR hlt,show C[k] = C.getD k [] by simp [List.getD,hlt]]
   refine zfK (zad (decide_eq_true (by rw [zaW]; omega)) (zj9 rfl hlt ?_))
   rw [zac]
   by_cases h3:(C.getD k []).length ≤ 3
   ·refine zab (decide_eq_false (by omega)) (zaH (zkh D _ hc.len) ?_)
    have e:zie D (C.getD k []) = (C.getD k []).all (zdl D):=by unfold zie; rw [decide_eq_true h3,Bool.true_and]
    rw [e]
    rcases (C.getD k []).all (zdl D) with _ | _
    ·exact zad rfl rfl
    ·exact zab rfl (by rw [wrk (by omega)]; exact ih (k + 1) (by omega))
   ·refine zad (decide_eq_true (by omega)) ?_
    have e:zie D (C.getD k []) = false:=by unfold zie; rw [decide_eq_false h3]; rfl
    rw [e]
    rfl
 refine zkz ?_
 rw [zaW]
 by_cases h:C.length ≤ 3
 ·refine zab (decide_eq_false (by omega)) ?_
  have:=key C.length 0 (by omega)
  rw [zaW] at this
  simpa [h] using this
 ·exact zad (decide_eq_true (by omega)) (by simp [h])
theorem zob (D:List DM) (k:Nat):(zak D).take k = zak (D.take k):=by simp [zak]
theorem zrl (D:List DM) (hD:∀ d ∈ D,DOk d) (hl:D.length ≤ 1000) (k:Nat) (hk:k < D.length):zhh [.cell (.sl 3 (zak D)),.cell (.int (k:Int))] = rB (ziU D k):=by
 have hd:=hD _ (zuc hk)
 refine zlf (zbE rfl hk ?_)
 rw [zaW]
 unfold ziU
 by_cases h0:0 < (gD D k).cs.length
 ·refine zad (decide_eq_true (by omega)) ?_
  rw [if_pos h0]
  by_cases h1:(gD D k).f = 0
  ·refine zad (by simp [h1]) ?_
   by_cases h2:(gD D k).t = 0
   ·exact zad (by simp [h2]) (zaH (zqv D _ hd.cs hd.len) (by rw [h1,h2]; simp only [beq_self_eq_true,Bool.true_and]; rfl))
   ·exact zab (by simp [h2]) (by simp [h2])
  ·exact zab (by simp [h1]) (by simp [h1])
 ·refine zab (decide_eq_false (by omega)) (zaH (zib D _) ?_)
  rw [if_neg h0]
  rcases zdl D (gD D k).f with _ | _
  ·exact zab rfl rfl
  ·refine zad rfl (zaH (zib D _) ?_)
   rcases zdl D (gD D k).t with _ | _
   ·exact zab rfl rfl
   ·refine zad rfl (zsK (by omega) (by omega) (by rw [za4]; omega) ?_)
    rw [show (((zak D).drop (0:Int).toNat).take ((k:Int).toNat - (0:Int).toNat)) = zak (D.take k) by simp [zob]]
    refine zaC (zsN _ (by rw [List.length_take]; omega) _ _) ?_
    rw [zrH]
    rfl
theorem zrw (D:List DM) (hD:∀ d ∈ D,DOk d) (hl:D.length ≤ 1000) (k:Nat) (hk:k < D.length):zgG [.cell (.sl 3 (zak D)),.cell (.int (k:Int))] = rB (ziU D k):=by
 have hd:=hD _ (zuc hk)
 have key1:∀ m j:Nat,j + m = (gD D k).cs.length → zdD (zak D) (gD D k).f (gD D k).t (zcF (gD D k).cs) (j:Int) = rB (((gD D k).cs.drop j).all (zie D)):=by
  intro m
  induction m with
  | zero => intro j hj; exact zfR (zab (decide_eq_false (by rw [zaW]; omega)) (by rw [List.drop_eq_nil_of_le (by omega)]; rfl))
  | succ m ih =>
   intro j hj
   have hlt:j < (gD D k).cs.length:=by omega
   have hc:=hd.cs _ (zef hlt [])
   have hlen:=hd.len
   rw [zgR hlt,show (gD D k).cs[j] = (gD D k).cs.getD j [] by simp [List.getD,hlt]]
   refine zfR (zad (decide_eq_true (by rw [zaW]; omega)) (zj9 rfl hlt ?_))
   rw [zac]
   by_cases h3:((gD D k).cs.getD j []).length ≤ 3
   ·refine zab (decide_eq_false (by omega)) (zj9 rfl hlt (zaH (znS D _ hc.len) ?_))
    have e:zie D ((gD D k).cs.getD j []) = ((gD D k).cs.getD j []).all (zdl D):=by unfold zie; rw [decide_eq_true h3,Bool.true_and]
    rw [e]
    rcases ((gD D k).cs.getD j []).all (zdl D) with _ | _
    ·exact zad rfl rfl
    ·exact zab rfl (by rw [wrk (by omega)]; exact ih (j + 1) (by omega))
   ·refine zad (decide_eq_true (by omega)) ?_
    have e:zie D ((gD D k).cs.getD j []) = false:=by unfold zie; rw [decide_eq_false h3]; rfl
    rw [e]
    rfl
 have key2:∀ m j:Nat,j + m = k → zb2 (zak D) (k:Int) (gD D k).f (gD D k).t (zcF (gD D k).cs) (j:Int) = rB (!((D.take k).drop j).any (zq1 (gD D k).f (gD D k).t) && (zdl D (gD D k).f && zdl D (gD D k).t)):=by
  intro m
  induction m with
  | zero =>
   intro j hj
   refine zfN (zab (decide_eq_false (by omega)) (zaH (zpV D _) ?_))
   rw [List.drop_eq_nil_of_le (by rw [List.length_take]; omega)]
   rcases zdl D (gD D k).f with _ | _
   ·exact zab rfl rfl
   ·refine zad rfl (zaH (zpV D _) ?_)
    simp
    rfl
  | succ m ih =>
   intro j hj
   have hlt:j < D.length:=by omega
   have hlt':j < (D.take k).length:=by rw [List.length_take]; omega
   have w1:zai ((j:Int) + 1) = ((j + 1:Nat):Int):=wrk (by unfold za8; omega)
   have nx:=ih (j + 1) (by omega)
   rw [zvm hlt',show (D.take k)[j] = gD D j by rw [List.getElem_take,zi2 hlt]]
   refine zfN (zad (decide_eq_true (by omega)) (zbE rfl hlt ?_))
   rw [zaW,w1]
   by_cases h1:(gD D j).cs.length = 0
   ·refine zad (by simp [h1]) (zbE rfl hlt ?_)
    by_cases h2:(gD D j).f = (gD D k).f
    ·refine zad (by simp [h2]) (zbE rfl hlt ?_)
     by_cases h3:(gD D j).t = (gD D k).t
     ·refine zad (by simp [h3]) ?_
      rw [hit_cases.2 ⟨h1,h2,h3⟩]
      rfl
     ·refine zab (by simp [h3]) ?_
      rw [Bool.eq_false_iff.2 (fun h => h3 (hit_cases.1 h).2.2)]
      exact nx
    ·refine zab (by simp [h2]) ?_
     rw [Bool.eq_false_iff.2 (fun h => h2 (hit_cases.1 h).2.1)]
     exact nx
   ·refine zab (nz h1) ?_
    rw [Bool.eq_false_iff.2 (fun h => h1 (hit_cases.1 h).1)]
    exact nx
 refine zkG (zbE rfl hk ?_)
 rw [zaW]
 unfold ziU
 by_cases h0:0 < (gD D k).cs.length
 ·refine zad (decide_eq_true (by omega)) ?_
  rw [if_pos h0]
  by_cases h3:(gD D k).cs.length ≤ 3
  ·refine zab (decide_eq_false (by omega)) ?_
   by_cases h1:(gD D k).f = 0
   ·refine zab (by simp [h1]) ?_
    by_cases h2:(gD D k).t = 0
    ·refine zab (by simp [h2]) ?_
     have:=key1 (gD D k).cs.length 0 (by omega)
     simpa [h1,h2,h3] using this
    ·exact zad (by simp [h2]) (by simp [h2])
   ·exact zad (by simp [h1]) (by simp [h1])
  ·exact zad (decide_eq_true (by omega)) (by simp [h3])
 ·refine zab (decide_eq_false (by omega)) ?_
  rw [if_neg h0]
  have:=key2 k 0 (by omega)
  rw [List.drop_zero] at this
  refine Eq.trans this ?_
  rcases (List.take k D).any (zq1 (gD D k).f (gD D k).t) with _ | _ <;> rcases zdl D (gD D k).f with _ | _ <;> rcases zdl D (gD D k).t with _ | _ <;> rfl
theorem ziD {n k:Nat} (h:k < n) (p:Nat → Bool):((List.range n).drop k).all p = (p k && ((List.range n).drop (k + 1)).all p):=by
 rw [zgR (by simpa using h)]
 simp
theorem zpT (D:List DM) (hD:∀ d ∈ D,DOk d) (hlen:D.length ≤ za8):zfX [.cell (.sl 3 (zak D))] = rB (zej D):=by
 refine zkl ?_
 rw [za4]
 by_cases h4:D.length ≤ 4
 ·refine zab (decide_eq_false (by omega)) ?_
  have key:∀ m k:Nat,k + m = D.length → zde (zak D) ((D.length:Nat):Int) (k:Int) = rB (((List.range D.length).drop k).all (ziU D)):=by
   intro m
   induction m with
   | zero => intro k hk; exact zfe (zab (decide_eq_false (by omega)) (by rw [List.drop_eq_nil_of_le (by simp; omega)]; rfl))
   | succ m ih =>
    intro k hk
    rw [ziD (by omega)]
    refine zfe (zad (decide_eq_true (by omega)) (zaH (zrl D hD (by omega) k (by omega)) ?_))
    rcases ziU D k with _ | _
    ·exact zad rfl rfl
    ·exact zab rfl (by rw [wrk (by unfold za8; omega)]; exact ih (k + 1) (by omega))
  have:=key D.length 0 (by omega)
  simpa [zej,h4] using this
 ·exact zad (decide_eq_true (by omega)) (by simp [zej,h4])
theorem zpR (D:List DM) (hD:∀ d ∈ D,DOk d) (hlen:D.length ≤ za8):zf3 [.cell (.sl 3 (zak D))] = rB (zej D):=by
 refine zj6 ?_
 rw [za4]
 by_cases h4:D.length ≤ 4
 ·refine zab (decide_eq_false (by omega)) ?_
  have key:∀ m k:Nat,k + m = D.length → zdc (zak D) (k:Int) = rB (((List.range D.length).drop k).all (ziU D)):=by
   intro m
   induction m with
   | zero => intro k hk; exact zff (zab (decide_eq_false (by rw [za4]; omega)) (by rw [List.drop_eq_nil_of_le (by simp; omega)]; rfl))
   | succ m ih =>
    intro k hk
    rw [ziD (by omega)]
    refine zff (zad (decide_eq_true (by rw [za4]; omega)) (zaH (zrw D hD (by omega) k (by omega)) ?_))
    rcases ziU D k with _ | _
    ·exact zad rfl rfl
    ·exact zab rfl (by rw [wrk (by unfold za8; omega)]; exact ih (k + 1) (by omega))
  have:=key D.length 0 (by omega)
  simpa [zej,h4] using this
 ·exact zad (decide_eq_true (by omega)) (by simp [zej,h4])
end Go.Proofs.Ytbodfaghedolbaa
namespace Go.Proofs.Ytbodfaghedolbaa
open Go
end Go.Proofs.Ytbodfaghedolbaa
