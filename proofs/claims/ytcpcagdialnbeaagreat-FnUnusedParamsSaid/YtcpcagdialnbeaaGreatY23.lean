/- Generic texts and models for the proofs of this seat: part 23. -/
import Derived.Test.YtcpcagdialnbeaaGreatY22
import Derived.Test.YtcpcagdialnbeaaGreatRows
set_option linter.unusedVariables false
set_option linter.unusedSimpArgs false
namespace Go.Proofs.YtcpcagdialnbeaaGreat
def zp7:Char:=Char.ofNat 32
def zr2:List Char:=[Char.ofNat 104,Char.ofNat 97,Char.ofNat 114,Char.ofNat 110,Char.ofNat 101,Char.ofNat 115,Char.ofNat 115]
def zuZ:List Char:=[Char.ofNat 50,Char.ofNat 53,Char.ofNat 53,Char.ofNat 56,Char.ofNat 57,Char.ofNat 48,Char.ofNat 51,Char.ofNat 98,Char.ofNat 50,Char.ofNat 54,Char.ofNat 100,Char.ofNat 56,Char.ofNat 99,Char.ofNat 49,Char.ofNat 100,Char.ofNat 99,Char.ofNat 56,Char.ofNat 48,Char.ofNat 57,Char.ofNat 101,Char.ofNat 100,Char.ofNat 56,Char.ofNat 100,Char.ofNat 55,Char.ofNat 54,Char.ofNat 100,Char.ofNat 97,Char.ofNat 98,Char.ofNat 57,Char.ofNat 54,Char.ofNat 55,Char.ofNat 97,Char.ofNat 51,Char.ofNat 54,Char.ofNat 99,Char.ofNat 99,Char.ofNat 55,Char.ofNat 98,Char.ofNat 48,Char.ofNat 55,Char.ofNat 50,Char.ofNat 101,Char.ofNat 53,Char.ofNat 48,Char.ofNat 53,Char.ofNat 54,Char.ofNat 99,Char.ofNat 97,Char.ofNat 102,Char.ofNat 101,Char.ofNat 56,Char.ofNat 55,Char.ofNat 98,Char.ofNat 99,Char.ofNat 56,Char.ofNat 56,Char.ofNat 48,Char.ofNat 100,Char.ofNat 51,Char.ofNat 48,Char.ofNat 48,Char.ofNat 54,Char.ofNat 56,Char.ofNat 100]
def zg5:List Char:=[Char.ofNat 99,Char.ofNat 117,Char.ofNat 116]
def zmF:List Char:=[Char.ofNat 97,Char.ofNat 116,Char.ofNat 32,Char.ofNat 108,Char.ofNat 111,Char.ofNat 111,Char.ofNat 112,Char.ofNat 46,Char.ofNat 101,Char.ofNat 120,Char.ofNat 97,Char.ofNat 109,Char.ofNat 112,Char.ofNat 108,Char.ofNat 101,Char.ofNat 47,Char.ofNat 114,Char.ofNat 101,Char.ofNat 102,Char.ofNat 99,Char.ofNat 111,Char.ofNat 117,Char.ofNat 110,Char.ofNat 116,Char.ofNat 109,Char.ofNat 108,Char.ofNat 47,Char.ofNat 108,Char.ofNat 97,Char.ofNat 119,Char.ofNat 115,Char.ofNat 46,Char.ofNat 70,Char.ofNat 110,Char.ofNat 67,Char.ofNat 97,Char.ofNat 108,Char.ofNat 108,Char.ofNat 101,Char.ofNat 101,Char.ofNat 115,Char.ofNat 79,Char.ofNat 102,Char.ofNat 32,Char.ofNat 108,Char.ofNat 111,Char.ofNat 111,Char.ofNat 112,Char.ofNat 46,Char.ofNat 101,Char.ofNat 120,Char.ofNat 97,Char.ofNat 109,Char.ofNat 112,Char.ofNat 108,Char.ofNat 101,Char.ofNat 47,Char.ofNat 114,Char.ofNat 101,Char.ofNat 102,Char.ofNat 99,Char.ofNat 111,Char.ofNat 117,Char.ofNat 110,Char.ofNat 116,Char.ofNat 109,Char.ofNat 108,Char.ofNat 47,Char.ofNat 108,Char.ofNat 97,Char.ofNat 119,Char.ofNat 115,Char.ofNat 46,Char.ofNat 70,Char.ofNat 110,Char.ofNat 82,Char.ofNat 101,Char.ofNat 97,Char.ofNat 99,Char.ofNat 104,Char.ofNat 101,Char.ofNat 100,Char.ofNat 70,Char.ofNat 114,Char.ofNat 111,Char.ofNat 109,Char.ofNat 32,Char.ofNat 108,Char.ofNat 111,Char.ofNat 111,Char.ofNat 112,Char.ofNat 46,Char.ofNat 101,Char.ofNat 120,Char.ofNat 97,Char.ofNat 109,Char.ofNat 112,Char.ofNat 108,Char.ofNat 101,Char.ofNat 47,Char.ofNat 114,Char.ofNat 101,Char.ofNat 102,Char.ofNat 99,Char.ofNat 111,Char.ofNat 117,Char.ofNat 110,Char.ofNat 116,Char.ofNat 109,Char.ofNat 108,Char.ofNat 47,Char.ofNat 108,Char.ofNat 97,Char.ofNat 119,Char.ofNat 115,Char.ofNat 46,Char.ofNat 70,Char.ofNat 110,Char.ofNat 82,Char.ofNat 101,Char.ofNat 97,Char.ofNat 99,Char.ofNat 104,Char.ofNat 101,Char.ofNat 100,Char.ofNat 70,Char.ofNat 114,Char.ofNat 111,Char.ofNat 109,Char.ofNat 65,Char.ofNat 108,Char.ofNat 108,Char.ofNat 32,Char.ofNat 108,Char.ofNat 111,Char.ofNat 111,Char.ofNat 112,Char.ofNat 46,Char.ofNat 101,Char.ofNat 120,Char.ofNat 97,Char.ofNat 109,Char.ofNat 112,Char.ofNat 108,Char.ofNat 101,Char.ofNat 47,Char.ofNat 114,Char.ofNat 101,Char.ofNat 102,Char.ofNat 99,Char.ofNat 111,Char.ofNat 117,Char.ofNat 110,Char.ofNat 116,Char.ofNat 109,Char.ofNat 108,Char.ofNat 47,Char.ofNat 108,Char.ofNat 97,Char.ofNat 119,Char.ofNat 115,Char.ofNat 46,Char.ofNat 70,Char.ofNat 110,Char.ofNat 85,Char.ofNat 110,Char.ofNat 117,Char.ofNat 115,Char.ofNat 101,Char.ofNat 100,Char.ofNat 80,Char.ofNat 97,Char.ofNat 114,Char.ofNat 97,Char.ofNat 109,Char.ofNat 115,Char.ofNat 32,Char.ofNat 108,Char.ofNat 111,Char.ofNat 111,Char.ofNat 112,Char.ofNat 46,Char.ofNat 101,Char.ofNat 120,Char.ofNat 97,Char.ofNat 109,Char.ofNat 112,Char.ofNat 108,Char.ofNat 101,Char.ofNat 47,Char.ofNat 114,Char.ofNat 101,Char.ofNat 102,Char.ofNat 99,Char.ofNat 111,Char.ofNat 117,Char.ofNat 110,Char.ofNat 116,Char.ofNat 109,Char.ofNat 108,Char.ofNat 47,Char.ofNat 108,Char.ofNat 97,Char.ofNat 119,Char.ofNat 115,Char.ofNat 46,Char.ofNat 70,Char.ofNat 110,Char.ofNat 77,Char.ofNat 97,Char.ofNat 121,Char.ofNat 73,Char.ofNat 110,Char.ofNat 108,Char.ofNat 105,Char.ofNat 110,Char.ofNat 101,Char.ofNat 32,Char.ofNat 108,Char.ofNat 111,Char.ofNat 111,Char.ofNat 112,Char.ofNat 46,Char.ofNat 101,Char.ofNat 120,Char.ofNat 97,Char.ofNat 109,Char.ofNat 112,Char.ofNat 108,Char.ofNat 101,Char.ofNat 47,Char.ofNat 114,Char.ofNat 101,Char.ofNat 102,Char.ofNat 99,Char.ofNat 111,Char.ofNat 117,Char.ofNat 110,Char.ofNat 116,Char.ofNat 109,Char.ofNat 108,Char.ofNat 47,Char.ofNat 108,Char.ofNat 97,Char.ofNat 119,Char.ofNat 115,Char.ofNat 46,Char.ofNat 70,Char.ofNat 110,Char.ofNat 67,Char.ofNat 97,Char.ofNat 108,Char.ofNat 108,Char.ofNat 83,Char.ofNat 105,Char.ofNat 116,Char.ofNat 101,Char.ofNat 115,Char.ofNat 32,Char.ofNat 108,Char.ofNat 111,Char.ofNat 111,Char.ofNat 112,Char.ofNat 46,Char.ofNat 101,Char.ofNat 120,Char.ofNat 97,Char.ofNat 109,Char.ofNat 112,Char.ofNat 108,Char.ofNat 101,Char.ofNat 47,Char.ofNat 114,Char.ofNat 101,Char.ofNat 102,Char.ofNat 99,Char.ofNat 111,Char.ofNat 117,Char.ofNat 110,Char.ofNat 116,Char.ofNat 109,Char.ofNat 108,Char.ofNat 47,Char.ofNat 108,Char.ofNat 97,Char.ofNat 119,Char.ofNat 115,Char.ofNat 46,Char.ofNat 70,Char.ofNat 110,Char.ofNat 86,Char.ofNat 97,Char.ofNat 108,Char.ofNat 105,Char.ofNat 100,Char.ofNat 80,Char.ofNat 114,Char.ofNat 111,Char.ofNat 103,Char.ofNat 114,Char.ofNat 97,Char.ofNat 109,Char.ofNat 76,Char.ofNat 101,Char.ofNat 116]
theorem zv4:Tryz.prog.initOrder = String.ofList (zr2 ++ zp7 :: (zuZ ++ zp7 :: (zg5 ++ zp7 :: zmF))):=by kernel_rfl
theorem zqr:∀ (a b:List Char),(∀ c ∈ a,(c == zp7) = false) → wordsSigns (a ++ zp7 :: b) = a :: wordsSigns b:=by
 intro a
 induction a with
 | nil => intro b _; rfl
 | cons c a ih =>
  intro b h
  have hc:c ≠ zp7:=by have:=h c (by simp); simpa using this
  have hr:=ih b fun x hx => h x (by simp [hx])
  rw [List.cons_append]
  conv => lhs; unfold wordsSigns
  split
  ·rename_i e; cases e
  ·rename_i e; injection e with e1 _; exact absurd e1 hc
  ·rename_i c' r' _ e
   injection e with e1 e2
   subst e1 e2
   rw [hr]
theorem zxJ:wordsSigns Tryz.prog.initOrder.toList = zr2 :: zuZ :: zg5 :: wordsSigns zmF:=by
 rw [zv4,String.toList_ofList,zqr _ _ (by decide),zqr _ _ (by decide),zqr _ _ (by decide)]
theorem zy6 {h s:List Char} {r:List (List Char)} (hc:((h == "harness".toList || h == "ownmain".toList) && isSumSigns s) = true):behindMainWord (h :: s :: r) = r:=by
 unfold behindMainWord
 simp only [hc,if_true]
theorem zCd {P:Program} {c:List Char} {rest:List (List Char)} (hb:behindMainWord (wordsSigns P.initOrder.toList) = c :: rest) (hs:stripLifts liftWords (c :: rest) = ([],c :: rest))
  (h1:(c == "gc".toList) = false) (h2:(c == "spec".toList) = false) (h3:(c == "carried".toList) = false) (h4:((some c:Option (List Char)) == some "cut".toList) = true) (h5:P.laysLater = false) (h6:P.bearsReflect = false) (h7:P.doorFits [] = true):P.mayEnter = true:=by
 unfold Program.mayEnter
 rw [hb]
 simp only [hs,List.head?_cons,h1,h2,h3,h4,h5,h6,h7,Bool.or_false,Bool.false_and,Bool.not_false,Bool.or_true,Bool.and_true,List.contains_nil]
theorem zCt {P:Program} {c:List Char} {rest:List (List Char)} (hb:behindMainWord (wordsSigns P.initOrder.toList) = c :: rest)
  (h1:(c == "gc".toList) = false) (h2:(c == "spec".toList) = false) (h3:(c == "cut".toList) = true):P.make = some Make.cut:=by
 unfold Program.make
 rw [hb]
 simp only [h1,h2,h3,Bool.true_or,Bool.or_false,Bool.false_eq_true,if_false,if_true]
theorem zkF:behindMainWord (wordsSigns Tryz.prog.initOrder.toList) = zg5 :: wordsSigns zmF:=by
 have hc:((zr2 == "harness".toList || zr2 == "ownmain".toList) && isSumSigns zuZ) = true:=by as_aux_lemma => kernel_rfl
 rw [zxJ]
 exact zy6 hc
theorem zc6 {o:String} {os:List String} {w:List Char} {ws:List (List Char)} (h:(w == o.toList) = false):stripLifts (o :: os) (w :: ws) = stripLifts os (w :: ws):=by
 unfold stripLifts
 rw [h]
 rw [if_neg Bool.false_ne_true]
 cases os <;> rfl
theorem zt3 (R:List (List Char)):stripLifts liftWords (zg5 :: R) = ([],zg5 :: R):=by
 unfold liftWords
 rw [zc6 (o:="finals") (by as_aux_lemma => kernel_rfl)]
 rw [zc6 (o:="reflectrows") (by as_aux_lemma => kernel_rfl)]
 rw [zc6 (o:="leanrows") (by as_aux_lemma => kernel_rfl)]
 rw [zc6 (o:="onebuild") (by as_aux_lemma => kernel_rfl)]
 rw [zc6 (o:="publicsums") (by as_aux_lemma => kernel_rfl)]
 rw [zc6 (o:="eqguard") (by as_aux_lemma => kernel_rfl)]
 rw [zc6 (o:="ownunsafe") (by as_aux_lemma => kernel_rfl)]
 rw [zc6 (o:="libbeside") (by as_aux_lemma => kernel_rfl)]
 rw [zc6 (o:="ownbeside") (by as_aux_lemma => kernel_rfl)]
 rw [zc6 (o:="reflbeside") (by as_aux_lemma => kernel_rfl)]
 rw [zc6 (o:="aliases") (by as_aux_lemma => kernel_rfl)]
 rw [zc6 (o:="afterinit") (by as_aux_lemma => kernel_rfl)]
 rw [zc6 (o:="crcplain") (by as_aux_lemma => kernel_rfl)]
 rw [zc6 (o:="roadunsafe") (by as_aux_lemma => kernel_rfl)]
 rw [zc6 (o:="fmthandon") (by as_aux_lemma => kernel_rfl)]
 rfl
theorem zE3:(zg5 == "cut".toList) = true:=by kernel_rfl
theorem zA0:(zg5 == "gc".toList) = false:=by kernel_rfl
theorem zwg:(zg5 == "spec".toList) = false:=by kernel_rfl
theorem zw6:(zg5 == "carried".toList) = false:=by kernel_rfl
theorem zws:((some zg5:Option (List Char)) == some "cut".toList) = true:=by kernel_rfl
theorem zvh:((some zg5:Option (List Char)) == some "carried".toList) = false:=by kernel_rfl
theorem zzt:Tryz.prog.laysLater = false:=by kernel_rfl
theorem zva:Tryz.prog.bearsReflect = false:=by kernel_rfl
theorem zzf:Tryz.prog.doorFits [] = true:=by kernel_rfl
theorem zhv:Tryz.prog.mayEnter = true:=zCd zkF (zt3 _) zA0 zwg zw6 zws zzt zva zzf
theorem zxv:Tryz.prog.headLifts = []:=by
 unfold Program.headLifts
 rw [zkF,zt3]
 generalize wordsSigns zmF = R
 simp only [List.head?_cons,zws,if_true]
theorem zgl:((false:Bool) == Tryz.prog.liftsFinal) = true:=by
 unfold Program.liftsFinal
 rw [zkF,zxv]
 generalize wordsSigns zmF = R
 simp only [List.head?_cons,zvh,Bool.false_and,Bool.false_or,List.contains_nil]
 rfl
theorem zju:(Tryz.prog.make == some Make.cut) = true:=by
 rw [zCt zkF zA0 zwg zE3]
 rfl
end Go.Proofs.YtcpcagdialnbeaaGreat
namespace Go.Proofs.YtcpcagdialnbeaaGreat
open Go
def acS:AC → Nat
 | .int _ => 0
 | .bool _ => 0
 | .sl _ rows => rows.length + rsS rows
where
 rsS:List (List AC) → Nat
  | [] => 0
  | r :: rs => cS r + rsS rs
 cS:List AC → Nat
  | [] => 0
  | c :: cs => acS c + cS cs
abbrev cS:=acS.cS
abbrev rsS:=acS.rsS
theorem zF6:cS [] = 0:=by simp [cS,acS.cS]
theorem zAQ (n:Int) (cs:List AC):cS (.int n :: cs) = cS cs:=by simp [cS,acS.cS,acS]
theorem zGo (k:Nat) (r:List (List AC)) (cs:List AC):cS (.sl k r :: cs) = r.length + rsS r + cS cs:=by simp [cS,acS.cS,acS,rsS]
theorem zaV:rsS [] = 0:=by simp [rsS,acS.rsS]
theorem zbo (r:List AC) (rs:List (List AC)):rsS (r :: rs) = cS r + rsS rs:=by simp [rsS,acS.rsS,cS]
theorem zAB {rs:List (List AC)} {k:Nat} (h:k < rs.length):rsS (rs.drop k) = cS (rs.getD k []) + rsS (rs.drop (k + 1)):=by
 rw [List.drop_eq_getElem_cons h,zbo]
 simp [List.getD,h]
theorem zrZ {rs:List (List AC)} {r:List AC} (h:r ∈ rs):cS r ≤ rsS rs:=by
 induction rs with
 | nil => cases h
 | cons x rs ih =>
  rw [zbo]
  rcases List.mem_cons.1 h with rfl | h
  ·omega
  ·have:=ih h; omega
def zad (xs:List Int):List (List AC):=xs.map fun n => [.int n]
theorem zab (xs:List Int):(zad xs).length = xs.length:=by simp [zad]
theorem zyO {xs:List Int} {k:Nat} (h:k < xs.length):(zad xs).getD k [] = [.int xs[k]]:=by simp [zad,List.getD,h]
theorem zjc (xs ys:List Int):zad xs ++ zad ys = zad (xs ++ ys):=by simp [zad]
theorem zs8 (xs:List Int) (n:Nat):(zad xs).take n = zad (xs.take n):=by simp [zad]
def inI (n:Int):Prop:=-9223372036854775808 ≤ n ∧ n ≤ 9223372036854775807
def zaE:Nat:=9223372036854775807
structure zdS (xs:List Int):Prop where
 len:xs.length ≤ zaE
 all:∀ x ∈ xs,inI x
theorem wr {n:Int} (h1:-9223372036854775808 ≤ n) (h2:n ≤ 9223372036854775807):zae n = n:=zEK h1 h2
theorem wrk {k:Nat} (h:k < zaE):zae ((k:Int) + 1) = ((k + 1:Nat):Int):=by
 unfold zaE at h
 rw [wr (by omega) (by omega)]
 omega
section
variable {ρ:Type} {r:ρ}
theorem zw1 {rows:List (List AC)} {k:Nat} (h:k < rows.length) {sh:List AC} {K:Fn (Option ρ) sh} (h2:zll sh (rows.getD k []) K = some r):zdZ rows (k:Int) sh K = some r:=by
 unfold zdZ zv7
 rw [decide_eq_true (by omega),decide_eq_true (by omega)]
 exact h2
theorem zay {x:Option AV} {n:Int} (h:x = some (.v (.cell (.int n)))) {K:Fn (Option ρ) (za6 [(false,[.int 0])])} (h2:(K:Int → Option ρ) n = some r):zao x false [(false,[.int 0])] K = some r:=by rw [h]; exact h2
theorem zai {x:Option AV} {n:Bool} (h:x = some (.v (.cell (.bool n)))) {K:Fn (Option ρ) (za6 [(false,[.bool false])])} (h2:(K:Bool → Option ρ) n = some r):zao x false [(false,[.bool false])] K = some r:=by rw [h]; exact h2
theorem zan {x:Option AV} {k:Nat} {l:List (List AC)} (h:x = some (.v (.cell (.sl k l)))) {K:Fn (Option ρ) (za6 [(false,[.sl k []])])} (h2:(K:List (List AC) → Option ρ) l = some r):zao x false [(false,[.sl k []])] K = some r:=by
 rw [h]
 show (bif Nat.beq k k then _ else none) = _
 rw [Nat.beq_refl]
 exact h2
theorem zb5 {l l':List (List AC)} (h:l.length + l'.length ≤ 68719476736) {K:List (List AC) → Option ρ} (h2:K (l ++ l') = some r):zdN l l' K = some r:=by
 unfold zdN zkM
 rw [decide_eq_true (by rw [List.length_append]; exact h)]
 exact h2
theorem zyc {l:List (List AC)} {lo hi:Int} (h0:0 ≤ lo) (h1:lo ≤ hi) (h2:hi ≤ l.length) {K:List (List AC) → Option ρ} (h3:K ((l.drop lo.toNat).take (hi.toNat - lo.toNat)) = some r):zwU l lo hi K = some r:=by
 unfold zwU
 rw [decide_eq_true ⟨h0,h1,h2⟩]
 exact h3
theorem zac {b:Bool} {x y:Option ρ} (h:b = true) (h2:x = some r):(bif b then x else y) = some r:=by rw [h]; exact h2
theorem zaa {b:Bool} {x y:Option ρ} (h:b = false) (h2:y = some r):(bif b then x else y) = some r:=by rw [h]; exact h2
theorem zGl {rows:List (List AC)} {k:Nat} (h:k < rows.length) {a0:Int} (e:rows.getD k [] = [.int a0]) {K:Fn (Option ρ) [.int 0]} (h2:(K:Int → Option ρ) a0 = some r):zdZ rows (k:Int) [.int 0] K = some r:=zw1 h (by rw [e]; exact h2)
theorem zGL {rows:List (List AC)} {k:Nat} (h:k < rows.length) {a0:List (List AC)} (e:rows.getD k [] = [.sl 1 a0]) {K:Fn (Option ρ) [.sl 1 []]} (h2:(K:List (List AC) → Option ρ) a0 = some r):zdZ rows (k:Int) [.sl 1 []] K = some r:=zw1 h (by rw [e]; exact h2)
theorem zaX {x:Option AV} {a0:List (List AC)} (h:x = some (.v (.agg [.sl 1 a0]))) {K:Fn (Option ρ) (za6 [(true,[.sl 1 []])])} (h2:(K:List (List AC) → Option ρ) a0 = some r):zao x false [(true,[.sl 1 []])] K = some r:=by rw [h]; exact h2
theorem zsa {rows:List (List AC)} {k:Nat} (h:k < rows.length) {a0:Int} {a1:Int} {a2:List (List AC)} (e:rows.getD k [] = [.int a0,.int a1,.sl 1 a2]) {K:Fn (Option ρ) [.int 0,.int 0,.sl 1 []]} (h2:(K:Int → Int → List (List AC) → Option ρ) a0 a1 a2 = some r):zdZ rows (k:Int) [.int 0,.int 0,.sl 1 []] K = some r:=zw1 h (by rw [e]; exact h2)
theorem zcj {rows:List (List AC)} {k:Nat} (h:k < rows.length) {a0:Int} {a1:Int} {a2:List (List AC)} (e:rows.getD k [] = [.int a0,.int a1,.sl 3 a2]) {K:Fn (Option ρ) [.int 0,.int 0,.sl 3 []]} (h2:(K:Int → Int → List (List AC) → Option ρ) a0 a1 a2 = some r):zdZ rows (k:Int) [.int 0,.int 0,.sl 3 []] K = some r:=zw1 h (by rw [e]; exact h2)
theorem zhh {rows:List (List AC)} (h:0 < rows.length) {a0:Int} {a1:Int} {a2:List (List AC)} (e:rows.getD 0 [] = [.int a0,.int a1,.sl 3 a2]) {K:Fn (Option ρ) [.int 0,.int 0,.sl 3 []]} (h2:(K:Int → Int → List (List AC) → Option ρ) a0 a1 a2 = some r):zdZ rows 0 [.int 0,.int 0,.sl 3 []] K = some r:=zcj h e h2
theorem zag {x:Option AV} {a0:Int} {a1:Int} {a2:List (List AC)} (h:x = some (.v (.agg [.int a0,.int a1,.sl 3 a2]))) {K:Fn (Option ρ) (za6 [(true,[.int 0,.int 0,.sl 3 []])])} (h2:(K:Int → Int → List (List AC) → Option ρ) a0 a1 a2 = some r):zao x false [(true,[.int 0,.int 0,.sl 3 []])] K = some r:=by rw [h]; exact h2
theorem zvK {rows:List (List AC)} {k:Nat} (h:k < rows.length) {a0:List (List AC)} {a1:Int} {a2:Int} {a3:Int} {a4:List (List AC)} (e:rows.getD k [] = [.sl 1 a0,.int a1,.int a2,.int a3,.sl 3 a4]) {K:Fn (Option ρ) [.sl 1 [],.int 0,.int 0,.int 0,.sl 3 []]} (h2:(K:List (List AC) → Int → Int → Int → List (List AC) → Option ρ) a0 a1 a2 a3 a4 = some r):zdZ rows (k:Int) [.sl 1 [],.int 0,.int 0,.int 0,.sl 3 []] K = some r:=zw1 h (by rw [e]; exact h2)
theorem callFunc {x:Option AV} {a0:List (List AC)} {a1:Int} {a2:Int} {a3:Int} {a4:List (List AC)} (h:x = some (.v (.agg [.sl 1 a0,.int a1,.int a2,.int a3,.sl 3 a4]))) {K:Fn (Option ρ) (za6 [(true,[.sl 1 [],.int 0,.int 0,.int 0,.sl 3 []])])} (h2:(K:List (List AC) → Int → Int → Int → List (List AC) → Option ρ) a0 a1 a2 a3 a4 = some r):zao x false [(true,[.sl 1 [],.int 0,.int 0,.int 0,.sl 3 []])] K = some r:=by rw [h]; exact h2
theorem zaR {xs:List Int} {k:Nat} (h:k < xs.length) {K:Fn (Option ρ) [.int 0]} (h2:(K:Int → Option ρ) xs[k] = some r):zdZ (zad xs) (k:Int) [.int 0] K = some r:=zGl (by rw [zab]; exact h) (zyO h) h2
end
inductive Ty where
 | con
 | decl
 | expr
 | func
 | prog
 | step
 | block
 | routine
 | normal
 | cell
 | instr
 | proc
 | image
 | frame
 | state
inductive Fit:Ty → List AC → Prop
 | con (fs:List Int) (h:zdS fs):Fit .con [.sl 1 (zad fs)]
 | decl (f t:Int) (cons:List (List AC)) (hf:inI f) (ht:inI t) (hl:cons.length ≤ zaE) (h:∀ c ∈ cons,Fit .con c):Fit .decl [.int f,.int t,.sl 1 cons]
 | expr (o n:Int) (kids:List (List AC)) (ho:inI o) (hn:inI n) (hl:kids.length ≤ zaE) (h:∀ c ∈ kids,Fit .expr c):Fit .expr [.int o,.int n,.sl 3 kids]
 | func (ps:List Int) (r o n:Int) (kids:List (List AC)) (hp:zdS ps) (hr:inI r) (h:Fit .expr [.int o,.int n,.sl 3 kids]):Fit .func [.sl 1 (zad ps),.int r,.int o,.int n,.sl 3 kids]
 | prog (ds fs:List (List AC)) (hd:ds.length ≤ zaE) (hf:fs.length ≤ zaE) (h1:∀ d ∈ ds,Fit .decl d) (h2:∀ f ∈ fs,Fit .func f):Fit .prog [.sl 3 ds,.sl 5 fs]
 | step (o n i:Int) (args:List Int) (kids:List (List AC)) (ho:inI o) (hn:inI n) (hi:inI i) (ha:zdS args) (hl:kids.length ≤ zaE) (h:∀ b ∈ kids,Fit .block b):Fit .step [.int o,.int n,.int i,.sl 1 (zad args),.sl 2 kids]
 | block (steps:List (List AC)) (r:Int) (hr:inI r) (hl:steps.length ≤ zaE) (h:∀ s ∈ steps,Fit .step s):Fit .block [.sl 5 steps,.int r]
 | routine (ps lent:List Int) (r:Int) (steps:List (List AC)) (x:Int) (hp:zdS ps) (hl:zdS lent) (hr:inI r) (h:Fit .block [.sl 5 steps,.int x]):Fit .routine [.sl 1 (zad ps),.sl 1 (zad lent),.int r,.sl 5 steps,.int x]
 | normal (ds rs:List (List AC)) (hd:ds.length ≤ zaE) (hr:rs.length ≤ zaE) (h1:∀ d ∈ ds,Fit .decl d) (h2:∀ r ∈ rs,Fit .routine r):Fit .normal [.sl 3 ds,.sl 5 rs]
 | cell (c t:Int) (fs:List Int) (hc:inI c) (ht:inI t) (h:zdS fs):Fit .cell [.int c,.int t,.sl 1 (zad fs)]
 | instr (o d n i:Int) (args jumps:List Int) (ho:inI o) (hd:inI d) (hn:inI n) (hi:inI i) (ha:zdS args) (hj:zdS jumps):Fit .instr [.int o,.int d,.int n,.int i,.sl 1 (zad args),.sl 1 (zad jumps)]
 | proc (ps lent:List Int) (r regs:Int) (code:List (List AC)) (hp:zdS ps) (hl:zdS lent) (hr:inI r) (hg:inI regs) (hc:code.length ≤ zaE) (h:∀ x ∈ code,Fit .instr x):Fit .proc [.sl 1 (zad ps),.sl 1 (zad lent),.int r,.int regs,.sl 6 code]
 | image (ds procs:List (List AC)) (hd:ds.length ≤ zaE) (hp:procs.length ≤ zaE) (h1:∀ d ∈ ds,Fit .decl d) (h2:∀ p ∈ procs,Fit .proc p):Fit .image [.sl 3 ds,.sl 5 procs]
 | frame (p a d:Int) (regs own held:List Int) (hp:inI p) (ha:inI a) (hd:inI d) (h1:zdS regs) (h2:zdS own) (h3:zdS held):Fit .frame [.int p,.int a,.int d,.sl 1 (zad regs),.sl 1 (zad own),.sl 1 (zad held)]
 | state (s v c m:Int) (out:List Int) (heap frames:List (List AC)) (hs:inI s) (hv:inI v) (hc:inI c) (hm:inI m) (ho:zdS out) (hh:heap.length ≤ zaE) (hf:frames.length ≤ zaE) (h1:∀ x ∈ heap,Fit .cell x) (h2:∀ x ∈ frames,Fit .frame x):Fit .state [.int s,.int v,.int c,.int m,.sl 1 (zad out),.sl 3 heap,.sl 6 frames]
theorem zfH {α:Type} {l:List α} {k:Nat} (h:k < l.length) (d:α):l.getD k d ∈ l:=by simp [List.getD,List.getElem?_eq_getElem h]
end Go.Proofs.YtcpcagdialnbeaaGreat
namespace Go.Proofs.YtcpcagdialnbeaaGreat
end Go.Proofs.YtcpcagdialnbeaaGreat
namespace Go.Proofs.YtcpcagdialnbeaaGreat
open Go
abbrev rB (b:Bool):Option AV:=some (.v (.cell (.bool b)))
abbrev rI (n:Int):Option AV:=some (.v (.cell (.int n)))
abbrev rL (xs:List Int):Option AV:=some (.v (.cell (.sl 1 (zad xs))))
structure DM where
 f:Int
 t:Int
 cs:List (List Int)
 deriving Inhabited
def zFH (c:List Int):List AC:=[.sl 1 (zad c)]
def zdq (cs:List (List Int)):List (List AC):=cs.map zFH
def zmq (d:DM):List AC:=[.int d.f,.int d.t,.sl 1 (zdq d.cs)]
def zaf (D:List DM):List (List AC):=D.map zmq
structure DOk (d:DM):Prop where
 f:inI d.f
 t:inI d.t
 len:d.cs.length ≤ zaE
 cs:∀ c ∈ d.cs,zdS c
theorem zw7:∀ {cs:List (List AC)},(∀ c ∈ cs,Fit .con c) → ∃ C,cs = zdq C ∧ ∀ c ∈ C,zdS c
 | [],_ => ⟨[],rfl,fun c h => by cases h⟩
 | c :: cs,h => by
  obtain ⟨C,rfl,hC⟩:=zw7 fun x hx => h x (List.mem_cons_of_mem _ hx)
  have h0:=h c List.mem_cons_self
  generalize ht:Ty.con = t at h0
  cases h0 with
  | con fs hf =>
   refine ⟨fs :: C,rfl,fun c hc => ?_⟩
   rcases List.mem_cons.1 hc with rfl | hc
   ·exact hf
   ·exact hC c hc
  | _ => cases ht
theorem zwY:∀ {ds:List (List AC)},(∀ d ∈ ds,Fit .decl d) → ∃ D,ds = zaf D ∧ ∀ d ∈ D,DOk d
 | [],_ => ⟨[],rfl,fun c h => by cases h⟩
 | d :: ds,h => by
  obtain ⟨D,rfl,hD⟩:=zwY fun x hx => h x (List.mem_cons_of_mem _ hx)
  have h0:=h d List.mem_cons_self
  generalize ht:Ty.decl = t at h0
  cases h0 with
  | decl f t' cons hf ht' hl hc =>
   obtain ⟨C,rfl,hC⟩:=zw7 hc
   refine ⟨⟨f,t',C⟩ :: D,rfl,fun x hx => ?_⟩
   rcases List.mem_cons.1 hx with rfl | hx
   ·exact ⟨hf,ht',by simpa [zdq] using hl,hC⟩
   ·exact hD x hx
  | _ => cases ht
theorem zbh (D:List DM):(zaf D).length = D.length:=by simp [zaf]
theorem za7 (C:List (List Int)):(zdq C).length = C.length:=by simp [zdq]
def gD (D:List DM) (k:Nat):DM:=D.getD k default
theorem zy7 {D:List DM} {k:Nat} (h:k < D.length):(zaf D).getD k [] = [.int (gD D k).f,.int (gD D k).t,.sl 1 (zdq (gD D k).cs)]:=by simp [zaf,List.getD,h,gD,zmq]
theorem zzi {C:List (List Int)} {k:Nat} (h:k < C.length):(zdq C).getD k [] = [.sl 1 (zad (C.getD k []))]:=by simp [zdq,List.getD,h,zFH]
theorem zz2 {D:List DM} {k:Nat} (h:k < D.length):gD D k ∈ D:=zfH h _
section
variable {ρ:Type} {r:ρ}
theorem zb2 {D:List DM} {i:Int} {k:Nat} (hi:i = (k:Int)) (h:k < D.length) {K:Fn (Option ρ) [.int 0,.int 0,.sl 1 []]} (h2:(K:Int → Int → List (List AC) → Option ρ) (gD D k).f (gD D k).t (zdq (gD D k).cs) = some r):zdZ (zaf D) i [.int 0,.int 0,.sl 1 []] K = some r:=by
 subst hi
 exact zsa (by rw [zbh]; exact h) (zy7 h) h2
theorem zn9 {C:List (List Int)} {i:Int} {k:Nat} (hi:i = (k:Int)) (h:k < C.length) {K:Fn (Option ρ) [.sl 1 []]} (h2:(K:List (List AC) → Option ρ) (zad (C.getD k [])) = some r):zdZ (zdq C) i [.sl 1 []] K = some r:=by
 subst hi
 exact zGL (by rw [za7]; exact h) (zzi h) h2
theorem zkY {xs:List Int} {i:Int} {k:Nat} (hi:i = (k:Int)) (h:k < xs.length) {K:Fn (Option ρ) [.int 0]} (h2:(K:Int → Option ρ) (xs.getD k 0) = some r):zdZ (zad xs) i [.int 0] K = some r:=by
 subst hi
 refine zaR h ?_
 simpa [List.getD,h] using h2
end
theorem zj1 {α:Type} {l:List α} {k:Nat} (h:k < l.length) (p:α → Bool):(l.drop k).all p = (p l[k] && (l.drop (k + 1)).all p):=by rw [List.drop_eq_getElem_cons h,List.all_cons]
theorem zAH {α:Type} {l:List α} {k:Nat} (h:k < l.length) (p:α → Bool):(l.drop k).any p = (p l[k] || (l.drop (k + 1)).any p):=by rw [List.drop_eq_getElem_cons h,List.any_cons]
theorem zmU {D:List DM} {k:Nat} (h:k < D.length):D[k] = gD D k:=by simp [gD,List.getD,h]
theorem nz {n:Nat} (h:n ≠ 0):(((n:Nat):Int) == 0) = false:=by simp [h]
theorem zr {n:Nat} (h:n = 0):(((n:Nat):Int) == 0) = true:=by simp [h]
theorem eqt {a b:Int} (h:a = b):(a == b) = true:=by simp [h]
theorem eqf {a b:Int} (h:a ≠ b):(a == b) = false:=by simp [h]
theorem net {a b:Int} (h:a ≠ b):(a != b) = true:=by simp [h]
theorem nef {a b:Int} (h:a = b):(a != b) = false:=by simp [h]
def zeo (D:List DM) (t:Int):Bool:=decide (0 ≤ t) && decide (t ≤ D.length)
def zzF (D:List DM) (t:Int):Bool:=decide (0 < t) && (zeo D t && decide (0 < (gD D (t.toNat - 1)).cs.length))
def zog (D:List DM) (t:Int):Bool:=decide (0 < t) && (zeo D t && ((gD D (t.toNat - 1)).cs.length == 0))
def zwO (f t:Int) (d:DM):Bool:=(d.cs.length == 0) && (d.f == f && d.t == t)
def zio (f t:Int):List DM → Nat → Int
 | [],_ => -1
 | d :: ds,k => if zwO f t d then ((k + 1:Nat):Int) else zio f t ds (k + 1)
def zlr (D:List DM) (c:List Int):Bool:=decide (c.length ≤ 3) && c.all (zeo D)
def zme (D:List DM) (k:Nat):Bool :=
 if 0 < (gD D k).cs.length then decide ((gD D k).cs.length ≤ 3) && (((gD D k).f == 0) && (((gD D k).t == 0) && (gD D k).cs.all (zlr D)))
 else zeo D (gD D k).f && (zeo D (gD D k).t && !(D.take k).any (zwO (gD D k).f (gD D k).t))
def zfT (D:List DM):Bool:=decide (D.length ≤ 4) && (List.range D.length).all (zme D)
theorem zlB (D:List DM) (t:Int):zd6 [.cell (.sl 3 (zaf D)),.cell (.int t)] = rB (zeo D t):=by
 refine ztC ?_
 by_cases h:0 ≤ t
 ·exact zac (decide_eq_true h) (by simp [zeo,h,zbh])
 ·exact zaa (decide_eq_false h) (by simp [zeo,h])
theorem zdk (n lo hi:Int):zaL [.cell (.int n),.cell (.int lo),.cell (.int hi)] = rB (decide (lo ≤ n) && decide (n ≤ hi)):=by
 refine zq3 ?_
 by_cases h:lo ≤ n
 ·exact zac (decide_eq_true h) (by simp [h])
 ·exact zaa (decide_eq_false h) (by simp [h])
theorem zvz (D:List DM) (t:Int):zaL [.cell (.int t),.cell (.int 0),.cell (.int (((zaf D).length:Nat):Int))] = rB (zeo D t):=by
 rw [zdk,zbh]
 rfl
theorem zoh (D:List DM) (xs:List Int) (hx:xs.length ≤ zaE):zfK [.cell (.sl 3 (zaf D)),.cell (.sl 1 (zad xs))] = rB (xs.all (zeo D)):=by
 have key:∀ m k:Nat,k + m = xs.length → zfa (zaf D) (zad xs) (((zad xs).length:Nat):Int) (k:Int) = rB ((xs.drop k).all (zeo D)):=by
  intro m
  induction m with
  | zero => intro k hk; exact zi3 (zaa (decide_eq_false (by rw [zab]; omega)) (by rw [List.drop_eq_nil_of_le (by omega)]; rfl))
  | succ m ih =>
   intro k hk
   have hlt:k < xs.length:=by omega
   rw [zj1 hlt]
   refine zi3 (zac (decide_eq_true (by rw [zab]; omega)) (zaR hlt (zai (zlB D _) ?_)))
   rcases zeo D xs[k] with _ | _
   ·exact zac rfl rfl
   ·exact zaa rfl (by rw [wrk (by omega)]; exact ih (k + 1) (by omega))
 exact zpF (key xs.length 0 (by omega))
theorem zs7 (D:List DM) (xs:List Int) (hx:xs.length ≤ zaE):zhX [.cell (.sl 3 (zaf D)),.cell (.sl 1 (zad xs))] = rB (xs.all (zeo D)):=by
 have key:∀ m k:Nat,k + m = xs.length → ze5 (zaf D) (zad xs) (k:Int) = rB ((xs.drop k).all (zeo D)):=by
  intro m
  induction m with
  | zero => intro k hk; exact zi5 (zaa (decide_eq_false (by rw [zab]; omega)) (by rw [List.drop_eq_nil_of_le (by omega)]; rfl))
  | succ m ih =>
   intro k hk
   have hlt:k < xs.length:=by omega
   rw [zj1 hlt]
   refine zi5 (zac (decide_eq_true (by rw [zab]; omega)) (zaR hlt (zai (zvz D _) ?_)))
   rcases zeo D xs[k] with _ | _
   ·exact zac rfl rfl
   ·exact zaa rfl (by rw [wrk (by omega)]; exact ih (k + 1) (by omega))
 exact zqH (key xs.length 0 (by omega))
theorem hit_cases {f t:Int} {d:DM}:zwO f t d = true ↔ d.cs.length = 0 ∧ d.f = f ∧ d.t = t:=by simp [zwO]
theorem zyz (D:List DM) (hD:D.length ≤ 1000) (f t:Int):zew [.cell (.sl 3 (zaf D)),.cell (.int f),.cell (.int t)] = rI (zio f t D 0):=by
 have key:∀ m k:Nat,k + m = D.length → zbS f t (zaf D) (((zaf D).length:Nat):Int) (k:Int) = rI (zio f t (D.drop k) k):=by
  intro m
  induction m with
  | zero => intro k hk; exact zgk (zaa (decide_eq_false (by rw [zbh]; omega)) (by rw [List.drop_eq_nil_of_le (by omega)]; rfl))
  | succ m ih =>
   intro k hk
   have hlt:k < D.length:=by omega
   have w1:zae ((k:Int) + 1) = ((k + 1:Nat):Int):=wrk (by unfold zaE; omega)
   have nx:=ih (k + 1) (by omega)
   rw [List.drop_eq_getElem_cons hlt,zmU hlt]
   refine zgk (zac (decide_eq_true (by rw [zbh]; omega)) (zb2 rfl hlt ?_))
   rw [za7,w1]
   by_cases h1:(gD D k).cs.length = 0
   ·refine zac (by simp [h1]) ?_
    by_cases h2:(gD D k).f = f
    ·refine zac (by simp [h2]) ?_
     by_cases h3:(gD D k).t = t
     ·exact zac (by simp [h3]) (by rw [zio,if_pos (hit_cases.2 ⟨h1,h2,h3⟩)])
     ·exact zaa (by simp [h3]) (by rw [zio,if_neg (fun h => h3 (hit_cases.1 h).2.2)]; exact nx)
    ·exact zaa (by simp [h2]) (by rw [zio,if_neg (fun h => h2 (hit_cases.1 h).2.1)]; exact nx)
   ·exact zaa (nz h1) (by rw [zio,if_neg (fun h => h1 (hit_cases.1 h).1)]; exact nx)
 exact zmI (key D.length 0 (by omega))
theorem zu0 (D:List DM) (hD:D.length ≤ 1000) (f t:Int):zje [.cell (.sl 3 (zaf D)),.cell (.int f),.cell (.int t)] = rI (zio f t D 0):=by
 have key:∀ m k:Nat,k + m = D.length → zdl (zaf D) f t (k:Int) = rI (zio f t (D.drop k) k):=by
  intro m
  induction m with
  | zero => intro k hk; exact zjR (zaa (decide_eq_false (by rw [zbh]; omega)) (by rw [List.drop_eq_nil_of_le (by omega)]; rfl))
  | succ m ih =>
   intro k hk
   have hlt:k < D.length:=by omega
   have w1:zae ((k:Int) + 1) = ((k + 1:Nat):Int):=wrk (by unfold zaE; omega)
   have nx:=ih (k + 1) (by omega)
   rw [List.drop_eq_getElem_cons hlt,zmU hlt]
   refine zjR (zac (decide_eq_true (by rw [zbh]; omega)) (zb2 rfl hlt ?_))
   rw [za7,w1]
   by_cases h1:(gD D k).cs.length = 0
   ·refine zac (by simp [h1]) (zb2 rfl hlt ?_)
    by_cases h2:(gD D k).f = f
    ·refine zac (by simp [h2]) (zb2 rfl hlt ?_)
     by_cases h3:(gD D k).t = t
     ·exact zac (by simp [h3]) (by rw [zio,if_pos (hit_cases.2 ⟨h1,h2,h3⟩)])
     ·exact zaa (by simp [h3]) (by rw [zio,if_neg (fun h => h3 (hit_cases.1 h).2.2)]; exact nx)
    ·exact zaa (by simp [h2]) (by rw [zio,if_neg (fun h => h2 (hit_cases.1 h).2.1)]; exact nx)
   ·exact zaa (nz h1) (by rw [zio,if_neg (fun h => h1 (hit_cases.1 h).1)]; exact nx)
 exact zru (key D.length 0 (by omega))
theorem zwA (f t:Int):∀ (D:List DM) (k:Nat),decide (zio f t D k < 0) = !D.any (zwO f t)
 | [],k => by simp [zio]
 | d :: D,k => by
  unfold zio
  rw [List.any_cons]
  cases h:zwO f t d
  ·simpa using zwA f t D (k + 1)
  ·simp; omega
theorem zwB (D:List DM) (C:List (List Int)) (hC:∀ c ∈ C,zdS c) (hl:C.length ≤ zaE):zkf [.cell (.sl 3 (zaf D)),.cell (.sl 1 (zdq C))] = rB (decide (C.length ≤ 3) && C.all (zlr D)):=by
 have key:∀ m k:Nat,k + m = C.length → zeE (zaf D) (zdq C) (((zdq C).length:Nat):Int) (k:Int) = rB ((C.drop k).all (zlr D)):=by
  intro m
  induction m with
  | zero => intro k hk; exact ziu (zaa (decide_eq_false (by rw [za7]; omega)) (by rw [List.drop_eq_nil_of_le (by omega)]; rfl))
  | succ m ih =>
   intro k hk
   have hlt:k < C.length:=by omega
   have hc:=hC _ (zfH hlt [])
   rw [zj1 hlt,show C[k] = C.getD k [] by simp [List.getD,hlt]]
   refine ziu (zac (decide_eq_true (by rw [za7]; omega)) (zn9 rfl hlt ?_))
   rw [zab]
   by_cases h3:(C.getD k []).length ≤ 3
   ·refine zaa (decide_eq_false (by omega)) (zai (zoh D _ hc.len) ?_)
    have e:zlr D (C.getD k []) = (C.getD k []).all (zeo D):=by unfold zlr; rw [decide_eq_true h3,Bool.true_and]
    rw [e]
    rcases (C.getD k []).all (zeo D) with _ | _
    ·exact zac rfl rfl
    ·exact zaa rfl (by rw [wrk (by omega)]; exact ih (k + 1) (by omega))
   ·refine zac (decide_eq_true (by omega)) ?_
    have e:zlr D (C.getD k []) = false:=by unfold zlr; rw [decide_eq_false h3]; rfl
    rw [e]
    rfl
 refine zpB ?_
 rw [za7]
 by_cases h:C.length ≤ 3
 ·refine zaa (decide_eq_false (by omega)) ?_
  have:=key C.length 0 (by omega)
  rw [za7] at this
  simpa [h] using this
 ·exact zac (decide_eq_true (by omega)) (by simp [h])
theorem zsK (D:List DM) (k:Nat):(zaf D).take k = zaf (D.take k):=by simp [zaf]
theorem zvO (D:List DM) (hD:∀ d ∈ D,DOk d) (hl:D.length ≤ 1000) (k:Nat) (hk:k < D.length):zkj [.cell (.sl 3 (zaf D)),.cell (.int (k:Int))] = rB (zme D k):=by
 have hd:=hD _ (zz2 hk)
 refine zpg (zb2 rfl hk ?_)
 rw [za7]
 unfold zme
 by_cases h0:0 < (gD D k).cs.length
 ·refine zac (decide_eq_true (by omega)) ?_
  rw [if_pos h0]
  by_cases h1:(gD D k).f = 0
  ·refine zac (by simp [h1]) ?_
   by_cases h2:(gD D k).t = 0
   ·exact zac (by simp [h2]) (zai (zwB D _ hd.cs hd.len) (by rw [h1,h2]; simp only [beq_self_eq_true,Bool.true_and]; rfl))
   ·exact zaa (by simp [h2]) (by simp [h2])
  ·exact zaa (by simp [h1]) (by simp [h1])
 ·refine zaa (decide_eq_false (by omega)) (zai (zlB D _) ?_)
  rw [if_neg h0]
  rcases zeo D (gD D k).f with _ | _
  ·exact zaa rfl rfl
  ·refine zac rfl (zai (zlB D _) ?_)
   rcases zeo D (gD D k).t with _ | _
   ·exact zaa rfl rfl
   ·refine zac rfl (zyc (by omega) (by omega) (by rw [zbh]; omega) ?_)
    rw [show (((zaf D).drop (0:Int).toNat).take ((k:Int).toNat - (0:Int).toNat)) = zaf (D.take k) by simp [zsK]]
    refine zay (zyz _ (by rw [List.length_take]; omega) _ _) ?_
    rw [zwA]
    rfl
theorem zwW (D:List DM) (hD:∀ d ∈ D,DOk d) (hl:D.length ≤ 1000) (k:Nat) (hk:k < D.length):zkr [.cell (.sl 3 (zaf D)),.cell (.int (k:Int))] = rB (zme D k):=by
 have hd:=hD _ (zz2 hk)
 have key1:∀ m j:Nat,j + m = (gD D k).cs.length → zet (zaf D) (gD D k).f (gD D k).t (zdq (gD D k).cs) (j:Int) = rB (((gD D k).cs.drop j).all (zlr D)):=by
  intro m
  induction m with
  | zero => intro j hj; exact zii (zaa (decide_eq_false (by rw [za7]; omega)) (by rw [List.drop_eq_nil_of_le (by omega)]; rfl))
  | succ m ih =>
   intro j hj
   have hlt:j < (gD D k).cs.length:=by omega
   have hc:=hd.cs _ (zfH hlt [])
   have hlen:=hd.len
   rw [zj1 hlt,show (gD D k).cs[j] = (gD D k).cs.getD j [] by simp [List.getD,hlt]]
   refine zii (zac (decide_eq_true (by rw [za7]; omega)) (zn9 rfl hlt ?_))
   rw [zab]
   by_cases h3:((gD D k).cs.getD j []).length ≤ 3
   ·refine zaa (decide_eq_false (by omega)) (zn9 rfl hlt (zai (zs7 D _ hc.len) ?_))
    have e:zlr D ((gD D k).cs.getD j []) = ((gD D k).cs.getD j []).all (zeo D):=by unfold zlr; rw [decide_eq_true h3,Bool.true_and]
    rw [e]
    rcases ((gD D k).cs.getD j []).all (zeo D) with _ | _
    ·exact zac rfl rfl
    ·exact zaa rfl (by rw [wrk (by omega)]; exact ih (j + 1) (by omega))
   ·refine zac (decide_eq_true (by omega)) ?_
    have e:zlr D ((gD D k).cs.getD j []) = false:=by unfold zlr; rw [decide_eq_false h3]; rfl
    rw [e]
    rfl
 have key2:∀ m j:Nat,j + m = k → zcC (zaf D) (k:Int) (gD D k).f (gD D k).t (zdq (gD D k).cs) (j:Int) = rB (!((D.take k).drop j).any (zwO (gD D k).f (gD D k).t) && (zeo D (gD D k).f && zeo D (gD D k).t)):=by
  intro m
  induction m with
  | zero =>
   intro j hj
   refine zh3 (zaa (decide_eq_false (by omega)) (zai (zvz D _) ?_))
   rw [List.drop_eq_nil_of_le (by rw [List.length_take]; omega)]
   rcases zeo D (gD D k).f with _ | _
   ·exact zaa rfl rfl
   ·refine zac rfl (zai (zvz D _) ?_)
    simp
    rfl
  | succ m ih =>
   intro j hj
   have hlt:j < D.length:=by omega
   have hlt':j < (D.take k).length:=by rw [List.length_take]; omega
   have w1:zae ((j:Int) + 1) = ((j + 1:Nat):Int):=wrk (by unfold zaE; omega)
   have nx:=ih (j + 1) (by omega)
   rw [zAH hlt',show (D.take k)[j] = gD D j by rw [List.getElem_take,zmU hlt]]
   refine zh3 (zac (decide_eq_true (by omega)) (zb2 rfl hlt ?_))
   rw [za7,w1]
   by_cases h1:(gD D j).cs.length = 0
   ·refine zac (by simp [h1]) (zb2 rfl hlt ?_)
    by_cases h2:(gD D j).f = (gD D k).f
    ·refine zac (by simp [h2]) (zb2 rfl hlt ?_)
     by_cases h3:(gD D j).t = (gD D k).t
     ·refine zac (by simp [h3]) ?_
      rw [hit_cases.2 ⟨h1,h2,h3⟩]
      rfl
     ·refine zaa (by simp [h3]) ?_
      rw [Bool.eq_false_iff.2 (fun h => h3 (hit_cases.1 h).2.2)]
      exact nx
    ·refine zaa (by simp [h2]) ?_
     rw [Bool.eq_false_iff.2 (fun h => h2 (hit_cases.1 h).2.1)]
     exact nx
   ·refine zaa (nz h1) ?_
    rw [Bool.eq_false_iff.2 (fun h => h1 (hit_cases.1 h).1)]
    exact nx
 refine zpA (zb2 rfl hk ?_)
 rw [za7]
 unfold zme
 by_cases h0:0 < (gD D k).cs.length
 ·refine zac (decide_eq_true (by omega)) ?_
  rw [if_pos h0]
  by_cases h3:(gD D k).cs.length ≤ 3
  ·refine zaa (decide_eq_false (by omega)) ?_
   by_cases h1:(gD D k).f = 0
   ·refine zaa (by simp [h1]) ?_
    by_cases h2:(gD D k).t = 0
    ·refine zaa (by simp [h2]) ?_
     have:=key1 (gD D k).cs.length 0 (by omega)
     simpa [h1,h2,h3] using this
    ·exact zac (by simp [h2]) (by simp [h2])
   ·exact zac (by simp [h1]) (by simp [h1])
  ·exact zac (decide_eq_true (by omega)) (by simp [h3])
 ·refine zaa (decide_eq_false (by omega)) ?_
  rw [if_neg h0]
  have:=key2 k 0 (by omega)
  rw [List.drop_zero] at this
  refine Eq.trans this ?_
  rcases (List.take k D).any (zwO (gD D k).f (gD D k).t) with _ | _ <;> rcases zeo D (gD D k).f with _ | _ <;> rcases zeo D (gD D k).t with _ | _ <;> rfl
theorem zl3 {n k:Nat} (h:k < n) (p:Nat → Bool):((List.range n).drop k).all p = (p k && ((List.range n).drop (k + 1)).all p):=by
 rw [zj1 (by simpa using h)]
 simp
theorem zvn (D:List DM) (hD:∀ d ∈ D,DOk d) (hlen:D.length ≤ zaE):ziW [.cell (.sl 3 (zaf D))] = rB (zfT D):=by
 refine zob ?_
 rw [zbh]
 by_cases h4:D.length ≤ 4
 ·refine zaa (decide_eq_false (by omega)) ?_
  have key:∀ m k:Nat,k + m = D.length → zed (zaf D) ((D.length:Nat):Int) (k:Int) = rB (((List.range D.length).drop k).all (zme D)):=by
   intro m
   induction m with
   | zero => intro k hk; exact zhn (zaa (decide_eq_false (by omega)) (by rw [List.drop_eq_nil_of_le (by simp; omega)]; rfl))
   | succ m ih =>
    intro k hk
    rw [zl3 (by omega)]
    refine zhn (zac (decide_eq_true (by omega)) (zai (zvO D hD (by omega) k (by omega)) ?_))
    rcases zme D k with _ | _
    ·exact zac rfl rfl
    ·exact zaa rfl (by rw [wrk (by unfold zaE; omega)]; exact ih (k + 1) (by omega))
  have:=key D.length 0 (by omega)
  simpa [zfT,h4] using this
 ·exact zac (decide_eq_true (by omega)) (by simp [zfT,h4])
theorem zu2 (D:List DM) (hD:∀ d ∈ D,DOk d) (hlen:D.length ≤ zaE):ziX [.cell (.sl 3 (zaf D))] = rB (zfT D):=by
 refine zoc ?_
 rw [zbh]
 by_cases h4:D.length ≤ 4
 ·refine zaa (decide_eq_false (by omega)) ?_
  have key:∀ m k:Nat,k + m = D.length → zec (zaf D) (k:Int) = rB (((List.range D.length).drop k).all (zme D)):=by
   intro m
   induction m with
   | zero => intro k hk; exact zhp (zaa (decide_eq_false (by rw [zbh]; omega)) (by rw [List.drop_eq_nil_of_le (by simp; omega)]; rfl))
   | succ m ih =>
    intro k hk
    rw [zl3 (by omega)]
    refine zhp (zac (decide_eq_true (by rw [zbh]; omega)) (zai (zwW D hD (by omega) k (by omega)) ?_))
    rcases zme D k with _ | _
    ·exact zac rfl rfl
    ·exact zaa rfl (by rw [wrk (by unfold zaE; omega)]; exact ih (k + 1) (by omega))
  have:=key D.length 0 (by omega)
  simpa [zfT,h4] using this
 ·exact zac (decide_eq_true (by omega)) (by simp [zfT,h4])
end Go.Proofs.YtcpcagdialnbeaaGreat
namespace Go.Proofs.YtcpcagdialnbeaaGreat
open Go
end Go.Proofs.YtcpcagdialnbeaaGreat
