/- Generic texts and models for the proofs of this seat: part 23. -/
import Derived.Test.YtkgbadeobdbinaaGreatZ22
import Derived.Test.YtkgbadeobdbinaaGreatRows
set_option linter.unusedVariables false
set_option linter.unusedSimpArgs false
namespace Go.Proofs.YtkgbadeobdbinaaGreat
section
def zpV:Char:=Char.ofNat 32
def zrw:List Char:=[Char.ofNat 104,Char.ofNat 97,Char.ofNat 114,Char.ofNat 110,Char.ofNat 101,Char.ofNat 115,Char.ofNat 115]
def zvH:List Char:=[Char.ofNat 51,Char.ofNat 100,Char.ofNat 48,Char.ofNat 52,Char.ofNat 50,Char.ofNat 53,Char.ofNat 101,Char.ofNat 54,Char.ofNat 55,Char.ofNat 55,Char.ofNat 54,Char.ofNat 54,Char.ofNat 56,Char.ofNat 52,Char.ofNat 50,Char.ofNat 98,Char.ofNat 48,Char.ofNat 55,Char.ofNat 48,Char.ofNat 54,Char.ofNat 55,Char.ofNat 98,Char.ofNat 55,Char.ofNat 48,Char.ofNat 54,Char.ofNat 56,Char.ofNat 54,Char.ofNat 48,Char.ofNat 51,Char.ofNat 49,Char.ofNat 98,Char.ofNat 52,Char.ofNat 48,Char.ofNat 99,Char.ofNat 102,Char.ofNat 48,Char.ofNat 54,Char.ofNat 99,Char.ofNat 55,Char.ofNat 53,Char.ofNat 56,Char.ofNat 54,Char.ofNat 99,Char.ofNat 99,Char.ofNat 98,Char.ofNat 102,Char.ofNat 51,Char.ofNat 52,Char.ofNat 54,Char.ofNat 101,Char.ofNat 100,Char.ofNat 55,Char.ofNat 101,Char.ofNat 56,Char.ofNat 101,Char.ofNat 56,Char.ofNat 54,Char.ofNat 98,Char.ofNat 53,Char.ofNat 99,Char.ofNat 52,Char.ofNat 98,Char.ofNat 102,Char.ofNat 100]
def zgW:List Char:=[Char.ofNat 99,Char.ofNat 117,Char.ofNat 116]
def zmt:List Char:=[Char.ofNat 97,Char.ofNat 116,Char.ofNat 32,Char.ofNat 108,Char.ofNat 111,Char.ofNat 111,Char.ofNat 112,Char.ofNat 46,Char.ofNat 101,Char.ofNat 120,Char.ofNat 97,Char.ofNat 109,Char.ofNat 112,Char.ofNat 108,Char.ofNat 101,Char.ofNat 47,Char.ofNat 114,Char.ofNat 101,Char.ofNat 102,Char.ofNat 99,Char.ofNat 111,Char.ofNat 117,Char.ofNat 110,Char.ofNat 116,Char.ofNat 109,Char.ofNat 108,Char.ofNat 47,Char.ofNat 108,Char.ofNat 97,Char.ofNat 119,Char.ofNat 115,Char.ofNat 46,Char.ofNat 70,Char.ofNat 110,Char.ofNat 75,Char.ofNat 110,Char.ofNat 111,Char.ofNat 119,Char.ofNat 110,Char.ofNat 67,Char.ofNat 97,Char.ofNat 108,Char.ofNat 108,Char.ofNat 115,Char.ofNat 84,Char.ofNat 119,Char.ofNat 105,Char.ofNat 99,Char.ofNat 101,Char.ofNat 32,Char.ofNat 108,Char.ofNat 111,Char.ofNat 111,Char.ofNat 112,Char.ofNat 46,Char.ofNat 101,Char.ofNat 120,Char.ofNat 97,Char.ofNat 109,Char.ofNat 112,Char.ofNat 108,Char.ofNat 101,Char.ofNat 47,Char.ofNat 114,Char.ofNat 101,Char.ofNat 102,Char.ofNat 99,Char.ofNat 111,Char.ofNat 117,Char.ofNat 110,Char.ofNat 116,Char.ofNat 109,Char.ofNat 108,Char.ofNat 47,Char.ofNat 108,Char.ofNat 97,Char.ofNat 119,Char.ofNat 115,Char.ofNat 46,Char.ofNat 70,Char.ofNat 110,Char.ofNat 70,Char.ofNat 111,Char.ofNat 108,Char.ofNat 100,Char.ofNat 67,Char.ofNat 97,Char.ofNat 108,Char.ofNat 108,Char.ofNat 101,Char.ofNat 101,Char.ofNat 115,Char.ofNat 32,Char.ofNat 108,Char.ofNat 111,Char.ofNat 111,Char.ofNat 112,Char.ofNat 46,Char.ofNat 101,Char.ofNat 120,Char.ofNat 97,Char.ofNat 109,Char.ofNat 112,Char.ofNat 108,Char.ofNat 101,Char.ofNat 47,Char.ofNat 114,Char.ofNat 101,Char.ofNat 102,Char.ofNat 99,Char.ofNat 111,Char.ofNat 117,Char.ofNat 110,Char.ofNat 116,Char.ofNat 109,Char.ofNat 108,Char.ofNat 47,Char.ofNat 108,Char.ofNat 97,Char.ofNat 119,Char.ofNat 115,Char.ofNat 46,Char.ofNat 70,Char.ofNat 110,Char.ofNat 70,Char.ofNat 111,Char.ofNat 108,Char.ofNat 100,Char.ofNat 84,Char.ofNat 119,Char.ofNat 105,Char.ofNat 99,Char.ofNat 101,Char.ofNat 32,Char.ofNat 108,Char.ofNat 111,Char.ofNat 111,Char.ofNat 112,Char.ofNat 46,Char.ofNat 101,Char.ofNat 120,Char.ofNat 97,Char.ofNat 109,Char.ofNat 112,Char.ofNat 108,Char.ofNat 101,Char.ofNat 47,Char.ofNat 114,Char.ofNat 101,Char.ofNat 102,Char.ofNat 99,Char.ofNat 111,Char.ofNat 117,Char.ofNat 110,Char.ofNat 116,Char.ofNat 109,Char.ofNat 108,Char.ofNat 47,Char.ofNat 108,Char.ofNat 97,Char.ofNat 119,Char.ofNat 115,Char.ofNat 46,Char.ofNat 70,Char.ofNat 110,Char.ofNat 73,Char.ofNat 110,Char.ofNat 108,Char.ofNat 105,Char.ofNat 110,Char.ofNat 101,Char.ofNat 32,Char.ofNat 108,Char.ofNat 111,Char.ofNat 111,Char.ofNat 112,Char.ofNat 46,Char.ofNat 101,Char.ofNat 120,Char.ofNat 97,Char.ofNat 109,Char.ofNat 112,Char.ofNat 108,Char.ofNat 101,Char.ofNat 47,Char.ofNat 114,Char.ofNat 101,Char.ofNat 102,Char.ofNat 99,Char.ofNat 111,Char.ofNat 117,Char.ofNat 110,Char.ofNat 116,Char.ofNat 109,Char.ofNat 108,Char.ofNat 47,Char.ofNat 108,Char.ofNat 97,Char.ofNat 119,Char.ofNat 115,Char.ofNat 46,Char.ofNat 70,Char.ofNat 110,Char.ofNat 73,Char.ofNat 110,Char.ofNat 108,Char.ofNat 105,Char.ofNat 110,Char.ofNat 101,Char.ofNat 83,Char.ofNat 97,Char.ofNat 109,Char.ofNat 101]
theorem zwP:Tryz.prog.initOrder=String.ofList (zrw++zpV::(zvH++zpV::(zgW++zpV::zmt))):=by kernel_rfl
theorem zqa:∀(a b:List Char),(∀c∈a,(c==zpV)=false)→wordsSigns (a++zpV::b)=a::wordsSigns b:=by
 intro a;induction a with
 | nil=>intro b _;rfl
 | cons c a ih =>
  intro b h;have hc:c≠zpV:=by have:=h c (by simp);simpa using this
  have hr:=ih b fun x hx=>h x (by simp[hx])
  rw[List.cons_append]
  conv=>lhs;unfold wordsSigns
  split
  ·rename_i e;cases e
  ·rename_i e;injection e with e1 _;exact absurd e1 hc
  ·rename_i c' r' _ e
   injection e with e1 e2
   subst e1 e2;rw[hr]
theorem zxp:wordsSigns Tryz.prog.initOrder.toList=zrw::zvH::zgW::wordsSigns zmt:=by
 rw[zwP,String.toList_ofList,zqa _ _ (by decide),zqa _ _ (by decide),zqa _ _ (by decide)]
theorem zzu {h s:List Char}{r:List (List Char)} (hc:((h == "harness".toList||h == "ownmain".toList)&&isSumSigns s)=true):behindMainWord (h::s::r)=r:=by
 unfold behindMainWord;simp only[hc,if_true]
theorem zAa {P:Program}{c:List Char}{rest:List (List Char)} (hb:behindMainWord (wordsSigns P.initOrder.toList)=c::rest) (hs:stripLifts liftWords (c::rest)=([],c::rest))
  (h1:(c == "gc".toList)=false) (h2:(c == "spec".toList)=false) (h3:(c == "carried".toList)=false) (h4:((some c:Option (List Char))==some "cut".toList)=true) (h5:P.laysLater=false) (h6:P.bearsReflect=false) (h7:P.doorFits []=true):P.mayEnter=true:=by
 unfold Program.mayEnter;rw[hb];simp only[hs,List.head?_cons,h1,h2,h3,h4,h5,h6,h7,Bool.or_false,Bool.false_and,Bool.not_false,Bool.or_true,Bool.and_true,List.contains_nil]
theorem zDB {P:Program}{c:List Char}{rest:List (List Char)} (hb:behindMainWord (wordsSigns P.initOrder.toList)=c::rest)
  (h1:(c == "gc".toList)=false) (h2:(c == "spec".toList)=false) (h3:(c == "cut".toList)=true):P.make=some Make.cut:=by
 unfold Program.make;rw[hb];simp only[h1,h2,h3,Bool.true_or,Bool.or_false,Bool.false_eq_true,if_false,if_true]
theorem zkJ:behindMainWord (wordsSigns Tryz.prog.initOrder.toList)=zgW::wordsSigns zmt:=by
 have hc:((zrw == "harness".toList||zrw == "ownmain".toList)&&isSumSigns zvH)=true:=by as_aux_lemma=>kernel_rfl
 rw[zxp];exact zzu hc
theorem zcQ {o:String}{os:List String}{w:List Char}{ws:List (List Char)} (h:(w==o.toList)=false):stripLifts (o::os) (w::ws)=stripLifts os (w::ws):=by
 unfold stripLifts;rw[h];rw[if_neg Bool.false_ne_true];cases os <;> rfl
theorem zus (R:List (List Char)):stripLifts liftWords (zgW::R)=([],zgW::R):=by
 unfold liftWords;rw[zcQ (o:="finals") (by as_aux_lemma=>kernel_rfl)]
 rw[zcQ (o:="reflectrows") (by as_aux_lemma=>kernel_rfl)]
 rw[zcQ (o:="leanrows") (by as_aux_lemma=>kernel_rfl)]
 rw[zcQ (o:="onebuild") (by as_aux_lemma=>kernel_rfl)]
 rw[zcQ (o:="publicsums") (by as_aux_lemma=>kernel_rfl)]
 rw[zcQ (o:="eqguard") (by as_aux_lemma=>kernel_rfl)]
 rw[zcQ (o:="ownunsafe") (by as_aux_lemma=>kernel_rfl)]
 rw[zcQ (o:="libbeside") (by as_aux_lemma=>kernel_rfl)]
 rw[zcQ (o:="ownbeside") (by as_aux_lemma=>kernel_rfl)]
 rw[zcQ (o:="reflbeside") (by as_aux_lemma=>kernel_rfl)]
 rw[zcQ (o:="aliases") (by as_aux_lemma=>kernel_rfl)]
 rw[zcQ (o:="afterinit") (by as_aux_lemma=>kernel_rfl)]
 rw[zcQ (o:="crcplain") (by as_aux_lemma=>kernel_rfl)]
 rw[zcQ (o:="roadunsafe") (by as_aux_lemma=>kernel_rfl)]
 rw[zcQ (o:="fmthandon") (by as_aux_lemma=>kernel_rfl)]
 rfl
theorem zGD:(zgW == "cut".toList)=true:=by kernel_rfl
theorem zAT:(zgW == "gc".toList)=false:=by kernel_rfl
theorem zwX:(zgW == "spec".toList)=false:=by kernel_rfl
theorem zxc:(zgW == "carried".toList)=false:=by kernel_rfl
theorem zwi:((some zgW:Option (List Char))==some "cut".toList)=true:=by kernel_rfl
theorem zvq:((some zgW:Option (List Char))==some "carried".toList)=false:=by kernel_rfl
theorem zzU:Tryz.prog.laysLater=false:=by kernel_rfl
theorem zvJ:Tryz.prog.bearsReflect=false:=by kernel_rfl
theorem zzS:Tryz.prog.doorFits []=true:=by kernel_rfl
theorem ztc:Tryz.prog.mayEnter=true:=zAa zkJ (zus _) zAT zwX zxc zwi zzU zvJ zzS
theorem zx9:Tryz.prog.headLifts=[]:=by
 unfold Program.headLifts;rw[zkJ,zus];generalize wordsSigns zmt=R
 simp only[List.head?_cons,zwi,if_true]
theorem zqo:((false:Bool)==Tryz.prog.liftsFinal)=true:=by
 unfold Program.liftsFinal;rw[zkJ,zx9];generalize wordsSigns zmt=R
 simp only[List.head?_cons,zvq,Bool.false_and,Bool.false_or,List.contains_nil];rfl
theorem ztS:(Tryz.prog.make==some Make.cut)=true:=by
 rw[zDB zkJ zAT zwX zGD];rfl
end
section
open Go
def acS:AC→Nat
 | .int _=>0
 | .bool _=>0
 | .sl _ rows=>rows.length+rsS rows
where
 rsS:List (List AC)→Nat
  | []=>0
  | r::rs=>cS r+rsS rs
 cS:List AC→Nat
  | []=>0
  | c::cs=>acS c+cS cs
abbrev cS:=acS.cS
abbrev rsS:=acS.rsS
theorem zGF:cS []=0:=by simp[cS,acS.cS]
theorem zBL (n:Int) (cs:List AC):cS (.int n::cs)=cS cs:=by simp[cS,acS.cS,acS]
theorem zHe (k:Nat) (r:List (List AC)) (cs:List AC):cS (.sl k r::cs)=r.length+rsS r+cS cs:=by simp[cS,acS.cS,acS,rsS]
theorem zaQ:rsS []=0:=by simp[rsS,acS.rsS]
theorem za0 (r:List AC) (rs:List (List AC)):rsS (r::rs)=cS r+rsS rs:=by simp[rsS,acS.rsS,cS]
theorem zvU {rs:List (List AC)}{k:Nat} (h:k<rs.length):rsS (rs.drop k)=cS (rs.getD k [])+rsS (rs.drop (k+1)):=by
 rw[List.drop_eq_getElem_cons h,za0];simp[List.getD,h]
theorem zjo {rs:List (List AC)}{r:List AC} (h:r∈rs):cS r≤rsS rs:=by
 induction rs with
 | nil=>cases h
 | cons x rs ih =>
  rw[za0];rcases List.mem_cons.1 h with rfl|h
  ·omega
  ·have:=ih h;omega
def zad (xs:List Int):List (List AC):=xs.map fun n=>[.int n]
theorem zab (xs:List Int):(zad xs).length=xs.length:=by simp[zad]
theorem zzv {xs:List Int}{k:Nat} (h:k<xs.length):(zad xs).getD k []=[.int xs[k]]:=by simp[zad,List.getD,h]
theorem zjl (xs ys:List Int):zad xs++zad ys=zad (xs++ys):=by simp[zad]
theorem zrU (xs:List Int) (n:Nat):(zad xs).take n=zad (xs.take n):=by simp[zad]
def inI (n:Int):Prop:=-9223372036854775808≤n∧n≤9223372036854775807
def zaI:Nat:=9223372036854775807
structure zdv (xs:List Int):Prop where
 len:xs.length≤zaI
 all:∀x∈xs,inI x
theorem wr {n:Int} (h1:-9223372036854775808≤n) (h2:n≤9223372036854775807):zae n=n:=zFe h1 h2
theorem wrk {k:Nat} (h:k<zaI):zae ((k:Int)+1)=((k+1:Nat):Int):=by
 unfold zaI at h;rw[wr (by omega) (by omega)]
 omega
section
variable {ρ:Type}{r:ρ}
theorem zwr {rows:List (List AC)}{k:Nat} (h:k<rows.length) {sh:List AC}{K:Fn (Option ρ) sh} (h2:zlA sh (rows.getD k []) K=some r):zdM rows (k:Int) sh K=some r:=by
 unfold zdM zwz;rw[decide_eq_true (by omega),decide_eq_true (by omega)]
 exact h2
theorem zar {x:Option AV}{n:Int} (h:x=some (.v (.cell (.int n)))) {K:Fn (Option ρ) (za1 [(false,[.int 0])])} (h2:(K:Int→Option ρ) n=some r):zaC x false [(false,[.int 0])] K=some r:=by rw[h];exact h2
theorem zan {x:Option AV}{n:Bool} (h:x=some (.v (.cell (.bool n)))) {K:Fn (Option ρ) (za1 [(false,[.bool false])])} (h2:(K:Bool→Option ρ) n=some r):zaC x false [(false,[.bool false])] K=some r:=by rw[h];exact h2
theorem zav {x:Option AV}{k:Nat}{l:List (List AC)} (h:x=some (.v (.cell (.sl k l)))) {K:Fn (Option ρ) (za1 [(false,[.sl k []])])} (h2:(K:List (List AC)→Option ρ) l=some r):zaC x false [(false,[.sl k []])] K=some r:=by
 rw[h];show(bif Nat.beq k k then _ else none)=_
 rw[Nat.beq_refl];exact h2
theorem zbs {l l':List (List AC)} (h:l.length+l'.length≤68719476736) {K:List (List AC)→Option ρ} (h2:K (l++l')=some r):zcy l l' K=some r:=by
 unfold zcy zkQ;rw[decide_eq_true (by rw[List.length_append];exact h)]
 exact h2
theorem zyS {l:List (List AC)}{lo hi:Int} (h0:0≤lo) (h1:lo≤hi) (h2:hi≤l.length) {K:List (List AC)→Option ρ} (h3:K ((l.drop lo.toNat).take (hi.toNat-lo.toNat))=some r):zwY l lo hi K=some r:=by
 unfold zwY;rw[decide_eq_true ⟨h0,h1,h2⟩];exact h3
theorem zac {b:Bool}{x y:Option ρ} (h:b=true) (h2:x=some r):(bif b then x else y)=some r:=by rw[h];exact h2
theorem zaa {b:Bool}{x y:Option ρ} (h:b=false) (h2:y=some r):(bif b then x else y)=some r:=by rw[h];exact h2
theorem zHJ {rows:List (List AC)}{k:Nat} (h:k<rows.length) {a0:Int} (e:rows.getD k []=[.int a0]) {K:Fn (Option ρ) [.int 0]} (h2:(K:Int→Option ρ) a0=some r):zdM rows (k:Int) [.int 0] K=some r:=zwr h (by rw[e];exact h2)
theorem zGX {rows:List (List AC)}{k:Nat} (h:k<rows.length) {a0:List (List AC)} (e:rows.getD k []=[.sl 1 a0]) {K:Fn (Option ρ) [.sl 1 []]} (h2:(K:List (List AC)→Option ρ) a0=some r):zdM rows (k:Int) [.sl 1 []] K=some r:=zwr h (by rw[e];exact h2)
theorem zaZ {x:Option AV}{a0:List (List AC)} (h:x=some (.v (.agg [.sl 1 a0]))) {K:Fn (Option ρ) (za1 [(true,[.sl 1 []])])} (h2:(K:List (List AC)→Option ρ) a0=some r):zaC x false [(true,[.sl 1 []])] K=some r:=by rw[h];exact h2
theorem zsr {rows:List (List AC)}{k:Nat} (h:k<rows.length) {a0:Int}{a1:Int}{a2:List (List AC)} (e:rows.getD k []=[.int a0,.int a1,.sl 1 a2]) {K:Fn (Option ρ) [.int 0,.int 0,.sl 1 []]} (h2:(K:Int→Int→List (List AC)→Option ρ) a0 a1 a2=some r):zdM rows (k:Int) [.int 0,.int 0,.sl 1 []] K=some r:=zwr h (by rw[e];exact h2)
theorem zbu {rows:List (List AC)}{k:Nat} (h:k<rows.length) {a0:Int}{a1:Int}{a2:List (List AC)} (e:rows.getD k []=[.int a0,.int a1,.sl 3 a2]) {K:Fn (Option ρ) [.int 0,.int 0,.sl 3 []]} (h2:(K:Int→Int→List (List AC)→Option ρ) a0 a1 a2=some r):zdM rows (k:Int) [.int 0,.int 0,.sl 3 []] K=some r:=zwr h (by rw[e];exact h2)
theorem zeD {rows:List (List AC)} (h:0<rows.length) {a0:Int}{a1:Int}{a2:List (List AC)} (e:rows.getD 0 []=[.int a0,.int a1,.sl 3 a2]) {K:Fn (Option ρ) [.int 0,.int 0,.sl 3 []]} (h2:(K:Int→Int→List (List AC)→Option ρ) a0 a1 a2=some r):zdM rows 0 [.int 0,.int 0,.sl 3 []] K=some r:=zbu h e h2
theorem zag {x:Option AV}{a0:Int}{a1:Int}{a2:List (List AC)} (h:x=some (.v (.agg [.int a0,.int a1,.sl 3 a2]))) {K:Fn (Option ρ) (za1 [(true,[.int 0,.int 0,.sl 3 []])])} (h2:(K:Int→Int→List (List AC)→Option ρ) a0 a1 a2=some r):zaC x false [(true,[.int 0,.int 0,.sl 3 []])] K=some r:=by rw[h];exact h2
theorem zvv {rows:List (List AC)}{k:Nat} (h:k<rows.length) {a0:List (List AC)}{a1:Int}{a2:Int}{a3:Int}{a4:List (List AC)} (e:rows.getD k []=[.sl 1 a0,.int a1,.int a2,.int a3,.sl 3 a4]) {K:Fn (Option ρ) [.sl 1 [],.int 0,.int 0,.int 0,.sl 3 []]} (h2:(K:List (List AC)→Int→Int→Int→List (List AC)→Option ρ) a0 a1 a2 a3 a4=some r):zdM rows (k:Int) [.sl 1 [],.int 0,.int 0,.int 0,.sl 3 []] K=some r:=zwr h (by rw[e];exact h2)
theorem callFunc {x:Option AV}{a0:List (List AC)}{a1:Int}{a2:Int}{a3:Int}{a4:List (List AC)} (h:x=some (.v (.agg [.sl 1 a0,.int a1,.int a2,.int a3,.sl 3 a4]))) {K:Fn (Option ρ) (za1 [(true,[.sl 1 [],.int 0,.int 0,.int 0,.sl 3 []])])} (h2:(K:List (List AC)→Int→Int→Int→List (List AC)→Option ρ) a0 a1 a2 a3 a4=some r):zaC x false [(true,[.sl 1 [],.int 0,.int 0,.int 0,.sl 3 []])] K=some r:=by rw[h];exact h2
theorem za9 {xs:List Int}{k:Nat} (h:k<xs.length) {K:Fn (Option ρ) [.int 0]} (h2:(K:Int→Option ρ) xs[k]=some r):zdM (zad xs) (k:Int) [.int 0] K=some r:=zHJ (by rw[zab];exact h) (zzv h) h2
end
inductive Ty where
 | con
 | decl
 | expr
 | func
 | prog
 | step
 | block
 | routine
 | normal
 | cell
 | instr
 | proc
 | image
 | frame
 | state
inductive Fit:Ty→List AC→Prop
 | con (fs:List Int) (h:zdv fs):Fit .con [.sl 1 (zad fs)]
 | decl (f t:Int) (cons:List (List AC)) (hf:inI f) (ht:inI t) (hl:cons.length≤zaI) (h:∀c∈cons,Fit .con c):Fit .decl [.int f,.int t,.sl 1 cons]
 | expr (o n:Int) (kids:List (List AC)) (ho:inI o) (hn:inI n) (hl:kids.length≤zaI) (h:∀c∈kids,Fit .expr c):Fit .expr [.int o,.int n,.sl 3 kids]
 | func (ps:List Int) (r o n:Int) (kids:List (List AC)) (hp:zdv ps) (hr:inI r) (h:Fit .expr [.int o,.int n,.sl 3 kids]):Fit .func [.sl 1 (zad ps),.int r,.int o,.int n,.sl 3 kids]
 | prog (ds fs:List (List AC)) (hd:ds.length≤zaI) (hf:fs.length≤zaI) (h1:∀d∈ds,Fit .decl d) (h2:∀f∈fs,Fit .func f):Fit .prog [.sl 3 ds,.sl 5 fs]
 | step (o n i:Int) (args:List Int) (kids:List (List AC)) (ho:inI o) (hn:inI n) (hi:inI i) (ha:zdv args) (hl:kids.length≤zaI) (h:∀b∈kids,Fit .block b):Fit .step [.int o,.int n,.int i,.sl 1 (zad args),.sl 2 kids]
 | block (steps:List (List AC)) (r:Int) (hr:inI r) (hl:steps.length≤zaI) (h:∀s∈steps,Fit .step s):Fit .block [.sl 5 steps,.int r]
 | routine (ps lent:List Int) (r:Int) (steps:List (List AC)) (x:Int) (hp:zdv ps) (hl:zdv lent) (hr:inI r) (h:Fit .block [.sl 5 steps,.int x]):Fit .routine [.sl 1 (zad ps),.sl 1 (zad lent),.int r,.sl 5 steps,.int x]
 | normal (ds rs:List (List AC)) (hd:ds.length≤zaI) (hr:rs.length≤zaI) (h1:∀d∈ds,Fit .decl d) (h2:∀r∈rs,Fit .routine r):Fit .normal [.sl 3 ds,.sl 5 rs]
 | cell (c t:Int) (fs:List Int) (hc:inI c) (ht:inI t) (h:zdv fs):Fit .cell [.int c,.int t,.sl 1 (zad fs)]
 | instr (o d n i:Int) (args jumps:List Int) (ho:inI o) (hd:inI d) (hn:inI n) (hi:inI i) (ha:zdv args) (hj:zdv jumps):Fit .instr [.int o,.int d,.int n,.int i,.sl 1 (zad args),.sl 1 (zad jumps)]
 | proc (ps lent:List Int) (r regs:Int) (code:List (List AC)) (hp:zdv ps) (hl:zdv lent) (hr:inI r) (hg:inI regs) (hc:code.length≤zaI) (h:∀x∈code,Fit .instr x):Fit .proc [.sl 1 (zad ps),.sl 1 (zad lent),.int r,.int regs,.sl 6 code]
 | image (ds procs:List (List AC)) (hd:ds.length≤zaI) (hp:procs.length≤zaI) (h1:∀d∈ds,Fit .decl d) (h2:∀p∈procs,Fit .proc p):Fit .image [.sl 3 ds,.sl 5 procs]
 | frame (p a d:Int) (regs own held:List Int) (hp:inI p) (ha:inI a) (hd:inI d) (h1:zdv regs) (h2:zdv own) (h3:zdv held):Fit .frame [.int p,.int a,.int d,.sl 1 (zad regs),.sl 1 (zad own),.sl 1 (zad held)]
 | state (s v c m:Int) (out:List Int) (heap frames:List (List AC)) (hs:inI s) (hv:inI v) (hc:inI c) (hm:inI m) (ho:zdv out) (hh:heap.length≤zaI) (hf:frames.length≤zaI) (h1:∀x∈heap,Fit .cell x) (h2:∀x∈frames,Fit .frame x):Fit .state [.int s,.int v,.int c,.int m,.sl 1 (zad out),.sl 3 heap,.sl 6 frames]
theorem zaE {α:Type}{l:List α}{k:Nat} (h:k<l.length) (d:α):l.getD k d∈l:=by simp[List.getD,List.getElem?_eq_getElem h]
end
section
end
section
open Go
abbrev rB (b:Bool):Option AV:=some (.v (.cell (.bool b)))
abbrev rI (n:Int):Option AV:=some (.v (.cell (.int n)))
abbrev rL (xs:List Int):Option AV:=some (.v (.cell (.sl 1 (zad xs))))
structure DM where
 f:Int
 t:Int
 cs:List (List Int)
 deriving Inhabited
def zDl (c:List Int):List AC:=[.sl 1 (zad c)]
def zbZ (cs:List (List Int)):List (List AC):=cs.map zDl
def zl5 (d:DM):List AC:=[.int d.f,.int d.t,.sl 1 (zbZ d.cs)]
def zaf (D:List DM):List (List AC):=D.map zl5
structure DOk (d:DM):Prop where
 f:inI d.f
 t:inI d.t
 len:d.cs.length≤zaI
 cs:∀c∈d.cs,zdv c
theorem zwV:∀{cs:List (List AC)},(∀c∈cs,Fit .con c)→∃C,cs=zbZ C∧∀c∈C,zdv c
 | [],_=>⟨[],rfl,fun c h=>by cases h⟩
 | c::cs,h=>by
  obtain⟨C,rfl,hC⟩:=zwV fun x hx=>h x (List.mem_cons_of_mem _ hx)
  have h0:=h c List.mem_cons_self
  generalize ht:Ty.con=t at h0
  cases h0 with
  | con fs hf =>
   refine⟨fs::C,rfl,fun c hc=>?_⟩
   rcases List.mem_cons.1 hc with rfl|hc
   ·exact hf
   ·exact hC c hc
  | _=>cases ht
theorem zwB:∀{ds:List (List AC)},(∀d∈ds,Fit .decl d)→∃D,ds=zaf D∧∀d∈D,DOk d
 | [],_=>⟨[],rfl,fun c h=>by cases h⟩
 | d::ds,h=>by
  obtain⟨D,rfl,hD⟩:=zwB fun x hx=>h x (List.mem_cons_of_mem _ hx)
  have h0:=h d List.mem_cons_self
  generalize ht:Ty.decl=t at h0
  cases h0 with
  | decl f t' cons hf ht' hl hc =>
   obtain⟨C,rfl,hC⟩:=zwV hc;refine⟨⟨f,t',C⟩::D,rfl,fun x hx=>?_⟩
   rcases List.mem_cons.1 hx with rfl|hx
   ·exact⟨hf,ht',by simpa [zbZ] using hl,hC⟩
   ·exact hD x hx
  | _=>cases ht
theorem zaU (D:List DM):(zaf D).length=D.length:=by simp[zaf]
theorem zaK (C:List (List Int)):(zbZ C).length=C.length:=by simp[zbZ]
def gD (D:List DM) (k:Nat):DM:=D.getD k default
theorem zy3 {D:List DM}{k:Nat} (h:k<D.length):(zaf D).getD k []=[.int (gD D k).f,.int (gD D k).t,.sl 1 (zbZ (gD D k).cs)]:=by simp[zaf,List.getD,h,gD,zl5]
theorem zzN {C:List (List Int)}{k:Nat} (h:k<C.length):(zbZ C).getD k []=[.sl 1 (zad (C.getD k []))]:=by simp[zbZ,List.getD,h,zDl]
theorem zBf {D:List DM}{k:Nat} (h:k<D.length):gD D k∈D:=zaE h _
section
variable {ρ:Type}{r:ρ}
theorem za5 {D:List DM}{i:Int}{k:Nat} (hi:i=(k:Int)) (h:k<D.length) {K:Fn (Option ρ) [.int 0,.int 0,.sl 1 []]} (h2:(K:Int→Int→List (List AC)→Option ρ) (gD D k).f (gD D k).t (zbZ (gD D k).cs)=some r):zdM (zaf D) i [.int 0,.int 0,.sl 1 []] K=some r:=by
 subst hi;exact zsr (by rw[zaU];exact h) (zy3 h) h2
theorem zhP {C:List (List Int)}{i:Int}{k:Nat} (hi:i=(k:Int)) (h:k<C.length) {K:Fn (Option ρ) [.sl 1 []]} (h2:(K:List (List AC)→Option ρ) (zad (C.getD k []))=some r):zdM (zbZ C) i [.sl 1 []] K=some r:=by
 subst hi;exact zGX (by rw[zaK];exact h) (zzN h) h2
theorem zjV {xs:List Int}{i:Int}{k:Nat} (hi:i=(k:Int)) (h:k<xs.length) {K:Fn (Option ρ) [.int 0]} (h2:(K:Int→Option ρ) (xs.getD k 0)=some r):zdM (zad xs) i [.int 0] K=some r:=by
 subst hi;refine za9 h ?_
 simpa [List.getD,h] using h2
end
theorem zjN {α:Type}{l:List α}{k:Nat} (h:k<l.length) (p:α→Bool):(l.drop k).all p=(p l[k]&&(l.drop (k+1)).all p):=by rw[List.drop_eq_getElem_cons h,List.all_cons]
theorem zA9 {α:Type}{l:List α}{k:Nat} (h:k<l.length) (p:α→Bool):(l.drop k).any p=(p l[k]||(l.drop (k+1)).any p):=by rw[List.drop_eq_getElem_cons h,List.any_cons]
theorem zl3 {D:List DM}{k:Nat} (h:k<D.length):D[k]=gD D k:=by simp[gD,List.getD,h]
theorem nz {n:Nat} (h:n≠0):(((n:Nat):Int)==0)=false:=by simp[h]
theorem zr {n:Nat} (h:n=0):(((n:Nat):Int)==0)=true:=by simp[h]
theorem eqt {a b:Int} (h:a=b):(a==b)=true:=by simp[h]
theorem eqf {a b:Int} (h:a≠b):(a==b)=false:=by simp[h]
theorem net {a b:Int} (h:a≠b):(a != b)=true:=by simp[h]
theorem nef {a b:Int} (h:a=b):(a != b)=false:=by simp[h]
def zed (D:List DM) (t:Int):Bool:=decide (0≤t)&&decide (t≤D.length)
def zxt (D:List DM) (t:Int):Bool:=decide (0<t)&&(zed D t&&decide (0<(gD D (t.toNat-1)).cs.length))
def zoi (D:List DM) (t:Int):Bool:=decide (0<t)&&(zed D t&&((gD D (t.toNat-1)).cs.length==0))
def zw8 (f t:Int) (d:DM):Bool:=(d.cs.length==0)&&(d.f==f&&d.t==t)
def zh4 (f t:Int):List DM→Nat→Int
 | [],_=>-1
 | d::ds,k=>if zw8 f t d then((k+1:Nat):Int) else zh4 f t ds (k+1)
def zlt (D:List DM) (c:List Int):Bool:=decide (c.length≤3)&&c.all (zed D)
def zmo (D:List DM) (k:Nat):Bool :=
 if 0<(gD D k).cs.length then decide ((gD D k).cs.length≤3)&&(((gD D k).f==0)&&(((gD D k).t==0)&&(gD D k).cs.all (zlt D)))
 else zed D (gD D k).f&&(zed D (gD D k).t&&!(D.take k).any (zw8 (gD D k).f (gD D k).t))
def zfJ (D:List DM):Bool:=decide (D.length≤4)&&(List.range D.length).all (zmo D)
theorem zlm (D:List DM) (t:Int):zdP [.cell (.sl 3 (zaf D)),.cell (.int t)]=rB (zed D t):=by
 refine zsa ?_
 by_cases h:0≤t
 ·exact zac (decide_eq_true h) (by simp[zed,h,zaU])
 ·exact zaa (decide_eq_false h) (by simp[zed,h])
theorem zdF (n lo hi:Int):zbo [.cell (.int n),.cell (.int lo),.cell (.int hi)]=rB (decide (lo≤n)&&decide (n≤hi)):=by
 refine zqR ?_
 by_cases h:lo≤n
 ·exact zac (decide_eq_true h) (by simp[h])
 ·exact zaa (decide_eq_false h) (by simp[h])
theorem zu1 (D:List DM) (t:Int):zbo [.cell (.int t),.cell (.int 0),.cell (.int (((zaf D).length:Nat):Int))]=rB (zed D t):=by
 rw[zdF,zaU];rfl
theorem zlK (D:List DM) (xs:List Int) (hx:xs.length≤zaI):zfx [.cell (.sl 3 (zaf D)),.cell (.sl 1 (zad xs))]=rB (xs.all (zed D)):=by
 have key:∀m k:Nat,k+m=xs.length→zfd (zaf D) (zad xs) (((zad xs).length:Nat):Int) (k:Int)=rB ((xs.drop k).all (zed D)):=by
  intro m;induction m with
  | zero=>intro k hk;exact zi9 (zaa (decide_eq_false (by rw[zab];omega)) (by rw[List.drop_eq_nil_of_le (by omega)];rfl))
  | succ m ih =>
   intro k hk;have hlt:k<xs.length:=by omega
   rw[zjN hlt];refine zi9 (zac (decide_eq_true (by rw[zab];omega)) (za9 hlt (zan (zlm D _) ?_)))
   rcases zed D xs[k] with _|_
   ·exact zac rfl rfl
   ·exact zaa rfl (by rw[wrk (by omega)];exact ih (k+1) (by omega))
 exact zp2 (key xs.length 0 (by omega))
theorem zrZ (D:List DM) (xs:List Int) (hx:xs.length≤zaI):zhW [.cell (.sl 3 (zaf D)),.cell (.sl 1 (zad xs))]=rB (xs.all (zed D)):=by
 have key:∀m k:Nat,k+m=xs.length→ze1 (zaf D) (zad xs) (k:Int)=rB ((xs.drop k).all (zed D)):=by
  intro m;induction m with
  | zero=>intro k hk;exact zjb (zaa (decide_eq_false (by rw[zab];omega)) (by rw[List.drop_eq_nil_of_le (by omega)];rfl))
  | succ m ih =>
   intro k hk;have hlt:k<xs.length:=by omega
   rw[zjN hlt];refine zjb (zac (decide_eq_true (by rw[zab];omega)) (za9 hlt (zan (zu1 D _) ?_)))
   rcases zed D xs[k] with _|_
   ·exact zac rfl rfl
   ·exact zaa rfl (by rw[wrk (by omega)];exact ih (k+1) (by omega))
 exact zpZ (key xs.length 0 (by omega))
theorem hit_cases {f t:Int}{d:DM}:zw8 f t d=true↔d.cs.length=0∧d.f=f∧d.t=t:=by simp[zw8]
theorem zyQ (D:List DM) (hD:D.length≤1000) (f t:Int):zez [.cell (.sl 3 (zaf D)),.cell (.int f),.cell (.int t)]=rI (zh4 f t D 0):=by
 have key:∀m k:Nat,k+m=D.length→zbR f t (zaf D) (((zaf D).length:Nat):Int) (k:Int)=rI (zh4 f t (D.drop k) k):=by
  intro m;induction m with
  | zero=>intro k hk;exact zgb (zaa (decide_eq_false (by rw[zaU];omega)) (by rw[List.drop_eq_nil_of_le (by omega)];rfl))
  | succ m ih =>
   intro k hk;have hlt:k<D.length:=by omega
   have w1:zae ((k:Int)+1)=((k+1:Nat):Int):=wrk (by unfold zaI;omega)
   have nx:=ih (k+1) (by omega)
   rw[List.drop_eq_getElem_cons hlt,zl3 hlt];refine zgb (zac (decide_eq_true (by rw[zaU];omega)) (za5 rfl hlt ?_))
   rw[zaK,w1];by_cases h1:(gD D k).cs.length=0
   ·refine zac (by simp[h1]) ?_
    by_cases h2:(gD D k).f=f
    ·refine zac (by simp[h2]) ?_
     by_cases h3:(gD D k).t=t
     ·exact zac (by simp[h3]) (by rw[zh4,if_pos (hit_cases.2 ⟨h1,h2,h3⟩)])
     ·exact zaa (by simp[h3]) (by rw[zh4,if_neg (fun h=>h3 (hit_cases.1 h).2.2)];exact nx)
    ·exact zaa (by simp[h2]) (by rw[zh4,if_neg (fun h=>h2 (hit_cases.1 h).2.1)];exact nx)
   ·exact zaa (nz h1) (by rw[zh4,if_neg (fun h=>h1 (hit_cases.1 h).1)];exact nx)
 exact zmV (key D.length 0 (by omega))
theorem zvP (D:List DM) (hD:D.length≤1000) (f t:Int):zjh [.cell (.sl 3 (zaf D)),.cell (.int f),.cell (.int t)]=rI (zh4 f t D 0):=by
 have key:∀m k:Nat,k+m=D.length→zc4 (zaf D) f t (k:Int)=rI (zh4 f t (D.drop k) k):=by
  intro m;induction m with
  | zero=>intro k hk;exact zkr (zaa (decide_eq_false (by rw[zaU];omega)) (by rw[List.drop_eq_nil_of_le (by omega)];rfl))
  | succ m ih =>
   intro k hk;have hlt:k<D.length:=by omega
   have w1:zae ((k:Int)+1)=((k+1:Nat):Int):=wrk (by unfold zaI;omega)
   have nx:=ih (k+1) (by omega)
   rw[List.drop_eq_getElem_cons hlt,zl3 hlt];refine zkr (zac (decide_eq_true (by rw[zaU];omega)) (za5 rfl hlt ?_))
   rw[zaK,w1];by_cases h1:(gD D k).cs.length=0
   ·refine zac (by simp[h1]) (za5 rfl hlt ?_)
    by_cases h2:(gD D k).f=f
    ·refine zac (by simp[h2]) (za5 rfl hlt ?_)
     by_cases h3:(gD D k).t=t
     ·exact zac (by simp[h3]) (by rw[zh4,if_pos (hit_cases.2 ⟨h1,h2,h3⟩)])
     ·exact zaa (by simp[h3]) (by rw[zh4,if_neg (fun h=>h3 (hit_cases.1 h).2.2)];exact nx)
    ·exact zaa (by simp[h2]) (by rw[zh4,if_neg (fun h=>h2 (hit_cases.1 h).2.1)];exact nx)
   ·exact zaa (nz h1) (by rw[zh4,if_neg (fun h=>h1 (hit_cases.1 h).1)];exact nx)
 exact zra (key D.length 0 (by omega))
theorem zw0 (f t:Int):∀(D:List DM) (k:Nat),decide (zh4 f t D k<0)=!D.any (zw8 f t)
 | [],k=>by simp[zh4]
 | d::D,k=>by
  unfold zh4;rw[List.any_cons];cases h:zw8 f t d
  ·simpa using zw0 f t D (k+1)
  ·simp;omega
theorem zwn (D:List DM) (C:List (List Int)) (hC:∀c∈C,zdv c) (hl:C.length≤zaI):zj3 [.cell (.sl 3 (zaf D)),.cell (.sl 1 (zbZ C))]=rB (decide (C.length≤3)&&C.all (zlt D)):=by
 have key:∀m k:Nat,k+m=C.length→zer (zaf D) (zbZ C) (((zbZ C).length:Nat):Int) (k:Int)=rB ((C.drop k).all (zlt D)):=by
  intro m;induction m with
  | zero=>intro k hk;exact zig (zaa (decide_eq_false (by rw[zaK];omega)) (by rw[List.drop_eq_nil_of_le (by omega)];rfl))
  | succ m ih =>
   intro k hk;have hlt:k<C.length:=by omega
   have hc:=hC _ (zaE hlt [])
   rw[zjN hlt,show C[k]=C.getD k [] by simp[List.getD,hlt]]
   refine zig (zac (decide_eq_true (by rw[zaK];omega)) (zhP rfl hlt ?_))
   rw[zab];by_cases h3:(C.getD k []).length≤3
   ·refine zaa (decide_eq_false (by omega)) (zan (zlK D _ hc.len) ?_)
    have e:zlt D (C.getD k [])=(C.getD k []).all (zed D):=by unfold zlt;rw[decide_eq_true h3,Bool.true_and]
    rw[e];rcases(C.getD k []).all (zed D) with _|_
    ·exact zac rfl rfl
    ·exact zaa rfl (by rw[wrk (by omega)];exact ih (k+1) (by omega))
   ·refine zac (decide_eq_true (by omega)) ?_
    have e:zlt D (C.getD k [])=false:=by unfold zlt;rw[decide_eq_false h3];rfl
    rw[e];rfl
 refine zo0 ?_
 rw[zaK];by_cases h:C.length≤3
 ·refine zaa (decide_eq_false (by omega)) ?_
  have:=key C.length 0 (by omega)
  rw[zaK] at this
  simpa [h] using this
 ·exact zac (decide_eq_true (by omega)) (by simp[h])
theorem zsL (D:List DM) (k:Nat):(zaf D).take k=zaf (D.take k):=by simp[zaf]
theorem zwC (D:List DM) (hD:∀d∈D,DOk d) (hl:D.length≤1000) (k:Nat) (hk:k<D.length):zjK [.cell (.sl 3 (zaf D)),.cell (.int (k:Int))]=rB (zmo D k):=by
 have hd:=hD _ (zBf hk)
 refine zoA (za5 rfl hk ?_)
 rw[zaK];unfold zmo;by_cases h0:0<(gD D k).cs.length
 ·refine zac (decide_eq_true (by omega)) ?_
  rw[if_pos h0];by_cases h1:(gD D k).f=0
  ·refine zac (by simp[h1]) ?_
   by_cases h2:(gD D k).t=0
   ·exact zac (by simp[h2]) (zan (zwn D _ hd.cs hd.len) (by rw[h1,h2];simp only[beq_self_eq_true,Bool.true_and];rfl))
   ·exact zaa (by simp[h2]) (by simp[h2])
  ·exact zaa (by simp[h1]) (by simp[h1])
 ·refine zaa (decide_eq_false (by omega)) (zan (zlm D _) ?_)
  rw[if_neg h0];rcases zed D (gD D k).f with _|_
  ·exact zaa rfl rfl
  ·refine zac rfl (zan (zlm D _) ?_)
   rcases zed D (gD D k).t with _|_
   ·exact zaa rfl rfl
   ·refine zac rfl (zyS (by omega) (by omega) (by rw[zaU];omega) ?_)
    rw[show(((zaf D).drop (0:Int).toNat).take ((k:Int).toNat-(0:Int).toNat))=zaf (D.take k) by simp[zsL]]
    refine zar (zyQ _ (by rw[List.length_take];omega) _ _) ?_
    rw[zw0];rfl
theorem zwo (D:List DM) (hD:∀d∈D,DOk d) (hl:D.length≤1000) (k:Nat) (hk:k<D.length):zkw [.cell (.sl 3 (zaf D)),.cell (.int (k:Int))]=rB (zmo D k):=by
 have hd:=hD _ (zBf hk)
 have key1:∀m j:Nat,j+m=(gD D k).cs.length→zeo (zaf D) (gD D k).f (gD D k).t (zbZ (gD D k).cs) (j:Int)=rB (((gD D k).cs.drop j).all (zlt D)):=by
  intro m;induction m with
  | zero=>intro j hj;exact zh1 (zaa (decide_eq_false (by rw[zaK];omega)) (by rw[List.drop_eq_nil_of_le (by omega)];rfl))
  | succ m ih =>
   intro j hj;have hlt:j<(gD D k).cs.length:=by omega
   have hc:=hd.cs _ (zaE hlt [])
   have hlen:=hd.len
   rw[zjN hlt,show(gD D k).cs[j]=(gD D k).cs.getD j [] by simp[List.getD,hlt]]
   refine zh1 (zac (decide_eq_true (by rw[zaK];omega)) (zhP rfl hlt ?_))
   rw[zab];by_cases h3:((gD D k).cs.getD j []).length≤3
   ·refine zaa (decide_eq_false (by omega)) (zhP rfl hlt (zan (zrZ D _ hc.len) ?_))
    have e:zlt D ((gD D k).cs.getD j [])=((gD D k).cs.getD j []).all (zed D):=by unfold zlt;rw[decide_eq_true h3,Bool.true_and]
    rw[e];rcases((gD D k).cs.getD j []).all (zed D) with _|_
    ·exact zac rfl rfl
    ·exact zaa rfl (by rw[wrk (by omega)];exact ih (j+1) (by omega))
   ·refine zac (decide_eq_true (by omega)) ?_
    have e:zlt D ((gD D k).cs.getD j [])=false:=by unfold zlt;rw[decide_eq_false h3];rfl
    rw[e];rfl
 have key2:∀m j:Nat,j+m=k→zcp (zaf D) (k:Int) (gD D k).f (gD D k).t (zbZ (gD D k).cs) (j:Int)=rB (!((D.take k).drop j).any (zw8 (gD D k).f (gD D k).t)&&(zed D (gD D k).f&&zed D (gD D k).t)):=by
  intro m;induction m with
  | zero =>
   intro j hj;refine zij (zaa (decide_eq_false (by omega)) (zan (zu1 D _) ?_))
   rw[List.drop_eq_nil_of_le (by rw[List.length_take];omega)]
   rcases zed D (gD D k).f with _|_
   ·exact zaa rfl rfl
   ·refine zac rfl (zan (zu1 D _) ?_)
    simp
    rfl
  | succ m ih =>
   intro j hj;have hlt:j<D.length:=by omega
   have hlt':j<(D.take k).length:=by rw[List.length_take];omega
   have w1:zae ((j:Int)+1)=((j+1:Nat):Int):=wrk (by unfold zaI;omega)
   have nx:=ih (j+1) (by omega)
   rw[zA9 hlt',show(D.take k)[j]=gD D j by rw[List.getElem_take,zl3 hlt]]
   refine zij (zac (decide_eq_true (by omega)) (za5 rfl hlt ?_))
   rw[zaK,w1];by_cases h1:(gD D j).cs.length=0
   ·refine zac (by simp[h1]) (za5 rfl hlt ?_)
    by_cases h2:(gD D j).f=(gD D k).f
    ·refine zac (by simp[h2]) (za5 rfl hlt ?_)
     by_cases h3:(gD D j).t=(gD D k).t
     ·refine zac (by simp[h3]) ?_
      rw[hit_cases.2 ⟨h1,h2,h3⟩];rfl
     ·refine zaa (by simp[h3]) ?_
      rw[Bool.eq_false_iff.2 (fun h=>h3 (hit_cases.1 h).2.2)]
      exact nx
    ·refine zaa (by simp[h2]) ?_
     rw[Bool.eq_false_iff.2 (fun h=>h2 (hit_cases.1 h).2.1)]
     exact nx
   ·refine zaa (nz h1) ?_
    rw[Bool.eq_false_iff.2 (fun h=>h1 (hit_cases.1 h).1)]
    exact nx
 refine zoW (za5 rfl hk ?_)
 rw[zaK];unfold zmo;by_cases h0:0<(gD D k).cs.length
 ·refine zac (decide_eq_true (by omega)) ?_
  rw[if_pos h0];by_cases h3:(gD D k).cs.length≤3
  ·refine zaa (decide_eq_false (by omega)) ?_
   by_cases h1:(gD D k).f=0
   ·refine zaa (by simp[h1]) ?_
    by_cases h2:(gD D k).t=0
    ·refine zaa (by simp[h2]) ?_
     have:=key1 (gD D k).cs.length 0 (by omega)
     simpa [h1,h2,h3] using this
    ·exact zac (by simp[h2]) (by simp[h2])
   ·exact zac (by simp[h1]) (by simp[h1])
  ·exact zac (decide_eq_true (by omega)) (by simp[h3])
 ·refine zaa (decide_eq_false (by omega)) ?_
  rw[if_neg h0];have:=key2 k 0 (by omega)
  rw[List.drop_zero] at this;refine Eq.trans this ?_
  rcases(List.take k D).any (zw8 (gD D k).f (gD D k).t) with _|_ <;> rcases zed D (gD D k).f with _|_ <;> rcases zed D (gD D k).t with _|_ <;> rfl
theorem zl8 {n k:Nat} (h:k<n) (p:Nat→Bool):((List.range n).drop k).all p=(p k&&((List.range n).drop (k+1)).all p):=by
 rw[zjN (by simpa using h)]
 simp
theorem zvu (D:List DM) (hD:∀d∈D,DOk d) (hlen:D.length≤zaI):ziA [.cell (.sl 3 (zaf D))]=rB (zfJ D):=by
 refine znV ?_
 rw[zaU];by_cases h4:D.length≤4
 ·refine zaa (decide_eq_false (by omega)) ?_
  have key:∀m k:Nat,k+m=D.length→zdY (zaf D) ((D.length:Nat):Int) (k:Int)=rB (((List.range D.length).drop k).all (zmo D)):=by
   intro m;induction m with
   | zero=>intro k hk;exact zhg (zaa (decide_eq_false (by omega)) (by rw[List.drop_eq_nil_of_le (by simp;omega)];rfl))
   | succ m ih =>
    intro k hk;rw[zl8 (by omega)]
    refine zhg (zac (decide_eq_true (by omega)) (zan (zwC D hD (by omega) k (by omega)) ?_))
    rcases zmo D k with _|_
    ·exact zac rfl rfl
    ·exact zaa rfl (by rw[wrk (by unfold zaI;omega)];exact ih (k+1) (by omega))
  have:=key D.length 0 (by omega)
  simpa [zfJ,h4] using this
 ·exact zac (decide_eq_true (by omega)) (by simp[zfJ,h4])
theorem zuZ (D:List DM) (hD:∀d∈D,DOk d) (hlen:D.length≤zaI):ziC [.cell (.sl 3 (zaf D))]=rB (zfJ D):=by
 refine znZ ?_
 rw[zaU];by_cases h4:D.length≤4
 ·refine zaa (decide_eq_false (by omega)) ?_
  have key:∀m k:Nat,k+m=D.length→zdW (zaf D) (k:Int)=rB (((List.range D.length).drop k).all (zmo D)):=by
   intro m;induction m with
   | zero=>intro k hk;exact zhd (zaa (decide_eq_false (by rw[zaU];omega)) (by rw[List.drop_eq_nil_of_le (by simp;omega)];rfl))
   | succ m ih =>
    intro k hk;rw[zl8 (by omega)]
    refine zhd (zac (decide_eq_true (by rw[zaU];omega)) (zan (zwo D hD (by omega) k (by omega)) ?_))
    rcases zmo D k with _|_
    ·exact zac rfl rfl
    ·exact zaa rfl (by rw[wrk (by unfold zaI;omega)];exact ih (k+1) (by omega))
  have:=key D.length 0 (by omega)
  simpa [zfJ,h4] using this
 ·exact zac (decide_eq_true (by omega)) (by simp[zfJ,h4])
end
section
open Go
end
end Go.Proofs.YtkgbadeobdbinaaGreat
