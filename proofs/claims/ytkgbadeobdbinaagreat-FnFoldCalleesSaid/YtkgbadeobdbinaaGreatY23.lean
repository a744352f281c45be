/- Generic texts and models for the proofs of this seat: part 23. -/
import Derived.Test.YtkgbadeobdbinaaGreatY22
import Derived.Test.YtkgbadeobdbinaaGreatRows
set_option linter.unusedVariables false
set_option linter.unusedSimpArgs false
namespace Go.Proofs.YtkgbadeobdbinaaGreat
section
def zpn:Char:=Char.ofNat 32
def zrc:List Char:=[Char.ofNat 104,Char.ofNat 97,Char.ofNat 114,Char.ofNat 110,Char.ofNat 101,Char.ofNat 115,Char.ofNat 115]
def zva:List Char:=[Char.ofNat 51,Char.ofNat 100,Char.ofNat 48,Char.ofNat 52,Char.ofNat 50,Char.ofNat 53,Char.ofNat 101,Char.ofNat 54,Char.ofNat 55,Char.ofNat 55,Char.ofNat 54,Char.ofNat 54,Char.ofNat 56,Char.ofNat 52,Char.ofNat 50,Char.ofNat 98,Char.ofNat 48,Char.ofNat 55,Char.ofNat 48,Char.ofNat 54,Char.ofNat 55,Char.ofNat 98,Char.ofNat 55,Char.ofNat 48,Char.ofNat 54,Char.ofNat 56,Char.ofNat 54,Char.ofNat 48,Char.ofNat 51,Char.ofNat 49,Char.ofNat 98,Char.ofNat 52,Char.ofNat 48,Char.ofNat 99,Char.ofNat 102,Char.ofNat 48,Char.ofNat 54,Char.ofNat 99,Char.ofNat 55,Char.ofNat 53,Char.ofNat 56,Char.ofNat 54,Char.ofNat 99,Char.ofNat 99,Char.ofNat 98,Char.ofNat 102,Char.ofNat 51,Char.ofNat 52,Char.ofNat 54,Char.ofNat 101,Char.ofNat 100,Char.ofNat 55,Char.ofNat 101,Char.ofNat 56,Char.ofNat 101,Char.ofNat 56,Char.ofNat 54,Char.ofNat 98,Char.ofNat 53,Char.ofNat 99,Char.ofNat 52,Char.ofNat 98,Char.ofNat 102,Char.ofNat 100]
def zgk:List Char:=[Char.ofNat 99,Char.ofNat 117,Char.ofNat 116]
def zmd:List Char:=[Char.ofNat 97,Char.ofNat 116,Char.ofNat 32,Char.ofNat 108,Char.ofNat 111,Char.ofNat 111,Char.ofNat 112,Char.ofNat 46,Char.ofNat 101,Char.ofNat 120,Char.ofNat 97,Char.ofNat 109,Char.ofNat 112,Char.ofNat 108,Char.ofNat 101,Char.ofNat 47,Char.ofNat 114,Char.ofNat 101,Char.ofNat 102,Char.ofNat 99,Char.ofNat 111,Char.ofNat 117,Char.ofNat 110,Char.ofNat 116,Char.ofNat 109,Char.ofNat 108,Char.ofNat 47,Char.ofNat 108,Char.ofNat 97,Char.ofNat 119,Char.ofNat 115,Char.ofNat 46,Char.ofNat 70,Char.ofNat 110,Char.ofNat 75,Char.ofNat 110,Char.ofNat 111,Char.ofNat 119,Char.ofNat 110,Char.ofNat 67,Char.ofNat 97,Char.ofNat 108,Char.ofNat 108,Char.ofNat 115,Char.ofNat 84,Char.ofNat 119,Char.ofNat 105,Char.ofNat 99,Char.ofNat 101,Char.ofNat 32,Char.ofNat 108,Char.ofNat 111,Char.ofNat 111,Char.ofNat 112,Char.ofNat 46,Char.ofNat 101,Char.ofNat 120,Char.ofNat 97,Char.ofNat 109,Char.ofNat 112,Char.ofNat 108,Char.ofNat 101,Char.ofNat 47,Char.ofNat 114,Char.ofNat 101,Char.ofNat 102,Char.ofNat 99,Char.ofNat 111,Char.ofNat 117,Char.ofNat 110,Char.ofNat 116,Char.ofNat 109,Char.ofNat 108,Char.ofNat 47,Char.ofNat 108,Char.ofNat 97,Char.ofNat 119,Char.ofNat 115,Char.ofNat 46,Char.ofNat 70,Char.ofNat 110,Char.ofNat 70,Char.ofNat 111,Char.ofNat 108,Char.ofNat 100,Char.ofNat 67,Char.ofNat 97,Char.ofNat 108,Char.ofNat 108,Char.ofNat 101,Char.ofNat 101,Char.ofNat 115,Char.ofNat 32,Char.ofNat 108,Char.ofNat 111,Char.ofNat 111,Char.ofNat 112,Char.ofNat 46,Char.ofNat 101,Char.ofNat 120,Char.ofNat 97,Char.ofNat 109,Char.ofNat 112,Char.ofNat 108,Char.ofNat 101,Char.ofNat 47,Char.ofNat 114,Char.ofNat 101,Char.ofNat 102,Char.ofNat 99,Char.ofNat 111,Char.ofNat 117,Char.ofNat 110,Char.ofNat 116,Char.ofNat 109,Char.ofNat 108,Char.ofNat 47,Char.ofNat 108,Char.ofNat 97,Char.ofNat 119,Char.ofNat 115,Char.ofNat 46,Char.ofNat 70,Char.ofNat 110,Char.ofNat 70,Char.ofNat 111,Char.ofNat 108,Char.ofNat 100,Char.ofNat 84,Char.ofNat 119,Char.ofNat 105,Char.ofNat 99,Char.ofNat 101,Char.ofNat 32,Char.ofNat 108,Char.ofNat 111,Char.ofNat 111,Char.ofNat 112,Char.ofNat 46,Char.ofNat 101,Char.ofNat 120,Char.ofNat 97,Char.ofNat 109,Char.ofNat 112,Char.ofNat 108,Char.ofNat 101,Char.ofNat 47,Char.ofNat 114,Char.ofNat 101,Char.ofNat 102,Char.ofNat 99,Char.ofNat 111,Char.ofNat 117,Char.ofNat 110,Char.ofNat 116,Char.ofNat 109,Char.ofNat 108,Char.ofNat 47,Char.ofNat 108,Char.ofNat 97,Char.ofNat 119,Char.ofNat 115,Char.ofNat 46,Char.ofNat 70,Char.ofNat 110,Char.ofNat 73,Char.ofNat 110,Char.ofNat 108,Char.ofNat 105,Char.ofNat 110,Char.ofNat 101,Char.ofNat 32,Char.ofNat 108,Char.ofNat 111,Char.ofNat 111,Char.ofNat 112,Char.ofNat 46,Char.ofNat 101,Char.ofNat 120,Char.ofNat 97,Char.ofNat 109,Char.ofNat 112,Char.ofNat 108,Char.ofNat 101,Char.ofNat 47,Char.ofNat 114,Char.ofNat 101,Char.ofNat 102,Char.ofNat 99,Char.ofNat 111,Char.ofNat 117,Char.ofNat 110,Char.ofNat 116,Char.ofNat 109,Char.ofNat 108,Char.ofNat 47,Char.ofNat 108,Char.ofNat 97,Char.ofNat 119,Char.ofNat 115,Char.ofNat 46,Char.ofNat 70,Char.ofNat 110,Char.ofNat 73,Char.ofNat 110,Char.ofNat 108,Char.ofNat 105,Char.ofNat 110,Char.ofNat 101,Char.ofNat 83,Char.ofNat 97,Char.ofNat 109,Char.ofNat 101]
theorem zvV:Tryz.prog.initOrder=String.ofList (zrc++zpn::(zva++zpn::(zgk++zpn::zmd))):=by kernel_rfl
theorem zpo:∀(a b:List Char),(∀c∈a,(c==zpn)=false)→wordsSigns (a++zpn::b)=a::wordsSigns b:=by
 intro a;induction a with
 | nil=>intro b _;rfl
 | cons c a ih =>
  intro b h;have hc:c≠zpn:=by have:=h c (by simp);simpa using this
  have hr:=ih b fun x hx=>h x (by simp[hx])
  rw[List.cons_append]
  conv=>lhs;unfold wordsSigns
  split
  ·rename_i e;cases e
  ·rename_i e;injection e with e1 _;exact absurd e1 hc
  ·rename_i c' r' _ e
   injection e with e1 e2
   subst e1 e2;rw[hr]
theorem zxb:wordsSigns Tryz.prog.initOrder.toList=zrc::zva::zgk::wordsSigns zmd:=by
 rw[zvV,String.toList_ofList,zpo _ _ (by decide),zpo _ _ (by decide),zpo _ _ (by decide)]
theorem zzc {h s:List Char}{r:List (List Char)} (hc:((h == "harness".toList||h == "ownmain".toList)&&isSumSigns s)=true):behindMainWord (h::s::r)=r:=by
 unfold behindMainWord;simp only[hc,if_true]
theorem zA9 {P:Program}{c:List Char}{rest:List (List Char)} (hb:behindMainWord (wordsSigns P.initOrder.toList)=c::rest) (hs:stripLifts liftWords (c::rest)=([],c::rest))
  (h1:(c == "gc".toList)=false) (h2:(c == "spec".toList)=false) (h3:(c == "carried".toList)=false) (h4:((some c:Option (List Char))==some "cut".toList)=true) (h5:P.laysLater=false) (h6:P.bearsReflect=false) (h7:P.doorFits []=true):P.mayEnter=true:=by
 unfold Program.mayEnter;rw[hb];simp only[hs,List.head?_cons,h1,h2,h3,h4,h5,h6,h7,Bool.or_false,Bool.false_and,Bool.not_false,Bool.or_true,Bool.and_true,List.contains_nil]
theorem zD0 {P:Program}{c:List Char}{rest:List (List Char)} (hb:behindMainWord (wordsSigns P.initOrder.toList)=c::rest)
  (h1:(c == "gc".toList)=false) (h2:(c == "spec".toList)=false) (h3:(c == "cut".toList)=true):P.make=some Make.cut:=by
 unfold Program.make;rw[hb];simp only[h1,h2,h3,Bool.true_or,Bool.or_false,Bool.false_eq_true,if_false,if_true]
theorem zkm:behindMainWord (wordsSigns Tryz.prog.initOrder.toList)=zgk::wordsSigns zmd:=by
 have hc:((zrc == "harness".toList||zrc == "ownmain".toList)&&isSumSigns zva)=true:=by as_aux_lemma=>kernel_rfl
 rw[zxb];exact zzc hc
theorem zcQ {o:String}{os:List String}{w:List Char}{ws:List (List Char)} (h:(w==o.toList)=false):stripLifts (o::os) (w::ws)=stripLifts os (w::ws):=by
 unfold stripLifts;rw[h];rw[if_neg Bool.false_ne_true];cases os <;> rfl
theorem ztv (R:List (List Char)):stripLifts liftWords (zgk::R)=([],zgk::R):=by
 unfold liftWords;rw[zcQ (o:="finals") (by as_aux_lemma=>kernel_rfl)]
 rw[zcQ (o:="reflectrows") (by as_aux_lemma=>kernel_rfl)]
 rw[zcQ (o:="leanrows") (by as_aux_lemma=>kernel_rfl)]
 rw[zcQ (o:="onebuild") (by as_aux_lemma=>kernel_rfl)]
 rw[zcQ (o:="publicsums") (by as_aux_lemma=>kernel_rfl)]
 rw[zcQ (o:="eqguard") (by as_aux_lemma=>kernel_rfl)]
 rw[zcQ (o:="ownunsafe") (by as_aux_lemma=>kernel_rfl)]
 rw[zcQ (o:="libbeside") (by as_aux_lemma=>kernel_rfl)]
 rw[zcQ (o:="ownbeside") (by as_aux_lemma=>kernel_rfl)]
 rw[zcQ (o:="reflbeside") (by as_aux_lemma=>kernel_rfl)]
 rw[zcQ (o:="aliases") (by as_aux_lemma=>kernel_rfl)]
 rw[zcQ (o:="afterinit") (by as_aux_lemma=>kernel_rfl)]
 rw[zcQ (o:="crcplain") (by as_aux_lemma=>kernel_rfl)]
 rw[zcQ (o:="roadunsafe") (by as_aux_lemma=>kernel_rfl)]
 rw[zcQ (o:="fmthandon") (by as_aux_lemma=>kernel_rfl)]
 rfl
theorem zE9:(zgk == "cut".toList)=true:=by kernel_rfl
theorem zBh:(zgk == "gc".toList)=false:=by kernel_rfl
theorem zvJ:(zgk == "spec".toList)=false:=by kernel_rfl
theorem zvD:(zgk == "carried".toList)=false:=by kernel_rfl
theorem zvW:((some zgk:Option (List Char))==some "cut".toList)=true:=by kernel_rfl
theorem zvg:((some zgk:Option (List Char))==some "carried".toList)=false:=by kernel_rfl
theorem zy3:Tryz.prog.laysLater=false:=by kernel_rfl
theorem zvf:Tryz.prog.bearsReflect=false:=by kernel_rfl
theorem zyW:Tryz.prog.doorFits []=true:=by kernel_rfl
theorem zsj:Tryz.prog.mayEnter=true:=zA9 zkm (ztv _) zBh zvJ zvD zvW zy3 zvf zyW
theorem zxu:Tryz.prog.headLifts=[]:=by
 unfold Program.headLifts;rw[zkm,ztv];generalize wordsSigns zmd=R
 simp only[List.head?_cons,zvW,if_true]
theorem zqj:((false:Bool)==Tryz.prog.liftsFinal)=true:=by
 unfold Program.liftsFinal;rw[zkm,zxu];generalize wordsSigns zmd=R
 simp only[List.head?_cons,zvg,Bool.false_and,Bool.false_or,List.contains_nil];rfl
theorem ztQ:(Tryz.prog.make==some Make.cut)=true:=by
 rw[zD0 zkm zBh zvJ zE9];rfl
end
section
open Go
def acS:AC→Nat
 | .int _=>0
 | .bool _=>0
 | .sl _ rows=>rows.length+rsS rows
where
 rsS:List (List AC)→Nat
  | []=>0
  | r::rs=>cS r+rsS rs
 cS:List AC→Nat
  | []=>0
  | c::cs=>acS c+cS cs
abbrev cS:=acS.cS
abbrev rsS:=acS.rsS
theorem zFJ:cS []=0:=by simp[cS,acS.cS]
theorem zB7 (n:Int) (cs:List AC):cS (.int n::cs)=cS cs:=by simp[cS,acS.cS,acS]
theorem zGX (k:Nat) (r:List (List AC)) (cs:List AC):cS (.sl k r::cs)=r.length+rsS r+cS cs:=by simp[cS,acS.cS,acS,rsS]
theorem zaR:rsS []=0:=by simp[rsS,acS.rsS]
theorem za6 (r:List AC) (rs:List (List AC)):rsS (r::rs)=cS r+rsS rs:=by simp[rsS,acS.rsS,cS]
theorem zvF {rs:List (List AC)}{k:Nat} (h:k<rs.length):rsS (rs.drop k)=cS (rs.getD k [])+rsS (rs.drop (k+1)):=by
 rw[List.drop_eq_getElem_cons h,za6];simp[List.getD,h]
theorem zgi {rs:List (List AC)}{r:List AC} (h:r∈rs):cS r≤rsS rs:=by
 induction rs with
 | nil=>cases h
 | cons x rs ih =>
  rw[za6];rcases List.mem_cons.1 h with rfl|h
  ·omega
  ·have:=ih h;omega
def zae (xs:List Int):List (List AC):=xs.map fun n=>[.int n]
theorem zac (xs:List Int):(zae xs).length=xs.length:=by simp[zae]
theorem zys {xs:List Int}{k:Nat} (h:k<xs.length):(zae xs).getD k []=[.int xs[k]]:=by simp[zae,List.getD,h]
theorem ziY (xs ys:List Int):zae xs++zae ys=zae (xs++ys):=by simp[zae]
theorem zr4 (xs:List Int) (n:Nat):(zae xs).take n=zae (xs.take n):=by simp[zae]
def inI (n:Int):Prop:=-9223372036854775808≤n∧n≤9223372036854775807
def zaS:Nat:=9223372036854775807
structure zdK (xs:List Int):Prop where
 len:xs.length≤zaS
 all:∀x∈xs,inI x
theorem wr {n:Int} (h1:-9223372036854775808≤n) (h2:n≤9223372036854775807):zad n=n:=zDV h1 h2
theorem wrk {k:Nat} (h:k<zaS):zad ((k:Int)+1)=((k+1:Nat):Int):=by
 unfold zaS at h;rw[wr (by omega) (by omega)]
 omega
section
variable {ρ:Type}{r:ρ}
theorem zwx {rows:List (List AC)}{k:Nat} (h:k<rows.length) {sh:List AC}{K:Fn (Option ρ) sh} (h2:zk8 sh (rows.getD k []) K=some r):zeW rows (k:Int) sh K=some r:=by
 unfold zeW zvG;rw[decide_eq_true (by omega),decide_eq_true (by omega)]
 exact h2
theorem zan {x:Option AV}{n:Int} (h:x=some (.v (.cell (.int n)))) {K:Fn (Option ρ) (za5 [(false,[.int 0])])} (h2:(K:Int→Option ρ) n=some r):zaM x false [(false,[.int 0])] K=some r:=by rw[h];exact h2
theorem zas {x:Option AV}{n:Bool} (h:x=some (.v (.cell (.bool n)))) {K:Fn (Option ρ) (za5 [(false,[.bool false])])} (h2:(K:Bool→Option ρ) n=some r):zaM x false [(false,[.bool false])] K=some r:=by rw[h];exact h2
theorem zay {x:Option AV}{k:Nat}{l:List (List AC)} (h:x=some (.v (.cell (.sl k l)))) {K:Fn (Option ρ) (za5 [(false,[.sl k []])])} (h2:(K:List (List AC)→Option ρ) l=some r):zaM x false [(false,[.sl k []])] K=some r:=by
 rw[h];show(bif Nat.beq k k then _ else none)=_
 rw[Nat.beq_refl];exact h2
theorem zbu {l l':List (List AC)} (h:l.length+l'.length≤68719476736) {K:List (List AC)→Option ρ} (h2:K (l++l')=some r):zcB l l' K=some r:=by
 unfold zcB zkn;rw[decide_eq_true (by rw[List.length_append];exact h)]
 exact h2
theorem zyb {l:List (List AC)}{lo hi:Int} (h0:0≤lo) (h1:lo≤hi) (h2:hi≤l.length) {K:List (List AC)→Option ρ} (h3:K ((l.drop lo.toNat).take (hi.toNat-lo.toNat))=some r):zv6 l lo hi K=some r:=by
 unfold zv6;rw[decide_eq_true ⟨h0,h1,h2⟩];exact h3
theorem zab {b:Bool}{x y:Option ρ} (h:b=true) (h2:x=some r):(bif b then x else y)=some r:=by rw[h];exact h2
theorem zaa {b:Bool}{x y:Option ρ} (h:b=false) (h2:y=some r):(bif b then x else y)=some r:=by rw[h];exact h2
theorem zG5 {rows:List (List AC)}{k:Nat} (h:k<rows.length) {a0:Int} (e:rows.getD k []=[.int a0]) {K:Fn (Option ρ) [.int 0]} (h2:(K:Int→Option ρ) a0=some r):zeW rows (k:Int) [.int 0] K=some r:=zwx h (by rw[e];exact h2)
theorem zGx {rows:List (List AC)}{k:Nat} (h:k<rows.length) {a0:List (List AC)} (e:rows.getD k []=[.sl 1 a0]) {K:Fn (Option ρ) [.sl 1 []]} (h2:(K:List (List AC)→Option ρ) a0=some r):zeW rows (k:Int) [.sl 1 []] K=some r:=zwx h (by rw[e];exact h2)
theorem za4 {x:Option AV}{a0:List (List AC)} (h:x=some (.v (.agg [.sl 1 a0]))) {K:Fn (Option ρ) (za5 [(true,[.sl 1 []])])} (h2:(K:List (List AC)→Option ρ) a0=some r):zaM x false [(true,[.sl 1 []])] K=some r:=by rw[h];exact h2
theorem zrv {rows:List (List AC)}{k:Nat} (h:k<rows.length) {a0:Int}{a1:Int}{a2:List (List AC)} (e:rows.getD k []=[.int a0,.int a1,.sl 1 a2]) {K:Fn (Option ρ) [.int 0,.int 0,.sl 1 []]} (h2:(K:Int→Int→List (List AC)→Option ρ) a0 a1 a2=some r):zeW rows (k:Int) [.int 0,.int 0,.sl 1 []] K=some r:=zwx h (by rw[e];exact h2)
theorem zaB {rows:List (List AC)}{k:Nat} (h:k<rows.length) {a0:Int}{a1:Int}{a2:List (List AC)} (e:rows.getD k []=[.int a0,.int a1,.sl 3 a2]) {K:Fn (Option ρ) [.int 0,.int 0,.sl 3 []]} (h2:(K:Int→Int→List (List AC)→Option ρ) a0 a1 a2=some r):zeW rows (k:Int) [.int 0,.int 0,.sl 3 []] K=some r:=zwx h (by rw[e];exact h2)
theorem zaq {rows:List (List AC)} (h:0<rows.length) {a0:Int}{a1:Int}{a2:List (List AC)} (e:rows.getD 0 []=[.int a0,.int a1,.sl 3 a2]) {K:Fn (Option ρ) [.int 0,.int 0,.sl 3 []]} (h2:(K:Int→Int→List (List AC)→Option ρ) a0 a1 a2=some r):zeW rows 0 [.int 0,.int 0,.sl 3 []] K=some r:=zaB h e h2
theorem zaf {x:Option AV}{a0:Int}{a1:Int}{a2:List (List AC)} (h:x=some (.v (.agg [.int a0,.int a1,.sl 3 a2]))) {K:Fn (Option ρ) (za5 [(true,[.int 0,.int 0,.sl 3 []])])} (h2:(K:Int→Int→List (List AC)→Option ρ) a0 a1 a2=some r):zaM x false [(true,[.int 0,.int 0,.sl 3 []])] K=some r:=by rw[h];exact h2
theorem zuF {rows:List (List AC)}{k:Nat} (h:k<rows.length) {a0:List (List AC)}{a1:Int}{a2:Int}{a3:Int}{a4:List (List AC)} (e:rows.getD k []=[.sl 1 a0,.int a1,.int a2,.int a3,.sl 3 a4]) {K:Fn (Option ρ) [.sl 1 [],.int 0,.int 0,.int 0,.sl 3 []]} (h2:(K:List (List AC)→Int→Int→Int→List (List AC)→Option ρ) a0 a1 a2 a3 a4=some r):zeW rows (k:Int) [.sl 1 [],.int 0,.int 0,.int 0,.sl 3 []] K=some r:=zwx h (by rw[e];exact h2)
theorem callFunc {x:Option AV}{a0:List (List AC)}{a1:Int}{a2:Int}{a3:Int}{a4:List (List AC)} (h:x=some (.v (.agg [.sl 1 a0,.int a1,.int a2,.int a3,.sl 3 a4]))) {K:Fn (Option ρ) (za5 [(true,[.sl 1 [],.int 0,.int 0,.int 0,.sl 3 []])])} (h2:(K:List (List AC)→Int→Int→Int→List (List AC)→Option ρ) a0 a1 a2 a3 a4=some r):zaM x false [(true,[.sl 1 [],.int 0,.int 0,.int 0,.sl 3 []])] K=some r:=by rw[h];exact h2
theorem zbk {xs:List Int}{k:Nat} (h:k<xs.length) {K:Fn (Option ρ) [.int 0]} (h2:(K:Int→Option ρ) xs[k]=some r):zeW (zae xs) (k:Int) [.int 0] K=some r:=zG5 (by rw[zac];exact h) (zys h) h2
end
inductive Ty where
 | con
 | decl
 | expr
 | func
 | prog
 | step
 | block
 | routine
 | normal
 | cell
 | instr
 | proc
 | image
 | frame
 | state
inductive Fit:Ty→List AC→Prop
 | con (fs:List Int) (h:zdK fs):Fit .con [.sl 1 (zae fs)]
 | decl (f t:Int) (cons:List (List AC)) (hf:inI f) (ht:inI t) (hl:cons.length≤zaS) (h:∀c∈cons,Fit .con c):Fit .decl [.int f,.int t,.sl 1 cons]
 | expr (o n:Int) (kids:List (List AC)) (ho:inI o) (hn:inI n) (hl:kids.length≤zaS) (h:∀c∈kids,Fit .expr c):Fit .expr [.int o,.int n,.sl 3 kids]
 | func (ps:List Int) (r o n:Int) (kids:List (List AC)) (hp:zdK ps) (hr:inI r) (h:Fit .expr [.int o,.int n,.sl 3 kids]):Fit .func [.sl 1 (zae ps),.int r,.int o,.int n,.sl 3 kids]
 | prog (ds fs:List (List AC)) (hd:ds.length≤zaS) (hf:fs.length≤zaS) (h1:∀d∈ds,Fit .decl d) (h2:∀f∈fs,Fit .func f):Fit .prog [.sl 3 ds,.sl 5 fs]
 | step (o n i:Int) (args:List Int) (kids:List (List AC)) (ho:inI o) (hn:inI n) (hi:inI i) (ha:zdK args) (hl:kids.length≤zaS) (h:∀b∈kids,Fit .block b):Fit .step [.int o,.int n,.int i,.sl 1 (zae args),.sl 2 kids]
 | block (steps:List (List AC)) (r:Int) (hr:inI r) (hl:steps.length≤zaS) (h:∀s∈steps,Fit .step s):Fit .block [.sl 5 steps,.int r]
 | routine (ps lent:List Int) (r:Int) (steps:List (List AC)) (x:Int) (hp:zdK ps) (hl:zdK lent) (hr:inI r) (h:Fit .block [.sl 5 steps,.int x]):Fit .routine [.sl 1 (zae ps),.sl 1 (zae lent),.int r,.sl 5 steps,.int x]
 | normal (ds rs:List (List AC)) (hd:ds.length≤zaS) (hr:rs.length≤zaS) (h1:∀d∈ds,Fit .decl d) (h2:∀r∈rs,Fit .routine r):Fit .normal [.sl 3 ds,.sl 5 rs]
 | cell (c t:Int) (fs:List Int) (hc:inI c) (ht:inI t) (h:zdK fs):Fit .cell [.int c,.int t,.sl 1 (zae fs)]
 | instr (o d n i:Int) (args jumps:List Int) (ho:inI o) (hd:inI d) (hn:inI n) (hi:inI i) (ha:zdK args) (hj:zdK jumps):Fit .instr [.int o,.int d,.int n,.int i,.sl 1 (zae args),.sl 1 (zae jumps)]
 | proc (ps lent:List Int) (r regs:Int) (code:List (List AC)) (hp:zdK ps) (hl:zdK lent) (hr:inI r) (hg:inI regs) (hc:code.length≤zaS) (h:∀x∈code,Fit .instr x):Fit .proc [.sl 1 (zae ps),.sl 1 (zae lent),.int r,.int regs,.sl 6 code]
 | image (ds procs:List (List AC)) (hd:ds.length≤zaS) (hp:procs.length≤zaS) (h1:∀d∈ds,Fit .decl d) (h2:∀p∈procs,Fit .proc p):Fit .image [.sl 3 ds,.sl 5 procs]
 | frame (p a d:Int) (regs own held:List Int) (hp:inI p) (ha:inI a) (hd:inI d) (h1:zdK regs) (h2:zdK own) (h3:zdK held):Fit .frame [.int p,.int a,.int d,.sl 1 (zae regs),.sl 1 (zae own),.sl 1 (zae held)]
 | state (s v c m:Int) (out:List Int) (heap frames:List (List AC)) (hs:inI s) (hv:inI v) (hc:inI c) (hm:inI m) (ho:zdK out) (hh:heap.length≤zaS) (hf:frames.length≤zaS) (h1:∀x∈heap,Fit .cell x) (h2:∀x∈frames,Fit .frame x):Fit .state [.int s,.int v,.int c,.int m,.sl 1 (zae out),.sl 3 heap,.sl 6 frames]
theorem zaE {α:Type}{l:List α}{k:Nat} (h:k<l.length) (d:α):l.getD k d∈l:=by simp[List.getD,List.getElem?_eq_getElem h]
end
section
end
section
open Go
abbrev rB (b:Bool):Option AV:=some (.v (.cell (.bool b)))
abbrev rI (n:Int):Option AV:=some (.v (.cell (.int n)))
abbrev rL (xs:List Int):Option AV:=some (.v (.cell (.sl 1 (zae xs))))
structure DM where
 f:Int
 t:Int
 cs:List (List Int)
 deriving Inhabited
def zDm (c:List Int):List AC:=[.sl 1 (zae c)]
def zb1 (cs:List (List Int)):List (List AC):=cs.map zDm
def zli (d:DM):List AC:=[.int d.f,.int d.t,.sl 1 (zb1 d.cs)]
def zag (D:List DM):List (List AC):=D.map zli
structure DOk (d:DM):Prop where
 f:inI d.f
 t:inI d.t
 len:d.cs.length≤zaS
 cs:∀c∈d.cs,zdK c
theorem zvO:∀{cs:List (List AC)},(∀c∈cs,Fit .con c)→∃C,cs=zb1 C∧∀c∈C,zdK c
 | [],_=>⟨[],rfl,fun c h=>by cases h⟩
 | c::cs,h=>by
  obtain⟨C,rfl,hC⟩:=zvO fun x hx=>h x (List.mem_cons_of_mem _ hx)
  have h0:=h c List.mem_cons_self
  generalize ht:Ty.con=t at h0
  cases h0 with
  | con fs hf =>
   refine⟨fs::C,rfl,fun c hc=>?_⟩
   rcases List.mem_cons.1 hc with rfl|hc
   ·exact hf
   ·exact hC c hc
  | _=>cases ht
theorem zv0:∀{ds:List (List AC)},(∀d∈ds,Fit .decl d)→∃D,ds=zag D∧∀d∈D,DOk d
 | [],_=>⟨[],rfl,fun c h=>by cases h⟩
 | d::ds,h=>by
  obtain⟨D,rfl,hD⟩:=zv0 fun x hx=>h x (List.mem_cons_of_mem _ hx)
  have h0:=h d List.mem_cons_self
  generalize ht:Ty.decl=t at h0
  cases h0 with
  | decl f t' cons hf ht' hl hc =>
   obtain⟨C,rfl,hC⟩:=zvO hc;refine⟨⟨f,t',C⟩::D,rfl,fun x hx=>?_⟩
   rcases List.mem_cons.1 hx with rfl|hx
   ·exact⟨hf,ht',by simpa [zb1] using hl,hC⟩
   ·exact hD x hx
  | _=>cases ht
theorem zaY (D:List DM):(zag D).length=D.length:=by simp[zag]
theorem zaL (C:List (List Int)):(zb1 C).length=C.length:=by simp[zb1]
def gD (D:List DM) (k:Nat):DM:=D.getD k default
theorem zzh {D:List DM}{k:Nat} (h:k<D.length):(zag D).getD k []=[.int (gD D k).f,.int (gD D k).t,.sl 1 (zb1 (gD D k).cs)]:=by simp[zag,List.getD,h,gD,zli]
theorem zyq {C:List (List Int)}{k:Nat} (h:k<C.length):(zb1 C).getD k []=[.sl 1 (zae (C.getD k []))]:=by simp[zb1,List.getD,h,zDm]
theorem zz1 {D:List DM}{k:Nat} (h:k<D.length):gD D k∈D:=zaE h _
section
variable {ρ:Type}{r:ρ}
theorem zba {D:List DM}{i:Int}{k:Nat} (hi:i=(k:Int)) (h:k<D.length) {K:Fn (Option ρ) [.int 0,.int 0,.sl 1 []]} (h2:(K:Int→Int→List (List AC)→Option ρ) (gD D k).f (gD D k).t (zb1 (gD D k).cs)=some r):zeW (zag D) i [.int 0,.int 0,.sl 1 []] K=some r:=by
 subst hi;exact zrv (by rw[zaY];exact h) (zzh h) h2
theorem zg2 {C:List (List Int)}{i:Int}{k:Nat} (hi:i=(k:Int)) (h:k<C.length) {K:Fn (Option ρ) [.sl 1 []]} (h2:(K:List (List AC)→Option ρ) (zae (C.getD k []))=some r):zeW (zb1 C) i [.sl 1 []] K=some r:=by
 subst hi;exact zGx (by rw[zaL];exact h) (zyq h) h2
theorem zjU {xs:List Int}{i:Int}{k:Nat} (hi:i=(k:Int)) (h:k<xs.length) {K:Fn (Option ρ) [.int 0]} (h2:(K:Int→Option ρ) (xs.getD k 0)=some r):zeW (zae xs) i [.int 0] K=some r:=by
 subst hi;refine zbk h ?_
 simpa [List.getD,h] using h2
end
theorem zju {α:Type}{l:List α}{k:Nat} (h:k<l.length) (p:α→Bool):(l.drop k).all p=(p l[k]&&(l.drop (k+1)).all p):=by rw[List.drop_eq_getElem_cons h,List.all_cons]
theorem zAJ {α:Type}{l:List α}{k:Nat} (h:k<l.length) (p:α→Bool):(l.drop k).any p=(p l[k]||(l.drop (k+1)).any p):=by rw[List.drop_eq_getElem_cons h,List.any_cons]
theorem zlE {D:List DM}{k:Nat} (h:k<D.length):D[k]=gD D k:=by simp[gD,List.getD,h]
theorem nz {n:Nat} (h:n≠0):(((n:Nat):Int)==0)=false:=by simp[h]
theorem zr {n:Nat} (h:n=0):(((n:Nat):Int)==0)=true:=by simp[h]
theorem eqt {a b:Int} (h:a=b):(a==b)=true:=by simp[h]
theorem eqf {a b:Int} (h:a≠b):(a==b)=false:=by simp[h]
theorem net {a b:Int} (h:a≠b):(a != b)=true:=by simp[h]
theorem nef {a b:Int} (h:a=b):(a != b)=false:=by simp[h]
def zeb (D:List DM) (t:Int):Bool:=decide (0≤t)&&decide (t≤D.length)
def zxq (D:List DM) (t:Int):Bool:=decide (0<t)&&(zeb D t&&decide (0<(gD D (t.toNat-1)).cs.length))
def znt (D:List DM) (t:Int):Bool:=decide (0<t)&&(zeb D t&&((gD D (t.toNat-1)).cs.length==0))
def zwI (f t:Int) (d:DM):Bool:=(d.cs.length==0)&&(d.f==f&&d.t==t)
def zhG (f t:Int):List DM→Nat→Int
 | [],_=>-1
 | d::ds,k=>if zwI f t d then((k+1:Nat):Int) else zhG f t ds (k+1)
def zk3 (D:List DM) (c:List Int):Bool:=decide (c.length≤3)&&c.all (zeb D)
def zlN (D:List DM) (k:Nat):Bool :=
 if 0<(gD D k).cs.length then decide ((gD D k).cs.length≤3)&&(((gD D k).f==0)&&(((gD D k).t==0)&&(gD D k).cs.all (zk3 D)))
 else zeb D (gD D k).f&&(zeb D (gD D k).t&&!(D.take k).any (zwI (gD D k).f (gD D k).t))
def zfJ (D:List DM):Bool:=decide (D.length≤4)&&(List.range D.length).all (zlN D)
theorem zkZ (D:List DM) (t:Int):zdP [.cell (.sl 3 (zag D)),.cell (.int t)]=rB (zeb D t):=by
 refine zsS ?_
 by_cases h:0≤t
 ·exact zab (decide_eq_true h) (by simp[zeb,h,zaY])
 ·exact zaa (decide_eq_false h) (by simp[zeb,h])
theorem zfe (n lo hi:Int):zbz [.cell (.int n),.cell (.int lo),.cell (.int hi)]=rB (decide (lo≤n)&&decide (n≤hi)):=by
 refine zq1 ?_
 by_cases h:lo≤n
 ·exact zab (decide_eq_true h) (by simp[h])
 ·exact zaa (decide_eq_false h) (by simp[h])
theorem zuy (D:List DM) (t:Int):zbz [.cell (.int t),.cell (.int 0),.cell (.int (((zag D).length:Nat):Int))]=rB (zeb D t):=by
 rw[zfe,zaY];rfl
theorem zlz (D:List DM) (xs:List Int) (hx:xs.length≤zaS):zfB [.cell (.sl 3 (zag D)),.cell (.sl 1 (zae xs))]=rB (xs.all (zeb D)):=by
 have key:∀m k:Nat,k+m=xs.length→zeZ (zag D) (zae xs) (((zae xs).length:Nat):Int) (k:Int)=rB ((xs.drop k).all (zeb D)):=by
  intro m;induction m with
  | zero=>intro k hk;exact ziC (zaa (decide_eq_false (by rw[zac];omega)) (by rw[List.drop_eq_nil_of_le (by omega)];rfl))
  | succ m ih =>
   intro k hk;have hlt:k<xs.length:=by omega
   rw[zju hlt];refine ziC (zab (decide_eq_true (by rw[zac];omega)) (zbk hlt (zas (zkZ D _) ?_)))
   rcases zeb D xs[k] with _|_
   ·exact zab rfl rfl
   ·exact zaa rfl (by rw[wrk (by omega)];exact ih (k+1) (by omega))
 exact zpi (key xs.length 0 (by omega))
theorem zrw (D:List DM) (xs:List Int) (hx:xs.length≤zaS):zhr [.cell (.sl 3 (zag D)),.cell (.sl 1 (zae xs))]=rB (xs.all (zeb D)):=by
 have key:∀m k:Nat,k+m=xs.length→ze8 (zag D) (zae xs) (k:Int)=rB ((xs.drop k).all (zeb D)):=by
  intro m;induction m with
  | zero=>intro k hk;exact ziH (zaa (decide_eq_false (by rw[zac];omega)) (by rw[List.drop_eq_nil_of_le (by omega)];rfl))
  | succ m ih =>
   intro k hk;have hlt:k<xs.length:=by omega
   rw[zju hlt];refine ziH (zab (decide_eq_true (by rw[zac];omega)) (zbk hlt (zas (zuy D _) ?_)))
   rcases zeb D xs[k] with _|_
   ·exact zab rfl rfl
   ·exact zaa rfl (by rw[wrk (by omega)];exact ih (k+1) (by omega))
 exact zo2 (key xs.length 0 (by omega))
theorem hit_cases {f t:Int}{d:DM}:zwI f t d=true↔d.cs.length=0∧d.f=f∧d.t=t:=by simp[zwI]
theorem zxT (D:List DM) (hD:D.length≤1000) (f t:Int):zeA [.cell (.sl 3 (zag D)),.cell (.int f),.cell (.int t)]=rI (zhG f t D 0):=by
 have key:∀m k:Nat,k+m=D.length→zbR f t (zag D) (((zag D).length:Nat):Int) (k:Int)=rI (zhG f t (D.drop k) k):=by
  intro m;induction m with
  | zero=>intro k hk;exact zfZ (zaa (decide_eq_false (by rw[zaY];omega)) (by rw[List.drop_eq_nil_of_le (by omega)];rfl))
  | succ m ih =>
   intro k hk;have hlt:k<D.length:=by omega
   have w1:zad ((k:Int)+1)=((k+1:Nat):Int):=wrk (by unfold zaS;omega)
   have nx:=ih (k+1) (by omega)
   rw[List.drop_eq_getElem_cons hlt,zlE hlt];refine zfZ (zab (decide_eq_true (by rw[zaY];omega)) (zba rfl hlt ?_))
   rw[zaL,w1];by_cases h1:(gD D k).cs.length=0
   ·refine zab (by simp[h1]) ?_
    by_cases h2:(gD D k).f=f
    ·refine zab (by simp[h2]) ?_
     by_cases h3:(gD D k).t=t
     ·exact zab (by simp[h3]) (by rw[zhG,if_pos (hit_cases.2 ⟨h1,h2,h3⟩)])
     ·exact zaa (by simp[h3]) (by rw[zhG,if_neg (fun h=>h3 (hit_cases.1 h).2.2)];exact nx)
    ·exact zaa (by simp[h2]) (by rw[zhG,if_neg (fun h=>h2 (hit_cases.1 h).2.1)];exact nx)
   ·exact zaa (nz h1) (by rw[zhG,if_neg (fun h=>h1 (hit_cases.1 h).1)];exact nx)
 exact zmg (key D.length 0 (by omega))
theorem zu3 (D:List DM) (hD:D.length≤1000) (f t:Int):ziW [.cell (.sl 3 (zag D)),.cell (.int f),.cell (.int t)]=rI (zhG f t D 0):=by
 have key:∀m k:Nat,k+m=D.length→zc8 (zag D) f t (k:Int)=rI (zhG f t (D.drop k) k):=by
  intro m;induction m with
  | zero=>intro k hk;exact zji (zaa (decide_eq_false (by rw[zaY];omega)) (by rw[List.drop_eq_nil_of_le (by omega)];rfl))
  | succ m ih =>
   intro k hk;have hlt:k<D.length:=by omega
   have w1:zad ((k:Int)+1)=((k+1:Nat):Int):=wrk (by unfold zaS;omega)
   have nx:=ih (k+1) (by omega)
   rw[List.drop_eq_getElem_cons hlt,zlE hlt];refine zji (zab (decide_eq_true (by rw[zaY];omega)) (zba rfl hlt ?_))
   rw[zaL,w1];by_cases h1:(gD D k).cs.length=0
   ·refine zab (by simp[h1]) (zba rfl hlt ?_)
    by_cases h2:(gD D k).f=f
    ·refine zab (by simp[h2]) (zba rfl hlt ?_)
     by_cases h3:(gD D k).t=t
     ·exact zab (by simp[h3]) (by rw[zhG,if_pos (hit_cases.2 ⟨h1,h2,h3⟩)])
     ·exact zaa (by simp[h3]) (by rw[zhG,if_neg (fun h=>h3 (hit_cases.1 h).2.2)];exact nx)
    ·exact zaa (by simp[h2]) (by rw[zhG,if_neg (fun h=>h2 (hit_cases.1 h).2.1)];exact nx)
   ·exact zaa (nz h1) (by rw[zhG,if_neg (fun h=>h1 (hit_cases.1 h).1)];exact nx)
 exact zqD (key D.length 0 (by omega))
theorem zwB (f t:Int):∀(D:List DM) (k:Nat),decide (zhG f t D k<0)=!D.any (zwI f t)
 | [],k=>by simp[zhG]
 | d::D,k=>by
  unfold zhG;rw[List.any_cons];cases h:zwI f t d
  ·simpa using zwB f t D (k+1)
  ·simp;omega
theorem zvI (D:List DM) (C:List (List Int)) (hC:∀c∈C,zdK c) (hl:C.length≤zaS):zj0 [.cell (.sl 3 (zag D)),.cell (.sl 1 (zb1 C))]=rB (decide (C.length≤3)&&C.all (zk3 D)):=by
 have key:∀m k:Nat,k+m=C.length→zeE (zag D) (zb1 C) (((zb1 C).length:Nat):Int) (k:Int)=rB ((C.drop k).all (zk3 D)):=by
  intro m;induction m with
  | zero=>intro k hk;exact zhJ (zaa (decide_eq_false (by rw[zaL];omega)) (by rw[List.drop_eq_nil_of_le (by omega)];rfl))
  | succ m ih =>
   intro k hk;have hlt:k<C.length:=by omega
   have hc:=hC _ (zaE hlt [])
   rw[zju hlt,show C[k]=C.getD k [] by simp[List.getD,hlt]]
   refine zhJ (zab (decide_eq_true (by rw[zaL];omega)) (zg2 rfl hlt ?_))
   rw[zac];by_cases h3:(C.getD k []).length≤3
   ·refine zaa (decide_eq_false (by omega)) (zas (zlz D _ hc.len) ?_)
    have e:zk3 D (C.getD k [])=(C.getD k []).all (zeb D):=by unfold zk3;rw[decide_eq_true h3,Bool.true_and]
    rw[e];rcases(C.getD k []).all (zeb D) with _|_
    ·exact zab rfl rfl
    ·exact zaa rfl (by rw[wrk (by omega)];exact ih (k+1) (by omega))
   ·refine zab (decide_eq_true (by omega)) ?_
    have e:zk3 D (C.getD k [])=false:=by unfold zk3;rw[decide_eq_false h3];rfl
    rw[e];rfl
 refine zoc ?_
 rw[zaL];by_cases h:C.length≤3
 ·refine zaa (decide_eq_false (by omega)) ?_
  have:=key C.length 0 (by omega)
  rw[zaL] at this
  simpa [h] using this
 ·exact zab (decide_eq_true (by omega)) (by simp[h])
theorem zs1 (D:List DM) (k:Nat):(zag D).take k=zag (D.take k):=by simp[zag]
theorem zwi (D:List DM) (hD:∀d∈D,DOk d) (hl:D.length≤1000) (k:Nat) (hk:k<D.length):zjr [.cell (.sl 3 (zag D)),.cell (.int (k:Int))]=rB (zlN D k):=by
 have hd:=hD _ (zz1 hk)
 refine zof (zba rfl hk ?_)
 rw[zaL];unfold zlN;by_cases h0:0<(gD D k).cs.length
 ·refine zab (decide_eq_true (by omega)) ?_
  rw[if_pos h0];by_cases h1:(gD D k).f=0
  ·refine zab (by simp[h1]) ?_
   by_cases h2:(gD D k).t=0
   ·exact zab (by simp[h2]) (zas (zvI D _ hd.cs hd.len) (by rw[h1,h2];simp only[beq_self_eq_true,Bool.true_and];rfl))
   ·exact zaa (by simp[h2]) (by simp[h2])
  ·exact zaa (by simp[h1]) (by simp[h1])
 ·refine zaa (decide_eq_false (by omega)) (zas (zkZ D _) ?_)
  rw[if_neg h0];rcases zeb D (gD D k).f with _|_
  ·exact zaa rfl rfl
  ·refine zab rfl (zas (zkZ D _) ?_)
   rcases zeb D (gD D k).t with _|_
   ·exact zaa rfl rfl
   ·refine zab rfl (zyb (by omega) (by omega) (by rw[zaY];omega) ?_)
    rw[show(((zag D).drop (0:Int).toNat).take ((k:Int).toNat-(0:Int).toNat))=zag (D.take k) by simp[zs1]]
    refine zan (zxT _ (by rw[List.length_take];omega) _ _) ?_
    rw[zwB];rfl
theorem zwH (D:List DM) (hD:∀d∈D,DOk d) (hl:D.length≤1000) (k:Nat) (hk:k<D.length):zjV [.cell (.sl 3 (zag D)),.cell (.int (k:Int))]=rB (zlN D k):=by
 have hd:=hD _ (zz1 hk)
 have key1:∀m j:Nat,j+m=(gD D k).cs.length→zes (zag D) (gD D k).f (gD D k).t (zb1 (gD D k).cs) (j:Int)=rB (((gD D k).cs.drop j).all (zk3 D)):=by
  intro m;induction m with
  | zero=>intro j hj;exact zhE (zaa (decide_eq_false (by rw[zaL];omega)) (by rw[List.drop_eq_nil_of_le (by omega)];rfl))
  | succ m ih =>
   intro j hj;have hlt:j<(gD D k).cs.length:=by omega
   have hc:=hd.cs _ (zaE hlt [])
   have hlen:=hd.len
   rw[zju hlt,show(gD D k).cs[j]=(gD D k).cs.getD j [] by simp[List.getD,hlt]]
   refine zhE (zab (decide_eq_true (by rw[zaL];omega)) (zg2 rfl hlt ?_))
   rw[zac];by_cases h3:((gD D k).cs.getD j []).length≤3
   ·refine zaa (decide_eq_false (by omega)) (zg2 rfl hlt (zas (zrw D _ hc.len) ?_))
    have e:zk3 D ((gD D k).cs.getD j [])=((gD D k).cs.getD j []).all (zeb D):=by unfold zk3;rw[decide_eq_true h3,Bool.true_and]
    rw[e];rcases((gD D k).cs.getD j []).all (zeb D) with _|_
    ·exact zab rfl rfl
    ·exact zaa rfl (by rw[wrk (by omega)];exact ih (j+1) (by omega))
   ·refine zab (decide_eq_true (by omega)) ?_
    have e:zk3 D ((gD D k).cs.getD j [])=false:=by unfold zk3;rw[decide_eq_false h3];rfl
    rw[e];rfl
 have key2:∀m j:Nat,j+m=k→zcy (zag D) (k:Int) (gD D k).f (gD D k).t (zb1 (gD D k).cs) (j:Int)=rB (!((D.take k).drop j).any (zwI (gD D k).f (gD D k).t)&&(zeb D (gD D k).f&&zeb D (gD D k).t)):=by
  intro m;induction m with
  | zero =>
   intro j hj;refine zhI (zaa (decide_eq_false (by omega)) (zas (zuy D _) ?_))
   rw[List.drop_eq_nil_of_le (by rw[List.length_take];omega)]
   rcases zeb D (gD D k).f with _|_
   ·exact zaa rfl rfl
   ·refine zab rfl (zas (zuy D _) ?_)
    simp
    rfl
  | succ m ih =>
   intro j hj;have hlt:j<D.length:=by omega
   have hlt':j<(D.take k).length:=by rw[List.length_take];omega
   have w1:zad ((j:Int)+1)=((j+1:Nat):Int):=wrk (by unfold zaS;omega)
   have nx:=ih (j+1) (by omega)
   rw[zAJ hlt',show(D.take k)[j]=gD D j by rw[List.getElem_take,zlE hlt]]
   refine zhI (zab (decide_eq_true (by omega)) (zba rfl hlt ?_))
   rw[zaL,w1];by_cases h1:(gD D j).cs.length=0
   ·refine zab (by simp[h1]) (zba rfl hlt ?_)
    by_cases h2:(gD D j).f=(gD D k).f
    ·refine zab (by simp[h2]) (zba rfl hlt ?_)
     by_cases h3:(gD D j).t=(gD D k).t
     ·refine zab (by simp[h3]) ?_
      rw[hit_cases.2 ⟨h1,h2,h3⟩];rfl
     ·refine zaa (by simp[h3]) ?_
      rw[Bool.eq_false_iff.2 (fun h=>h3 (hit_cases.1 h).2.2)]
      exact nx
    ·refine zaa (by simp[h2]) ?_
     rw[Bool.eq_false_iff.2 (fun h=>h2 (hit_cases.1 h).2.1)]
     exact nx
   ·refine zaa (nz h1) ?_
    rw[Bool.eq_false_iff.2 (fun h=>h1 (hit_cases.1 h).1)]
    exact nx
 refine zoH (zba rfl hk ?_)
 rw[zaL];unfold zlN;by_cases h0:0<(gD D k).cs.length
 ·refine zab (decide_eq_true (by omega)) ?_
  rw[if_pos h0];by_cases h3:(gD D k).cs.length≤3
  ·refine zaa (decide_eq_false (by omega)) ?_
   by_cases h1:(gD D k).f=0
   ·refine zaa (by simp[h1]) ?_
    by_cases h2:(gD D k).t=0
    ·refine zaa (by simp[h2]) ?_
     have:=key1 (gD D k).cs.length 0 (by omega)
     simpa [h1,h2,h3] using this
    ·exact zab (by simp[h2]) (by simp[h2])
   ·exact zab (by simp[h1]) (by simp[h1])
  ·exact zab (decide_eq_true (by omega)) (by simp[h3])
 ·refine zaa (decide_eq_false (by omega)) ?_
  rw[if_neg h0];have:=key2 k 0 (by omega)
  rw[List.drop_zero] at this;refine Eq.trans this ?_
  rcases(List.take k D).any (zwI (gD D k).f (gD D k).t) with _|_ <;> rcases zeb D (gD D k).f with _|_ <;> rcases zeb D (gD D k).t with _|_ <;> rfl
theorem zlh {n k:Nat} (h:k<n) (p:Nat→Bool):((List.range n).drop k).all p=(p k&&((List.range n).drop (k+1)).all p):=by
 rw[zju (by simpa using h)]
 simp
theorem zus (D:List DM) (hD:∀d∈D,DOk d) (hlen:D.length≤zaS):zii [.cell (.sl 3 (zag D))]=rB (zfJ D):=by
 refine znK ?_
 rw[zaY];by_cases h4:D.length≤4
 ·refine zaa (decide_eq_false (by omega)) ?_
  have key:∀m k:Nat,k+m=D.length→zdY (zag D) ((D.length:Nat):Int) (k:Int)=rB (((List.range D.length).drop k).all (zlN D)):=by
   intro m;induction m with
   | zero=>intro k hk;exact zgW (zaa (decide_eq_false (by omega)) (by rw[List.drop_eq_nil_of_le (by simp;omega)];rfl))
   | succ m ih =>
    intro k hk;rw[zlh (by omega)]
    refine zgW (zab (decide_eq_true (by omega)) (zas (zwi D hD (by omega) k (by omega)) ?_))
    rcases zlN D k with _|_
    ·exact zab rfl rfl
    ·exact zaa rfl (by rw[wrk (by unfold zaS;omega)];exact ih (k+1) (by omega))
  have:=key D.length 0 (by omega)
  simpa [zfJ,h4] using this
 ·exact zab (decide_eq_true (by omega)) (by simp[zfJ,h4])
theorem zuw (D:List DM) (hD:∀d∈D,DOk d) (hlen:D.length≤zaS):zh5 [.cell (.sl 3 (zag D))]=rB (zfJ D):=by
 refine znv ?_
 rw[zaY];by_cases h4:D.length≤4
 ·refine zaa (decide_eq_false (by omega)) ?_
  have key:∀m k:Nat,k+m=D.length→zdT (zag D) (k:Int)=rB (((List.range D.length).drop k).all (zlN D)):=by
   intro m;induction m with
   | zero=>intro k hk;exact zgT (zaa (decide_eq_false (by rw[zaY];omega)) (by rw[List.drop_eq_nil_of_le (by simp;omega)];rfl))
   | succ m ih =>
    intro k hk;rw[zlh (by omega)]
    refine zgT (zab (decide_eq_true (by rw[zaY];omega)) (zas (zwH D hD (by omega) k (by omega)) ?_))
    rcases zlN D k with _|_
    ·exact zab rfl rfl
    ·exact zaa rfl (by rw[wrk (by unfold zaS;omega)];exact ih (k+1) (by omega))
  have:=key D.length 0 (by omega)
  simpa [zfJ,h4] using this
 ·exact zab (decide_eq_true (by omega)) (by simp[zfJ,h4])
end
section
open Go
end
end Go.Proofs.YtkgbadeobdbinaaGreat
