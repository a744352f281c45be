/- Generic texts and models for the proofs of this seat: part 24. -/
import Derived.Test.YtcpcagdialnbeaaY23
import Derived.Test.YtcpcagdialnbeaaRows
set_option linter.unusedVariables false
set_option linter.unusedSimpArgs false
namespace Go.Proofs.Ytcpcagdialnbeaa
section
def zm0:Char:=Char.ofNat 32
def zoU:List Char:=[Char.ofNat 104,Char.ofNat 97,Char.ofNat 114,Char.ofNat 110,Char.ofNat 101,Char.ofNat 115,Char.ofNat 115]
def zrX:List Char:=[Char.ofNat 101,Char.ofNat 54,Char.ofNat 52,Char.ofNat 54,Char.ofNat 97,Char.ofNat 54,Char.ofNat 52,Char.ofNat 99,Char.ofNat 54,Char.ofNat 101,Char.ofNat 51,Char.ofNat 52,Char.ofNat 97,Char.ofNat 98,Char.ofNat 56,Char.ofNat 101,Char.ofNat 49,Char.ofNat 57,Char.ofNat 57,Char.ofNat 97,Char.ofNat 54,Char.ofNat 100,Char.ofNat 97,Char.ofNat 57,Char.ofNat 98,Char.ofNat 54,Char.ofNat 97,Char.ofNat 98,Char.ofNat 49,Char.ofNat 51,Char.ofNat 57,Char.ofNat 97,Char.ofNat 52,Char.ofNat 53,Char.ofNat 56,Char.ofNat 55,Char.ofNat 53,Char.ofNat 99,Char.ofNat 97,Char.ofNat 54,Char.ofNat 51,Char.ofNat 49,Char.ofNat 97,Char.ofNat 50,Char.ofNat 55,Char.ofNat 50,Char.ofNat 54,Char.ofNat 100,Char.ofNat 98,Char.ofNat 53,Char.ofNat 99,Char.ofNat 100,Char.ofNat 100,Char.ofNat 55,Char.ofNat 100,Char.ofNat 102,Char.ofNat 56,Char.ofNat 49,Char.ofNat 57,Char.ofNat 102,Char.ofNat 57,Char.ofNat 52,Char.ofNat 54,Char.ofNat 100]
def zfF:List Char:=[Char.ofNat 99,Char.ofNat 117,Char.ofNat 116]
def zkP:List Char:=[Char.ofNat 97,Char.ofNat 116,Char.ofNat 32,Char.ofNat 108,Char.ofNat 111,Char.ofNat 111,Char.ofNat 112,Char.ofNat 46,Char.ofNat 101,Char.ofNat 120,Char.ofNat 97,Char.ofNat 109,Char.ofNat 112,Char.ofNat 108,Char.ofNat 101,Char.ofNat 47,Char.ofNat 114,Char.ofNat 101,Char.ofNat 102,Char.ofNat 99,Char.ofNat 111,Char.ofNat 117,Char.ofNat 110,Char.ofNat 116,Char.ofNat 109,Char.ofNat 108,Char.ofNat 47,Char.ofNat 108,Char.ofNat 97,Char.ofNat 119,Char.ofNat 115,Char.ofNat 46,Char.ofNat 70,Char.ofNat 110,Char.ofNat 86,Char.ofNat 97,Char.ofNat 108,Char.ofNat 105,Char.ofNat 100,Char.ofNat 83,Char.ofNat 105,Char.ofNat 103,Char.ofNat 115,Char.ofNat 32,Char.ofNat 108,Char.ofNat 111,Char.ofNat 111,Char.ofNat 112,Char.ofNat 46,Char.ofNat 101,Char.ofNat 120,Char.ofNat 97,Char.ofNat 109,Char.ofNat 112,Char.ofNat 108,Char.ofNat 101,Char.ofNat 47,Char.ofNat 114,Char.ofNat 101,Char.ofNat 102,Char.ofNat 99,Char.ofNat 111,Char.ofNat 117,Char.ofNat 110,Char.ofNat 116,Char.ofNat 109,Char.ofNat 108,Char.ofNat 47,Char.ofNat 108,Char.ofNat 97,Char.ofNat 119,Char.ofNat 115,Char.ofNat 46,Char.ofNat 70,Char.ofNat 110,Char.ofNat 84,Char.ofNat 121,Char.ofNat 112,Char.ofNat 101,Char.ofNat 79,Char.ofNat 102,Char.ofNat 32,Char.ofNat 108,Char.ofNat 111,Char.ofNat 111,Char.ofNat 112,Char.ofNat 46,Char.ofNat 101,Char.ofNat 120,Char.ofNat 97,Char.ofNat 109,Char.ofNat 112,Char.ofNat 108,Char.ofNat 101,Char.ofNat 47,Char.ofNat 114,Char.ofNat 101,Char.ofNat 102,Char.ofNat 99,Char.ofNat 111,Char.ofNat 117,Char.ofNat 110,Char.ofNat 116,Char.ofNat 109,Char.ofNat 108,Char.ofNat 47,Char.ofNat 108,Char.ofNat 97,Char.ofNat 119,Char.ofNat 115,Char.ofNat 46,Char.ofNat 70,Char.ofNat 110,Char.ofNat 84,Char.ofNat 121,Char.ofNat 112,Char.ofNat 101,Char.ofNat 79,Char.ofNat 102,Char.ofNat 70,Char.ofNat 114,Char.ofNat 111,Char.ofNat 110,Char.ofNat 116,Char.ofNat 32,Char.ofNat 108,Char.ofNat 111,Char.ofNat 111,Char.ofNat 112,Char.ofNat 46,Char.ofNat 101,Char.ofNat 120,Char.ofNat 97,Char.ofNat 109,Char.ofNat 112,Char.ofNat 108,Char.ofNat 101,Char.ofNat 47,Char.ofNat 114,Char.ofNat 101,Char.ofNat 102,Char.ofNat 99,Char.ofNat 111,Char.ofNat 117,Char.ofNat 110,Char.ofNat 116,Char.ofNat 109,Char.ofNat 108,Char.ofNat 47,Char.ofNat 108,Char.ofNat 97,Char.ofNat 119,Char.ofNat 115,Char.ofNat 46,Char.ofNat 70,Char.ofNat 110,Char.ofNat 84,Char.ofNat 121,Char.ofNat 112,Char.ofNat 101,Char.ofNat 79,Char.ofNat 102,Char.ofNat 76,Char.ofNat 101,Char.ofNat 116,Char.ofNat 32,Char.ofNat 108,Char.ofNat 111,Char.ofNat 111,Char.ofNat 112,Char.ofNat 46,Char.ofNat 101,Char.ofNat 120,Char.ofNat 97,Char.ofNat 109,Char.ofNat 112,Char.ofNat 108,Char.ofNat 101,Char.ofNat 47,Char.ofNat 114,Char.ofNat 101,Char.ofNat 102,Char.ofNat 99,Char.ofNat 111,Char.ofNat 117,Char.ofNat 110,Char.ofNat 116,Char.ofNat 109,Char.ofNat 108,Char.ofNat 47,Char.ofNat 108,Char.ofNat 97,Char.ofNat 119,Char.ofNat 115,Char.ofNat 46,Char.ofNat 70,Char.ofNat 110,Char.ofNat 84,Char.ofNat 121,Char.ofNat 112,Char.ofNat 101,Char.ofNat 79,Char.ofNat 102,Char.ofNat 73,Char.ofNat 102]
theorem ztE:Try.prog.initOrder=String.ofList (zoU++zm0::(zrX++zm0::(zfF++zm0::zkP))):=by kernel_rfl
theorem zmP:∀(a b:List Char),(∀c∈a,(c==zm0)=false)→wordsSigns (a++zm0::b)=a::wordsSigns b:=by
 intro a;induction a with
 | nil=>intro b _;rfl
 | cons c a ih =>
  intro b h;have hc:c≠zm0:=by have:=h c (by simp);simpa using this
  have hr:=ih b fun x hx=>h x (by simp[hx])
  rw[List.cons_append]
  conv=>lhs;unfold wordsSigns
  split
  ·rename_i e;cases e
  ·rename_i e;injection e with e1 _;exact absurd e1 hc
  ·rename_i c' r' _ e
   injection e with e1 e2
   subst e1 e2;rw[hr]
theorem zue:wordsSigns Try.prog.initOrder.toList=zoU::zrX::zfF::wordsSigns zkP:=by
 rw[ztE,String.toList_ofList,zmP _ _ (by decide),zmP _ _ (by decide),zmP _ _ (by decide)]
theorem zvF {h s:List Char}{r:List (List Char)} (hc:((h == "harness".toList||h == "ownmain".toList)&&isSumSigns s)=true):behindMainWord (h::s::r)=r:=by
 unfold behindMainWord;simp only[hc,if_true]
theorem zwk {P:Program}{c:List Char}{rest:List (List Char)} (hb:behindMainWord (wordsSigns P.initOrder.toList)=c::rest) (hs:stripLifts liftWords (c::rest)=([],c::rest))
  (h1:(c == "gc".toList)=false) (h2:(c == "spec".toList)=false) (h3:(c == "carried".toList)=false) (h4:((some c:Option (List Char))==some "cut".toList)=true) (h5:P.laysLater=false) (h6:P.bearsReflect=false) (h7:P.doorFits []=true):P.mayEnter=true:=by
 unfold Program.mayEnter;rw[hb];simp only[hs,List.head?_cons,h1,h2,h3,h4,h5,h6,h7,Bool.or_false,Bool.false_and,Bool.not_false,Bool.or_true,Bool.and_true,List.contains_nil]
theorem zy6 {P:Program}{c:List Char}{rest:List (List Char)} (hb:behindMainWord (wordsSigns P.initOrder.toList)=c::rest)
  (h1:(c == "gc".toList)=false) (h2:(c == "spec".toList)=false) (h3:(c == "cut".toList)=true):P.make=some Make.cut:=by
 unfold Program.make;rw[hb];simp only[h1,h2,h3,Bool.true_or,Bool.or_false,Bool.false_eq_true,if_false,if_true]
theorem ziu:behindMainWord (wordsSigns Try.prog.initOrder.toList)=zfF::wordsSigns zkP:=by
 have hc:((zoU == "harness".toList||zoU == "ownmain".toList)&&isSumSigns zrX)=true:=by as_aux_lemma=>kernel_rfl
 rw[zue];exact zvF hc
theorem zcw {o:String}{os:List String}{w:List Char}{ws:List (List Char)} (h:(w==o.toList)=false):stripLifts (o::os) (w::ws)=stripLifts os (w::ws):=by
 unfold stripLifts;rw[h];rw[if_neg Bool.false_ne_true];cases os <;> rfl
theorem zrj (R:List (List Char)):stripLifts liftWords (zfF::R)=([],zfF::R):=by
 unfold liftWords;rw[zcw (o:="finals") (by as_aux_lemma=>kernel_rfl)]
 rw[zcw (o:="reflectrows") (by as_aux_lemma=>kernel_rfl)]
 rw[zcw (o:="leanrows") (by as_aux_lemma=>kernel_rfl)]
 rw[zcw (o:="onebuild") (by as_aux_lemma=>kernel_rfl)]
 rw[zcw (o:="publicsums") (by as_aux_lemma=>kernel_rfl)]
 rw[zcw (o:="eqguard") (by as_aux_lemma=>kernel_rfl)]
 rw[zcw (o:="ownunsafe") (by as_aux_lemma=>kernel_rfl)]
 rw[zcw (o:="libbeside") (by as_aux_lemma=>kernel_rfl)]
 rw[zcw (o:="ownbeside") (by as_aux_lemma=>kernel_rfl)]
 rw[zcw (o:="reflbeside") (by as_aux_lemma=>kernel_rfl)]
 rw[zcw (o:="aliases") (by as_aux_lemma=>kernel_rfl)]
 rw[zcw (o:="afterinit") (by as_aux_lemma=>kernel_rfl)]
 rw[zcw (o:="crcplain") (by as_aux_lemma=>kernel_rfl)]
 rw[zcw (o:="roadunsafe") (by as_aux_lemma=>kernel_rfl)]
 rw[zcw (o:="fmthandon") (by as_aux_lemma=>kernel_rfl)]
 rfl
theorem zBe:(zfF == "cut".toList)=true:=by kernel_rfl
theorem zw6:(zfF == "gc".toList)=false:=by kernel_rfl
theorem ztQ:(zfF == "spec".toList)=false:=by kernel_rfl
theorem zs2:(zfF == "carried".toList)=false:=by kernel_rfl
theorem ztl:((some zfF:Option (List Char))==some "cut".toList)=true:=by kernel_rfl
theorem zsd:((some zfF:Option (List Char))==some "carried".toList)=false:=by kernel_rfl
theorem zvX:Try.prog.laysLater=false:=by kernel_rfl
theorem zrQ:Try.prog.bearsReflect=false:=by kernel_rfl
theorem zvw:Try.prog.doorFits []=true:=by kernel_rfl
theorem zlt:Try.prog.mayEnter=true:=zwk ziu (zrj _) zw6 ztQ zs2 ztl zvX zrQ zvw
theorem zux:Try.prog.headLifts=[]:=by
 unfold Program.headLifts;rw[ziu,zrj];generalize wordsSigns zkP=R
 simp only[List.head?_cons,ztl,if_true]
theorem zkB:((false:Bool)==Try.prog.liftsFinal)=true:=by
 unfold Program.liftsFinal;rw[ziu,zux];generalize wordsSigns zkP=R
 simp only[List.head?_cons,zsd,Bool.false_and,Bool.false_or,List.contains_nil];rfl
theorem znl:(Try.prog.make==some Make.cut)=true:=by
 rw[zy6 ziu zw6 ztQ zBe];rfl
end
section
end
section
open Go
abbrev rB (b:Bool):Option AV:=some (.v (.cell (.bool b)))
abbrev rI (n:Int):Option AV:=some (.v (.cell (.int n)))
abbrev rL (xs:List Int):Option AV:=some (.v (.cell (.sl 1 (zab xs))))
structure DM where
 f:Int
 t:Int
 cs:List (List Int)
 deriving Inhabited
def zBI (c:List Int):List AC:=[.sl 1 (zab c)]
def zcS (cs:List (List Int)):List (List AC):=cs.map zBI
def zj6 (d:DM):List AC:=[.int d.f,.int d.t,.sl 1 (zcS d.cs)]
def zah (D:List DM):List (List AC):=D.map zj6
structure DOk (d:DM):Prop where
 f:inI d.f
 t:inI d.t
 len:d.cs.length≤za9
 cs:∀c∈d.cs,zde c
theorem zsV:∀{cs:List (List AC)},(∀c∈cs,Fit .con c)→∃C,cs=zcS C∧∀c∈C,zde c
 | [],_=>⟨[],rfl,fun c h=>by cases h⟩
 | c::cs,h=>by
  obtain⟨C,rfl,hC⟩:=zsV fun x hx=>h x (List.mem_cons_of_mem _ hx)
  have h0:=h c List.mem_cons_self
  generalize ht:Ty.con=t at h0
  cases h0 with
  | con fs hf =>
   refine⟨fs::C,rfl,fun c hc=>?_⟩
   rcases List.mem_cons.1 hc with rfl|hc
   ·exact hf
   ·exact hC c hc
  | _=>cases ht
theorem ztf:∀{ds:List (List AC)},(∀d∈ds,Fit .decl d)→∃D,ds=zah D∧∀d∈D,DOk d
 | [],_=>⟨[],rfl,fun c h=>by cases h⟩
 | d::ds,h=>by
  obtain⟨D,rfl,hD⟩:=ztf fun x hx=>h x (List.mem_cons_of_mem _ hx)
  have h0:=h d List.mem_cons_self
  generalize ht:Ty.decl=t at h0
  cases h0 with
  | decl f t' cons hf ht' hl hc =>
   obtain⟨C,rfl,hC⟩:=zsV hc;refine⟨⟨f,t',C⟩::D,rfl,fun x hx=>?_⟩
   rcases List.mem_cons.1 hx with rfl|hx
   ·exact⟨hf,ht',by simpa [zcS] using hl,hC⟩
   ·exact hD x hx
  | _=>cases ht
theorem za8 (D:List DM):(zah D).length=D.length:=by simp[zah]
theorem zaX (C:List (List Int)):(zcS C).length=C.length:=by simp[zcS]
def gD (D:List DM) (k:Nat):DM:=D.getD k default
theorem zvn {D:List DM}{k:Nat} (h:k<D.length):(zah D).getD k []=[.int (gD D k).f,.int (gD D k).t,.sl 1 (zcS (gD D k).cs)]:=by simp[zah,List.getD,h,gD,zj6]
theorem zvS {C:List (List Int)}{k:Nat} (h:k<C.length):(zcS C).getD k []=[.sl 1 (zab (C.getD k []))]:=by simp[zcS,List.getD,h,zBI]
theorem zxP {D:List DM}{k:Nat} (h:k<D.length):gD D k∈D:=zaZ h _
section
variable {ρ:Type}{r:ρ}
theorem zbA {D:List DM}{i:Int}{k:Nat} (hi:i=(k:Int)) (h:k<D.length) {K:Fn (Option ρ) [.int 0,.int 0,.sl 1 []]} (h2:(K:Int→Int→List (List AC)→Option ρ) (gD D k).f (gD D k).t (zcS (gD D k).cs)=some r):zei (zah D) i [.int 0,.int 0,.sl 1 []] K=some r:=by
 subst hi;exact zqn (by rw[za8];exact h) (zvn h) h2
theorem zko {C:List (List Int)}{i:Int}{k:Nat} (hi:i=(k:Int)) (h:k<C.length) {K:Fn (Option ρ) [.sl 1 []]} (h2:(K:List (List AC)→Option ρ) (zab (C.getD k []))=some r):zei (zcS C) i [.sl 1 []] K=some r:=by
 subst hi;exact zC6 (by rw[zaX];exact h) (zvS h) h2
theorem ziO {xs:List Int}{i:Int}{k:Nat} (hi:i=(k:Int)) (h:k<xs.length) {K:Fn (Option ρ) [.int 0]} (h2:(K:Int→Option ρ) (xs.getD k 0)=some r):zei (zab xs) i [.int 0] K=some r:=by
 subst hi;refine zbo h ?_
 simpa [List.getD,h] using h2
end
theorem zh5 {α:Type}{l:List α}{k:Nat} (h:k<l.length) (p:α→Bool):(l.drop k).all p=(p l[k]&&(l.drop (k+1)).all p):=by rw[List.drop_eq_getElem_cons h,List.all_cons]
theorem zxj {α:Type}{l:List α}{k:Nat} (h:k<l.length) (p:α→Bool):(l.drop k).any p=(p l[k]||(l.drop (k+1)).any p):=by rw[List.drop_eq_getElem_cons h,List.any_cons]
theorem zkx {D:List DM}{k:Nat} (h:k<D.length):D[k]=gD D k:=by simp[gD,List.getD,h]
theorem nz {n:Nat} (h:n≠0):(((n:Nat):Int)==0)=false:=by simp[h]
theorem zr {n:Nat} (h:n=0):(((n:Nat):Int)==0)=true:=by simp[h]
theorem eqt {a b:Int} (h:a=b):(a==b)=true:=by simp[h]
theorem eqf {a b:Int} (h:a≠b):(a==b)=false:=by simp[h]
theorem net {a b:Int} (h:a≠b):(a != b)=true:=by simp[h]
theorem nef {a b:Int} (h:a=b):(a != b)=false:=by simp[h]
def zdk (D:List DM) (t:Int):Bool:=decide (0≤t)&&decide (t≤D.length)
def zur (D:List DM) (t:Int):Bool:=decide (0<t)&&(zdk D t&&decide (0<(gD D (t.toNat-1)).cs.length))
def zlu (D:List DM) (t:Int):Bool:=decide (0<t)&&(zdk D t&&((gD D (t.toNat-1)).cs.length==0))
def ztI (f t:Int) (d:DM):Bool:=(d.cs.length==0)&&(d.f==f&&d.t==t)
def zgl (f t:Int):List DM→Nat→Int
 | [],_=>-1
 | d::ds,k=>if ztI f t d then((k+1:Nat):Int) else zgl f t ds (k+1)
def zi9 (D:List DM) (c:List Int):Bool:=decide (c.length≤3)&&c.all (zdk D)
def zjV (D:List DM) (k:Nat):Bool :=
 if 0<(gD D k).cs.length then decide ((gD D k).cs.length≤3)&&(((gD D k).f==0)&&(((gD D k).t==0)&&(gD D k).cs.all (zi9 D)))
 else zdk D (gD D k).f&&(zdk D (gD D k).t&&!(D.take k).any (ztI (gD D k).f (gD D k).t))
def zeR (D:List DM):Bool:=decide (D.length≤4)&&(List.range D.length).all (zjV D)
theorem zjc (D:List DM) (t:Int):zdn [.cell (.sl 3 (zah D)),.cell (.int t)]=rB (zdk D t):=by
 refine zpN ?_
 by_cases h:0≤t
 ·exact zad (decide_eq_true h) (by simp[zdk,h,za8])
 ·exact zaa (decide_eq_false h) (by simp[zdk,h])
theorem zeg (n lo hi:Int):zbl [.cell (.int n),.cell (.int lo),.cell (.int hi)]=rB (decide (lo≤n)&&decide (n≤hi)):=by
 refine zn9 ?_
 by_cases h:lo≤n
 ·exact zad (decide_eq_true h) (by simp[h])
 ·exact zaa (decide_eq_false h) (by simp[h])
theorem zsF (D:List DM) (t:Int):zbl [.cell (.int t),.cell (.int 0),.cell (.int (((zah D).length:Nat):Int))]=rB (zdk D t):=by
 rw[zeg,za8];rfl
theorem zim (D:List DM) (xs:List Int) (hx:xs.length≤za9):zeB [.cell (.sl 3 (zah D)),.cell (.sl 1 (zab xs))]=rB (xs.all (zdk D)):=by
 have key:∀m k:Nat,k+m=xs.length→zed (zah D) (zab xs) (((zab xs).length:Nat):Int) (k:Int)=rB ((xs.drop k).all (zdk D)):=by
  intro m;induction m with
  | zero=>intro k hk;exact zgX (zaa (decide_eq_false (by rw[zac];omega)) (by rw[List.drop_eq_nil_of_le (by omega)];rfl))
  | succ m ih =>
   intro k hk;have hlt:k<xs.length:=by omega
   rw[zh5 hlt];refine zgX (zad (decide_eq_true (by rw[zac];omega)) (zbo hlt (zat (zjc D _) ?_)))
   rcases zdk D xs[k] with _|_
   ·exact zad rfl rfl
   ·exact zaa rfl (by rw[wrk (by omega)];exact ih (k+1) (by omega))
 exact znI (key xs.length 0 (by omega))
theorem zlL (D:List DM) (xs:List Int) (hx:xs.length≤za9):zeG [.cell (.sl 3 (zah D)),.cell (.sl 1 (zab xs))]=rB (xs.all (zdk D)):=by
 have key:∀m k:Nat,k+m=xs.length→zej (zah D) (zab xs) (k:Int)=rB ((xs.drop k).all (zdk D)):=by
  intro m;induction m with
  | zero=>intro k hk;exact zg4 (zaa (decide_eq_false (by rw[zac];omega)) (by rw[List.drop_eq_nil_of_le (by omega)];rfl))
  | succ m ih =>
   intro k hk;have hlt:k<xs.length:=by omega
   rw[zh5 hlt];refine zg4 (zad (decide_eq_true (by rw[zac];omega)) (zbo hlt (zat (zsF D _) ?_)))
   rcases zdk D xs[k] with _|_
   ·exact zad rfl rfl
   ·exact zaa rfl (by rw[wrk (by omega)];exact ih (k+1) (by omega))
 exact znF (key xs.length 0 (by omega))
theorem hit_cases {f t:Int}{d:DM}:ztI f t d=true↔d.cs.length=0∧d.f=f∧d.t=t:=by simp[ztI]
theorem zuO (D:List DM) (hD:D.length≤1000) (f t:Int):zd0 [.cell (.sl 3 (zah D)),.cell (.int f),.cell (.int t)]=rI (zgl f t D 0):=by
 have key:∀m k:Nat,k+m=D.length→zbF f t (zah D) (((zah D).length:Nat):Int) (k:Int)=rI (zgl f t (D.drop k) k):=by
  intro m;induction m with
  | zero=>intro k hk;exact ze2 (zaa (decide_eq_false (by rw[za8];omega)) (by rw[List.drop_eq_nil_of_le (by omega)];rfl))
  | succ m ih =>
   intro k hk;have hlt:k<D.length:=by omega
   have w1:zaf ((k:Int)+1)=((k+1:Nat):Int):=wrk (by unfold za9;omega)
   have nx:=ih (k+1) (by omega)
   rw[List.drop_eq_getElem_cons hlt,zkx hlt];refine ze2 (zad (decide_eq_true (by rw[za8];omega)) (zbA rfl hlt ?_))
   rw[zaX,w1];by_cases h1:(gD D k).cs.length=0
   ·refine zad (by simp[h1]) ?_
    by_cases h2:(gD D k).f=f
    ·refine zad (by simp[h2]) ?_
     by_cases h3:(gD D k).t=t
     ·exact zad (by simp[h3]) (by rw[zgl,if_pos (hit_cases.2 ⟨h1,h2,h3⟩)])
     ·exact zaa (by simp[h3]) (by rw[zgl,if_neg (fun h=>h3 (hit_cases.1 h).2.2)];exact nx)
    ·exact zaa (by simp[h2]) (by rw[zgl,if_neg (fun h=>h2 (hit_cases.1 h).2.1)];exact nx)
   ·exact zaa (nz h1) (by rw[zgl,if_neg (fun h=>h1 (hit_cases.1 h).1)];exact nx)
 exact zj7 (key D.length 0 (by omega))
theorem zsz (D:List DM) (hD:D.length≤1000) (f t:Int):zha [.cell (.sl 3 (zah D)),.cell (.int f),.cell (.int t)]=rI (zgl f t D 0):=by
 have key:∀m k:Nat,k+m=D.length→zcN (zah D) f t (k:Int)=rI (zgl f t (D.drop k) k):=by
  intro m;induction m with
  | zero=>intro k hk;exact zhA (zaa (decide_eq_false (by rw[za8];omega)) (by rw[List.drop_eq_nil_of_le (by omega)];rfl))
  | succ m ih =>
   intro k hk;have hlt:k<D.length:=by omega
   have w1:zaf ((k:Int)+1)=((k+1:Nat):Int):=wrk (by unfold za9;omega)
   have nx:=ih (k+1) (by omega)
   rw[List.drop_eq_getElem_cons hlt,zkx hlt];refine zhA (zad (decide_eq_true (by rw[za8];omega)) (zbA rfl hlt ?_))
   rw[zaX,w1];by_cases h1:(gD D k).cs.length=0
   ·refine zad (by simp[h1]) (zbA rfl hlt ?_)
    by_cases h2:(gD D k).f=f
    ·refine zad (by simp[h2]) (zbA rfl hlt ?_)
     by_cases h3:(gD D k).t=t
     ·exact zad (by simp[h3]) (by rw[zgl,if_pos (hit_cases.2 ⟨h1,h2,h3⟩)])
     ·exact zaa (by simp[h3]) (by rw[zgl,if_neg (fun h=>h3 (hit_cases.1 h).2.2)];exact nx)
    ·exact zaa (by simp[h2]) (by rw[zgl,if_neg (fun h=>h2 (hit_cases.1 h).2.1)];exact nx)
   ·exact zaa (nz h1) (by rw[zgl,if_neg (fun h=>h1 (hit_cases.1 h).1)];exact nx)
 exact zoK (key D.length 0 (by omega))
theorem zs3 (f t:Int):∀(D:List DM) (k:Nat),decide (zgl f t D k<0)=!D.any (ztI f t)
 | [],k=>by simp[zgl]
 | d::D,k=>by
  unfold zgl;rw[List.any_cons];cases h:ztI f t d
  ·simpa using zs3 f t D (k+1)
  ·simp;omega
theorem zsX (D:List DM) (C:List (List Int)) (hC:∀c∈C,zde c) (hl:C.length≤za9):zh7 [.cell (.sl 3 (zah D)),.cell (.sl 1 (zcS C))]=rB (decide (C.length≤3)&&C.all (zi9 D)):=by
 have key:∀m k:Nat,k+m=C.length→zdW (zah D) (zcS C) (((zcS C).length:Nat):Int) (k:Int)=rB ((C.drop k).all (zi9 D)):=by
  intro m;induction m with
  | zero=>intro k hk;exact zgj (zaa (decide_eq_false (by rw[zaX];omega)) (by rw[List.drop_eq_nil_of_le (by omega)];rfl))
  | succ m ih =>
   intro k hk;have hlt:k<C.length:=by omega
   have hc:=hC _ (zaZ hlt [])
   rw[zh5 hlt,show C[k]=C.getD k [] by simp[List.getD,hlt]]
   refine zgj (zad (decide_eq_true (by rw[zaX];omega)) (zko rfl hlt ?_))
   rw[zac];by_cases h3:(C.getD k []).length≤3
   ·refine zaa (decide_eq_false (by omega)) (zat (zim D _ hc.len) ?_)
    have e:zi9 D (C.getD k [])=(C.getD k []).all (zdk D):=by unfold zi9;rw[decide_eq_true h3,Bool.true_and]
    rw[e];rcases(C.getD k []).all (zdk D) with _|_
    ·exact zad rfl rfl
    ·exact zaa rfl (by rw[wrk (by omega)];exact ih (k+1) (by omega))
   ·refine zad (decide_eq_true (by omega)) ?_
    have e:zi9 D (C.getD k [])=false:=by unfold zi9;rw[decide_eq_false h3];rfl
    rw[e];rfl
 refine zme ?_
 rw[zaX];by_cases h:C.length≤3
 ·refine zaa (decide_eq_false (by omega)) ?_
  have:=key C.length 0 (by omega)
  rw[zaX] at this
  simpa [h] using this
 ·exact zad (decide_eq_true (by omega)) (by simp[h])
theorem zpR (D:List DM) (k:Nat):(zah D).take k=zah (D.take k):=by simp[zah]
theorem zty (D:List DM) (hD:∀d∈D,DOk d) (hl:D.length≤1000) (k:Nat) (hk:k<D.length):zhJ [.cell (.sl 3 (zah D)),.cell (.int (k:Int))]=rB (zjV D k):=by
 have hd:=hD _ (zxP hk)
 refine zmJ (zbA rfl hk ?_)
 rw[zaX];unfold zjV;by_cases h0:0<(gD D k).cs.length
 ·refine zad (decide_eq_true (by omega)) ?_
  rw[if_pos h0];by_cases h1:(gD D k).f=0
  ·refine zad (by simp[h1]) ?_
   by_cases h2:(gD D k).t=0
   ·exact zad (by simp[h2]) (zat (zsX D _ hd.cs hd.len) (by rw[h1,h2];simp only[beq_self_eq_true,Bool.true_and];rfl))
   ·exact zaa (by simp[h2]) (by simp[h2])
  ·exact zaa (by simp[h1]) (by simp[h1])
 ·refine zaa (decide_eq_false (by omega)) (zat (zjc D _) ?_)
  rw[if_neg h0];rcases zdk D (gD D k).f with _|_
  ·exact zaa rfl rfl
  ·refine zad rfl (zat (zjc D _) ?_)
   rcases zdk D (gD D k).t with _|_
   ·exact zaa rfl rfl
   ·refine zad rfl (zuS (by omega) (by omega) (by rw[za8];omega) ?_)
    rw[show(((zah D).drop (0:Int).toNat).take ((k:Int).toNat-(0:Int).toNat))=zah (D.take k) by simp[zpR]]
    refine zal (zuO _ (by rw[List.length_take];omega) _ _) ?_
    rw[zs3];rfl
theorem ztx (D:List DM) (hD:∀d∈D,DOk d) (hl:D.length≤1000) (k:Nat) (hk:k<D.length):zhN [.cell (.sl 3 (zah D)),.cell (.int (k:Int))]=rB (zjV D k):=by
 have hd:=hD _ (zxP hk)
 have key1:∀m j:Nat,j+m=(gD D k).cs.length→zdN (zah D) (gD D k).f (gD D k).t (zcS (gD D k).cs) (j:Int)=rB (((gD D k).cs.drop j).all (zi9 D)):=by
  intro m;induction m with
  | zero=>intro j hj;exact zge (zaa (decide_eq_false (by rw[zaX];omega)) (by rw[List.drop_eq_nil_of_le (by omega)];rfl))
  | succ m ih =>
   intro j hj;have hlt:j<(gD D k).cs.length:=by omega
   have hc:=hd.cs _ (zaZ hlt [])
   have hlen:=hd.len
   rw[zh5 hlt,show(gD D k).cs[j]=(gD D k).cs.getD j [] by simp[List.getD,hlt]]
   refine zge (zad (decide_eq_true (by rw[zaX];omega)) (zko rfl hlt ?_))
   rw[zac];by_cases h3:((gD D k).cs.getD j []).length≤3
   ·refine zaa (decide_eq_false (by omega)) (zko rfl hlt (zat (zlL D _ hc.len) ?_))
    have e:zi9 D ((gD D k).cs.getD j [])=((gD D k).cs.getD j []).all (zdk D):=by unfold zi9;rw[decide_eq_true h3,Bool.true_and]
    rw[e];rcases((gD D k).cs.getD j []).all (zdk D) with _|_
    ·exact zad rfl rfl
    ·exact zaa rfl (by rw[wrk (by omega)];exact ih (j+1) (by omega))
   ·refine zad (decide_eq_true (by omega)) ?_
    have e:zi9 D ((gD D k).cs.getD j [])=false:=by unfold zi9;rw[decide_eq_false h3];rfl
    rw[e];rfl
 have key2:∀m j:Nat,j+m=k→zca (zah D) (k:Int) (gD D k).f (gD D k).t (zcS (gD D k).cs) (j:Int)=rB (!((D.take k).drop j).any (ztI (gD D k).f (gD D k).t)&&(zdk D (gD D k).f&&zdk D (gD D k).t)):=by
  intro m;induction m with
  | zero =>
   intro j hj;refine zgo (zaa (decide_eq_false (by omega)) (zat (zsF D _) ?_))
   rw[List.drop_eq_nil_of_le (by rw[List.length_take];omega)]
   rcases zdk D (gD D k).f with _|_
   ·exact zaa rfl rfl
   ·refine zad rfl (zat (zsF D _) ?_)
    simp
    rfl
  | succ m ih =>
   intro j hj;have hlt:j<D.length:=by omega
   have hlt':j<(D.take k).length:=by rw[List.length_take];omega
   have w1:zaf ((j:Int)+1)=((j+1:Nat):Int):=wrk (by unfold za9;omega)
   have nx:=ih (j+1) (by omega)
   rw[zxj hlt',show(D.take k)[j]=gD D j by rw[List.getElem_take,zkx hlt]]
   refine zgo (zad (decide_eq_true (by omega)) (zbA rfl hlt ?_))
   rw[zaX,w1];by_cases h1:(gD D j).cs.length=0
   ·refine zad (by simp[h1]) (zbA rfl hlt ?_)
    by_cases h2:(gD D j).f=(gD D k).f
    ·refine zad (by simp[h2]) (zbA rfl hlt ?_)
     by_cases h3:(gD D j).t=(gD D k).t
     ·refine zad (by simp[h3]) ?_
      rw[hit_cases.2 ⟨h1,h2,h3⟩];rfl
     ·refine zaa (by simp[h3]) ?_
      rw[Bool.eq_false_iff.2 (fun h=>h3 (hit_cases.1 h).2.2)]
      exact nx
    ·refine zaa (by simp[h2]) ?_
     rw[Bool.eq_false_iff.2 (fun h=>h2 (hit_cases.1 h).2.1)]
     exact nx
   ·refine zaa (nz h1) ?_
    rw[Bool.eq_false_iff.2 (fun h=>h1 (hit_cases.1 h).1)]
    exact nx
 refine zms (zbA rfl hk ?_)
 rw[zaX];unfold zjV;by_cases h0:0<(gD D k).cs.length
 ·refine zad (decide_eq_true (by omega)) ?_
  rw[if_pos h0];by_cases h3:(gD D k).cs.length≤3
  ·refine zaa (decide_eq_false (by omega)) ?_
   by_cases h1:(gD D k).f=0
   ·refine zaa (by simp[h1]) ?_
    by_cases h2:(gD D k).t=0
    ·refine zaa (by simp[h2]) ?_
     have:=key1 (gD D k).cs.length 0 (by omega)
     simpa [h1,h2,h3] using this
    ·exact zad (by simp[h2]) (by simp[h2])
   ·exact zad (by simp[h1]) (by simp[h1])
  ·exact zad (decide_eq_true (by omega)) (by simp[h3])
 ·refine zaa (decide_eq_false (by omega)) ?_
  rw[if_neg h0];have:=key2 k 0 (by omega)
  rw[List.drop_zero] at this;refine Eq.trans this ?_
  rcases(List.take k D).any (ztI (gD D k).f (gD D k).t) with _|_ <;> rcases zdk D (gD D k).f with _|_ <;> rcases zdk D (gD D k).t with _|_ <;> rfl
theorem zqu {n k:Nat} (h:k<n) (p:Nat→Bool):((List.range n).drop k).all p=(p k&&((List.range n).drop (k+1)).all p):=by
 rw[zh5 (by simpa using h)]
 simp
theorem zsC (D:List DM) (hD:∀d∈D,DOk d) (hlen:D.length≤za9):zgM [.cell (.sl 3 (zah D))]=rB (zeR D):=by
 refine zlw ?_
 rw[za8];by_cases h4:D.length≤4
 ·refine zaa (decide_eq_false (by omega)) ?_
  have key:∀m k:Nat,k+m=D.length→zdz (zah D) ((D.length:Nat):Int) (k:Int)=rB (((List.range D.length).drop k).all (zjV D)):=by
   intro m;induction m with
   | zero=>intro k hk;exact zfL (zaa (decide_eq_false (by omega)) (by rw[List.drop_eq_nil_of_le (by simp;omega)];rfl))
   | succ m ih =>
    intro k hk;rw[zqu (by omega)]
    refine zfL (zad (decide_eq_true (by omega)) (zat (zty D hD (by omega) k (by omega)) ?_))
    rcases zjV D k with _|_
    ·exact zad rfl rfl
    ·exact zaa rfl (by rw[wrk (by unfold za9;omega)];exact ih (k+1) (by omega))
  have:=key D.length 0 (by omega)
  simpa [zeR,h4] using this
 ·exact zad (decide_eq_true (by omega)) (by simp[zeR,h4])
theorem zsa (D:List DM) (hD:∀d∈D,DOk d) (hlen:D.length≤za9):zgL [.cell (.sl 3 (zah D))]=rB (zeR D):=by
 refine zll ?_
 rw[za8];by_cases h4:D.length≤4
 ·refine zaa (decide_eq_false (by omega)) ?_
  have key:∀m k:Nat,k+m=D.length→zdw (zah D) (k:Int)=rB (((List.range D.length).drop k).all (zjV D)):=by
   intro m;induction m with
   | zero=>intro k hk;exact zfK (zaa (decide_eq_false (by rw[za8];omega)) (by rw[List.drop_eq_nil_of_le (by simp;omega)];rfl))
   | succ m ih =>
    intro k hk;rw[zqu (by omega)]
    refine zfK (zad (decide_eq_true (by rw[za8];omega)) (zat (ztx D hD (by omega) k (by omega)) ?_))
    rcases zjV D k with _|_
    ·exact zad rfl rfl
    ·exact zaa rfl (by rw[wrk (by unfold za9;omega)];exact ih (k+1) (by omega))
  have:=key D.length 0 (by omega)
  simpa [zeR,h4] using this
 ·exact zad (decide_eq_true (by omega)) (by simp[zeR,h4])
end
section
open Go
end
end Go.Proofs.Ytcpcagdialnbeaa
