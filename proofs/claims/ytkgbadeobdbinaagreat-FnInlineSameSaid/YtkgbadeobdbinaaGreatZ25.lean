/- Generic texts and models for the proofs of this seat: part 25. -/
import Derived.Test.YtkgbadeobdbinaaGreatZ24
set_option linter.unusedVariables false
set_option linter.unusedSimpArgs false
namespace Go.Proofs.YtkgbadeobdbinaaGreat
section
open Go
theorem zrq {a b:Int} (h:a=b):rI a=rI b:=by rw[h]
theorem zbv (o n:Int) (kids:List (List AC)):cS [.int o,.int n,.sl 3 kids]=kids.length+rsS kids:=by
 rw[zBL,zBL,zHe,zGF];omega
theorem zd3 {o n:Int}{kids:List (List AC)} (h:Fit .expr [.int o,.int n,.sl 3 kids]):inI o∧inI n∧kids.length≤zaI∧∀b∈kids,Fit .expr b:=by
 generalize ht:Ty.expr=t at h
 generalize hx:[AC.int o,AC.int n,AC.sl 3 kids]=x at h
 cases h with
 | expr o' n' kids' ho hn hl h =>
  simp only[List.cons.injEq,AC.int.injEq,AC.sl.injEq,true_and,and_true] at hx;obtain⟨rfl,rfl,rfl⟩:=hx;exact⟨ho,hn,hl,h⟩
 | _=>cases ht
theorem znl {x:List AC} (h:Fit .expr x):∃o n kids,x=[.int o,.int n,.sl 3 kids]:=by
 generalize ht:Ty.expr=t at h
 cases h with
 | expr o n kids _ _ _ _=>exact⟨o,n,kids,rfl⟩
 | _=>cases ht
theorem zcE {kids:List (List AC)} (h:∀b∈kids,Fit .expr b) {k:Nat} (hk:k<kids.length):∃o n ks,kids.getD k []=[.int o,.int n,.sl 3 ks]∧Fit .expr [.int o,.int n,.sl 3 ks]:=by
 have h1:=h _ (zaE hk [])
 obtain⟨o,n,ks,e⟩:=znl h1;exact⟨o,n,ks,e,e▸h1⟩
theorem zaO {kids:List (List AC)}{k:Nat} (hk:k<kids.length) {o n:Int}:cS (kids.getD k [])<cS [.int o,.int n,.sl 3 kids]:=by
 rw[zbv];have:=zjo (zaE hk [])
 omega
def zs9 (kids:List (List AC)) (k:Nat):Nat:=(kids.length-k)+rsS (kids.drop k)
theorem zt4 {kids:List (List AC)}{k:Nat} (hk:k<kids.length):zs9 kids k=1+cS (kids.getD k [])+zs9 kids (k+1):=by
 unfold zs9;rw[zvU hk];omega
theorem zw4 (kids:List (List AC)):zs9 kids kids.length=0:=by
 unfold zs9;rw[List.drop_eq_nil_of_le (Nat.le_refl _),zaQ];omega
theorem zug (o n:Int) (kids:List (List AC)):zs9 kids 0=cS [.int o,.int n,.sl 3 kids]:=by
 rw[zbv];unfold zs9;simp
def ztg (a b:Nat):Nat:=if a≤b then a else b
theorem zFK:∀(s:Nat) (o n:Int) (kids:List (List AC)),cS [.int o,.int n,.sl 3 kids]<s→Fit .expr [.int o,.int n,.sl 3 kids]→∀L:Nat,L≤30 →
  zgm [.agg [.int o,.int n,.sl 3 kids],.cell (.int (L:Int))]=rI ((ztg (1+cS [.int o,.int n,.sl 3 kids]) (L+1):Nat):Int):=by
 intro s;induction s with
 | zero=>intro o n kids h;omega
 | succ s ihs =>
  intro o n kids hs hf L hL;obtain⟨_,_,hl,hk⟩:=zd3 hf;have key:∀m k:Nat,k+m=kids.length→∀c:Nat,1≤c→c≤L+1→zeG (L:Int) (c:Int) kids ((kids.length:Nat):Int) (k:Int)=rI ((ztg (c+zs9 kids k) (L+1):Nat):Int):=by
   intro m;induction m with
   | zero =>
    intro k hk c h1 h2;obtain rfl:k=kids.length:=by omega
    refine zik (zaa (decide_eq_false (by omega)) ?_)
    rw[zw4];unfold ztg;rw[if_pos (by omega)]
    rfl
   | succ m ih =>
    intro k hkm c h1 h2;have hlt:k<kids.length:=by omega
    obtain⟨o',n',ks,e,hf'⟩:=zcE hk hlt;have hr:=zt4 hlt
    have hlt':=zaO hlt (o:=o) (n:=n)
    rw[e] at hr hlt';refine zik (zac (decide_eq_true (by omega)) (zbu hlt e ?_))
    by_cases hc:c=L+1
    ·refine zac (decide_eq_true (by omega)) ?_
     unfold ztg;split
     ·have:c+zs9 kids k=c:=by omega
      rw[this]
     ·rw[hc]
    refine zaa (decide_eq_false (by omega)) ?_
    have w1:zae ((L:Int)-(c:Int))=((L-c:Nat):Int):=by rw[wr (by omega) (by omega)];omega
    rw[w1];refine zar (ihs o' n' ks (by omega) hf' (L-c) (by omega)) ?_
    generalize cS [.int o',.int n',.sl 3 ks]=z at hr
    have hm:ztg (1+z) (L-c+1)≤L-c+1∧1≤ztg (1+z) (L-c+1):=by unfold ztg;split <;> omega
    have w2:zae ((c:Int)+((ztg (1+z) (L-c+1):Nat):Int))=((c+ztg (1+z) (L-c+1):Nat):Int):=by rw[wr (by omega) (by omega)];omega
    rw[w2,wrk (by omega)]
    rw[ih (k+1) (by omega) _ (by omega) (by omega),hr]
    refine zrq ?_
    unfold ztg;split <;> split <;> split <;> omega
  have:=key kids.length 0 (by omega) 1 (by omega) (by omega)
  rw[zug o n] at this;exact zo5 this
def zwM (x:List AC):Int:=if cS x≤29 then((1+cS x:Nat):Int) else -1
theorem zqm {o n:Int}{kids:List (List AC)} (hf:Fit .expr [.int o,.int n,.sl 3 kids]):zjx [.agg [.int o,.int n,.sl 3 kids]]=rI (zwM [.int o,.int n,.sl 3 kids]):=by
 refine zrd (zar (zFK _ o n kids (Nat.lt_succ_self _) hf 30 (by omega)) ?_)
 unfold zwM ztg;generalize cS [.int o,.int n,.sl 3 kids]=z
 by_cases h:z≤29
 ·rw[if_pos (show 1+z≤30+1 by omega),if_pos h]
  exact zaa (decide_eq_false (by omega)) rfl
 ·rw[if_neg h]
  refine zac (decide_eq_true ?_) rfl
  split <;> omega
theorem zGA:∀(s:Nat) (o n:Int) (kids:List (List AC)),cS [.int o,.int n,.sl 3 kids]<s→Fit .expr [.int o,.int n,.sl 3 kids]→∀L:Nat,L≤30 →
  zgv [.agg [.int o,.int n,.sl 3 kids],.cell (.int (L:Int))]=rI (if 1+cS [.int o,.int n,.sl 3 kids]≤L then((L-(1+cS [.int o,.int n,.sl 3 kids]):Nat):Int) else -1):=by
 intro s;induction s with
 | zero=>intro o n kids h;omega
 | succ s ihs =>
  intro o n kids hs hf L hL;obtain⟨_,_,hl,hk⟩:=zd3 hf;have key:∀m k:Nat,k+m=kids.length→∀c:Nat,c≤30→zeC (c:Int) o n kids (k:Int)=rI (if zs9 kids k≤c then((c-zs9 kids k:Nat):Int) else -1):=by
   intro m;induction m with
   | zero =>
    intro k hk c h2;obtain rfl:k=kids.length:=by omega
    refine ziw (zaa (decide_eq_false (by omega)) ?_)
    rw[zw4,if_pos (by omega)]
    rfl
   | succ m ih =>
    intro k hkm c h2;have hlt:k<kids.length:=by omega
    obtain⟨o',n',ks,e,hf'⟩:=zcE hk hlt;have hr:=zt4 hlt
    have hlt':=zaO hlt (o:=o) (n:=n)
    rw[e] at hr hlt';refine ziw (zac (decide_eq_true (by omega)) (zbu hlt e (zar (ihs o' n' ks (by omega) hf' c h2) ?_)))
    generalize cS [.int o',.int n',.sl 3 ks]=z at hr
    by_cases hc:1+z≤c
    ·rw[if_pos hc]
     refine zaa (decide_eq_false (by omega)) ?_
     rw[wrk (by omega),ih (k+1) (by omega) _ (by omega)]
     refine zrq ?_
     split <;> split <;> omega
    ·rw[if_neg hc,if_neg (by omega)]
     exact zac rfl rfl
  refine zpd ?_
  by_cases h1:L=0
  ·rw[if_neg (by omega)]
   exact zac (decide_eq_true (by omega)) rfl
  refine zaa (decide_eq_false (by omega)) ?_
  have w1:zae ((L:Int)-1)=((L-1:Nat):Int):=by rw[wr (by omega) (by omega)];omega
  have:=key kids.length 0 (by omega) (L-1) (by omega)
  rw[zug o n] at this;rw[w1,show((0:Nat):Int)=0 from rfl] at *;refine Eq.trans this ?_
  refine zrq ?_
  split <;> split <;> omega
theorem znr {o n:Int}{kids:List (List AC)} (hf:Fit .expr [.int o,.int n,.sl 3 kids]):zeZ [.agg [.int o,.int n,.sl 3 kids]]=rI (zwM [.int o,.int n,.sl 3 kids]):=by
 refine zqU (zar (zGA _ o n kids (Nat.lt_succ_self _) hf 30 (by omega)) ?_)
 unfold zwM;generalize cS [.int o,.int n,.sl 3 kids]=z
 by_cases h:z≤29
 ·rw[if_pos (by omega),if_pos h]
  refine zaa (decide_eq_false (by omega)) ?_
  rw[wr (by omega) (by omega)]
  refine zrq ?_
  omega
 ·rw[if_neg (by omega),if_neg h]
  exact zac rfl rfl
end
section
open Go
def tyL (T:Nat→Int) (m:Nat):List Int:=(List.range m).map T
theorem zdc (T:Nat→Int) (m:Nat):(tyL T m).length=m:=by simp[tyL]
theorem zns (T:Nat→Int) {m k:Nat} (h:k<m):(tyL T m).getD k 0=T k:=by simp[tyL,List.getD,h]
theorem zuL (T:Nat→Int) {m k:Nat} (h:k<(tyL T m).length):(tyL T m)[k]=T k:=by simp[tyL]
section
variable {D:List DM}{R:List PM}
theorem zuk (G M:List Int) (kids:List (List AC)) (hm:kids.length≤68719476736) (T:Nat→Int) (hb:∀k,k<kids.length→∃o n ks,kids.getD k []=[.int o,.int n,.sl 3 ks])
  (hT:∀k,k<kids.length→∀o n ks,kids.getD k []=[.int o,.int n,.sl 3 ks]→zby [.agg [.sl 3 (zaf D),.sl 5 (zak R)],.agg [.sl 1 (zad G),.sl 1 (zad M)],.agg [.int o,.int n,.sl 3 ks]]=rI (T k)) :
  zlF [.agg [.sl 3 (zaf D),.sl 5 (zak R)],.agg [.sl 1 (zad G),.sl 1 (zad M)],.cell (.sl 3 kids)]=rL (tyL T kids.length):=by
 have key:∀m k:Nat,k+m=kids.length→zfK (zaf D) (zak R) (zad G) (zad M) (zad ((tyL T kids.length).take k)) kids ((kids.length:Nat):Int) (k:Int)=rL (tyL T kids.length):=by
  intro m;induction m with
  | zero =>
   intro k hk;refine zjU (zaa (decide_eq_false (by omega)) ?_)
   rw[List.take_of_length_le (by rw[zdc];omega)]
  | succ m ih =>
   intro k hk;have hlt:k<kids.length:=by omega
   obtain⟨o,n,ks,e⟩:=hb k hlt;refine zjU (zac (decide_eq_true (by omega)) (zbu hlt e (zar (hT k hlt _ _ _ e) (zbs (by rw[zab,List.length_take,zdc];simp;omega) ?_))))
   have hl:k<(tyL T kids.length).length:=by rw[zdc];exact hlt
   have:=zom hl
   rw[zuL] at this;rw[this,wrk (by unfold zaI;omega)]
   exact ih (k+1) (by omega)
 exact zq7 (key kids.length 0 (by omega))
variable (V:List Int) (kids:List (List AC)) (hm:kids.length≤zaI) (T:Nat→Int) (hb:∀k,k<kids.length→∃o n ks,kids.getD k []=[.int o,.int n,.sl 3 ks])
  (hT:∀k,k<kids.length→∀o n ks,kids.getD k []=[.int o,.int n,.sl 3 ks]→zaN [.agg [.sl 3 (zaf D),.sl 5 (zak R)],.cell (.sl 1 (zad V)),.agg [.int o,.int n,.sl 3 ks]]=rI (T k))
include hm hb hT
theorem zu0 (types:List Int):zjH [.agg [.sl 3 (zaf D),.sl 5 (zak R)],.cell (.sl 1 (zad V)),.cell (.sl 3 kids),.cell (.sl 1 (zad types))]=rB (decide (tyL T kids.length=types)):=by
 refine ztw ?_
 rw[zab];by_cases hl:kids.length=types.length
 rotate_left
 ·rw[decide_eq_false (fun h=>hl (by rw[←h,zdc]))]
  exact zac (net (by omega)) rfl
 refine zaa (nef (by omega)) ?_
 have key:∀m k:Nat,k+m=kids.length→zhZ (zad V) kids (zad types) (zaf D) (zak R) (k:Int)=rB (decide ((tyL T kids.length).drop k=types.drop k)):=by
  intro m;induction m with
  | zero =>
   intro k hk;rw[List.drop_eq_nil_of_le (show(tyL T kids.length).length≤k by rw[zdc];omega),List.drop_eq_nil_of_le (show types.length≤k by omega)]
   exact zlE (zaa (decide_eq_false (by rw[zab];omega)) rfl)
  | succ m ih =>
   intro k hk;have hlt:k<kids.length:=by omega
   have h2:k<types.length:=by omega
   have h3:k<(tyL T kids.length).length:=by rw[zdc];exact hlt
   obtain⟨o,n,ks,e⟩:=hb k hlt;rw[List.drop_eq_getElem_cons h3,List.drop_eq_getElem_cons h2,zuL];refine zlE (zac (decide_eq_true (by rw[zab];omega)) (zbu hlt e (zar (hT k hlt _ _ _ e) (za9 h2 ?_))))
   by_cases he:T k=types[k]
   ·refine zaa (nef he) ?_
    rw[wrk (by omega),ih (k+1) (by omega)]
    simp only[he,List.cons.injEq,true_and]
   ·refine zac (net he) ?_
    simp only[List.cons.injEq];rw[decide_eq_false (fun h=>he h.1)]
 exact key kids.length 0 (by omega)
theorem zuu (c:Nat):zjm [.agg [.sl 3 (zaf D),.sl 5 (zak R)],.cell (.sl 1 (zad V)),.cell (.sl 3 kids),.cell (.int (c:Int))]=rB (decide (tyL T kids.length=List.replicate c 0)):=by
 refine zrn ?_
 by_cases hl:kids.length=c
 rotate_left
 ·rw[decide_eq_false (fun h=>hl (by have:=congrArg List.length h;rw[zdc] at this;simpa using this))]
  exact zac (net (by omega)) rfl
 refine zaa (nef (by omega)) ?_
 have key:∀m k:Nat,k+m=kids.length→zfL (zad V) kids (c:Int) (zaf D) (zak R) (k:Int)=rB (decide ((tyL T kids.length).drop k=List.replicate (c-k) 0)):=by
  intro m;induction m with
  | zero =>
   intro k hk;rw[List.drop_eq_nil_of_le (show(tyL T kids.length).length≤k by rw[zdc];omega),show c-k=0 by omega]
   exact zkt (zaa (decide_eq_false (by omega)) rfl)
  | succ m ih =>
   intro k hk;have hlt:k<kids.length:=by omega
   have h3:k<(tyL T kids.length).length:=by rw[zdc];exact hlt
   obtain⟨o,n,ks,e⟩:=hb k hlt;rw[List.drop_eq_getElem_cons h3,zuL,show c-k=(c-(k+1))+1 by omega,List.replicate_succ]
   refine zkt (zac (decide_eq_true (by omega)) (zbu hlt e (zar (hT k hlt _ _ _ e) ?_)))
   by_cases he:T k=0
   ·refine zaa (nef he) ?_
    rw[wrk (by omega),ih (k+1) (by omega)]
    simp only[he,List.cons.injEq,true_and]
   ·refine zac (net he) ?_
    simp only[List.cons.injEq];rw[decide_eq_false (fun h=>he h.1)]
 have:=key kids.length 0 (by omega)
 simpa using this
theorem zsy (hv:CP D R) (o n:Int):zlk [.agg [.sl 3 (zaf D),.sl 5 (zak R)],.cell (.sl 1 (zad V)),.agg [.int o,.int n,.sl 3 kids]]=rI (if 0≤n∧n<R.length then(if o=9 then(if tyL T kids.length=(gP R n.toNat).ps then(gP R n.toNat).r else -1)
   else if(gP R n.toNat).ps.length=0 then -1 else if tyL T kids.length=zvr (gP R n.toNat).ps then zh4 ((gP R n.toNat).ps.getD ((gP R n.toNat).ps.length-1) 0) (gP R n.toNat).r D 0 else -1) else -1):=by
 have hR:=hv.rl
 refine zpo (zan (zdF _ _ _) ?_)
 have hw:zae ((((zak R).length:Nat):Int)-1)=R.length-1:=by rw[zaA];exact wr (by omega) (by omega)
 rw[hw];by_cases h:0≤n∧n<R.length
 rotate_left
 ·rw[if_neg h]
  refine zac ?_ rfl
  rw[Bool.not_eq_true',Bool.and_eq_false_iff,decide_eq_false_iff_not,decide_eq_false_iff_not];omega
 rw[if_pos h,decide_eq_true h.1,decide_eq_true (show n≤(R.length:Int)-1 by omega)]
 have hp:=(hv.ps n.toNat (by omega)).1
 refine zaa rfl (zaB (k:=n.toNat) (by omega) (by omega) ?_)
 by_cases h9:o=9
 ·rw[if_pos h9]
  refine zac (eqt h9) (zan (zu0 V kids hm T hb hT _) ?_)
  by_cases hq:tyL T kids.length=(gP R n.toNat).ps
  ·rw[if_pos hq,decide_eq_true hq]
   exact zaa rfl rfl
  ·rw[if_neg hq,decide_eq_false hq]
   exact zac rfl rfl
 rw[if_neg h9];refine zaa (eqf h9) ?_
 rw[zab];by_cases h0:(gP R n.toNat).ps.length=0
 ·rw[if_pos h0]
  exact zac (zr h0) rfl
 rw[if_neg h0];refine zaa (nz h0) ?_
 have w:zae ((((gP R n.toNat).ps.length:Nat):Int)-1)=(((gP R n.toNat).ps.length-1:Nat):Int):=by
  rw[wr (by omega) (by omega)]
  omega
 rw[w];refine zyS (by omega) (by omega) (by rw[zab];omega) ?_
 rw[show((zad (gP R n.toNat).ps).drop (0:Int).toNat).take ((((gP R n.toNat).ps.length-1:Nat):Int).toNat-(0:Int).toNat)=zad (zvr (gP R n.toNat).ps) by simp[zvr,zrU]]
 refine zan (zu0 V kids hm T hb hT _) ?_
 by_cases hq:tyL T kids.length=zvr (gP R n.toNat).ps
 ·rw[if_pos hq,decide_eq_true hq]
  exact zaa rfl (zjV rfl (by omega) (zar (zvP D (by have:=hv.dv.len;omega) _ _) rfl))
 ·rw[if_neg hq,decide_eq_false hq]
  exact zac rfl rfl
end
end
section
open Go
theorem zz6 {m:Nat}{P:Nat→Int→Prop} (h:∀k,k<m→∃t,P k t):∃T:Nat→Int,∀k,k<m→P k (T k) :=
 ⟨fun k=>open Classical in if hk:k<m then(h k hk).choose else 0,fun k hk=>by
  simp only[dif_pos hk];exact(h k hk).choose_spec⟩
section
variable {D:List DM}{R:List PM} (hv:CP D R)
section
variable (V:List Int) (kids:List (List AC)) (hm:kids.length≤zaI) (T:Nat→Int) (hb:∀k,k<kids.length→∃o n ks,kids.getD k []=[.int o,.int n,.sl 3 ks])
  (hT:∀k,k<kids.length→∀o n ks,kids.getD k []=[.int o,.int n,.sl 3 ks]→zaN [.agg [.sl 3 (zaf D),.sl 5 (zak R)],.cell (.sl 1 (zad V)),.agg [.int o,.int n,.sl 3 ks]]=rI (T k))
include hm hb hT
theorem zyN (o n o':Int):zcz (zad V) (zaf D) (zak R) o n kids (n==0) o' true=rI (if n=0∧tyL T kids.length=[0,0] then 0 else -1):=by
 refine zcM (zac rfl ?_)
 by_cases hn:n=0
 ·refine zac (eqt hn) (zan (zuu V kids hm T hb hT 2) ?_)
  by_cases hq:tyL T kids.length=[0,0]
  ·rw[if_pos ⟨hn,hq⟩,decide_eq_true (show tyL T kids.length=List.replicate 2 0 from hq)]
   exact zac rfl rfl
  ·rw[if_neg (fun h=>hq h.2),decide_eq_false (show ¬tyL T kids.length=List.replicate 2 0 from hq)]
   exact zaa rfl rfl
 ·rw[if_neg (fun h=>hn h.1)]
  exact zaa (eqf hn) rfl
include hv
theorem zGU {o n:Int} (h:¬(o=1∨o=2∨o=3∨o=4)) (h0:o≠0) (h13:o≠13) (h7:o≠7) (h8:o≠8):zcz (zad V) (zaf D) (zak R) o n kids (n==0) o false=rI (zmp D R o n (tyL T kids.length)):=by
 refine zcM (zaa rfl ?_)
 unfold zmp;rw[if_neg h0,if_neg h];by_cases h5:o=5
 ·rw[if_pos h5]
  refine zac (eqt h5) ?_
  by_cases hn:n=0
  ·refine zac (eqt hn) (zan (zuu V kids hm T hb hT 1) ?_)
   by_cases hq:tyL T kids.length=[0]
   ·rw[if_pos ⟨hn,hq⟩,decide_eq_true (show tyL T kids.length=List.replicate 1 0 from hq)]
    exact zac rfl rfl
   ·rw[if_neg (fun h=>hq h.2),decide_eq_false (show ¬tyL T kids.length=List.replicate 1 0 from hq)]
    exact zaa rfl rfl
  ·rw[if_neg (fun h=>hn h.1)]
   exact zaa (eqf hn) rfl
 rw[if_neg h5];refine zaa (eqf h5) ?_
 by_cases h6:o=6
 ·rw[if_pos h6]
  refine zac (eqt h6) (zar (zpX hv.dv n) ?_)
  have hc:=zf1 (D:=D) n
  by_cases hn:zjr D n<0
  ·rw[if_pos hn]
   exact zaa (decide_eq_false (by omega)) rfl
  have h1:1≤zjr D n:=by
   rcases hc with h0|⟨j,i,hj,he,_⟩ <;> omega
  have hf:=zh3 hv.dv n
  rw[if_neg (by omega)] at hf
  rw[if_neg hn];refine zac (decide_eq_true (by omega)) (zav hf (zan (zu0 V kids hm T hb hT _) ?_))
  by_cases hq:tyL T kids.length=fld D n
  ·rw[if_pos hq,decide_eq_true hq]
   exact zac rfl (zar (zpX hv.dv n) rfl)
  ·rw[if_neg hq,decide_eq_false hq]
   exact zaa rfl rfl
 rw[if_neg h6];refine zaa (eqf h6) (zaa (eqf h13) (zaa (eqf h7) (zaa (eqf h8) ?_)))
 by_cases h9:o=9
 ·rw[if_pos h9]
  refine zac (eqt h9) (zfZ (zac (eqt h9) (zar (zsy V kids hm T hb hT hv o n) ?_)))
  simp only[h9,if_true];rfl
 rw[if_neg h9];refine zaa (eqf h9) ?_
 by_cases h10:o=10
 ·rw[if_pos h10]
  refine zfZ (zac (eqt h10) (zar (zsy V kids hm T hb hT hv o n) ?_))
  simp only[if_neg h9];rfl
 rw[if_neg h10];refine zfZ (zaa (eqf h10) ?_)
 by_cases h11:o=11
 rotate_left
 ·rw[if_neg h11]
  exact zaa (eqf h11) rfl
 rw[if_pos h11];refine zac (eqt h11) ?_
 by_cases hn:n=0
 rotate_left
 ·rw[if_neg hn]
  exact zaa (eqf hn) rfl
 rw[if_pos hn];refine zac (eqt hn) ?_
 rw[zdc];by_cases h2:kids.length=2
 rotate_left
 ·rw[if_neg (fun h=>h2 h.1)]
  exact zaa (eqf (by omega)) rfl
 obtain⟨o0,n0,k0,e0⟩:=hb 0 (by omega)
 obtain⟨o1,n1,k1,e1⟩:=hb 1 (by omega)
 rw[zns T (show 0<kids.length by omega),zns T (show 1<kids.length by omega)]
 refine zac (eqt (by omega)) (zeD (by omega) e0 (zar (hT 0 (by omega) _ _ _ e0) (zan (zee (by have:=hv.dv.len;omega) _) ?_)))
 rcases ha:zoi D (T 0) with _|_
 ·rw[if_neg (fun h=>by cases h.2.1)]
  exact zaa rfl rfl
 have hl:=hv.dv.len
 have hbd:0<T 0∧T 0≤D.length:=by
  simp only[zoi,Bool.and_eq_true,decide_eq_true_eq] at ha;exact⟨ha.1,(isTy_iff.1 ha.2.1).2⟩
 have w:zae (T 0-1)=(((T 0).toNat-1:Nat):Int):=by rw[wr (by omega) (by omega)];omega
 refine zac rfl (zbu (k:=1) (by omega) e1 (zar (hT 1 (by omega) _ _ _ e1) (za5 (k:=(T 0).toNat-1) w (by omega) ?_)))
 by_cases hq:T 1=(gD D ((T 0).toNat-1)).f
 ·rw[if_pos ⟨h2,rfl,hq⟩]
  exact zac (eqt hq) (za5 (k:=(T 0).toNat-1) w (by omega) rfl)
 ·rw[if_neg (fun h=>hq h.2.2)]
  exact zaa (eqf hq) rfl
theorem zFU {o n:Int} (h12:o≠12) (h13:o≠13) (h7:o≠7) (h8:o≠8):zaN [.agg [.sl 3 (zaf D),.sl 5 (zak R)],.cell (.sl 1 (zad V)),.agg [.int o,.int n,.sl 3 kids]]=rI (zmp D R o n (tyL T kids.length)):=by
 refine zdD ?_
 by_cases h0:o=0
 ·refine zac (eqt h0) ?_
  unfold zmp;rw[if_pos h0,zdc];by_cases hl:kids.length=0
  ·refine zac (zr hl) (zan (zdF _ _ _) ?_)
   by_cases hn:-999≤n∧n≤999
   ·rw[if_pos ⟨hn,hl⟩,decide_eq_true hn.1,decide_eq_true hn.2]
    exact zac rfl rfl
   ·rw[if_neg (fun h=>hn h.1)]
    refine zaa ?_ rfl
    rw[Bool.and_eq_false_iff,decide_eq_false_iff_not,decide_eq_false_iff_not];omega
  ·rw[if_neg (fun h=>hl h.2)]
   exact zaa (nz hl) rfl
 refine zaa (eqf h0) (zaa (eqf h12) ?_)
 by_cases h:o=1∨o=2∨o=3∨o=4
 ·have e:zmp D R o n (tyL T kids.length)=(if n=0∧tyL T kids.length=[0,0] then 0 else -1):=by
   unfold zmp;rw[if_neg h0,if_pos h]
  rw[e];rcases h with rfl|rfl|rfl|rfl
  ·exact zac rfl (zyN V kids hm T hb hT _ _ _)
  ·exact zaa rfl (zac rfl (zyN V kids hm T hb hT _ _ _))
  ·exact zaa rfl (zaa rfl (zac rfl (zyN V kids hm T hb hT _ _ _)))
  ·exact zaa rfl (zaa rfl (zaa rfl (zyN V kids hm T hb hT _ _ _)))
 ·refine zaa (eqf (fun h'=>h (.inl h'))) (zaa (eqf (fun h'=>h (.inr (.inl h')))) (zaa (eqf (fun h'=>h (.inr (.inr (.inl h'))))) ?_))
  rw[eqf (show o≠4 from fun h'=>h (.inr (.inr (.inr h'))))]
  exact zGU hv V kids hm T hb hT h h0 h13 h7 h8
end
end
end
section
open Go
section
variable {D:List DM}{R:List PM}
noncomputable abbrev iTy (D:List DM) (R:List PM) (G M:List Int) (x:List AC):Option AV:=zby [.agg [.sl 3 (zaf D),.sl 5 (zak R)],.agg [.sl 1 (zad G),.sl 1 (zad M)],.agg x]
noncomputable abbrev sTy (D:List DM) (R:List PM) (V:List Int) (x:List AC):Option AV:=zaN [.agg [.sl 3 (zaf D),.sl 5 (zak R)],.cell (.sl 1 (zad V)),.agg x]
inductive Nm (m:Nat):List AC→Prop
 | node (o n:Int) (kids:List (List AC)) (h:o=9∨o=10→0≤n∧n<m) (hk:∀k,k<kids.length→Nm m (kids.getD k [])):Nm m [.int o,.int n,.sl 3 kids]
inductive HT (D:List DM) (R:List PM):List Int→List AC→Int→Prop
 | var (V:List Int) (n:Int) (kids:List (List AC)) (hk:kids.length=0) (h:0≤n∧n<V.length):HT D R V [.int 12,.int n,.sl 3 kids] (V.getD n.toNat 0)
 | bind (V:List Int) (kids:List (List AC)) (t0 t:Int) (hl:kids.length=2) (h0:0≤t0) (h1:HT D R V (kids.getD 0 []) t0) (h2:HT D R (V++[t0]) (kids.getD 1 []) t):HT D R V [.int 13,.int 0,.sl 3 kids] t
 | ifz (V:List Int) (kids:List (List AC)) (t:Int) (hl:kids.length=3) (h0:HT D R V (kids.getD 0 []) 0) (h1:HT D R V (kids.getD 1 []) t) (h2:HT D R V (kids.getD 2 []) t):HT D R V [.int 7,.int 0,.sl 3 kids] t
 | mtch (V:List Int) (kids:List (List AC)) (j:Nat) (n t:Int) (hn:n=(j:Int)+1) (hj:j<D.length) (hc:0<(gD D j).cs.length) (hl:kids.length=1+(gD D j).cs.length) (h0:HT D R V (kids.getD 0 []) n) (hs:∀k,k<(gD D j).cs.length→HT D R (V++(gD D j).cs.getD k []) (kids.getD (1+k) []) t):HT D R V [.int 8,.int n,.sl 3 kids] t
 | op (V:List Int) (o n:Int) (kids:List (List AC)) (T:Nat→Int) (t:Int) (h12:o≠12) (h13:o≠13) (h7:o≠7) (h8:o≠8) (hk:∀k,k<kids.length→HT D R V (kids.getD k []) (T k)) (ht:zmp D R o n (tyL T kids.length)=t) (h0:0≤t):HT D R V [.int o,.int n,.sl 3 kids] t
theorem zeU {P:Prop} (h:0≤(-1:Int)):P:=absurd h (by decide)
theorem zyM {T:Nat→Int}{t0:Int}:∀m k,0≤chk T t0 m k→0≤t0∧∀i,k≤i→i<k+m→T i=t0
 | 0,k,h=>⟨h,fun i h1 h2=>by omega⟩
 | m+1,k,h=>by
  unfold chk at h;split at h
  ·rename_i e
   obtain⟨h0,h1⟩:=zyM m (k+1) h;refine⟨h0,fun i g1 g2=>?_⟩
   by_cases hi:i=k
   ·rw[hi];exact e
   ·exact h1 i (by omega) (by omega)
  ·exact zeU h
theorem zoq {T:Nat→Int}{m:Nat}{types:List Int} (h:tyL T m=types) (hp:∀t∈types,0≤t):∀k,k<m→0≤T k:=fun k hk=>by
 have h1:k<(tyL T m).length:=by rw[zdc];exact hk
 have h2:=List.getElem_mem h1
 rw[zuL] at h2;rw[h] at h2;exact hp _ h2
theorem zwh {D:List DM}{R:List PM} (hv:CP D R) {o n:Int}{T:Nat→Int}{m:Nat} (h:0≤zmp D R o n (tyL T m)):(o=9∨o=10→0≤n∧n<R.length)∧∀k,k<m→0≤T k:=by
 unfold zmp at h;split at h
 ·rename_i h0
  refine⟨by omega,fun k hk=>?_⟩
  split at h
  ·rename_i hc
   rw[zdc] at hc;omega
  ·exact zeU h
 split at h
 ·refine⟨by omega,?_⟩
  split at h
  ·rename_i hc
   exact zoq hc.2 (by simp)
  ·exact zeU h
 split at h
 ·refine⟨by omega,?_⟩
  split at h
  ·rename_i hc
   exact zoq hc.2 (by simp)
  ·exact zeU h
 split at h
 ·refine⟨by omega,?_⟩
  split at h
  ·exact zeU h
  ·rename_i hn
   split at h
   ·rename_i hc
    exact zoq hc fun t ht=>((zCG hv hn).2 t ht).1
   ·exact zeU h
 split at h
 ·split at h
  ·rename_i hc
   refine⟨fun _=>hc,?_⟩
   split at h
   ·rename_i hq
    exact zoq hq fun t ht=>((hv.ps n.toNat (by omega)).2 t ht).1
   ·exact zeU h
  ·exact zeU h
 split at h
 ·split at h
  ·rename_i hc
   refine⟨fun _=>hc,?_⟩
   split at h
   ·exact zeU h
   ·split at h
    ·rename_i hq
     exact zoq hq fun t ht=>((hv.ps n.toNat (by omega)).2 t (List.mem_of_mem_take ht)).1
    ·exact zeU h
  ·exact zeU h
 split at h
 ·rename_i h9 h10 _
  refine⟨fun h'=>by omega,?_⟩
  split at h
  ·split at h
   ·rename_i hc
    rw[zdc] at hc;intro k hk;have ha:=hc.2.1
    have hb:=hc.2.2
    rw[zns T (by omega)] at ha
    rw[zns T (show 1<m by omega),zns T (show 0<m by omega)] at hb
    simp only[zoi,Bool.and_eq_true,decide_eq_true_eq,beq_iff_eq] at ha;have h2:=isTy_iff.1 ha.2.1
    have:=(hv.dv.arr ((T 0).toNat-1) (by omega) ha.2.2).1
    rcases(by omega:k=0∨k=1) with rfl|rfl
    ·omega
    ·omega
   ·exact zeU h
  ·exact zeU h
 ·exact zeU h
theorem HT.nm {D:List DM}{R:List PM} (hv:CP D R) {V:List Int}{x:List AC}{t:Int} (h:HT D R V x t):Nm R.length x:=by
 induction h with
 | var V n kids hk h=>exact .node _ _ _ (fun h=>by omega) (fun k hk=>by omega)
 | bind V kids t0 t hl h0 h1 h2 i1 i2 =>
  exact .node _ _ _ (fun h=>by omega) (fun k hk=>by
   rcases(by omega:k=0∨k=1) with rfl|rfl
   ·exact i1
   ·exact i2)
 | ifz V kids t hl h0 h1 h2 i0 i1 i2 =>
  exact .node _ _ _ (fun h=>by omega) (fun k hk=>by
   rcases(by omega:k=0∨k=1∨k=2) with rfl|rfl|rfl
   ·exact i0
   ·exact i1
   ·exact i2)
 | mtch V kids j n t hn hj hc hl h0 hs i0 is =>
  refine .node _ _ _ (fun h=>by omega) (fun k hk=>?_)
  rcases k with _|k
  ·exact i0
  ·have:=is k (by omega)
   rwa [Nat.add_comm] at this
 | op V o n kids T t h12 h13 h7 h8 hk ht h0 ih =>
  subst ht;exact .node _ _ _ (zwh hv h0).1 ih
end
end
end Go.Proofs.YtkgbadeobdbinaaGreat
