/- Generic texts and models for the proofs of this seat: part 28. -/
import Derived.Test.YtkgbadeobdbinaaGreatZ27
set_option linter.unusedVariables false
set_option linter.unusedSimpArgs false
set_option linter.unusedSectionVars false
namespace Go.Proofs.YtkgbadeobdbinaaGreat
section
open Go
def EG (ns:List Nat) (p C M:Nat) (x:Option (AV×List AC)):Prop:=∃(o n:Int) (kids:List (List AC)) (p':Nat),x=some (.v (.agg [.int o,.int n,.sl 3 kids]),Qr ns p')∧p'≤p+C∧Fit .expr [.int o,.int n,.sl 3 kids]∧1+kids.length+rsS kids≤M
theorem EG.le {ns:List Nat}{p C M C' M':Nat}{x:Option (AV×List AC)} (h:EG ns p C M x) (h1:C≤C') (h2:M≤M'):EG ns p C' M' x:=by
 obtain⟨o,n,kids,p',e,a,b,c⟩:=h;exact⟨o,n,kids,p',e,by omega,b,by omega⟩
def zcN (kids:List (List AC)):Prop:=∀b∈kids,Fit .expr b
theorem zal {o n:Int}{kids:List (List AC)} (ho:-1000000≤o∧o≤1000000) (hn:-10000000≤n∧n≤10000000) (hl:kids.length≤1000000) (hk:zcN kids):Fit .expr [.int o,.int n,.sl 3 kids] :=
 .expr o n kids ⟨by omega,by omega⟩ ⟨by omega,by omega⟩ (by unfold zaI;omega) hk
theorem zn2 (a b:List (List AC)):rsS (a++b)=rsS a+rsS b:=by
 induction a with
 | nil=>simp[zaQ]
 | cons x a ih=>rw[List.cons_append,za0,za0,ih];omega
theorem zga {kids:List (List AC)}{o n:Int}{l:List (List AC)} (hk:zcN kids) (h:Fit .expr [.int o,.int n,.sl 3 l]):zcN (kids++[[.int o,.int n,.sl 3 l]]):=fun b hb=>by
 rcases List.mem_append.1 hb with hb|hb
 ·exact hk b hb
 ·simp only[List.mem_singleton] at hb;rw[hb];exact h
theorem zfh {kids:List (List AC)}{o n:Int}{l:List (List AC)}:(kids++[[AC.int o,.int n,.sl 3 l]]).length+rsS (kids++[[AC.int o,.int n,.sl 3 l]])=kids.length+rsS kids+(1+l.length+rsS l):=by
 rw[zn2,za0,zaQ,zbv];simp
 omega
def cf (D:List DM) (c:Int):List Int:=if zjr D c<1 then[] else fld D c
theorem ztf {D:List DM} (hv:DV D) (c:Int):zaF [.cell (.sl 3 (zaf D)),.cell (.int c)]=rL (cf D c):=zh3 hv c
theorem zAV:∀D∈zdO,∀t∈([1,3]:List Int),(zbL D t).length=2∧cf D ((zbL D t).getD 0 0)=[]∧(cf D ((zbL D t).getD 1 0)).contains t=true∧(cf D ((zbL D t).getD 1 0)).length≤3∧(0≤(zbL D t).getD 0 0∧(zbL D t).getD 0 0≤100):=by decide
theorem zz8:∀D∈zdO,∀t∈([2,4]:List Int),(zbL D t).length≤3∧∀c∈zbL D t,(0≤c∧c≤100)∧(cf D c).contains t=false∧(cf D c).length≤3∧∀u∈cf D c,u=0∨u=1∨u=3:=by decide
theorem zy9:∀D∈zdO,zbL D 0=[]:=by decide
theorem zBn:∀D∈zdO,∀s∈sigL,∀t∈([2,4]:List Int),zh4 (s.1.getD (s.1.length-1) 0) s.2 D 0=t→∀u∈s.1.take (s.1.length-1),u=0∨u=1∨u=3:=by decide
section
variable {ns:List Nat} (hns:ns.length≤2000) {D:List DM} (hD:D∈zdO) {R:List PM} (hR:GR R)
include hns hD hR
theorem zqB {t:Int} (ht:¬0<t∨∃fs:List Int,zfz [pgC D R,.cell (.int t)]=rL fs∧fs=[]) (hc:zbL D t=[]) {p:Nat} (hp:p+4≤1000000):EG ns p 4 1 (zbp (Qr ns p) [pgC D R,.cell (.int t)]):=by
 obtain⟨x,hx,h1⟩:=zuI hns hp;have hcons:=zes (zkH hD) t
 rw[hc] at hcons;refine⟨0,x,[],p+4,?_,by omega,zal (by omega) (by omega) (by simp) (fun b hb=>by cases hb),by simp[zaQ]⟩
 rcases ht with ht|⟨fs,h2,rfl⟩
 ·obtain⟨fs,h2,_⟩:=zok (zg0 hD) hR t
  exact zbN (zav hcons (zaa rfl (zav h2 (zaa (decide_eq_false ht) (zam h1 (zag (zcJ _) rfl))))))
 ·by_cases h0:0<t
  ·exact zbN (zav hcons (zaa rfl (zav h2 (zac (decide_eq_true h0) (zaa rfl (zam h1 (zag (zcJ _) rfl)))))))
  ·exact zbN (zav hcons (zaa rfl (zav h2 (zaa (decide_eq_false h0) (zam h1 (zag (zcJ _) rfl))))))
theorem zxF {C:Nat} (hC:C≤1000) {c:Int} (hc:0≤c∧c≤100) {fs:List Int} (hl:fs.length≤3) {P:Nat} (hP:P≤900000) (hsm:∀u∈fs,∀p,p≤P→EG ns p C 1 (zbp (Qr ns p) [pgC D R,.cell (.int u)])) {z1 z2:Int}{z3:List (List AC)} :
  ∀m k:Nat,k+m=fs.length→∀(acc:List (List AC)) (p:Nat),zcN acc→acc.length+rsS acc≤k→p+m*C≤P→EG ns p (m*C) 4 (zbj (zaf D) (zak R) z1 z2 z3 c acc (zad fs) (k:Int) (Qr ns p)):=by
 intro m;induction m with
 | zero =>
  intro k hk acc p ha hs hp;refine⟨6,c,acc,p,zft (zaa (decide_eq_false (by rw[zab];omega)) (zag (zay _ _ _) rfl)),by omega,zal (by omega) (by omega) (by omega) ha,by omega⟩
 | succ m ih =>
  intro k hk acc p ha hs hp;have hlt:k<fs.length:=by omega
  have hmul:(m+1)*C=m*C+C:=Nat.succ_mul _ _
  obtain⟨o,n,l,p',h1,h2,h3,h4⟩:=hsm fs[k] (List.getElem_mem hlt) p (by omega)
  have hsz:=zfh (kids:=acc) (o:=o) (n:=n) (l:=l)
  obtain⟨o2,n2,l2,p2,g1,g2,g3,g4⟩:=ih (k+1) (by omega) (acc++[[.int o,.int n,.sl 3 l]]) p' (zga ha h3) (by omega) (by omega)
  refine⟨o2,n2,l2,p2,zft (zac (decide_eq_true (by rw[zab];omega)) (za9 hlt (zaM h1 (zbs (by simp;omega) ?_)))),by omega,g3,g4⟩
  rw[wrk (by unfold zaI;omega)]
  exact g1
theorem zxV {C:Nat} (hC:C≤1000) {c:Int} (hc:0≤c∧c≤100) {fs:List Int} (hl:fs.length≤3) {P:Nat} (hP:P≤900000) (hsm:∀u∈fs.take (fs.length-1),∀p,p≤P→EG ns p C 1 (zbp (Qr ns p) [pgC D R,.cell (.int u)])) {z1 z2:Int}{z3:List (List AC)} :
  ∀m k:Nat,k+m=fs.length→∀(acc:List (List AC)) (p:Nat),zcN acc→acc.length+rsS acc≤k→p+m*C≤P→EG ns p (m*C) 4 (zfc (zaf D) (zak R) z1 z2 z3 c (zad fs) acc (k:Int) (Qr ns p)):=by
 intro m;induction m with
 | zero =>
  intro k hk acc p ha hs hp;refine⟨10,c,acc,p,zfp (zaa (decide_eq_false (by rw[zab,wrk (by unfold zaI;omega)];omega)) (zag (zay _ _ _) rfl)),by omega,zal (by omega) (by omega) (by omega) ha,by omega⟩
 | succ m ih =>
  intro k hk acc p ha hs hp;have hlt:k<fs.length:=by omega
  have hmul:(m+1)*C=m*C+C:=Nat.succ_mul _ _
  by_cases hlast:k+1<fs.length
  ·have hmem:fs[k]∈fs.take (fs.length-1):=by
    rw[List.mem_take_iff_getElem];exact⟨k,by omega,rfl⟩
   obtain⟨o,n,l,p',h1,h2,h3,h4⟩:=hsm fs[k] hmem p (by omega)
   have hsz:=zfh (kids:=acc) (o:=o) (n:=n) (l:=l)
   obtain⟨o2,n2,l2,p2,g1,g2,g3,g4⟩:=ih (k+1) (by omega) (acc++[[.int o,.int n,.sl 3 l]]) p' (zga ha h3) (by omega) (by omega)
   refine⟨o2,n2,l2,p2,zfp (zac (decide_eq_true (by rw[zab,wrk (by unfold zaI;omega)];omega)) (za9 hlt (zaM h1 (zbs (by simp;omega) ?_)))),by omega,g3,g4⟩
   rw[wrk (by unfold zaI;omega)]
   exact g1
  ·refine⟨10,c,acc,p,zfp (zaa (decide_eq_false (by rw[zab,wrk (by unfold zaI;omega)];omega)) (zag (zay _ _ _) rfl)),by omega,zal (by omega) (by omega) (by omega) ha,by omega⟩
theorem zwI {p:Nat} (hp:p+4≤1000000):EG ns p 4 1 (zbp (Qr ns p) [pgC D R,.cell (.int 0)]):=zqB hns hD hR (.inl (by omega)) (zy9 D hD) hp
theorem zpc {t:Int} (ht:t=1∨t=3) {p:Nat} (hp:p+4≤1000000):EG ns p 4 1 (zbp (Qr ns p) [pgC D R,.cell (.int t)]):=by
 obtain⟨g1,g2,g3,g4,g5⟩:=zAV D hD t (by rcases ht with rfl|rfl <;> simp)
 have hdv:=zkH hD
 have hcons:=zes hdv t
 obtain⟨x,hx,h1⟩:=zbJ hns (p:=p) (by omega) (m:=4) (by omega)
 obtain⟨c0,c1,e⟩:∃c0 c1,zbL D t=[c0,c1]:=by
  match h:zbL D t,g1 with
  | [a,b],_=>exact⟨a,b,rfl⟩
 rw[e] at g1 g2 g3 g4 g5 hcons;simp only[List.getD_cons_zero,List.getD_cons_succ] at g2 g3 g4 g5;have hf0:=ztf hdv c0
 have hf1:=ztf hdv c1
 rw[g2] at hf0;have hL:∀q,zbj (zaf D) (zak R) 0 0 [] c0 [] (zad []) 0 q=some (.v (.agg [.int 6,.int c0,.sl 3 []]),q):=fun q=>zft (zaa rfl (zag (zay _ _ _) rfl))
 have hfin:∀X,X=some (.v (.agg [.int 6,.int c0,.sl 3 []]),Qr ns (p+1))→EG ns p 4 1 X:=fun X hX=>⟨6,c0,[],p+1,hX,by omega,zal (by omega) (by omega) (by simp) (fun b hb=>by cases hb),by simp[zaQ]⟩
 have hin0:=znx [] t (by simp)
 refine hfin _ (zbN (zav hcons (zac rfl (za9 (xs:=[c0,c1]) (k:=0) (by simp) (zac rfl (zam h1 ?_))))))
 by_cases hx0:x=0
 ·subst hx0
  exact zac rfl (za9 (xs:=[c0,c1]) (k:=1) (by simp) (zav hf1 (zan (znx _ t (by omega)) (zac g3 (za9 (xs:=[c0,c1]) (k:=0) (by simp) (zav hf0 (hL _)))))))
 ·exact zaa (by rw[beq_eq_false_iff_ne];omega) (zav hf0 (zan hin0 (zaa rfl (zav hf0 (hL _)))))
theorem zqx {u:Int} (hu:u=0∨u=1∨u=3) {p:Nat} (hp:p+4≤1000000):EG ns p 4 1 (zbp (Qr ns p) [pgC D R,.cell (.int u)]):=by
 rcases hu with rfl|rfl|rfl
 ·exact zwI hns hD hR hp
 ·exact zpc hns hD hR (.inl rfl) hp
 ·exact zpc hns hD hR (.inr rfl) hp
theorem EG.put {p p1 C C1 M:Nat}{x:Option (AV×List AC)} (h:EG ns p1 C1 M x) (h1:p1+C1≤p+C):EG ns p C M x:=by
 obtain⟨o,n,kids,p',e,a,b,c⟩:=h;exact⟨o,n,kids,p',e,by omega,b,c⟩
theorem zAS {t:Int} (ht:t=2∨t=4) {p:Nat} (hp:p+20≤900000):EG ns p 14 4 (zbp (Qr ns p) [pgC D R,.cell (.int t)]):=by
 have hm:t∈([2,4]:List Int):=by rcases ht with rfl|rfl <;> simp
 obtain⟨g1,g2⟩:=zz8 D hD t hm;have hdv:=zkH hD
 have hcons:=zes hdv t
 have hL:∀c∈zbL D t,∀p',p'≤p+1→EG ns p' 12 4 (zbj (zaf D) (zak R) 0 0 [] c [] (zad (cf D c)) 0 (Qr ns p')):=fun c hc p' hp'=>by
  obtain⟨a1,a2,a3,a4⟩:=g2 c hc;have:=zxF hns hD hR (C:=4) (by omega) a1 a3 (P:=900000) (by omega) (fun u hu q hq=>zqx hns hD hR (a4 u hu) (by omega)) (z1:=0) (z2:=0) (z3:=[]) (cf D c).length 0 (by omega) [] p' (fun b hb=>by cases hb) (by simp[zaQ]) (by omega)
  exact this.le (by omega) (by omega)
 by_cases hz:0<(zbL D t).length
 ·have hm0:(zbL D t)[0]∈zbL D t:=List.getElem_mem hz
  have b0:=(g2 _ hm0).2.1
  have l0:=(g2 _ hm0).2.2.1
  have hz':decide (((((zad (zbL D t)).length:Nat):Int))>0)=true:=decide_eq_true (by rw[zab];omega)
  by_cases h1:1<(zbL D t).length
  ·have hm1:(zbL D t)[1]∈zbL D t:=List.getElem_mem h1
   have b1:=(g2 _ hm1).2.1
   have l1:=(g2 _ hm1).2.2.1
   obtain⟨x,hx,hpk⟩:=zbJ hns (p:=p) (by omega) (m:=4) (by omega)
   by_cases hx0:x=0
   ·subst hx0
    obtain⟨o,n,l,p',e1,e2,e3,e4⟩:=hL _ hm1 (p+1) (by omega)
    exact⟨o,n,l,p',zbN (zav hcons (zac hz' (za9 (k:=0) hz (zac (decide_eq_true (by rw[zab];omega)) (zam hpk (zac rfl (za9 (k:=1) h1 (zav (ztf hdv _) (zan (znx _ t (by omega)) (zaa b1 (zav (ztf hdv _) e1))))))))))),by omega,e3,e4⟩
   ·obtain⟨o,n,l,p',e1,e2,e3,e4⟩:=hL _ hm0 (p+1) (by omega)
    exact⟨o,n,l,p',zbN (zav hcons (zac hz' (za9 (k:=0) hz (zac (decide_eq_true (by rw[zab];omega)) (zam hpk (zaa (by rw[beq_eq_false_iff_ne];omega) (zav (ztf hdv _) (zan (znx _ t (by omega)) (zaa b0 (zav (ztf hdv _) e1)))))))))),by omega,e3,e4⟩
  ·obtain⟨o,n,l,p',e1,e2,e3,e4⟩:=hL _ hm0 p (by omega)
   exact⟨o,n,l,p',zbN (zav hcons (zac hz' (za9 (k:=0) hz (zaa (decide_eq_false (by rw[zab];omega)) (zav (ztf hdv _) (zan (znx _ t (by omega)) (zaa b0 (zav (ztf hdv _) e1)))))))),by omega,e3,e4⟩
 ·have hnil:zbL D t=[]:=List.eq_nil_of_length_eq_zero (by omega)
  obtain⟨fs,h1,h2,h3⟩:=zok (zg0 hD) hR t;by_cases hf:0<fs.length
  ·obtain⟨x,hx,hpk⟩:=zbJ hns (p:=p) (by omega) (m:=fs.length) hf
   obtain⟨k,hk,hfk,hps,harr⟩:=h3 fs[x] (List.getElem_mem hx);have hsm:=zBn D hD _ (hR.at hk) t hm harr
   have hl3:=(hR.small hk).1
   have hklt:=hR.len
   have:=zxV hns hD hR (C:=4) (by omega) (c:=(k:Int)) (by omega) hl3 (P:=900000) (by omega) (fun u hu q hq=>zqx hns hD hR (hsm u hu) (by omega)) (z1:=0) (z2:=0) (z3:=[]) (gP R k).ps.length 0 (by omega) [] (p+1) (fun b hb=>by cases hb) (by simp[zaQ]) (by omega)
   obtain⟨o,n,l,p',e1,e2,e3,e4⟩:=this;rw[hnil] at hcons;refine⟨o,n,l,p',zbN (zav hcons (zaa rfl (zav h1 (zac (decide_eq_true (by omega)) (zac (decide_eq_true (by rw[zab];omega)) ?_))))),by omega,e3,e4⟩
   rw[zab];refine zam hpk (za9 hx ?_)
   rw[hfk];exact zaB rfl hk e1
  ·exact(zqB hns hD hR (.inr ⟨fs,h1,List.eq_nil_of_length_eq_zero (by omega)⟩) hnil (by omega)).le (by omega) (by omega)
theorem zsK {t:Int} (ht:0≤t∧t≤4) {p:Nat} (hp:p+20≤900000):EG ns p 14 4 (zbp (Qr ns p) [pgC D R,.cell (.int t)]):=by
 rcases(by omega:t=0∨t=1∨t=3∨(t=2∨t=4)) with rfl|rfl|rfl|h
 ·exact(zwI hns hD hR (by omega)).le (by omega) (by omega)
 ·exact(zpc hns hD hR (.inl rfl) (by omega)).le (by omega) (by omega)
 ·exact(zpc hns hD hR (.inr rfl) (by omega)).le (by omega) (by omega)
 ·exact zAS hns hD hR h hp
theorem znW {V:List Int} (hV:V.length≤1048576) {t:Int} (ht:0≤t∧t≤4) {p:Nat} (hp:p+30≤900000):EG ns p 16 4 (zc6 (Qr ns p) [pgC D R,.cell (.sl 1 (zad V)),.cell (.int t)]):=by
 obtain⟨fs,h1,h2,h3⟩:=zuS hV t;have hvar:∀(x:Nat) (hx:x<fs.length),Fit .expr [.int 12,.int fs[x],.sl 3 []]:=fun x hx=>by
  have:=h3 fs[x] (List.getElem_mem hx)
  exact zal (by omega) (by omega) (by simp) (fun b hb=>by cases hb)
 by_cases hf:0<fs.length
 ·have hf':decide (((((zad fs).length:Nat):Int))>0)=true:=decide_eq_true (by rw[zab];omega)
  obtain⟨x,hx,hp1⟩:=zbJ hns (p:=p) (by omega) (m:=6) (by omega)
  by_cases hx0:0<x
  ·obtain⟨y,hy,hp2⟩:=zbJ hns (p:=p+1) (by omega) (m:=fs.length) hf
   refine⟨12,fs[y],[],p+1+1,zjj (zav h1 (zac hf' (zam hp1 (zac (decide_eq_true (by omega)) ?_)))),by omega,hvar y hy,by simp[zaQ]⟩
   rw[zab];exact zam hp2 (za9 hy (zag (zaW _) rfl))
  ·obtain⟨b,hb⟩:=zng (zg0 hD) hR (V:=[]) (by simp) t
   cases b with
   | false =>
    obtain⟨y,hy,hp2⟩:=zbJ hns (p:=p+1) (by omega) (m:=fs.length) hf
    refine⟨12,fs[y],[],p+1+1,zjj (zav h1 (zac hf' (zam hp1 (zaa (decide_eq_false (by omega)) (zan hb (zac rfl ?_)))))),by omega,hvar y hy,by simp[zaQ]⟩
    rw[zab];exact zam hp2 (za9 hy (zag (zaW _) rfl))
   | true =>
    obtain⟨o,n,l,p',e1,e2,e3,e4⟩:=zsK hns hD hR ht (p:=p+1) (by omega)
    exact⟨o,n,l,p',zjj (zav h1 (zac hf' (zam hp1 (zaa (decide_eq_false (by omega)) (zan hb (zaa rfl (zaM e1 rfl))))))),by omega,e3,e4⟩
 ·obtain⟨o,n,l,p',e1,e2,e3,e4⟩:=zsK hns hD hR ht (p:=p) (by omega)
  exact⟨o,n,l,p',zjj (zav h1 (zaa (decide_eq_false (by rw[zab];omega)) (zaM e1 rfl))),by omega,e3,e4⟩
end
end
set_option linter.unusedSectionVars false
section
open Go
def LG (ns:List Nat) (p C M l:Nat) (x:Option (AV×List AC)):Prop:=∃(kids:List (List AC)) (p':Nat),x=some (.v (.cell (.sl 3 kids)),Qr ns p')∧p'≤p+C∧zcN kids∧kids.length+rsS kids≤M∧kids.length=l
def zHP (T:List Int):Prop:=∀t∈T,0≤t∧t≤4
theorem zsq (xs ys:List Int) (hx:xs.length+ys.length≤68719476736):zbI [.cell (.sl 1 (zad xs)),.cell (.sl 1 (zad ys))]=rL (xs++ys):=zmM xs ys hx
theorem zuQ:∀D∈zdO,∀t∈([0,1,2,3,4]:List Int),(zbL D t).length≤3∧∀c∈zbL D t,(0≤c∧c≤100)∧(cf D c).length≤3∧∀u∈cf D c,0≤u∧u≤4:=by decide
theorem zBl:∀D∈zdO,∀k,k<D.length→(0≤(gD D k).f∧(gD D k).f≤4):=by decide
def cC (b:Nat):Nat:=if b<3 then 16 else 100*b-20
def cM (b:Nat):Nat:=if b<3 then 4 else 40*b-10
theorem zlw (b:Nat):cC b≤100*b+16∧(3≤b→cC b=100*b-20)∧(b<3→cC b=16):=by
 unfold cC;split <;> exact⟨by omega,fun h=>by omega,fun h=>by omega⟩
theorem zlp (b:Nat):cM b≤40*b+4∧(3≤b→cM b=40*b-10)∧(b<3→cM b=4):=by
 unfold cM;split <;> exact⟨by omega,fun h=>by omega,fun h=>by omega⟩
def Gen (ns:List Nat) (D:List DM) (R:List PM) (b:Nat):Prop:=∀(V:List Int) (t:Int) (p:Nat),V.length+3*b≤1000000→0≤t∧t≤4→p+100*b+100≤800000→EG ns p (cC b) (cM b) (zbg (Qr ns p) [pgC D R,.cell (.sl 1 (zad V)),.cell (.int t),.cell (.int (b:Int))])
theorem LG.node {ns:List Nat}{p p1 C M l C1:Nat}{x:Option (AV×List AC)} (h:LG ns p1 C M l x) (hl:l≤1000000) (hC:p1+C≤p+C1) {o n:Int} (ho:-1000000≤o∧o≤1000000) (hn:-10000000≤n∧n≤10000000) {X:Option (AV×List AC)}
  (hX:∀kids q,x=some (.v (.cell (.sl 3 kids)),q)→X=some (.v (.agg [.int o,.int n,.sl 3 kids]),q)) {M1:Nat} (hM:1+M≤M1):EG ns p C1 M1 X:=by
 obtain⟨kids,p',h1,h2,h3,h4,h5⟩:=h;exact⟨o,n,kids,p',hX kids _ h1,by omega,zal ho hn (by omega) h3,by omega⟩
theorem EG.same {ns:List Nat}{p p1 C M C1 M1:Nat}{x X:Option (AV×List AC)} (h:EG ns p1 C M x) (hC:p1+C≤p+C1) (hM:M≤M1)
  (hX:∀o n kids q,x=some (.v (.agg [.int o,.int n,.sl 3 kids]),q)→X=some (.v (.agg [.int o,.int n,.sl 3 kids]),q)):EG ns p C1 M1 X:=by
 obtain⟨o,n,kids,p',h1,h2,h3,h4⟩:=h;exact⟨o,n,kids,p',hX o n kids _ h1,by omega,h3,by omega⟩
section
variable {ns:List Nat} (hns:ns.length≤2000) {D:List DM} (hD:D∈zdO) {R:List PM} (hR:GR R)
include hns hD hR
theorem zgQ {T:List Int} (hl:T.length≤3) (hT:zHP T) {B:Nat} (hB:B≤1000) (hG:0<T.length→Gen ns D R (B / T.length)) {V:List Int} (hV:V.length+3*B≤1000000) {p:Nat} (hp:p+100*B+132≤800000) :
  LG ns p (100*B+48) (40*B+12) T.length (zaY (Qr ns p) [pgC D R,.cell (.sl 1 (zad V)),.cell (.sl 1 (zad T)),.cell (.int (B:Int))]):=by
 obtain⟨n,hn⟩:∃n,n=T.length:=⟨_,rfl⟩;obtain⟨d,hd⟩:∃d,d=B / T.length:=⟨_,rfl⟩;have hdb:n*d≤B:=by rw[hn,hd];exact Nat.mul_div_le B T.length
 obtain⟨C,hC⟩:∃C,C=100*d+16:=⟨_,rfl⟩;obtain⟨M,hM⟩:∃M,M=40*d+4:=⟨_,rfl⟩;have hd1:0<n→d≤B:=fun h0=>by rw[hd];exact Nat.div_le_self _ _
 have hnC:n*C≤100*B+48:=by
  rcases(by omega:n=0∨n=1∨n=2∨n=3) with h|h|h|h <;> rw[h] at hdb ⊢ <;> omega
 have hnM:n*M≤40*B+12:=by
  rcases(by omega:n=0∨n=1∨n=2∨n=3) with h|h|h|h <;> rw[h] at hdb ⊢ <;> omega
 have key:∀m k:Nat,k+m=T.length→∀(acc:List (List AC)) (p':Nat),zcN acc→acc.length=k→acc.length+rsS acc≤k*M→p'≤p+k*C→∃(kids:List (List AC)) (p2:Nat),zgw (zad V) (zad T) (B:Int) (zaf D) (zak R) acc (k:Int) (Qr ns p')=some (.v (.cell (.sl 3 kids)),Qr ns p2)∧p2≤p+n*C∧zcN kids∧kids.length+rsS kids≤n*M∧kids.length=T.length:=by
  intro m;induction m with
  | zero =>
   intro k hk acc p' ha hal hs hp';have hkn:k=n:=by omega
   subst hkn;exact⟨acc,p',zkM (zaa (decide_eq_false (by rw[zab];omega)) rfl),hp',ha,hs,by omega⟩
  | succ m ih =>
   intro k hk acc p' ha hal hs hp';have hlt:k<T.length:=by omega
   have hkC:(k+1)*C≤n*C:=Nat.mul_le_mul_right _ (by omega)
   have hkC':(k+1)*C=k*C+C:=Nat.succ_mul _ _
   have hkM':(k+1)*M=k*M+M:=Nat.succ_mul _ _
   have hdB:=hd1 (by omega)
   have hcC:=(zlw d).1
   have hcM:=(zlp d).1
   obtain⟨o,x,l,p1,h1,h2,h3,h4⟩:=hG (by omega) V T[k] p' (by rw[←hd];omega) (hT _ (List.getElem_mem hlt)) (by rw[←hd];omega)
   rw[←hd] at h1 h2 h4;have hsz:=zfh (kids:=acc) (o:=o) (n:=x) (l:=l)
   have hlen:(acc++[[AC.int o,.int x,.sl 3 l]]).length=k+1:=by simp;omega
   obtain⟨kids,p2,g1,g2,g3,g4,g5⟩:=ih (k+1) (by omega) (acc++[[.int o,.int x,.sl 3 l]]) p1 (zga ha h3) hlen (by omega) (by omega)
   refine⟨kids,p2,zkM (zac (decide_eq_true (by rw[zab];omega)) (za9 hlt ?_)),g2,g3,g4,g5⟩
   rw[zab];refine zsQ (n:=d) (by omega) (by omega) (by omega) (by rw[hd];rfl) (zaM h1 (zbs (by simp;omega) ?_))
   rw[wrk (by unfold zaI;omega)]
   exact g1
 obtain⟨kids,p2,h1,h2,h3,h4,h5⟩:=key T.length 0 (by omega) [] p (fun b hb=>by cases hb) rfl (by simp[zaQ]) (by omega)
 exact⟨kids,p2,zs7 h1,by omega,h3,by omega,h5⟩
theorem ztG {b:Nat} (hb:3≤b) (hb2:b≤1000) (hG:∀b',b'<b→Gen ns D R b') {V:List Int} (hV:V.length+3*b≤1000000) {t:Int} (ht:0≤t∧t≤4) {d:Int} (hd:0≤d∧d≤4) {c0 c1:Int}{c2:List (List AC)}{o0 n0:Int}{l0:List (List AC)} (h0:Fit .expr [.int o0,.int n0,.sl 3 l0]) (hs0:1+l0.length+rsS l0≤4)
  {p:Nat} (hp:p+100*b+10≤800000):EG ns p (100*(b-2)+48) (40*(b-2)+17) (zbQ (zad V) t (b:Int) (zaf D) (zak R) c0 c1 c2 d (zad (zbL D d)) [[.int o0,.int n0,.sl 3 l0]] 0 (Qr ns p)):=by
 have hm:d∈([0,1,2,3,4]:List Int):=by
  rcases(by omega:d=0∨d=1∨d=2∨d=3∨d=4) with rfl|rfl|rfl|rfl|rfl <;> simp
 obtain⟨gl,gc⟩:=zuQ D hD d hm;obtain⟨n,hn⟩:∃n,n=(zbL D d).length:=⟨_,rfl⟩;obtain⟨e,he⟩:∃e,e=(b-2) / (zbL D d).length:=⟨_,rfl⟩;have hdb:n*e≤b-2:=by rw[hn,he];exact Nat.mul_div_le _ _
 obtain⟨C,hC⟩:∃C,C=100*e+16:=⟨_,rfl⟩;obtain⟨M,hM⟩:∃M,M=40*e+4:=⟨_,rfl⟩;have hd1:e≤b-2:=by rw[he];exact Nat.div_le_self _ _
 have hnC:n*C≤100*(b-2)+48:=by
  rcases(by omega:n=0∨n=1∨n=2∨n=3) with h|h|h|h <;> rw[h] at hdb ⊢ <;> omega
 have hnM:n*M≤40*(b-2)+12:=by
  rcases(by omega:n=0∨n=1∨n=2∨n=3) with h|h|h|h <;> rw[h] at hdb ⊢ <;> omega
 have key:∀m k:Nat,k+m=(zbL D d).length→∀(acc:List (List AC)) (p':Nat),zcN acc→acc.length=k+1→acc.length+rsS acc≤4+k*M→p'≤p+k*C→∃(o x:Int) (kids:List (List AC)) (p2:Nat),zbQ (zad V) t (b:Int) (zaf D) (zak R) c0 c1 c2 d (zad (zbL D d)) acc (k:Int) (Qr ns p')=some (.v (.agg [.int o,.int x,.sl 3 kids]),Qr ns p2)∧p2≤p+n*C∧Fit .expr [.int o,.int x,.sl 3 kids]∧kids.length+rsS kids≤4+n*M:=by
  intro m;induction m with
  | zero =>
   intro k hk acc p' ha hal hs hp';have hkn:k=n:=by omega
   subst hkn;exact⟨8,d,acc,p',zi8 (zaa (decide_eq_false (by rw[zab];omega)) (zag (zay _ _ _) rfl)),hp',zal (by omega) (by omega) (by omega) ha,hs⟩
  | succ m ih =>
   intro k hk acc p' ha hal hs hp';have hlt:k<(zbL D d).length:=by omega
   obtain⟨q1,q2,q3⟩:=gc _ (List.getElem_mem hlt);have hkC:(k+1)*C≤n*C:=Nat.mul_le_mul_right _ (by omega)
   have hkC':(k+1)*C=k*C+C:=Nat.succ_mul _ _
   have hkM':(k+1)*M=k*M+M:=Nat.succ_mul _ _
   have hcC:=(zlw e).1
   have hcM:=(zlp e).1
   obtain⟨o,x,l,p1,h1,h2,h3,h4⟩:=hG e (by omega) (V++cf D (zbL D d)[k]) t p' (by rw[List.length_append];omega) ht (by omega)
   have hsz:=zfh (kids:=acc) (o:=o) (n:=x) (l:=l)
   have hlen:(acc++[[AC.int o,.int x,.sl 3 l]]).length=k+1+1:=by simp;omega
   obtain⟨o2,x2,kids,p2,g1,g2,g3,g4⟩:=ih (k+1) (by omega) (acc++[[.int o,.int x,.sl 3 l]]) p1 (zga ha h3) hlen (by omega) (by omega)
   refine⟨o2,x2,kids,p2,zi8 (zac (decide_eq_true (by rw[zab];omega)) (za9 hlt (zav (ztf (zkH hD) _) (zav (zsq _ _ (by omega)) ?_)))),g2,g3,g4⟩
   rw[zab,show zae ((b:Int)-2)=((b-2:Nat):Int) by rw[wr (by omega) (by omega)];omega]
   refine zsQ (n:=e) (by omega) (by omega) (by omega) (by rw[he];rfl) (zaM h1 (zbs (by simp;omega) ?_))
   rw[wrk (by unfold zaI;omega)]
   exact g1
 obtain⟨o,x,kids,p2,h1,h2,h3,h4⟩:=key (zbL D d).length 0 (by omega) [[.int o0,.int n0,.sl 3 l0]] p (fun b hb=>by simp only[List.mem_singleton] at hb;rw[hb];exact h0) rfl (by
  rw[za0,zaQ,zbv];simp
  omega) (by omega)
 exact⟨o,x,kids,p2,h1,by omega,h3,by omega⟩
theorem zoj {b:Nat} (hb:3≤b) (hb2:b≤1000) (hG:∀b',b'<b→Gen ns D R b') {V:List Int} (hV:V.length+3*b≤1000000) {t:Int} (ht:0≤t∧t≤4)
  {p:Nat} (hp:p+100*b+40≤800000):EG ns p (100*(b-2)+65) (40*(b-2)+17) (zcG (Qr ns p) [pgC D R,.cell (.sl 1 (zad V)),.cell (.int t),.cell (.int (b:Int))]):=by
 obtain⟨d,hd,h1⟩:=zml hns (p:=p) (by omega) (xs:=[1,1,3,4]) (by simp) (by simp)
 have hd4:0≤d∧d≤4:=by
  simp only[List.mem_cons,List.not_mem_nil,or_false] at hd;omega
 have fin:∀(u:Int) (hu:0≤u∧u≤4),∃(o n:Int) (l:List (List AC)) (p1:Nat),zc6 (Qr ns (p+1)) [pgC D R,.cell (.sl 1 (zad V)),.cell (.int u)]=some (.v (.agg [.int o,.int n,.sl 3 l]),Qr ns p1)∧∃(o2 n2:Int) (l2:List (List AC)) (p2:Nat),zbQ (zad V) t (b:Int) (zaf D) (zak R) 0 0 [] u (zad (zbL D u)) [[.int o,.int n,.sl 3 l]] 0 (Qr ns p1)=some (.v (.agg [.int o2,.int n2,.sl 3 l2]),Qr ns p2)∧p2≤p+(100*(b-2)+65)∧Fit .expr [.int o2,.int n2,.sl 3 l2]∧1+l2.length+rsS l2≤40*(b-2)+17:=fun u hu=>by
  obtain⟨o,n,l,p1,g1,g2,g3,g4⟩:=znW hns hD hR (V:=V) (by omega) hu (p:=p+1) (by omega)
  obtain⟨o2,n2,l2,p2,k1,k2,k3,k4⟩:=ztG hns hD hR hb hb2 hG hV ht hu (c0:=0) (c1:=0) (c2:=[]) g3 g4 (p:=p1) (by omega)
  exact⟨o,n,l,p1,g1,o2,n2,l2,p2,k1,by omega,k3,k4⟩
 have hdv:=zkH hD
 by_cases hl:d>(((zaf D).length:Nat):Int)
 ·obtain⟨o,n,l,p1,g1,o2,n2,l2,p2,k1,k2,k3,k4⟩:=fin 1 (by omega)
  exact⟨o2,n2,l2,p2,zhO (zam h1 (zac (decide_eq_true hl) (zav (zes hdv 1) (zaM g1 k1)))),k2,k3,k4⟩
 ·rcases ha:zoi D d with _|_
  ·obtain⟨o,n,l,p1,g1,o2,n2,l2,p2,k1,k2,k3,k4⟩:=fin d hd4
   exact⟨o2,n2,l2,p2,zhO (zam h1 (zaa (decide_eq_false hl) (zan (zee (by have:=hdv.len;omega) d) (zaa ha (zav (zes hdv d) (zaM g1 k1)))))),k2,k3,k4⟩
  ·obtain⟨o,n,l,p1,g1,o2,n2,l2,p2,k1,k2,k3,k4⟩:=fin 1 (by omega)
   exact⟨o2,n2,l2,p2,zhO (zam h1 (zaa (decide_eq_false hl) (zan (zee (by have:=hdv.len;omega) d) (zac ha (zav (zes hdv 1) (zaM g1 k1)))))),k2,k3,k4⟩
theorem ztF {b:Nat} (hb:3≤b) (hb2:b≤1000) (hG:∀b',b'<b→Gen ns D R b') {V:List Int} (hV:V.length+3*b≤1000000) {t:Int} (ht:0≤t∧t≤4) {c0 c1:Int}{c2:List (List AC)} :
  ∀m a:Nat,a+m=D.length+1→1≤a→∀p:Nat,p+100*b+50≤800000→EG ns p (100*b-40) (40*b-20) (zcI (zad V) t (b:Int) (zaf D) (zak R) c0 c1 c2 (a:Int) (Qr ns p)):=by
 have hm:t∈([0,1,2,3,4]:List Int):=by
  rcases(by omega:t=0∨t=1∨t=2∨t=3∨t=4) with rfl|rfl|rfl|rfl|rfl <;> simp
 obtain⟨gl,gc⟩:=zuQ D hD t hm;have hdv:=zkH hD
 have hb1:zae ((b:Int)-1)=((b-1:Nat):Int):=by rw[wr (by omega) (by omega)];omega
 have h4:=hdv.len
 intro m;induction m with
 | zero =>
  intro a ha ha1 p hp;have hend:decide ((a:Int)≤(((zaf D).length:Nat):Int))=false:=decide_eq_false (by rw[zaU];omega)
  by_cases hz:0<(zbL D t).length
  ·obtain⟨x,hx,h1⟩:=zbJ hns (p:=p) (by omega) (m:=(zbL D t).length) hz
   obtain⟨q1,q2,q3⟩:=gc _ (List.getElem_mem hx);obtain⟨kids,p',g1,g2,g3,g4,g5⟩:=zgQ hns hD hR q2 q3 (B:=b-1) (by omega) (fun h0=>hG _ (by have:=Nat.div_le_self (b-1) (cf D (zbL D t)[x]).length;omega)) (V:=V) (by omega) (p:=p+1) (by omega)
   refine⟨6,(zbL D t)[x],kids,p',zbr (zaa hend (zav (zes hdv t) (zac (decide_eq_true (by rw[zab];omega)) ?_))),by omega,zal (by omega) (by omega) (by omega) g3,by omega⟩
   rw[zab,hb1];exact zam h1 (za9 hx (zav (ztf hdv _) (zk5 g1 (zag (zay _ _ _) rfl))))
  ·by_cases ht0:t>0
   ·obtain⟨o,n,l,p',g1,g2,g3,g4⟩:=znW hns hD hR (V:=V) (by omega) ht (p:=p) (by omega)
    exact⟨o,n,l,p',zbr (zaa hend (zav (zes hdv t) (zaa (decide_eq_false (by rw[zab];omega)) (zac (decide_eq_true ht0) (zaM g1 rfl))))),by omega,g3,by omega⟩
   ·obtain⟨x,hx,h1⟩:=zbJ hns (p:=p) (by omega) (m:=3) (by omega)
    by_cases hx0:x=0
    ·subst hx0
     obtain⟨kids,p',g1,g2,g3,g4,g5⟩:=zgQ hns hD hR (T:=[0]) (by simp) (fun u hu=>by simp at hu;omega) (B:=b-1) (by omega) (fun h0=>hG _ (by simp;omega)) (V:=V) (by omega) (p:=p+1) (by omega)
     refine⟨5,0,kids,p',zbr (zaa hend (zav (zes hdv t) (zaa (decide_eq_false (by rw[zab];omega)) (zaa (decide_eq_false ht0) (zam h1 (zac rfl ?_)))))),by omega,zal (by omega) (by omega) (by rw[g5];simp) g3,by omega⟩
     rw[hb1];exact zk5 g1 (zag (zay _ _ _) rfl)
    ·obtain⟨op,hop,h2⟩:=zml hns (p:=p+1) (by omega) (xs:=[1,2,3,4]) (by simp) (by simp)
     have hop4:1≤op∧op≤4:=by
      simp only[List.mem_cons,List.not_mem_nil,or_false] at hop;omega
     obtain⟨kids,p',g1,g2,g3,g4,g5⟩:=zgQ hns hD hR (T:=[0,0]) (by simp) (fun u hu=>by simp at hu;omega) (B:=b-1) (by omega) (fun h0=>hG _ (by simp;omega)) (V:=V) (by omega) (p:=p+1+1) (by omega)
     refine⟨op,0,kids,p',zbr (zaa hend (zav (zes hdv t) (zaa (decide_eq_false (by rw[zab];omega)) (zaa (decide_eq_false ht0) (zam h1 (zaa (by rw[beq_eq_false_iff_ne];omega) (zam h2 ?_))))))),by omega,zal (by omega) (by omega) (by rw[g5];simp) g3,by omega⟩
     rw[hb1];exact zk5 g1 (zag (zay _ _ _) rfl)
 | succ m ih =>
  intro a ha ha1 p hp;have hlt:a-1<D.length:=by omega
  have hgo:decide ((a:Int)≤(((zaf D).length:Nat):Int))=true:=decide_eq_true (by rw[zaU];omega)
  have hnext:=ih (a+1) (by omega) (by omega) p hp
  rw[←wrk (by unfold zaI;omega)] at hnext
  have hw:zae ((a:Int)-1)=((a-1:Nat):Int):=by rw[wr (by omega) (by omega)];omega
  rcases hA:zoi D (a:Int) with _|_
  ·exact EG.same hnext (Nat.le_refl _) (Nat.le_refl _) fun o n kids q h=>zbr (zac hgo (zan (zee (by omega) _) (zaa hA h)))
  ·by_cases hto:(gD D (a-1)).t=t
   ·obtain⟨c,hc⟩:=zng (zg0 hD) hR (V:=V) (by omega) (a:Int)
    cases c with
    | false=>exact EG.same hnext (Nat.le_refl _) (Nat.le_refl _) fun o n kids q h=>zbr (zac hgo (zan (zee (by omega) _) (zac hA (za5 hw hlt (zac (by rw[beq_iff_eq];exact hto) (zan hc (zaa rfl h)))))))
    | true =>
     obtain⟨o,n,l,p1,g1,g2,g3,g4⟩:=znW hns hD hR (V:=V) (by omega) (t:=(a:Int)) (by omega) (p:=p) (by omega)
     have hcC:=(zlw (b-2)).1
     have hcM:=(zlp (b-2)).1
     obtain⟨o2,n2,l2,p2,k1,k2,k3,k4⟩:=hG (b-2) (by omega) V (gD D (a-1)).f p1 (by omega) (zBl D hD (a-1) hlt) (by omega)
     rw[show((b-2:Nat):Int)=zae ((b:Int)-2) by rw[wr (by omega) (by omega)];omega] at k1
     refine⟨11,0,[[.int o,.int n,.sl 3 l],[.int o2,.int n2,.sl 3 l2]],p2,zbr (zac hgo (zan (zee (by omega) _) (zac hA (za5 hw hlt (zac (by rw[beq_iff_eq];exact hto) (zan hc (zac rfl (zaM g1 (za5 hw hlt (zaM k1 (zag (zay _ _ _) rfl))))))))))),by omega,zal (by omega) (by omega) (by simp) (fun x hx=>?_),?_⟩
     ·simp only[List.mem_cons,List.not_mem_nil,or_false] at hx
      rcases hx with rfl|rfl
      ·exact g3
      ·exact k3
     ·rw[za0,za0,zaQ,zbv,zbv]
      simp
      omega
   ·exact EG.same hnext (Nat.le_refl _) (Nat.le_refl _) fun o n kids q h=>zbr (zac hgo (zan (zee (by omega) _) (zac hA (za5 hw hlt (zaa (by rw[beq_eq_false_iff_ne];exact hto) h)))))
theorem zkA {b:Nat} (hb:3≤b) (hb2:b≤1000) (hG:∀b',b'<b→Gen ns D R b') {V:List Int} (hV:V.length+3*b≤1000000) {t:Int} (ht:0≤t∧t≤4) {p:Nat} (hp:p+100*b+60≤800000):EG ns p (100*b-39) (40*b-20) (zau (Qr ns p) [pgC D R,.cell (.sl 1 (zad V)),.cell (.int t),.cell (.int (b:Int))]):=by
 obtain⟨y,hy,h0⟩:=zbJ hns (p:=p) (by omega) (m:=4) (by omega)
 by_cases hy0:y=0
 ·subst hy0
  exact EG.same (ztF hns hD hR hb hb2 hG hV ht (c0:=0) (c1:=0) (c2:=[]) D.length 1 (by omega) (by omega) (p+1) (by omega)) (by omega) (Nat.le_refl _) fun o n kids q h=>zdL (zam h0 (zac rfl h))
 have hne:(((y:Nat):Int)==0)=false:=by rw[beq_eq_false_iff_ne];omega
 have hm:t∈([0,1,2,3,4]:List Int):=by
  rcases(by omega:t=0∨t=1∨t=2∨t=3∨t=4) with rfl|rfl|rfl|rfl|rfl <;> simp
 obtain⟨gl,gc⟩:=zuQ D hD t hm;have hdv:=zkH hD
 have hb1:zae ((b:Int)-1)=((b-1:Nat):Int):=by rw[wr (by omega) (by omega)];omega
 by_cases hz:0<(zbL D t).length
 ·obtain⟨x,hx,h1⟩:=zbJ hns (p:=p+1) (by omega) (m:=(zbL D t).length) hz
  obtain⟨q1,q2,q3⟩:=gc _ (List.getElem_mem hx);obtain⟨kids,p',g1,g2,g3,g4,g5⟩:=zgQ hns hD hR q2 q3 (B:=b-1) (by omega) (fun h0=>hG _ (by have:=Nat.div_le_self (b-1) (cf D (zbL D t)[x]).length;omega)) (V:=V) (by omega) (p:=p+1+1) (by omega)
  refine⟨6,(zbL D t)[x],kids,p',zdL (zam h0 (zaa hne (zav (zes hdv t) (zac (decide_eq_true (by rw[zab];omega)) ?_)))),by omega,zal (by omega) (by omega) (by omega) g3,by omega⟩
  rw[zab,hb1];exact zam h1 (za9 hx (zav (ztf hdv _) (zk5 g1 (zag (zay _ _ _) rfl))))
 ·by_cases ht0:t>0
  ·obtain⟨o,n,l,p',g1,g2,g3,g4⟩:=znW hns hD hR (V:=V) (by omega) ht (p:=p+1) (by omega)
   exact⟨o,n,l,p',zdL (zam h0 (zaa hne (zav (zes hdv t) (zaa (decide_eq_false (by rw[zab];omega)) (zac (decide_eq_true ht0) (zaM g1 rfl)))))),by omega,g3,by omega⟩
  ·obtain⟨x,hx,h1⟩:=zbJ hns (p:=p+1) (by omega) (m:=3) (by omega)
   by_cases hx0:x=0
   ·subst hx0
    obtain⟨kids,p',g1,g2,g3,g4,g5⟩:=zgQ hns hD hR (T:=[0]) (by simp) (fun u hu=>by simp at hu;omega) (B:=b-1) (by omega) (fun h0=>hG _ (by simp;omega)) (V:=V) (by omega) (p:=p+1+1) (by omega)
    refine⟨5,0,kids,p',zdL (zam h0 (zaa hne (zav (zes hdv t) (zaa (decide_eq_false (by rw[zab];omega)) (zaa (decide_eq_false ht0) (zam h1 (zac rfl ?_))))))),by omega,zal (by omega) (by omega) (by rw[g5];simp) g3,by omega⟩
    rw[hb1];exact zk5 g1 (zag (zay _ _ _) rfl)
   ·obtain⟨op,hop,h2⟩:=zml hns (p:=p+1+1) (by omega) (xs:=[1,2,3,4]) (by simp) (by simp)
    have hop4:1≤op∧op≤4:=by
     simp only[List.mem_cons,List.not_mem_nil,or_false] at hop;omega
    obtain⟨kids,p',g1,g2,g3,g4,g5⟩:=zgQ hns hD hR (T:=[0,0]) (by simp) (fun u hu=>by simp at hu;omega) (B:=b-1) (by omega) (fun h0=>hG _ (by simp;omega)) (V:=V) (by omega) (p:=p+1+1+1) (by omega)
    refine⟨op,0,kids,p',zdL (zam h0 (zaa hne (zav (zes hdv t) (zaa (decide_eq_false (by rw[zab];omega)) (zaa (decide_eq_false ht0) (zam h1 (zaa (by rw[beq_eq_false_iff_ne];omega) (zam h2 ?_)))))))),by omega,zal (by omega) (by omega) (by rw[g5];simp) g3,by omega⟩
    rw[hb1];exact zk5 g1 (zag (zay _ _ _) rfl)
theorem zi6:∀b:Nat,b≤1000→Gen ns D R b:=by
 intro b;induction b using Nat.strongRecOn with
 | ind b ih =>
 intro hb2 V t p hV ht hp;have hG:∀b',b'<b→Gen ns D R b':=fun b' h=>ih b' h (by omega)
 by_cases hb3:b<3
 ·exact EG.same (znW hns hD hR (V:=V) (by omega) ht (p:=p) (by omega)) (by have:=zlw b;omega) (by have:=zlp b;omega) fun o n kids q h=>zbA (zac (decide_eq_true (by omega)) (zaM h rfl))
 have hb3:3≤b:=by omega
 have hlt:decide ((b:Int)<3)=false:=decide_eq_false (by omega)
 rw[(zlw b).2.1 hb3,(zlp b).2.1 hb3];have hc2:=zlw (b / 2)
 have hm2:=zlp (b / 2)
 have hb1:zae ((b:Int)-1)=((b-1:Nat):Int):=by rw[wr (by omega) (by omega)];omega
 obtain⟨x,hx,h1⟩:=zbJ hns (p:=p) (by omega) (m:=12) (by omega)
 rcases(by omega:x=0∨x=1∨x=2∨x=3∨x=4∨x=5∨x=6∨x=7∨x=8∨x=9∨x=10∨x=11) with rfl|rfl|rfl|rfl|rfl|rfl|rfl|rfl|rfl|rfl|rfl|rfl
 ·exact EG.same (znW hns hD hR (V:=V) (by omega) ht (p:=p+1) (by omega)) (by omega) (by omega) fun o n kids q h=>zbA (zaa hlt (zam h1 (zac rfl (zaM h rfl))))
 ·obtain⟨u,hu,h2⟩:=ztZ (zg0 hD) hR (V:=V) (by omega) hns (p:=p+1) (by omega)
  obtain⟨o,n,l,p1,g1,g2,g3,g4⟩:=hG (b / 2) (by omega) V u (p+1+1) (by omega) hu (by omega)
  obtain⟨o2,n2,l2,p2,k1,k2,k3,k4⟩:=hG (b / 2) (by omega) (V++[u]) t p1 (by rw[List.length_append];simp;omega) ht (by omega)
  refine⟨13,0,[[.int o,.int n,.sl 3 l],[.int o2,.int n2,.sl 3 l2]],p2,zbA (zaa hlt (zam h1 (zaa rfl (zac rfl (zac rfl (zam h2 (zsQ (n:=b / 2) (by omega) (by omega) (by omega) rfl (zaM g1 (zav (zsq V [u] (by simp;omega)) (zsQ (n:=b / 2) (by omega) (by omega) (by omega) rfl (zaM k1 (zag (zay _ _ _) rfl)))))))))))),by omega,zal (by omega) (by omega) (by simp) (fun x hx=>?_),?_⟩
  ·simp only[List.mem_cons,List.not_mem_nil,or_false] at hx
   rcases hx with rfl|rfl
   ·exact g3
   ·exact k3
  ·rw[za0,za0,zaQ,zbv,zbv]
   simp
   omega
 ·obtain⟨u,hu,h2⟩:=ztZ (zg0 hD) hR (V:=V) (by omega) hns (p:=p+1) (by omega)
  obtain⟨o,n,l,p1,g1,g2,g3,g4⟩:=hG (b / 2) (by omega) V u (p+1+1) (by omega) hu (by omega)
  obtain⟨o2,n2,l2,p2,k1,k2,k3,k4⟩:=hG (b / 2) (by omega) (V++[u]) t p1 (by rw[List.length_append];simp;omega) ht (by omega)
  refine⟨13,0,[[.int o,.int n,.sl 3 l],[.int o2,.int n2,.sl 3 l2]],p2,zbA (zaa hlt (zam h1 (zaa rfl (zaa rfl (zac rfl (zam h2 (zsQ (n:=b / 2) (by omega) (by omega) (by omega) rfl (zaM g1 (zav (zsq V [u] (by simp;omega)) (zsQ (n:=b / 2) (by omega) (by omega) (by omega) rfl (zaM k1 (zag (zay _ _ _) rfl)))))))))))),by omega,zal (by omega) (by omega) (by simp) (fun x hx=>?_),?_⟩
  ·simp only[List.mem_cons,List.not_mem_nil,or_false] at hx
   rcases hx with rfl|rfl
   ·exact g3
   ·exact k3
  ·rw[za0,za0,zaQ,zbv,zbv]
   simp
   omega
 ·obtain⟨kids,p',g1,g2,g3,g4,g5⟩:=zgQ hns hD hR (T:=[0,t,t]) (by simp) (fun u hu=>by simp at hu;omega) (B:=b-1) (by omega) (fun h0=>hG _ (by simp;omega)) (V:=V) (by omega) (p:=p+1) (by omega)
  refine⟨7,0,kids,p',zbA (zaa hlt (zam h1 (zaa rfl (zaa rfl (zaa rfl (zac rfl ?_)))))),by omega,zal (by omega) (by omega) (by rw[g5];simp) g3,by omega⟩
  rw[hb1];exact zk5 g1 (zag (zay _ _ _) rfl)
 ·exact EG.same (zoj hns hD hR hb3 hb2 hG hV ht (p:=p+1) (by omega)) (by omega) (by omega) fun o n kids q h=>zbA (zaa hlt (zam h1 (zaa rfl (zaa rfl (zaa rfl (zaa rfl (zac rfl (zac rfl (zaM h rfl)))))))))
 ·exact EG.same (zoj hns hD hR hb3 hb2 hG hV ht (p:=p+1) (by omega)) (by omega) (by omega) fun o n kids q h=>zbA (zaa hlt (zam h1 (zaa rfl (zaa rfl (zaa rfl (zaa rfl (zaa rfl (zac rfl (zac rfl (zaM h rfl))))))))))
 ·exact EG.same (zoj hns hD hR hb3 hb2 hG hV ht (p:=p+1) (by omega)) (by omega) (by omega) fun o n kids q h=>zbA (zaa hlt (zam h1 (zaa rfl (zaa rfl (zaa rfl (zaa rfl (zaa rfl (zaa rfl (zac rfl (zaM h rfl))))))))))
 ·obtain⟨fs,h2,h3,h5⟩:=zrY (zg0 hD) hR t
  by_cases hz:0<fs.length
  ·obtain⟨y,hy,h6⟩:=zbJ hns (p:=p+1) (by omega) (m:=fs.length) hz
   obtain⟨k,hk,hfk⟩:=h5 _ (List.getElem_mem hy);obtain⟨s1,s2,s3⟩:=hR.small hk;have hk4:=hR.len
   obtain⟨kids,p',g1,g2,g3,g4,g5⟩:=zgQ hns hD hR s1 (fun u hu=>by have:=s3 u hu;omega) (B:=b-1) (by omega) (fun h0=>hG _ (by have:=Nat.div_le_self (b-1) (gP R k).ps.length;omega)) (V:=V) (by omega) (p:=p+1+1) (by omega)
   refine⟨9,(k:Int),kids,p',zbA (zaa hlt (zam h1 (zaa rfl (zaa rfl (zaa rfl (zaa rfl (zaa rfl (zaa rfl (zaa rfl (zac rfl (zac rfl (zav h2 (zac (decide_eq_true (by rw[zab];omega)) ?_))))))))))))),by omega,zal (by omega) (by omega) (by omega) g3,by omega⟩
   rw[zab,hb1];refine zam h6 (za9 hy ?_)
   rw[hfk];exact zaB rfl hk (zk5 g1 (zag (zay _ _ _) rfl))
  ·exact EG.same (zkA hns hD hR hb3 hb2 hG hV ht (p:=p+1) (by omega)) (by omega) (by omega) fun o n kids q h=>zbA (zaa hlt (zam h1 (zaa rfl (zaa rfl (zaa rfl (zaa rfl (zaa rfl (zaa rfl (zaa rfl (zac rfl (zac rfl (zav h2 (zaa (decide_eq_false (by rw[zab];omega)) (zaM h rfl))))))))))))))
 ·obtain⟨fs,h2,h3,h5⟩:=zrY (zg0 hD) hR t
  by_cases hz:0<fs.length
  ·obtain⟨y,hy,h6⟩:=zbJ hns (p:=p+1) (by omega) (m:=fs.length) hz
   obtain⟨k,hk,hfk⟩:=h5 _ (List.getElem_mem hy);obtain⟨s1,s2,s3⟩:=hR.small hk;have hk4:=hR.len
   obtain⟨kids,p',g1,g2,g3,g4,g5⟩:=zgQ hns hD hR s1 (fun u hu=>by have:=s3 u hu;omega) (B:=b-1) (by omega) (fun h0=>hG _ (by have:=Nat.div_le_self (b-1) (gP R k).ps.length;omega)) (V:=V) (by omega) (p:=p+1+1) (by omega)
   refine⟨9,(k:Int),kids,p',zbA (zaa hlt (zam h1 (zaa rfl (zaa rfl (zaa rfl (zaa rfl (zaa rfl (zaa rfl (zaa rfl (zaa rfl (zac rfl (zav h2 (zac (decide_eq_true (by rw[zab];omega)) ?_))))))))))))),by omega,zal (by omega) (by omega) (by omega) g3,by omega⟩
   rw[zab,hb1];refine zam h6 (za9 hy ?_)
   rw[hfk];exact zaB rfl hk (zk5 g1 (zag (zay _ _ _) rfl))
  ·exact EG.same (zkA hns hD hR hb3 hb2 hG hV ht (p:=p+1) (by omega)) (by omega) (by omega) fun o n kids q h=>zbA (zaa hlt (zam h1 (zaa rfl (zaa rfl (zaa rfl (zaa rfl (zaa rfl (zaa rfl (zaa rfl (zaa rfl (zac rfl (zav h2 (zaa (decide_eq_false (by rw[zab];omega)) (zaM h rfl))))))))))))))
 ·exact EG.same (zkA hns hD hR hb3 hb2 hG hV ht (p:=p+1) (by omega)) (by omega) (by omega) fun o n kids q h=>zbA (zaa hlt (zam h1 (zaa rfl (zaa rfl (zaa rfl (zaa rfl (zaa rfl (zaa rfl (zaa rfl (zaa rfl (zaa rfl (zaM h rfl))))))))))))
 ·exact EG.same (zkA hns hD hR hb3 hb2 hG hV ht (p:=p+1) (by omega)) (by omega) (by omega) fun o n kids q h=>zbA (zaa hlt (zam h1 (zaa rfl (zaa rfl (zaa rfl (zaa rfl (zaa rfl (zaa rfl (zaa rfl (zaa rfl (zaa rfl (zaM h rfl))))))))))))
 ·exact EG.same (zkA hns hD hR hb3 hb2 hG hV ht (p:=p+1) (by omega)) (by omega) (by omega) fun o n kids q h=>zbA (zaa hlt (zam h1 (zaa rfl (zaa rfl (zaa rfl (zaa rfl (zaa rfl (zaa rfl (zaa rfl (zaa rfl (zaa rfl (zaM h rfl))))))))))))
end
end
end Go.Proofs.YtkgbadeobdbinaaGreat
