/- Generic texts and models for the proofs of this seat: part 29. -/
import Derived.Test.YtkgbadeobdbinaaGreatZ28
set_option linter.unusedVariables false
set_option linter.unusedSimpArgs false
set_option linter.unusedSectionVars false
namespace Go.Proofs.YtkgbadeobdbinaaGreat
section
open Go
theorem zpL {o1 n1 o2 n2:Int}{l1 l2:List (List AC)} (h1:Fit .expr [.int o1,.int n1,.sl 3 l1]) (h2:Fit .expr [.int o2,.int n2,.sl 3 l2]):zcN [[.int o1,.int n1,.sl 3 l1],[.int o2,.int n2,.sl 3 l2]]:=fun x hx=>by
 simp only[List.mem_cons,List.not_mem_nil,or_false] at hx;rcases hx with rfl|rfl
 ·exact h1
 ·exact h2
theorem zpz {o1 n1 o2 n2 o3 n3:Int}{l1 l2 l3:List (List AC)} (h1:Fit .expr [.int o1,.int n1,.sl 3 l1]) (h2:Fit .expr [.int o2,.int n2,.sl 3 l2]) (h3:Fit .expr [.int o3,.int n3,.sl 3 l3]):zcN [[.int o1,.int n1,.sl 3 l1],[.int o2,.int n2,.sl 3 l2],[.int o3,.int n3,.sl 3 l3]]:=fun x hx=>by
 simp only[List.mem_cons,List.not_mem_nil,or_false] at hx;rcases hx with rfl|rfl|rfl
 ·exact h1
 ·exact h2
 ·exact h3
theorem rs2 (o1 n1 o2 n2:Int) (l1 l2:List (List AC)):rsS [[AC.int o1,.int n1,.sl 3 l1],[AC.int o2,.int n2,.sl 3 l2]]=(l1.length+rsS l1)+(l2.length+rsS l2):=by
 rw[za0,za0,zaQ,zbv,zbv];omega
theorem rs3 (o1 n1 o2 n2 o3 n3:Int) (l1 l2 l3:List (List AC)):rsS [[AC.int o1,.int n1,.sl 3 l1],[AC.int o2,.int n2,.sl 3 l2],[AC.int o3,.int n3,.sl 3 l3]]=(l1.length+rsS l1)+(l2.length+rsS l2)+(l3.length+rsS l3):=by
 rw[za0,za0,za0,zaQ,zbv,zbv,zbv];omega
theorem zch {n:Int} (h:-1000≤n∧n≤1000):Fit .expr [.int 12,.int n,.sl 3 []]:=zal (by omega) (by omega) (by simp) (fun b hb=>by cases hb)
theorem zo4 {n:Int} (h:-1000≤n∧n≤1000):Fit .expr [.int 0,.int n,.sl 3 []]:=zal (by omega) (by omega) (by simp) (fun b hb=>by cases hb)
section
variable {ns:List Nat} (hns:ns.length≤2000) {D:List DM} (hD:D∈zdO) {R:List PM} (hR:GR R)
include hns hD hR
theorem zuN {V:List Int}{t:Int} (ht:0≤t∧t≤4) {M:Nat}{c1 c2:Int}{c3:List (List AC)}:∀b:Nat,b≤1000→V.length+3*b≤1000000→40*b+4≤M→∀(o n:Int) (l:List (List AC)),Fit .expr [.int o,.int n,.sl 3 l]→1+l.length+rsS l≤M→∀p:Nat,p+200*b+200≤800000 →
  EG ns p (200*b+16) M (zfU (zad V) t (b:Int) (zaf D) (zak R) c1 c2 c3 o n l (Qr ns p)):=by
 intro b;induction b using Nat.strongRecOn with
 | ind b ih =>
 intro hb hV hM o n l hf hs p hp;have hn:=znr hf
 by_cases h0:zwM [.int o,.int n,.sl 3 l]<0
 ·by_cases h2:2<b
  ·have hc:=(zlw (b / 2)).1
   have hm:=(zlp (b / 2)).1
   obtain⟨o2,n2,l2,p2,g1,g2,g3,g4⟩:=zi6 hns hD hR (b / 2) (by omega) V t p (by omega) ht (by omega)
   exact EG.same (ih (b / 2) (by omega) (by omega) (by omega) (by omega) o2 n2 l2 g3 (by omega) p2 (by omega)) (by omega) (by omega) fun o n kids q h=>zfX (zar hn (zac (decide_eq_true h0) (zac (decide_eq_true (by omega)) (zsQ (n:=b / 2) (by omega) (by omega) (by omega) rfl (zaM g1 h)))))
  ·exact⟨o,n,l,p,zfX (zar hn (zac (decide_eq_true h0) (zaa (decide_eq_false (by omega)) rfl))),by omega,hf,hs⟩
 ·exact⟨o,n,l,p,zfX (zar hn (zaa (decide_eq_false h0) rfl)),by omega,hf,hs⟩
theorem ztL {V:List Int} (hV:V.length≤1000) {t:Int} (ht:0≤t∧t≤4) {b:Nat} (hb:b≤20) {p:Nat} (hp:p+10000≤800000):EG ns p 6100 804 (zjn (Qr ns p) [pgC D R,.cell (.sl 1 (zad V)),.cell (.int t),.cell (.int (b:Int))]):=by
 have hc:=(zlw b).1
 have hm:=(zlp b).1
 obtain⟨o2,n2,l2,p2,g1,g2,g3,g4⟩:=zi6 hns hD hR b (by omega) V t p (by omega) ht (by omega)
 exact EG.same (zuN hns hD hR (V:=V) ht (M:=804) (c1:=0) (c2:=0) (c3:=[]) b (by omega) (by omega) (by omega) o2 n2 l2 g3 (by omega) p2 (by omega)) (by omega) (by omega) fun o n kids q h=>zqW (zaM g1 h)
theorem zvO {c1 c2:Int}{c3:List (List AC)}:∀m:Nat,m≤10→∀(o n:Int) (l:List (List AC)),Fit .expr [.int o,.int n,.sl 3 l]→∀p:Nat,p+4*m+10≤800000→EG ns p (4*m) (1+l.length+rsS l+2*m) (zfP c1 c2 c3 o n l (m:Int) (Qr ns p)):=by
 intro m;induction m with
 | zero=>intro _ o n l hf p hp;exact⟨o,n,l,p,zj2 (zaa rfl rfl),by omega,hf,by omega⟩
 | succ m ih =>
  intro hm o n l hf p hp;obtain⟨x,hx,h1⟩:=zuI hns (p:=p) (by omega)
  have hr:=rs2 0 x o n [] l
  have hnil:=zaQ
  have hnx:=ih (by omega) 6 1 [[.int 0,.int x,.sl 3 []],[.int o,.int n,.sl 3 l]] (zal (by omega) (by omega) (by simp) (zpL (zo4 hx) hf)) (p+4) (by omega)
  rw[show((m:Nat):Int)=zae (((m+1:Nat):Int)-1) by rw[wr (by omega) (by omega)];omega] at hnx
  refine EG.same hnx (by omega) (by rw[hr];simp;omega) fun o n kids q h=>zj2 (zac (decide_eq_true (by omega)) (zam h1 (zag (zcJ _) (zag (zay _ _ _) h))))
theorem zy7 {t:Int}{p:Nat} (hp:p+100≤800000):EG ns p 40 40 (zjk (Qr ns p) [.cell (.int t)]):=by
 have hnil:=zaQ
 by_cases ht:t=3
 ·obtain⟨x,hx,h1⟩:=zbJ hns (p:=p) (by omega) (m:=9) (by omega)
  obtain⟨y,hy,h2⟩:=zbJ hns (p:=p+1) (by omega) (m:=9) (by omega)
  have hleaf:Fit .expr [.int 6,.int 2,.sl 3 []]:=zal (by omega) (by omega) (by simp) (fun b hb=>by cases hb)
  have h3:Fit .expr [.int 6,.int 3,.sl 3 [[.int 6,.int 2,.sl 3 []],[.int 0,.int (x:Int),.sl 3 []],[.int 6,.int 2,.sl 3 []]]]:=zal (by omega) (by omega) (by simp) (zpz hleaf (zo4 (by omega)) hleaf)
  refine⟨6,3,_,p+1+1,zmn (zag (zay _ _ _) (zac (by rw[beq_iff_eq];exact ht) (zag (zay _ _ _) (zam h1 (zag (zcJ _) (zag (zay _ _ _) (zam h2 (zag (zcJ _) (zag (zay _ _ _) rfl))))))))),by omega,zal (by omega) (by omega) (by simp) (zpz h3 (zo4 (by omega)) hleaf),?_⟩
  rw[rs3,rs3];simp
  omega
 ·obtain⟨x,hx,h1⟩:=zbJ hns (p:=p) (by omega) (m:=3) (by omega)
  have h:=zvO hns hD hR (c1:=0) (c2:=0) (c3:=[]) (1+x) (by omega) 6 0 [] (zal (by omega) (by omega) (by simp) (fun b hb=>by cases hb)) (p+1) (by omega)
  rw[show(((1+x:Nat)):Int)=zae (1+(x:Int)) by rw[wr (by omega) (by omega)];omega] at h
  exact EG.same h (by omega) (by simp;omega) fun o n kids q h=>zmn (zag (zay _ _ _) (zaa (by rw[beq_eq_false_iff_ne];exact ht) (zam h1 h)))
theorem zxP {p:Nat} (hp:p+10000≤800000):EG ns p 2000 900 (zk4 (Qr ns p) [pgC D R]):=by
 obtain⟨t,ht,h1⟩:=zml hns (p:=p) (by omega) (xs:=[1,1,3]) (by simp) (by simp)
 have hc:=(zlw 16).1
 have hm:=(zlp 16).1
 obtain⟨o,n,l,p1,g1,g2,g3,g4⟩:=zi6 hns hD hR 16 (by omega) [t] 0 (p+1) (by simp) (by omega) (by omega)
 obtain⟨x,hx,h2⟩:=zbJ hns (p:=p1) (by omega) (m:=3) (by omega)
 obtain⟨o2,n2,l2,p2,k1,k2,k3,k4⟩:=zy7 hns hD hR (t:=t) (p:=p1+1) (by omega)
 have hnil:=zaQ
 by_cases hx0:x=0
 ·subst hx0
  refine⟨13,0,_,p2,zlz (zam h1 (zaM g1 (zam h2 (zac rfl (zag (zay _ _ _) (zaM k1 (zag (zay _ _ _) rfl))))))),by omega,zal (by omega) (by omega) (by simp) (zpL k3 (zal (by omega) (by omega) (by simp) (fun b hb=>by simp only[List.mem_singleton] at hb;rw[hb];exact g3))),?_⟩
  rw[rs2,za0,zaQ,zbv];simp
  omega
 ·refine⟨13,0,_,p2,zlz (zam h1 (zaM g1 (zam h2 (zaa (by rw[beq_eq_false_iff_ne];omega) (zaM k1 (zag (zay _ _ _) rfl)))))),by omega,zal (by omega) (by omega) (by simp) (zpL k3 g3),?_⟩
  rw[rs2];simp
  omega
set_option maxRecDepth 8000 in
theorem ztD {f:Nat} (hf:f<R.length) {c1 c2:Int}{c3:List (List AC)}:∀m k:Nat,k+m=(gP R f).ps.length→∀(acc:List (List AC)) (p:Nat),zcN acc→acc.length≤k+1→acc.length+rsS acc≤4*k+10→p+16*m+2000≤800000 →
  EG ns p (16*m+800) 400 (zfa (f:Int) (zaf D) (zak R) c1 c2 c3 (zad (gP R f).ps) acc (k:Int) (Qr ns p)):=by
 obtain⟨s1,s2,s3⟩:=hR.small hf;have h4:=hR.len
 have hnil:=zaQ
 intro m;induction m with
 | zero =>
  intro k hk acc p ha hl hs hp;have hend:decide ((k:Int)<(((zad (gP R f).ps).length:Nat):Int))=false:=decide_eq_false (by rw[zab];omega)
  have hA:Fit .expr [.int 9,.int (f:Int),.sl 3 acc]:=zal (by omega) (by omega) (by omega) ha
  have hcmp:Fit .expr [.int 4,.int 0,.sl 3 [[.int 0,.int 0,.sl 3 []],[.int 12,.int 0,.sl 3 []]]]:=zal (by omega) (by omega) (by simp) (zpL (zo4 (by omega)) (zch (by omega)))
  have hc3:=(zlw 3).2.1 (by omega)
  have hm3:=(zlp 3).2.1 (by omega)
  have hc4:=(zlw 4).2.1 (by omega)
  have hm4:=(zlp 4).2.1 (by omega)
  by_cases hr:(gP R f).r=1
  ·obtain⟨o,n,l,p1,g1,g2,g3,g4⟩:=zi6 hns hD hR 3 (by omega) (gP R f).ps 0 p (by omega) (by omega) (by omega)
   obtain⟨o2,n2,l2,p2,k1,k2,k3,k4⟩:=zi6 hns hD hR 4 (by omega) (gP R f).ps (gP R f).r p1 (by omega) (by omega) (by omega)
   have hcon:Fit .expr [.int 6,.int 1,.sl 3 [[.int o,.int n,.sl 3 l],[.int 9,.int (f:Int),.sl 3 acc]]]:=zal (by omega) (by omega) (by simp) (zpL g3 hA)
   refine⟨7,0,_,p2,zfq (zaa hend (zag (zay _ _ _) (zaB rfl hf (zac (by rw[beq_iff_eq];exact hr) (zaM g1 (zag (zay _ _ _) (zag (zcJ _) (zag (zaW _) (zag (zay _ _ _) (zaB rfl hf (zaM k1 (zag (zay _ _ _) rfl)))))))))))),by omega,zal (by omega) (by omega) (by simp) (zpz hcmp hcon k3),?_⟩
   rw[rs3,rs2,rs2];simp
   omega
  ·obtain⟨o2,n2,l2,p2,k1,k2,k3,k4⟩:=zi6 hns hD hR 4 (by omega) (gP R f).ps (gP R f).r p (by omega) (by omega) (by omega)
   refine⟨7,0,_,p2,zfq (zaa hend (zag (zay _ _ _) (zaB rfl hf (zaa (by rw[beq_eq_false_iff_ne];exact hr) (zag (zcJ _) (zag (zaW _) (zag (zay _ _ _) (zaB rfl hf (zaM k1 (zag (zay _ _ _) rfl)))))))))),by omega,zal (by omega) (by omega) (by simp) (zpz hcmp hA k3),?_⟩
   rw[rs3,rs2];simp
   omega
 | succ m ih =>
  intro k hk acc p ha hl hs hp;have hlt:k<(gP R f).ps.length:=by omega
  have ht:=s3 _ (List.getElem_mem hlt)
  obtain⟨o,n,l,p1,g1,g2,g3,g4⟩:=znW hns hD hR (V:=(gP R f).ps) (by omega) (t:=(gP R f).ps[k]) (by omega) (p:=p) (by omega)
  have hsz:=zfh (kids:=acc) (o:=o) (n:=n) (l:=l)
  have hnx:=ih (k+1) (by omega) (acc++[[.int o,.int n,.sl 3 l]]) p1 (zga ha g3) (by simp;omega) (by omega) (by omega)
  rw[←wrk (by unfold zaI;omega)] at hnx
  exact EG.same hnx (by omega) (by omega) fun o n kids q h=>zfq (zac (decide_eq_true (by rw[zab];omega)) (za9 hlt (zaM g1 (zbs (by simp;omega) h))))
set_option maxRecDepth 8000 in
theorem zxv {f:Nat} (hf:f<R.length) (hps:0<(gP R f).ps.length) {p:Nat} (hp:p+3000≤800000):EG ns p 900 400 (zk9 (Qr ns p) [pgC D R,.cell (.int (f:Int))]):=by
 obtain⟨s1,s2,s3⟩:=hR.small hf;have hnil:=zaQ
 have h:=ztD hns hD hR hf (c1:=0) (c2:=0) (c3:=[]) ((gP R f).ps.length-1) 1 (by omega) [[.int 2,.int 0,.sl 3 [[.int 12,.int 0,.sl 3 []],[.int 0,.int 1,.sl 3 []]]]] p (fun b hb=>by
  simp only[List.mem_singleton] at hb;rw[hb];exact zal (by omega) (by omega) (by simp) (zpL (zch (by omega)) (zo4 (by omega)))) (by simp) (by rw[za0,zaQ,zbv,rs2];simp[zaQ]) (by omega)
 exact EG.same h (by omega) (by omega) fun o n kids q h=>zpY (zaB rfl hf (zag (zaW _) (zag (zcJ _) (zag (zay _ _ _) h))))
theorem ztv {f:Nat} (hf:f<R.length) (hps:0<(gP R f).ps.length) {c1 c2:Int}{c3:List (List AC)}:∀m k:Nat,k+m=(gP R f).ps.length→∀(a1 a2:List (List AC)),zcN a1→zcN a2→a1.length≤k→a2.length≤k→rsS a1=0→rsS a2=0→∀p:Nat,p+3000≤800000 →
  EG ns p 1300 700 (ze7 (f:Int) (zaf D) (zak R) c1 c2 c3 (zad (gP R f).ps) (((gP R f).ps.length:Nat):Int) a1 a2 (k:Int) (Qr ns p)):=by
 obtain⟨s1,s2,s3⟩:=hR.small hf;have h4:=hR.len
 have hnil:=zaQ
 have hc4:=(zlw 4).2.1 (by omega)
 have hm4:=(zlp 4).2.1 (by omega)
 intro m;induction m with
 | zero =>
  intro k hk a1 a2 q1 q2 q3 q4 q5 q6 p hp;have hend:decide ((k:Int)<(((gP R f).ps.length:Nat):Int))=false:=decide_eq_false (by omega)
  have hA:Fit .expr [.int 9,.int (f:Int),.sl 3 a1]:=zal (by omega) (by omega) (by omega) q1
  have hB:Fit .expr [.int 9,.int (f:Int),.sl 3 a2]:=zal (by omega) (by omega) (by omega) q2
  have hext:=zsq (gP R f).ps [3,0,3] (by simp;omega)
  have hw:zae ((((gP R f).ps.length:Nat):Int)+2)=(((gP R f).ps.length+2:Nat):Int):=by rw[wr (by omega) (by omega)];omega
  obtain⟨o,n,l,p1,g1,g2,g3,g4⟩:=zi6 hns hD hR 4 (by omega) ((gP R f).ps++[3,0,3]) 0 p (by rw[List.length_append];simp;omega) (by omega) (by omega)
  have hr1:Fit .expr [.int 1,.int 0,.sl 3 [[.int o,.int n,.sl 3 l],[.int 9,.int (f:Int),.sl 3 a2]]]:=zal (by omega) (by omega) (by simp) (zpL g3 hB)
  have hr2:Fit .expr [.int 1,.int 0,.sl 3 [[.int 9,.int (f:Int),.sl 3 a1],[.int 1,.int 0,.sl 3 [[.int o,.int n,.sl 3 l],[.int 9,.int (f:Int),.sl 3 a2]]]]]:=zal (by omega) (by omega) (by simp) (zpL hA hr1)
  by_cases hr:(gP R f).r=3
  ·obtain⟨o3,n3,l3,p3,j1,j2,j3,j4⟩:=zi6 hns hD hR 4 (by omega) ((gP R f).ps++[3,0,3]) 0 p1 (by rw[List.length_append];simp;omega) (by omega) (by omega)
   obtain⟨o2,n2,l2,p2,k1,k2,k3,k4⟩:=zi6 hns hD hR 4 (by omega) (gP R f).ps (gP R f).r p3 (by omega) (by omega) (by omega)
   have hcon:Fit .expr [.int 6,.int 3,.sl 3 [[.int 9,.int (f:Int),.sl 3 a1],[.int o3,.int n3,.sl 3 l3],[.int 12,.int (((gP R f).ps.length+2:Nat):Int),.sl 3 []]]]:=zal (by omega) (by omega) (by simp) (zpz hA j3 (zch (by omega)))
   refine⟨8,3,[[.int 12,.int 0,.sl 3 []],[.int o2,.int n2,.sl 3 l2],[.int 6,.int 3,.sl 3 [[.int 9,.int (f:Int),.sl 3 a1],[.int o3,.int n3,.sl 3 l3],[.int 12,.int (((gP R f).ps.length+2:Nat):Int),.sl 3 []]]]],p2,zfj (zaa hend (zag (zay _ _ _) (zag (zay _ _ _) (zav hext (zaM g1 (zag (zay _ _ _) (zag (zay _ _ _) (zaB rfl hf (zac (by rw[beq_iff_eq];exact hr) (zav hext (zaM j1 ?_))))))))))),by omega,zal (by omega) (by omega) (by simp) (zpz (zch (by omega)) k3 hcon),?_⟩
   ·rw[hw]
    exact zag (zaW _) (zag (zay _ _ _) (zag (zaW _) (zaB rfl hf (zaM k1 (zag (zay _ _ _) rfl)))))
   ·rw[rs3,rs3]
    simp
    omega
  ·obtain⟨o2,n2,l2,p2,k1,k2,k3,k4⟩:=zi6 hns hD hR 4 (by omega) (gP R f).ps (gP R f).r p1 (by omega) (by omega) (by omega)
   refine⟨8,3,_,p2,zfj (zaa hend (zag (zay _ _ _) (zag (zay _ _ _) (zav hext (zaM g1 (zag (zay _ _ _) (zag (zay _ _ _) (zaB rfl hf (zaa (by rw[beq_eq_false_iff_ne];exact hr) (zag (zaW _) (zaB rfl hf (zaM k1 (zag (zay _ _ _) rfl))))))))))))),by omega,zal (by omega) (by omega) (by simp) (zpz (zch (by omega)) k3 hr2),?_⟩
   rw[rs3,rs2,rs2];simp
   omega
 | succ m ih =>
  intro k hk a1 a2 q1 q2 q3 q4 q5 q6 p hp;have hfv:Fit .expr [.int 12,.int (k:Int),.sl 3 []]:=zch (by omega)
  have hz1:=zfh (kids:=a1) (o:=12) (n:=(k:Int)) (l:=[])
  have hz2:=zfh (kids:=a2) (o:=12) (n:=(k:Int)) (l:=[])
  have e1:rsS (a1++[[AC.int 12,.int (k:Int),.sl 3 []]])=0:=by rw[zn2,za0,zaQ,zbv,q5];simp[zaQ]
  have e2:rsS (a2++[[AC.int 12,.int (k:Int),.sl 3 []]])=0:=by rw[zn2,za0,zaQ,zbv,q6];simp[zaQ]
  have hnx:=ih (k+1) (by omega) (a1++[[.int 12,.int (k:Int),.sl 3 []]]) (a2++[[.int 12,.int (k:Int),.sl 3 []]]) (zga q1 hfv) (zga q2 hfv) (by simp;omega) (by simp;omega) e1 e2 p hp
  rw[←wrk (by unfold zaI;omega)] at hnx
  exact EG.same hnx (by omega) (by omega) fun o n kids q h=>zfj (zac (decide_eq_true (by omega)) (zag (zaW _) (zbs (by simp;omega) (zag (zaW _) (zbs (by simp;omega) h)))))
theorem zyc {f:Nat} (hf:f<R.length) (hps:0<(gP R f).ps.length) {p:Nat} (hp:p+3000≤800000):EG ns p 1300 700 (zlb (Qr ns p) [pgC D R,.cell (.int (f:Int))]):=by
 obtain⟨s1,s2,s3⟩:=hR.small hf;have hw:zae ((((gP R f).ps.length:Nat):Int)+2)=(((gP R f).ps.length+2:Nat):Int):=by rw[wr (by omega) (by omega)];omega
 have hk:∀n:Int,-1000≤n∧n≤1000→zcN [[.int 12,.int n,.sl 3 []]]:=fun n hn b hb=>by
  simp only[List.mem_singleton] at hb;rw[hb];exact zch hn
 have hr:∀n:Int,rsS [[AC.int 12,.int n,.sl 3 []]]=0:=fun n=>by rw[za0,zaQ,zbv];simp[zaQ]
 have h:=ztv hns hD hR hf hps (c1:=0) (c2:=0) (c3:=[]) ((gP R f).ps.length-1) 1 (by omega) [[.int 12,.int (((gP R f).ps.length:Nat):Int),.sl 3 []]] [[.int 12,.int (((gP R f).ps.length+2:Nat):Int),.sl 3 []]] (hk _ (by omega)) (hk _ (by omega)) (by simp) (by simp) (hr _) (hr _) p hp
 refine EG.same h (by omega) (by omega) fun o n kids q h=>zqg (zaB rfl hf ?_)
 rw[zab,hw];exact zag (zaW _) (zag (zaW _) h)
end
end
set_option linter.unusedSectionVars false
section
open Go
section
variable {ns:List Nat} (hns:ns.length≤2000) {D:List DM} (hD:D∈zdO) {R:List PM} (hR:GR R)
include hns hD hR
set_option maxRecDepth 8000 in
set_option maxHeartbeats 1600000 in
theorem ztk {f:Nat} (hf:f<R.length) {at_:Nat} (hat:at_<(gP R f).ps.length) {c1 c2:Int}{c3:List (List AC)}{acc:List (List AC)} (ha:zcN acc) (hl:acc.length≤3) (hs:rsS acc≤6) {p:Nat} (hp:p+3000≤800000) :
  EG ns p 1400 700 (zbD (f:Int) (at_:Int) (zaf D) (zak R) c1 c2 c3 (zad (gP R f).ps) (((gP R f).ps.length:Nat):Int) (zad ((gP R f).ps++[0,1])) acc (((gP R f).ps.length:Nat):Int) (Qr ns p)):=by
 obtain⟨s1,s2,s3⟩:=hR.small hf;have h4:=hR.len
 have hnil:=zaQ
 have hc4:=(zlw 4).2.1 (by omega)
 have hm4:=(zlp 4).2.1 (by omega)
 have hend:decide ((((gP R f).ps.length:Nat):Int)<(((gP R f).ps.length:Nat):Int))=false:=decide_eq_false (by omega)
 have hA:Fit .expr [.int 9,.int (f:Int),.sl 3 acc]:=zal (by omega) (by omega) (by omega) ha
 have hV:((gP R f).ps++[0,1]).length≤5:=by rw[List.length_append];simp;omega
 by_cases hr:(gP R f).r=1
 ·obtain⟨x,hx,h1⟩:=zbJ hns (p:=p) (by omega) (m:=5) (by omega)
  by_cases hx0:0<x
  ·obtain⟨o,n,l,p1,g1,g2,g3,g4⟩:=zi6 hns hD hR 4 (by omega) ((gP R f).ps++[0,1]) 0 (p+1) (by omega) (by omega) (by omega)
   obtain⟨o2,n2,l2,p2,k1,k2,k3,k4⟩:=zi6 hns hD hR 4 (by omega) (gP R f).ps (gP R f).r p1 (by omega) (by omega) (by omega)
   have hcon:Fit .expr [.int 6,.int 1,.sl 3 [[.int o,.int n,.sl 3 l],[.int 9,.int (f:Int),.sl 3 acc]]]:=zal (by omega) (by omega) (by simp) (zpL g3 hA)
   by_cases h1n:1<(gP R f).ps.length
   ·have hz:0<(gP R f).ps.length:=by omega
    by_cases h2:(gP R f).ps[0]=2
    ·have happ:Fit .expr [.int 11,.int 0,.sl 3 [[.int 12,.int 0,.sl 3 []],[.int 12,.int (((gP R f).ps.length:Nat):Int),.sl 3 []]]]:=zal (by omega) (by omega) (by simp) (zpL (zch (by omega)) (zch (by omega)))
     have hcon2:Fit .expr [.int 6,.int 1,.sl 3 [[.int 11,.int 0,.sl 3 [[.int 12,.int 0,.sl 3 []],[.int 12,.int (((gP R f).ps.length:Nat):Int),.sl 3 []]]],[.int 9,.int (f:Int),.sl 3 acc]]]:=zal (by omega) (by omega) (by simp) (zpL happ hA)
     refine⟨8,1,_,p2,zbc (zaa hend (zag (zay _ _ _) (zaB rfl hf (zac (by rw[beq_iff_eq];exact hr) (zam h1 (zac (decide_eq_true (by omega)) (zaM g1 (zac (decide_eq_true (by omega)) (za9 (k:=0) hz (zac (by rw[beq_iff_eq];exact h2) (zag (zaW _) (zag (zaW _) (zag (zay _ _ _) (zag (zay _ _ _) (zag (zaW _) (zaB rfl hf (zaM k1 (zag (zay _ _ _) rfl)))))))))))))))))),by omega,zal (by omega) (by omega) (by simp) (zpz (zch (by omega)) k3 hcon2),?_⟩
     rw[rs3,rs2,rs2];simp
     omega
    ·refine⟨8,1,_,p2,zbc (zaa hend (zag (zay _ _ _) (zaB rfl hf (zac (by rw[beq_iff_eq];exact hr) (zam h1 (zac (decide_eq_true (by omega)) (zaM g1 (zac (decide_eq_true (by omega)) (za9 (k:=0) hz (zaa (by rw[beq_eq_false_iff_ne];exact h2) (zag (zay _ _ _) (zag (zaW _) (zaB rfl hf (zaM k1 (zag (zay _ _ _) rfl))))))))))))))),by omega,zal (by omega) (by omega) (by simp) (zpz (zch (by omega)) k3 hcon),?_⟩
     rw[rs3,rs2];simp
     omega
   ·refine⟨8,1,_,p2,zbc (zaa hend (zag (zay _ _ _) (zaB rfl hf (zac (by rw[beq_iff_eq];exact hr) (zam h1 (zac (decide_eq_true (by omega)) (zaM g1 (zaa (decide_eq_false (by omega)) (zag (zay _ _ _) (zag (zaW _) (zaB rfl hf (zaM k1 (zag (zay _ _ _) rfl))))))))))))),by omega,zal (by omega) (by omega) (by simp) (zpz (zch (by omega)) k3 hcon),?_⟩
    rw[rs3,rs2];simp
    omega
  ·obtain⟨o2,n2,l2,p2,k1,k2,k3,k4⟩:=zi6 hns hD hR 4 (by omega) (gP R f).ps (gP R f).r (p+1) (by omega) (by omega) (by omega)
   refine⟨8,1,_,p2,zbc (zaa hend (zag (zay _ _ _) (zaB rfl hf (zac (by rw[beq_iff_eq];exact hr) (zam h1 (zaa (decide_eq_false (by omega)) (zaB rfl hf (zaa (by rw[beq_eq_false_iff_ne];omega) (zag (zaW _) (zaB rfl hf (zaM k1 (zag (zay _ _ _) rfl)))))))))))),by omega,zal (by omega) (by omega) (by simp) (zpz (zch (by omega)) k3 hA),?_⟩
   rw[rs3];simp
   omega
 ·by_cases hr0:(gP R f).r=0
  ·obtain⟨op,hop,h1⟩:=zml hns (p:=p) (by omega) (xs:=[1,2]) (by simp) (by simp)
   have hop2:1≤op∧op≤2:=by
    simp only[List.mem_cons,List.not_mem_nil,or_false] at hop;omega
   obtain⟨o,n,l,p1,g1,g2,g3,g4⟩:=zi6 hns hD hR 4 (by omega) ((gP R f).ps++[0,1]) 0 (p+1) (by omega) (by omega) (by omega)
   obtain⟨o2,n2,l2,p2,k1,k2,k3,k4⟩:=zi6 hns hD hR 4 (by omega) (gP R f).ps (gP R f).r p1 (by omega) (by omega) (by omega)
   have hcon:Fit .expr [.int op,.int 0,.sl 3 [[.int o,.int n,.sl 3 l],[.int 9,.int (f:Int),.sl 3 acc]]]:=zal (by omega) (by omega) (by simp) (zpL g3 hA)
   refine⟨8,1,_,p2,zbc (zaa hend (zag (zay _ _ _) (zaB rfl hf (zaa (by rw[beq_eq_false_iff_ne];exact hr) (zaB rfl hf (zac (by rw[beq_iff_eq];exact hr0) (zam h1 (zaM g1 (zag (zay _ _ _) (zag (zaW _) (zaB rfl hf (zaM k1 (zag (zay _ _ _) rfl))))))))))))),by omega,zal (by omega) (by omega) (by simp) (zpz (zch (by omega)) k3 hcon),?_⟩
   rw[rs3,rs2];simp
   omega
  ·obtain⟨o2,n2,l2,p2,k1,k2,k3,k4⟩:=zi6 hns hD hR 4 (by omega) (gP R f).ps (gP R f).r p (by omega) (by omega) (by omega)
   refine⟨8,1,_,p2,zbc (zaa hend (zag (zay _ _ _) (zaB rfl hf (zaa (by rw[beq_eq_false_iff_ne];exact hr) (zaB rfl hf (zaa (by rw[beq_eq_false_iff_ne];exact hr0) (zag (zaW _) (zaB rfl hf (zaM k1 (zag (zay _ _ _) rfl)))))))))),by omega,zal (by omega) (by omega) (by simp) (zpz (zch (by omega)) k3 hA),?_⟩
   rw[rs3];simp
   omega
set_option maxRecDepth 8000 in
theorem ztK {f:Nat} (hf:f<R.length) {at_:Nat} (hat:at_<(gP R f).ps.length) {c1 c2:Int}{c3:List (List AC)}:∀m k:Nat,k+m=(gP R f).ps.length→∀(acc:List (List AC)),zcN acc→acc.length=k→rsS acc≤2*k→∀p:Nat,p+m+3000≤800000 →
  EG ns p (m+1400) 700 (zbD (f:Int) (at_:Int) (zaf D) (zak R) c1 c2 c3 (zad (gP R f).ps) (((gP R f).ps.length:Nat):Int) (zad ((gP R f).ps++[0,1])) acc (k:Int) (Qr ns p)):=by
 obtain⟨s1,s2,s3⟩:=hR.small hf;have hnil:=zaQ
 intro m;induction m with
 | zero =>
  intro k hk acc ha hl hs p hp;obtain rfl:k=(gP R f).ps.length:=by omega
  exact(ztk hns hD hR hf hat ha (by omega) (by omega) (by omega)).le (by omega) (by omega)
 | succ m ih =>
  intro k hk acc ha hl hs p hp;have hlt:k<(gP R f).ps.length:=by omega
  have hgo:decide ((k:Int)<(((gP R f).ps.length:Nat):Int))=true:=decide_eq_true (by omega)
  have hstep:∀(o n:Int) (l:List (List AC)),Fit .expr [.int o,.int n,.sl 3 l]→l.length+rsS l≤2→∀p':Nat,p'≤p+1→EG ns p (m+1+1400) 700 (zbD (f:Int) (at_:Int) (zaf D) (zak R) c1 c2 c3 (zad (gP R f).ps) (((gP R f).ps.length:Nat):Int) (zad ((gP R f).ps++[0,1])) (acc++[[.int o,.int n,.sl 3 l]]) (zae ((k:Int)+1)) (Qr ns p')):=fun o n l hfl hsl p' hp'=>by
   have hsz:=zfh (kids:=acc) (o:=o) (n:=n) (l:=l)
   have hlen:(acc++[[AC.int o,.int n,.sl 3 l]]).length=k+1:=by simp;omega
   have hnx:=ih (k+1) (by omega) (acc++[[.int o,.int n,.sl 3 l]]) (zga ha hfl) hlen (by omega) p' (by omega)
   rw[←wrk (by unfold zaI;omega)] at hnx
   exact EG.same hnx (by omega) (by omega) fun o n kids q h=>h
  by_cases hka:k=at_
  ·have hw:zae ((((gP R f).ps.length:Nat):Int)+1)=(((gP R f).ps.length+1:Nat):Int):=by rw[wr (by omega) (by omega)];omega
   refine EG.same (hstep 12 (((gP R f).ps.length+1:Nat):Int) [] (zch (by omega)) (by simp[zaQ]) p (by omega)) (by omega) (by omega) fun o n kids q h=>zbc (zac hgo (zac (by rw[beq_iff_eq];omega) ?_))
   rw[hw];exact zag (zaW _) (zbs (by simp;omega) h)
  ·have hne:(((k:Nat):Int)==((at_:Nat):Int))=false:=by rw[beq_eq_false_iff_ne];omega
   by_cases h0:(gP R f).ps[k]=0
   ·obtain⟨x,hx,h1⟩:=zbJ hns (p:=p) (by omega) (m:=2) (by omega)
    by_cases hx0:x=0
    ·subst hx0
     have hadd:Fit .expr [.int 1,.int 0,.sl 3 [[.int 12,.int (k:Int),.sl 3 []],[.int 12,.int (((gP R f).ps.length:Nat):Int),.sl 3 []]]]:=zal (by omega) (by omega) (by simp) (zpL (zch (by omega)) (zch (by omega)))
     exact EG.same (hstep 1 0 _ hadd (by rw[rs2];simp[zaQ]) (p+1) (by omega)) (by omega) (by omega) fun o n kids q h=>zbc (zac hgo (zaa hne (za9 hlt (zac (by rw[beq_iff_eq];exact h0) (zam h1 (zac rfl (zag (zaW _) (zag (zaW _) (zag (zay _ _ _) (zbs (by simp;omega) h))))))))))
    ·exact EG.same (hstep 12 (k:Int) [] (zch (by omega)) (by simp[zaQ]) (p+1) (by omega)) (by omega) (by omega) fun o n kids q h=>zbc (zac hgo (zaa hne (za9 hlt (zac (by rw[beq_iff_eq];exact h0) (zam h1 (zaa (by rw[beq_eq_false_iff_ne];omega) (zag (zaW _) (zbs (by simp;omega) h))))))))
   ·exact EG.same (hstep 12 (k:Int) [] (zch (by omega)) (by simp[zaQ]) p (by omega)) (by omega) (by omega) fun o n kids q h=>zbc (zac hgo (zaa hne (za9 hlt (zaa (by rw[beq_eq_false_iff_ne];exact h0) (zag (zaW _) (zbs (by simp;omega) h))))))
set_option maxRecDepth 8000 in
theorem zxU {f:Nat} (hf:f<R.length) {at_:Nat} (hat:at_<(gP R f).ps.length) {p:Nat} (hp:p+4000≤800000):EG ns p 1500 700 (zk0 (Qr ns p) [pgC D R,.cell (.int (f:Int)),.cell (.int (at_:Int))]):=by
 obtain⟨s1,s2,s3⟩:=hR.small hf;have h:=ztK hns hD hR hf hat (c1:=0) (c2:=0) (c3:=[]) (gP R f).ps.length 0 (by omega) [] (fun b hb=>by cases hb) rfl (by simp[zaQ]) p (by omega)
 refine EG.same h (by omega) (by omega) fun o n kids q h=>zqe (zaB rfl hf ?_)
 rw[zab];exact zav (zsq (gP R f).ps [0,1] (by simp;omega)) h
theorem zBB (xs:List Int) (n:Int) (hx:xs.length≤1048576):∃r:Int,zlH [.cell (.sl 1 (zad xs)),.cell (.int n)]=rI r∧(r=-1∨∃k:Nat,k<xs.length∧r=(k:Int)):=by
 have key:∀m k:Nat,k+m=xs.length→∃r:Int,zfO (zad xs) n (k:Int)=rI r∧(r=-1∨∃k:Nat,k<xs.length∧r=(k:Int)):=by
  intro m;induction m with
  | zero=>intro k hk;exact⟨-1,zfW (zaa (decide_eq_false (by rw[zab];omega)) rfl),.inl rfl⟩
  | succ m ih =>
   intro k hk;have hlt:k<xs.length:=by omega
   rcases e:(xs[k]==n) with _|_
   ·obtain⟨r,h1,h2⟩:=ih (k+1) (by omega)
    rw[←wrk (by unfold zaI;omega)] at h1
    exact⟨r,zfW (zac (decide_eq_true (by rw[zab];omega)) (za9 hlt (zaa e h1))),h2⟩
   ·exact⟨(k:Int),zfW (zac (decide_eq_true (by rw[zab];omega)) (za9 hlt (zac e rfl))),.inr ⟨k,hlt,rfl⟩⟩
 obtain⟨r,h1,h2⟩:=key xs.length 0 (by omega)
 exact⟨r,zrj h1,h2⟩
set_option maxRecDepth 8000 in
theorem zwR {f:Nat} (hf:f<R.length) {c1 c2:Int}{c3 l25:List (List AC)}{p p0:Nat}{C:Nat}{x:Option (AV×List AC)} (h:EG ns p C 900 x) (hp:p+C+10000≤800000) {X:Option (AV×List AC)}
  (hX:∀o n l q r,x=some (.v (.agg [.int o,.int n,.sl 3 l]),q)→zcw (zaf D) (zak R) c1 c2 l25 (zad (gP R f).ps) (gP R f).r o n l q=some r→X=some r):EG ns p (C+6100) 900 X:=by
 obtain⟨s1,s2,s3⟩:=hR.small hf;obtain⟨o,n,l,p1,h1,h2,h3,h4⟩:=h;have hn:=znr h3
 by_cases h0:zwM [.int o,.int n,.sl 3 l]<0
 ·obtain⟨o2,n2,l2,p2,g1,g2,g3,g4⟩:=ztL hns hD hR (V:=(gP R f).ps) (by omega) (t:=(gP R f).r) (by omega) (b:=12) (by omega) (p:=p1) (by omega)
  have e1:p2≤p+(C+6100):=Nat.le_trans g2 (Nat.le_trans (Nat.add_le_add_right h2 6100) (Nat.le_of_eq (Nat.add_assoc p C 6100)))
  exact⟨o2,n2,l2,p2,hX o n l _ _ h1 (zko (zar hn (zac (decide_eq_true h0) (zaM g1 rfl)))),e1,g3,by clear hX h1 g1 hn hp;omega⟩
 ·exact⟨o,n,l,p1,hX o n l _ _ h1 (zko (zar hn (zaa (decide_eq_false h0) rfl))),by omega,h3,h4⟩
set_option maxRecDepth 8000 in
set_option maxHeartbeats 1600000 in
theorem zz1 {f:Nat} (hf:f<R.length) {p:Nat} (hp:p+30000≤800000):EG ns p 13000 900 (zqL (Qr ns p) [pgC D R,.cell (.int (f:Int))]):=by
 obtain⟨s1,s2,s3⟩:=hR.small hf;obtain⟨a,ha,ha2⟩:=zBB hns hD hR (gP R f).ps 1 (by omega)
 obtain⟨x,hx,h1⟩:=zbJ hns (p:=p) (by omega) (m:=4) (by omega)
 -- the last choice
 have J13:∀(b:Bool) (e1 e2:Int) (e3:List (List AC)),(b=true→0<(gP R f).ps.length)→EG ns (p+1) 12200 900 (zcA (f:Int) (zaf D) (zak R) 0 0 [] (zad (gP R f).ps) (gP R f).r e1 e2 e3 b (Qr ns (p+1))):=fun b e1 e2 e3 hb=>by
  cases b with
  | true=>exact(zwR hns hD hR hf (c1:=0) (c2:=0) (c3:=[]) (l25:=[]) (p0:=0) ((zxv hns hD hR hf (hb rfl) (p:=p+1) (by omega)).le (C':=6100) (M':=900) (by omega) (by omega)) (by omega) fun o n l q r h hJ=>zjI (zac rfl (zaM h hJ))).le (by omega) (by omega)
  | false=>exact(zwR hns hD hR hf (c1:=0) (c2:=0) (c3:=[]) (l25:=[]) (p0:=0) ((ztL hns hD hR (V:=(gP R f).ps) (by omega) (t:=(gP R f).r) (by omega) (b:=18) (by omega) (p:=p+1) (by omega)).le (C':=6100) (M':=900) (by omega) (by omega)) (by omega) fun o n l q r h hJ=>zjI (zaa rfl (zaM h hJ))).le (by omega) (by omega)
 have same:∀{X Y:Option (AV×List AC)},EG ns (p+1) 12200 900 Y→(∀r,Y=some r→X=some r)→EG ns (p+1) 12200 900 X:=fun h hXY=>by
  obtain⟨o,n,l,p1,h1,h2,h3,h4⟩:=h;exact⟨o,n,l,p1,hXY _ h1,h2,h3,h4⟩
 have J11:∀(b:Bool) (e1 e2:Int) (e3:List (List AC)),(b=true→0<(gP R f).ps.length)→EG ns (p+1) 12200 900 (zcx (f:Int) (zaf D) (zak R) 0 0 [] (zad (gP R f).ps) (gP R f).r e1 e2 e3 (x:Int) b (Qr ns (p+1))):=fun b e1 e2 e3 hb=>by
  cases b with
  | true=>exact(zwR hns hD hR hf (c1:=0) (c2:=0) (c3:=[]) (l25:=[]) (p0:=0) ((zyc hns hD hR hf (hb rfl) (p:=p+1) (by omega)).le (C':=6100) (M':=900) (by omega) (by omega)) (by omega) fun o n l q r h hJ=>zcb (zac rfl (zaM h hJ))).le (by omega) (by omega)
  | false =>
   by_cases hx3:x<3
   ·have hx3':decide (((x:Nat):Int)<3)=true:=decide_eq_true (by omega)
    by_cases hz:0<(gP R f).ps.length
    ·have hz':decide (((((zad (gP R f).ps).length:Nat):Int))>0)=true:=decide_eq_true (by rw[zab];omega)
     by_cases h0:(gP R f).ps[0]=0
     ·by_cases hr0:(gP R f).r=0
      ·exact same (J13 true e1 e2 e3 (fun _=>hz)) fun r h=>zcb (zaa rfl (zac hx3' (zac hz' (za9 (k:=0) hz (zac (by rw[beq_iff_eq];exact h0) (zac (by rw[beq_iff_eq];exact hr0) h))))))
      ·exact same (J13 _ e1 e2 e3 (fun _=>hz)) fun r h=>zcb (zaa rfl (zac hx3' (zac hz' (za9 (k:=0) hz (zac (by rw[beq_iff_eq];exact h0) (zaa (by rw[beq_eq_false_iff_ne];exact hr0) h))))))
     ·exact same (J13 false e1 e2 e3 (fun h=>by cases h)) fun r h=>zcb (zaa rfl (zac hx3' (zac hz' (za9 (k:=0) hz (zaa (by rw[beq_eq_false_iff_ne];exact h0) h)))))
    ·exact same (J13 false e1 e2 e3 (fun h=>by cases h)) fun r h=>zcb (zaa rfl (zac hx3' (zaa (decide_eq_false (by rw[zab];omega)) h)))
   ·exact same (J13 false e1 e2 e3 (fun h=>by cases h)) fun r h=>zcb (zaa rfl (zaa (decide_eq_false (by omega)) h))
 have J9:∀(b:Bool) (e1 e2:Int) (e3:List (List AC)),(b=true→0≤a)→EG ns (p+1) 12200 900 (zdG (f:Int) (zaf D) (zak R) 0 0 [] (zad (gP R f).ps) (gP R f).r a e1 e2 e3 (x:Int) b (Qr ns (p+1))):=fun b e1 e2 e3 hb=>by
  cases b with
  | true =>
   obtain⟨k,hk,hak⟩:∃k:Nat,k<(gP R f).ps.length∧a=(k:Int):=by
    rcases ha2 with h|h
    ·have:=hb rfl;omega
    ·exact h
   subst hak;exact(zwR hns hD hR hf (c1:=0) (c2:=0) (c3:=[]) (l25:=[]) (p0:=0) ((zxU hns hD hR hf hk (p:=p+1) (by omega)).le (C':=6100) (M':=900) (by omega) (by omega)) (by omega) fun o n l q r h hJ=>zco (zac rfl (zaM h hJ))).le (by omega) (by omega)
  | false =>
   by_cases hx3:x<3
   ·have hx3':decide (((x:Nat):Int)<3)=true:=decide_eq_true (by omega)
    by_cases hz:0<(gP R f).ps.length
    ·have hz':decide (((((zad (gP R f).ps).length:Nat):Int))>0)=true:=decide_eq_true (by rw[zab];omega)
     by_cases h0:(gP R f).ps[0]=3
     ·by_cases hr0:(gP R f).r=0
      ·exact same (J11 true e1 e2 e3 (fun _=>hz)) fun r h=>zco (zaa rfl (zac hx3' (zac hz' (za9 (k:=0) hz (zac (by rw[beq_iff_eq];exact h0) (zac (by rw[beq_iff_eq];exact hr0) h))))))
      ·exact same (J11 _ e1 e2 e3 (fun _=>hz)) fun r h=>zco (zaa rfl (zac hx3' (zac hz' (za9 (k:=0) hz (zac (by rw[beq_iff_eq];exact h0) (zaa (by rw[beq_eq_false_iff_ne];exact hr0) h))))))
     ·exact same (J11 false e1 e2 e3 (fun h=>by cases h)) fun r h=>zco (zaa rfl (zac hx3' (zac hz' (za9 (k:=0) hz (zaa (by rw[beq_eq_false_iff_ne];exact h0) h)))))
    ·exact same (J11 false e1 e2 e3 (fun h=>by cases h)) fun r h=>zco (zaa rfl (zac hx3' (zaa (decide_eq_false (by rw[zab];omega)) h)))
   ·exact same (J11 false e1 e2 e3 (fun h=>by cases h)) fun r h=>zco (zaa rfl (zaa (decide_eq_false (by omega)) h))
 have J7:∀(b:Bool) (e1 e2:Int) (e3:List (List AC)),EG ns (p+1) 12200 900 (zgD (f:Int) (zaf D) (zak R) 0 0 [] (zad (gP R f).ps) (gP R f).r a e1 e2 e3 (x:Int) b (Qr ns (p+1))):=fun b e1 e2 e3=>by
  cases b with
  | true=>exact(zwR hns hD hR hf (c1:=0) (c2:=0) (c3:=[]) (l25:=[]) (p0:=0) ((zxP hns hD hR (p:=p+1) (by omega)).le (C':=6100) (M':=900) (by omega) (by omega)) (by omega) fun o n l q r h hJ=>zdd (zac rfl (zaM h hJ))).le (by omega) (by omega)
  | false =>
   by_cases hx3:x<3
   ·have hx3':decide (((x:Nat):Int)<3)=true:=decide_eq_true (by omega)
    by_cases ha0:0≤a
    ·by_cases hr0:(gP R f).r=0
     ·exact same (J9 true e1 e2 e3 (fun _=>ha0)) fun r h=>zdd (zaa rfl (zac hx3' (zac (decide_eq_true ha0) (zac (by rw[beq_iff_eq];exact hr0) h))))
     ·exact same (J9 _ e1 e2 e3 (fun _=>ha0)) fun r h=>zdd (zaa rfl (zac hx3' (zac (decide_eq_true ha0) (zaa (by rw[beq_eq_false_iff_ne];exact hr0) h))))
    ·exact same (J9 false e1 e2 e3 (fun h=>by cases h)) fun r h=>zdd (zaa rfl (zac hx3' (zaa (decide_eq_false ha0) h)))
   ·exact same (J9 false e1 e2 e3 (fun h=>by cases h)) fun r h=>zdd (zaa rfl (zaa (decide_eq_false (by omega)) h))
 have fin:∀{X Y:Option (AV×List AC)},EG ns (p+1) 12200 900 Y→(∀r,Y=some r→X=some r)→EG ns p 13000 900 X:=fun h hXY=>by
  obtain⟨o,n,l,p1,h1,h2,h3,h4⟩:=h;exact⟨o,n,l,p1,hXY _ h1,by omega,h3,h4⟩
 by_cases hx3:x<3
 ·exact fin (J7 ((f:Int)==0) 0 0 []) fun r h=>zmG (zaB rfl hf (zaB rfl hf (zar ha (zag (zcJ _) (zam h1 (zac (decide_eq_true (by omega)) h))))))
 ·exact fin (J7 false 0 0 []) fun r h=>zmG (zaB rfl hf (zaB rfl hf (zar ha (zag (zcJ _) (zam h1 (zaa (decide_eq_false (by omega)) h))))))
end
end
section
open Go
theorem zqt:∀N:Nat,N≤100000→∀l:List (List AC),zcN l→l.length+rsS l≤N→zgr [.cell (.sl 3 l)]=some (.v (.cell (.sl 3 l))):=by
 intro N;induction N using Nat.strongRecOn with
 | _ N ihN =>
  intro hN l hl hs;have key:∀m k:Nat,k+m=l.length→zex l (l.take k) (k:Int)=some (.v (.cell (.sl 3 l))):=by
   intro m;induction m with
   | zero =>
    intro k hk;refine ziy (zaa (decide_eq_false (by omega)) ?_)
    rw[List.take_of_length_le (by omega)]
   | succ m ih =>
    intro k hk;have hlt:k<l.length:=by omega
    have hmem:l[k]∈l:=List.getElem_mem hlt
    have hf:=hl _ hmem
    have hle:=zjo hmem
    have hn:=ih (k+1) (by omega)
    rw[List.take_succ_eq_append_getElem hlt] at hn;have hg:l.getD k []=l[k]:=by simp[List.getD,hlt]
    generalize hr:l[k]=row at *
    cases hf with
    | expr o n kids ho hno hkl hk2 =>
     have hc:kids.length+rsS kids<l.length+rsS l:=by
      have:cS [AC.int o,.int n,.sl 3 kids]=kids.length+rsS kids:=by simp[cS,rsS,acS,acS.cS,acS.rsS]
      omega
     refine ziy (zac (decide_eq_true (by omega)) (zbu hlt (by rw[hg]) (zag (zlu (zav (ihN (kids.length+rsS kids) (by omega) (by omega) kids hk2 (Nat.le_refl _)) rfl)) (zbs (by simp;omega) ?_))))
     rw[wrk (by unfold zaI;omega)]
     exact hn
  exact zpe (key l.length 0 (by omega))
end
section
open Go Go.RowKit
abbrev Rg:=Nat×Array Oper×Bool
def zx2 (id:Nat):Code→Option Rg
 | .region i ops d=>bif Nat.beq i id then some (i,ops,d) else none
 | .seq a b=>match zx2 id a with
  | some r=>some r
  | none=>zx2 id b
 | .cond _ a b=>match zx2 id a with
  | some r=>some r
  | none=>zx2 id b
 | .block _ b=>zx2 id b
 | .loop b=>zx2 id b
 | _=>none
def zj9:List Rg→Code→Code
 | [],c=>c
 | r::rs,c=>.seq (.region r.1 r.2.1 r.2.2) (zj9 rs c)
section
variable {P:Program}{L:Lay}{S:Sig}{T:Nat→Bool}{call:Orc}{ct:TOrc}{Own:Nat→Prop}{bb:Nat}
theorem zAu (hP:P.follows .mixedOrders=true) (hL:LayOk P L) (hC:zbe P S call) (hT:zdh P S T ct):∀(rs:List Rg) (n:Nat) (σ:List AV×List AC) (e:Xt) (σ':List AV×List AC) (st:Stt) (O:Out),
  za2 L T call ct n (zj9 rs .skip) σ=some (e,σ')→zcn (zbH T) L S (zj9 rs .skip) st=some O →
  ∀(p:Stb) (w:World) (a:Act),InvC st p w a.tmps σ Own bb→a.defers=[]→∀(Q:Exit→Act→World→Prop) (y:Code),
  (∀st' a' w' p',e=.norm→O.norm=some st'→InvC st' p' w' a'.tmps σ' Own bb→EvoC Own bb p w p' w'→a'.defers=[]→y.wp P Q a' w')→(zj9 rs y).wp P Q a w
 | [],n,σ,e,σ',st,O,hv,ht,p,w,a,hI,hd,Q,y,h=>by
  cases n with
  | zero=>cases hv
  | succ n =>
   simp only[zj9,za2,Option.some.injEq,Prod.mk.injEq] at hv;obtain⟨rfl,rfl⟩:=hv;cases ht;exact h st a w p rfl rfl hI (EvoC.refl _ _ _ _) hd
 | r::rs,n,σ,e,σ',st,O,hv,ht,p,w,a,hI,hd,Q,y,h=>by
  cases n with
  | zero=>cases hv
  | succ n =>
   simp only[zj9,za2,zzOb] at hv;obtain⟨⟨e1,σ1⟩,h1,h2⟩:=hv;simp only[zj9,zcn,zzOb] at ht;obtain⟨A,hA,ht⟩:=ht;have he1:e1=.norm:=by
    cases n with
    | zero=>cases h1
    | succ n =>
     simp only[za2,zzOm,Prod.mk.injEq] at h1;obtain⟨_,_,e,_⟩:=h1;exact e.symm
   subst he1;simp only at h2;refine wp_seq (zsR hP hL hC hT n (.region r.1 r.2.1 r.2.2) σ .norm σ1 st A h1 (by simpa only [zcn] using hA) p w a hI hd _ fun st1 a1 w1 p1 ha1 hI1 hev1 hd1=>?_)
   have ha1':A.norm=some st1:=ha1
   rw[ha1'] at ht;simp only[zzOb] at ht;obtain⟨B,hB,hj⟩:=ht;refine zAu hP hL hC hT rs n σ1 e σ' st1 B h2 hB p1 w1 a1 hI1 hd1 Q y fun st2 a2 w2 p2 he ha2 hI2 hev2 hd2=>?_
   subst he;obtain⟨st',h3,h4⟩:=(zdS hj .norm).2 st2 ha2;refine h st' a2 w2 p2 rfl h3 ?_ (EvoC.trans hev1 hev2) hd2
   rcases h4 with rfl|h4
   ·exact hI2
   ·exact Le.c h4 hI2
end
theorem zBS {Y:CtxT}{S:Sig}{Own:Nat→Prop}{bb:Nat} (hP:Y.X.P.follows .mixedOrders=true) (hL:LayOk Y.X.P Y.X.L) (hC:zbe Y.X.P S (V Y.X.P Y.X.L Y.X.F Y.X.E)) (hA:zAs Y.X.P Y.X.L S Y.T Y.E) {rs:List Rg}{n:Nat}{o:Ov}{q:List AC}{r:AV×List AC}
  (he:evT Y n (.run (zj9 rs .skip)) [] o q=some r) {σ:List AV} (hl:σ.length=Y.X.fn.ntmps) (hag:AgO o σ) {st:Stt}{O:Out} (ht:zcn (zbH Y.T) Y.X.L S (zj9 rs .skip) st=some O)
  {p:Stb}{w:World}{a:Act} (hI:InvC st p w a.tmps (σ,q) Own bb) (hd:a.defers=[]) (Q:Exit→Act→World→Prop) (y:Code)
  (h:∀st' a' w' p' σ' q',O.norm=some st'→zsi Y.X.L Y.X.fn (.norm,(σ',q'))=some r→InvC st' p' w' a'.tmps (σ',q') Own bb→EvoC Own bb p w p' w'→a'.defers=[]→y.wp Y.X.P Q a' w'):(zj9 rs y).wp Y.X.P Q a w:=by
 have h1:=zcW n _ _ _ _ _ he σ hl hag
 simp only[zzOb] at h1;obtain⟨⟨e,σ',q'⟩,h1,h2⟩:=h1;unfold CtxT.vc at h1;obtain⟨m,h1⟩:=TVC_iff.1 h1;refine zAu hP hL hC (zry hP hL hC hA m) rs m (σ,q) e (σ',q') st O h1 ht p w a hI hd Q y fun st' a' w' p' he hn hI' hev hd'=>?_
 subst he;exact h st' a' w' p' σ' q' hn h2 hI' hev hd'
end
end Go.Proofs.YtkgbadeobdbinaaGreat
