/- Generic texts and models for the proofs of this seat: part 27. -/
import Derived.Test.YtkgbadeobdbinaaGreatY26
set_option linter.unusedVariables false
set_option linter.unusedSimpArgs false
set_option linter.unusedSectionVars false
namespace Go.Proofs.YtkgbadeobdbinaaGreat
section
open Go
section
variable {ns:List Nat} (hns:ns.length≤2000) {D:List DM} (hD:D∈zdN) {R:List PM} (hR:GR R)
include hns hD hR
set_option maxRecDepth 8000 in
set_option maxHeartbeats 1600000 in
theorem zrQ {f:Nat} (hf:f<R.length) {at_:Nat} (hat:at_<(gP R f).ps.length) {c1 c2:Int}{c3:List (List AC)}{acc:List (List AC)} (ha:zcR acc) (hl:acc.length≤3) (hs:rsS acc≤6) {p:Nat} (hp:p+3000≤800000) :
  EG ns p 1400 700 (zbH (f:Int) (at_:Int) (zag D) (zao R) c1 c2 c3 (zae (gP R f).ps) (((gP R f).ps.length:Nat):Int) (zae ((gP R f).ps++[0,1])) acc (((gP R f).ps.length:Nat):Int) (Qr ns p)):=by
 obtain⟨s1,s2,s3⟩:=hR.small hf;have h4:=hR.len
 have hnil:=zaR
 have hc4:=(zk2 4).2.1 (by omega)
 have hm4:=(zk4 4).2.1 (by omega)
 have hend:decide ((((gP R f).ps.length:Nat):Int)<(((gP R f).ps.length:Nat):Int))=false:=decide_eq_false (by omega)
 have hA:Fit .expr [.int 9,.int (f:Int),.sl 3 acc]:=zak (by omega) (by omega) (by omega) ha
 have hV:((gP R f).ps++[0,1]).length≤5:=by rw[List.length_append];simp;omega
 by_cases hr:(gP R f).r=1
 ·obtain⟨x,hx,h1⟩:=zbM hns (p:=p) (by omega) (m:=5) (by omega)
  by_cases hx0:0<x
  ·obtain⟨o,n,l,p1,g1,g2,g3,g4⟩:=ziF hns hD hR 4 (by omega) ((gP R f).ps++[0,1]) 0 (p+1) (by omega) (by omega) (by omega)
   obtain⟨o2,n2,l2,p2,k1,k2,k3,k4⟩:=ziF hns hD hR 4 (by omega) (gP R f).ps (gP R f).r p1 (by omega) (by omega) (by omega)
   have hcon:Fit .expr [.int 6,.int 1,.sl 3 [[.int o,.int n,.sl 3 l],[.int 9,.int (f:Int),.sl 3 acc]]]:=zak (by omega) (by omega) (by simp) (zpU g3 hA)
   by_cases h1n:1<(gP R f).ps.length
   ·have hz:0<(gP R f).ps.length:=by omega
    by_cases h2:(gP R f).ps[0]=2
    ·have happ:Fit .expr [.int 11,.int 0,.sl 3 [[.int 12,.int 0,.sl 3 []],[.int 12,.int (((gP R f).ps.length:Nat):Int),.sl 3 []]]]:=zak (by omega) (by omega) (by simp) (zpU (zch (by omega)) (zch (by omega)))
     have hcon2:Fit .expr [.int 6,.int 1,.sl 3 [[.int 11,.int 0,.sl 3 [[.int 12,.int 0,.sl 3 []],[.int 12,.int (((gP R f).ps.length:Nat):Int),.sl 3 []]]],[.int 9,.int (f:Int),.sl 3 acc]]]:=zak (by omega) (by omega) (by simp) (zpU happ hA)
     refine⟨8,1,_,p2,zbd (zaa hend (zaf (zaz _ _ _) (zaQ rfl hf (zab (by rw[beq_iff_eq];exact hr) (zal h1 (zab (decide_eq_true (by omega)) (zaO g1 (zab (decide_eq_true (by omega)) (zbk (k:=0) hz (zab (by rw[beq_iff_eq];exact h2) (zaf (zaZ _) (zaf (zaZ _) (zaf (zaz _ _ _) (zaf (zaz _ _ _) (zaf (zaZ _) (zaQ rfl hf (zaO k1 (zaf (zaz _ _ _) rfl)))))))))))))))))),by omega,zak (by omega) (by omega) (by simp) (zo5 (zch (by omega)) k3 hcon2),?_⟩
     rw[rs3,rs2,rs2];simp
     omega
    ·refine⟨8,1,_,p2,zbd (zaa hend (zaf (zaz _ _ _) (zaQ rfl hf (zab (by rw[beq_iff_eq];exact hr) (zal h1 (zab (decide_eq_true (by omega)) (zaO g1 (zab (decide_eq_true (by omega)) (zbk (k:=0) hz (zaa (by rw[beq_eq_false_iff_ne];exact h2) (zaf (zaz _ _ _) (zaf (zaZ _) (zaQ rfl hf (zaO k1 (zaf (zaz _ _ _) rfl))))))))))))))),by omega,zak (by omega) (by omega) (by simp) (zo5 (zch (by omega)) k3 hcon),?_⟩
     rw[rs3,rs2];simp
     omega
   ·refine⟨8,1,_,p2,zbd (zaa hend (zaf (zaz _ _ _) (zaQ rfl hf (zab (by rw[beq_iff_eq];exact hr) (zal h1 (zab (decide_eq_true (by omega)) (zaO g1 (zaa (decide_eq_false (by omega)) (zaf (zaz _ _ _) (zaf (zaZ _) (zaQ rfl hf (zaO k1 (zaf (zaz _ _ _) rfl))))))))))))),by omega,zak (by omega) (by omega) (by simp) (zo5 (zch (by omega)) k3 hcon),?_⟩
    rw[rs3,rs2];simp
    omega
  ·obtain⟨o2,n2,l2,p2,k1,k2,k3,k4⟩:=ziF hns hD hR 4 (by omega) (gP R f).ps (gP R f).r (p+1) (by omega) (by omega) (by omega)
   refine⟨8,1,_,p2,zbd (zaa hend (zaf (zaz _ _ _) (zaQ rfl hf (zab (by rw[beq_iff_eq];exact hr) (zal h1 (zaa (decide_eq_false (by omega)) (zaQ rfl hf (zaa (by rw[beq_eq_false_iff_ne];omega) (zaf (zaZ _) (zaQ rfl hf (zaO k1 (zaf (zaz _ _ _) rfl)))))))))))),by omega,zak (by omega) (by omega) (by simp) (zo5 (zch (by omega)) k3 hA),?_⟩
   rw[rs3];simp
   omega
 ·by_cases hr0:(gP R f).r=0
  ·obtain⟨op,hop,h1⟩:=zlY hns (p:=p) (by omega) (xs:=[1,2]) (by simp) (by simp)
   have hop2:1≤op∧op≤2:=by
    simp only[List.mem_cons,List.not_mem_nil,or_false] at hop;omega
   obtain⟨o,n,l,p1,g1,g2,g3,g4⟩:=ziF hns hD hR 4 (by omega) ((gP R f).ps++[0,1]) 0 (p+1) (by omega) (by omega) (by omega)
   obtain⟨o2,n2,l2,p2,k1,k2,k3,k4⟩:=ziF hns hD hR 4 (by omega) (gP R f).ps (gP R f).r p1 (by omega) (by omega) (by omega)
   have hcon:Fit .expr [.int op,.int 0,.sl 3 [[.int o,.int n,.sl 3 l],[.int 9,.int (f:Int),.sl 3 acc]]]:=zak (by omega) (by omega) (by simp) (zpU g3 hA)
   refine⟨8,1,_,p2,zbd (zaa hend (zaf (zaz _ _ _) (zaQ rfl hf (zaa (by rw[beq_eq_false_iff_ne];exact hr) (zaQ rfl hf (zab (by rw[beq_iff_eq];exact hr0) (zal h1 (zaO g1 (zaf (zaz _ _ _) (zaf (zaZ _) (zaQ rfl hf (zaO k1 (zaf (zaz _ _ _) rfl))))))))))))),by omega,zak (by omega) (by omega) (by simp) (zo5 (zch (by omega)) k3 hcon),?_⟩
   rw[rs3,rs2];simp
   omega
  ·obtain⟨o2,n2,l2,p2,k1,k2,k3,k4⟩:=ziF hns hD hR 4 (by omega) (gP R f).ps (gP R f).r p (by omega) (by omega) (by omega)
   refine⟨8,1,_,p2,zbd (zaa hend (zaf (zaz _ _ _) (zaQ rfl hf (zaa (by rw[beq_eq_false_iff_ne];exact hr) (zaQ rfl hf (zaa (by rw[beq_eq_false_iff_ne];exact hr0) (zaf (zaZ _) (zaQ rfl hf (zaO k1 (zaf (zaz _ _ _) rfl)))))))))),by omega,zak (by omega) (by omega) (by simp) (zo5 (zch (by omega)) k3 hA),?_⟩
   rw[rs3];simp
   omega
set_option maxRecDepth 8000 in
theorem zs7 {f:Nat} (hf:f<R.length) {at_:Nat} (hat:at_<(gP R f).ps.length) {c1 c2:Int}{c3:List (List AC)}:∀m k:Nat,k+m=(gP R f).ps.length→∀(acc:List (List AC)),zcR acc→acc.length=k→rsS acc≤2*k→∀p:Nat,p+m+3000≤800000 →
  EG ns p (m+1400) 700 (zbH (f:Int) (at_:Int) (zag D) (zao R) c1 c2 c3 (zae (gP R f).ps) (((gP R f).ps.length:Nat):Int) (zae ((gP R f).ps++[0,1])) acc (k:Int) (Qr ns p)):=by
 obtain⟨s1,s2,s3⟩:=hR.small hf;have hnil:=zaR
 intro m;induction m with
 | zero =>
  intro k hk acc ha hl hs p hp;obtain rfl:k=(gP R f).ps.length:=by omega
  exact(zrQ hns hD hR hf hat ha (by omega) (by omega) (by omega)).le (by omega) (by omega)
 | succ m ih =>
  intro k hk acc ha hl hs p hp;have hlt:k<(gP R f).ps.length:=by omega
  have hgo:decide ((k:Int)<(((gP R f).ps.length:Nat):Int))=true:=decide_eq_true (by omega)
  have hstep:∀(o n:Int) (l:List (List AC)),Fit .expr [.int o,.int n,.sl 3 l]→l.length+rsS l≤2→∀p':Nat,p'≤p+1→EG ns p (m+1+1400) 700 (zbH (f:Int) (at_:Int) (zag D) (zao R) c1 c2 c3 (zae (gP R f).ps) (((gP R f).ps.length:Nat):Int) (zae ((gP R f).ps++[0,1])) (acc++[[.int o,.int n,.sl 3 l]]) (zad ((k:Int)+1)) (Qr ns p')):=fun o n l hfl hsl p' hp'=>by
   have hsz:=ze4 (kids:=acc) (o:=o) (n:=n) (l:=l)
   have hlen:(acc++[[AC.int o,.int n,.sl 3 l]]).length=k+1:=by simp;omega
   have hnx:=ih (k+1) (by omega) (acc++[[.int o,.int n,.sl 3 l]]) (zfW ha hfl) hlen (by omega) p' (by omega)
   rw[←wrk (by unfold zaS;omega)] at hnx
   exact EG.same hnx (by omega) (by omega) fun o n kids q h=>h
  by_cases hka:k=at_
  ·have hw:zad ((((gP R f).ps.length:Nat):Int)+1)=(((gP R f).ps.length+1:Nat):Int):=by rw[wr (by omega) (by omega)];omega
   refine EG.same (hstep 12 (((gP R f).ps.length+1:Nat):Int) [] (zch (by omega)) (by simp[zaR]) p (by omega)) (by omega) (by omega) fun o n kids q h=>zbd (zab hgo (zab (by rw[beq_iff_eq];omega) ?_))
   rw[hw];exact zaf (zaZ _) (zbu (by simp;omega) h)
  ·have hne:(((k:Nat):Int)==((at_:Nat):Int))=false:=by rw[beq_eq_false_iff_ne];omega
   by_cases h0:(gP R f).ps[k]=0
   ·obtain⟨x,hx,h1⟩:=zbM hns (p:=p) (by omega) (m:=2) (by omega)
    by_cases hx0:x=0
    ·subst hx0
     have hadd:Fit .expr [.int 1,.int 0,.sl 3 [[.int 12,.int (k:Int),.sl 3 []],[.int 12,.int (((gP R f).ps.length:Nat):Int),.sl 3 []]]]:=zak (by omega) (by omega) (by simp) (zpU (zch (by omega)) (zch (by omega)))
     exact EG.same (hstep 1 0 _ hadd (by rw[rs2];simp[zaR]) (p+1) (by omega)) (by omega) (by omega) fun o n kids q h=>zbd (zab hgo (zaa hne (zbk hlt (zab (by rw[beq_iff_eq];exact h0) (zal h1 (zab rfl (zaf (zaZ _) (zaf (zaZ _) (zaf (zaz _ _ _) (zbu (by simp;omega) h))))))))))
    ·exact EG.same (hstep 12 (k:Int) [] (zch (by omega)) (by simp[zaR]) (p+1) (by omega)) (by omega) (by omega) fun o n kids q h=>zbd (zab hgo (zaa hne (zbk hlt (zab (by rw[beq_iff_eq];exact h0) (zal h1 (zaa (by rw[beq_eq_false_iff_ne];omega) (zaf (zaZ _) (zbu (by simp;omega) h))))))))
   ·exact EG.same (hstep 12 (k:Int) [] (zch (by omega)) (by simp[zaR]) p (by omega)) (by omega) (by omega) fun o n kids q h=>zbd (zab hgo (zaa hne (zbk hlt (zaa (by rw[beq_eq_false_iff_ne];exact h0) (zaf (zaZ _) (zbu (by simp;omega) h))))))
set_option maxRecDepth 8000 in
theorem zw2 {f:Nat} (hf:f<R.length) {at_:Nat} (hat:at_<(gP R f).ps.length) {p:Nat} (hp:p+4000≤800000):EG ns p 1500 700 (zkJ (Qr ns p) [pgC D R,.cell (.int (f:Int)),.cell (.int (at_:Int))]):=by
 obtain⟨s1,s2,s3⟩:=hR.small hf;have h:=zs7 hns hD hR hf hat (c1:=0) (c2:=0) (c3:=[]) (gP R f).ps.length 0 (by omega) [] (fun b hb=>by cases hb) rfl (by simp[zaR]) p (by omega)
 refine EG.same h (by omega) (by omega) fun o n kids q h=>zo8 (zaQ rfl hf ?_)
 rw[zac];exact zay (zsB (gP R f).ps [0,1] (by simp;omega)) h
theorem zAX (xs:List Int) (n:Int) (hx:xs.length≤1048576):∃r:Int,zll [.cell (.sl 1 (zae xs)),.cell (.int n)]=rI r∧(r=-1∨∃k:Nat,k<xs.length∧r=(k:Int)):=by
 have key:∀m k:Nat,k+m=xs.length→∃r:Int,zfE (zae xs) n (k:Int)=rI r∧(r=-1∨∃k:Nat,k<xs.length∧r=(k:Int)):=by
  intro m;induction m with
  | zero=>intro k hk;exact⟨-1,zfP (zaa (decide_eq_false (by rw[zac];omega)) rfl),.inl rfl⟩
  | succ m ih =>
   intro k hk;have hlt:k<xs.length:=by omega
   rcases e:(xs[k]==n) with _|_
   ·obtain⟨r,h1,h2⟩:=ih (k+1) (by omega)
    rw[←wrk (by unfold zaS;omega)] at h1
    exact⟨r,zfP (zab (decide_eq_true (by rw[zac];omega)) (zbk hlt (zaa e h1))),h2⟩
   ·exact⟨(k:Int),zfP (zab (decide_eq_true (by rw[zac];omega)) (zbk hlt (zab e rfl))),.inr ⟨k,hlt,rfl⟩⟩
 obtain⟨r,h1,h2⟩:=key xs.length 0 (by omega)
 exact⟨r,zqX h1,h2⟩
set_option maxRecDepth 8000 in
theorem zvN {f:Nat} (hf:f<R.length) {c1 c2:Int}{c3 l25:List (List AC)}{p p0:Nat}{C:Nat}{x:Option (AV×List AC)} (h:EG ns p C 900 x) (hp:p+C+10000≤800000) {X:Option (AV×List AC)}
  (hX:∀o n l q r,x=some (.v (.agg [.int o,.int n,.sl 3 l]),q)→zcC (zag D) (zao R) c1 c2 l25 (zae (gP R f).ps) (gP R f).r o n l q=some r→X=some r):EG ns p (C+6100) 900 X:=by
 obtain⟨s1,s2,s3⟩:=hR.small hf;obtain⟨o,n,l,p1,h1,h2,h3,h4⟩:=h;have hn:=zm6 h3
 by_cases h0:zvM [.int o,.int n,.sl 3 l]<0
 ·obtain⟨o2,n2,l2,p2,g1,g2,g3,g4⟩:=zt1 hns hD hR (V:=(gP R f).ps) (by omega) (t:=(gP R f).r) (by omega) (b:=12) (by omega) (p:=p1) (by omega)
  have e1:p2≤p+(C+6100):=Nat.le_trans g2 (Nat.le_trans (Nat.add_le_add_right h2 6100) (Nat.le_of_eq (Nat.add_assoc p C 6100)))
  exact⟨o2,n2,l2,p2,hX o n l _ _ h1 (zjo (zan hn (zab (decide_eq_true h0) (zaO g1 rfl)))),e1,g3,by clear hX h1 g1 hn hp;omega⟩
 ·exact⟨o,n,l,p1,hX o n l _ _ h1 (zjo (zan hn (zaa (decide_eq_false h0) rfl))),by omega,h3,h4⟩
set_option maxRecDepth 8000 in
set_option maxHeartbeats 1600000 in
theorem zB0 {f:Nat} (hf:f<R.length) {p:Nat} (hp:p+30000≤800000):EG ns p 13000 900 (zqd (Qr ns p) [pgC D R,.cell (.int (f:Int))]):=by
 obtain⟨s1,s2,s3⟩:=hR.small hf;obtain⟨a,ha,ha2⟩:=zAX hns hD hR (gP R f).ps 1 (by omega)
 obtain⟨x,hx,h1⟩:=zbM hns (p:=p) (by omega) (m:=4) (by omega)
 -- the last choice
 have J13:∀(b:Bool) (e1 e2:Int) (e3:List (List AC)),(b=true→0<(gP R f).ps.length)→EG ns (p+1) 12200 900 (zcA (f:Int) (zag D) (zao R) 0 0 [] (zae (gP R f).ps) (gP R f).r e1 e2 e3 b (Qr ns (p+1))):=fun b e1 e2 e3 hb=>by
  cases b with
  | true=>exact(zvN hns hD hR hf (c1:=0) (c2:=0) (c3:=[]) (l25:=[]) (p0:=0) ((zxf hns hD hR hf (hb rfl) (p:=p+1) (by omega)).le (C':=6100) (M':=900) (by omega) (by omega)) (by omega) fun o n l q r h hJ=>zjL (zab rfl (zaO h hJ))).le (by omega) (by omega)
  | false=>exact(zvN hns hD hR hf (c1:=0) (c2:=0) (c3:=[]) (l25:=[]) (p0:=0) ((zt1 hns hD hR (V:=(gP R f).ps) (by omega) (t:=(gP R f).r) (by omega) (b:=18) (by omega) (p:=p+1) (by omega)).le (C':=6100) (M':=900) (by omega) (by omega)) (by omega) fun o n l q r h hJ=>zjL (zaa rfl (zaO h hJ))).le (by omega) (by omega)
 have same:∀{X Y:Option (AV×List AC)},EG ns (p+1) 12200 900 Y→(∀r,Y=some r→X=some r)→EG ns (p+1) 12200 900 X:=fun h hXY=>by
  obtain⟨o,n,l,p1,h1,h2,h3,h4⟩:=h;exact⟨o,n,l,p1,hXY _ h1,h2,h3,h4⟩
 have J11:∀(b:Bool) (e1 e2:Int) (e3:List (List AC)),(b=true→0<(gP R f).ps.length)→EG ns (p+1) 12200 900 (zcD (f:Int) (zag D) (zao R) 0 0 [] (zae (gP R f).ps) (gP R f).r e1 e2 e3 (x:Int) b (Qr ns (p+1))):=fun b e1 e2 e3 hb=>by
  cases b with
  | true=>exact(zvN hns hD hR hf (c1:=0) (c2:=0) (c3:=[]) (l25:=[]) (p0:=0) ((zxt hns hD hR hf (hb rfl) (p:=p+1) (by omega)).le (C':=6100) (M':=900) (by omega) (by omega)) (by omega) fun o n l q r h hJ=>zcb (zab rfl (zaO h hJ))).le (by omega) (by omega)
  | false =>
   by_cases hx3:x<3
   ·have hx3':decide (((x:Nat):Int)<3)=true:=decide_eq_true (by omega)
    by_cases hz:0<(gP R f).ps.length
    ·have hz':decide (((((zae (gP R f).ps).length:Nat):Int))>0)=true:=decide_eq_true (by rw[zac];omega)
     by_cases h0:(gP R f).ps[0]=0
     ·by_cases hr0:(gP R f).r=0
      ·exact same (J13 true e1 e2 e3 (fun _=>hz)) fun r h=>zcb (zaa rfl (zab hx3' (zab hz' (zbk (k:=0) hz (zab (by rw[beq_iff_eq];exact h0) (zab (by rw[beq_iff_eq];exact hr0) h))))))
      ·exact same (J13 _ e1 e2 e3 (fun _=>hz)) fun r h=>zcb (zaa rfl (zab hx3' (zab hz' (zbk (k:=0) hz (zab (by rw[beq_iff_eq];exact h0) (zaa (by rw[beq_eq_false_iff_ne];exact hr0) h))))))
     ·exact same (J13 false e1 e2 e3 (fun h=>by cases h)) fun r h=>zcb (zaa rfl (zab hx3' (zab hz' (zbk (k:=0) hz (zaa (by rw[beq_eq_false_iff_ne];exact h0) h)))))
    ·exact same (J13 false e1 e2 e3 (fun h=>by cases h)) fun r h=>zcb (zaa rfl (zab hx3' (zaa (decide_eq_false (by rw[zac];omega)) h)))
   ·exact same (J13 false e1 e2 e3 (fun h=>by cases h)) fun r h=>zcb (zaa rfl (zaa (decide_eq_false (by omega)) h))
 have J9:∀(b:Bool) (e1 e2:Int) (e3:List (List AC)),(b=true→0≤a)→EG ns (p+1) 12200 900 (zdL (f:Int) (zag D) (zao R) 0 0 [] (zae (gP R f).ps) (gP R f).r a e1 e2 e3 (x:Int) b (Qr ns (p+1))):=fun b e1 e2 e3 hb=>by
  cases b with
  | true =>
   obtain⟨k,hk,hak⟩:∃k:Nat,k<(gP R f).ps.length∧a=(k:Int):=by
    rcases ha2 with h|h
    ·have:=hb rfl;omega
    ·exact h
   subst hak;exact(zvN hns hD hR hf (c1:=0) (c2:=0) (c3:=[]) (l25:=[]) (p0:=0) ((zw2 hns hD hR hf hk (p:=p+1) (by omega)).le (C':=6100) (M':=900) (by omega) (by omega)) (by omega) fun o n l q r h hJ=>zcv (zab rfl (zaO h hJ))).le (by omega) (by omega)
  | false =>
   by_cases hx3:x<3
   ·have hx3':decide (((x:Nat):Int)<3)=true:=decide_eq_true (by omega)
    by_cases hz:0<(gP R f).ps.length
    ·have hz':decide (((((zae (gP R f).ps).length:Nat):Int))>0)=true:=decide_eq_true (by rw[zac];omega)
     by_cases h0:(gP R f).ps[0]=3
     ·by_cases hr0:(gP R f).r=0
      ·exact same (J11 true e1 e2 e3 (fun _=>hz)) fun r h=>zcv (zaa rfl (zab hx3' (zab hz' (zbk (k:=0) hz (zab (by rw[beq_iff_eq];exact h0) (zab (by rw[beq_iff_eq];exact hr0) h))))))
      ·exact same (J11 _ e1 e2 e3 (fun _=>hz)) fun r h=>zcv (zaa rfl (zab hx3' (zab hz' (zbk (k:=0) hz (zab (by rw[beq_iff_eq];exact h0) (zaa (by rw[beq_eq_false_iff_ne];exact hr0) h))))))
     ·exact same (J11 false e1 e2 e3 (fun h=>by cases h)) fun r h=>zcv (zaa rfl (zab hx3' (zab hz' (zbk (k:=0) hz (zaa (by rw[beq_eq_false_iff_ne];exact h0) h)))))
    ·exact same (J11 false e1 e2 e3 (fun h=>by cases h)) fun r h=>zcv (zaa rfl (zab hx3' (zaa (decide_eq_false (by rw[zac];omega)) h)))
   ·exact same (J11 false e1 e2 e3 (fun h=>by cases h)) fun r h=>zcv (zaa rfl (zaa (decide_eq_false (by omega)) h))
 have J7:∀(b:Bool) (e1 e2:Int) (e3:List (List AC)),EG ns (p+1) 12200 900 (zgI (f:Int) (zag D) (zao R) 0 0 [] (zae (gP R f).ps) (gP R f).r a e1 e2 e3 (x:Int) b (Qr ns (p+1))):=fun b e1 e2 e3=>by
  cases b with
  | true=>exact(zvN hns hD hR hf (c1:=0) (c2:=0) (c3:=[]) (l25:=[]) (p0:=0) ((zwO hns hD hR (p:=p+1) (by omega)).le (C':=6100) (M':=900) (by omega) (by omega)) (by omega) fun o n l q r h hJ=>zdd (zab rfl (zaO h hJ))).le (by omega) (by omega)
  | false =>
   by_cases hx3:x<3
   ·have hx3':decide (((x:Nat):Int)<3)=true:=decide_eq_true (by omega)
    by_cases ha0:0≤a
    ·by_cases hr0:(gP R f).r=0
     ·exact same (J9 true e1 e2 e3 (fun _=>ha0)) fun r h=>zdd (zaa rfl (zab hx3' (zab (decide_eq_true ha0) (zab (by rw[beq_iff_eq];exact hr0) h))))
     ·exact same (J9 _ e1 e2 e3 (fun _=>ha0)) fun r h=>zdd (zaa rfl (zab hx3' (zab (decide_eq_true ha0) (zaa (by rw[beq_eq_false_iff_ne];exact hr0) h))))
    ·exact same (J9 false e1 e2 e3 (fun h=>by cases h)) fun r h=>zdd (zaa rfl (zab hx3' (zaa (decide_eq_false ha0) h)))
   ·exact same (J9 false e1 e2 e3 (fun h=>by cases h)) fun r h=>zdd (zaa rfl (zaa (decide_eq_false (by omega)) h))
 have fin:∀{X Y:Option (AV×List AC)},EG ns (p+1) 12200 900 Y→(∀r,Y=some r→X=some r)→EG ns p 13000 900 X:=fun h hXY=>by
  obtain⟨o,n,l,p1,h1,h2,h3,h4⟩:=h;exact⟨o,n,l,p1,hXY _ h1,by omega,h3,h4⟩
 by_cases hx3:x<3
 ·exact fin (J7 ((f:Int)==0) 0 0 []) fun r h=>zmL (zaQ rfl hf (zaQ rfl hf (zan ha (zaf (zcL _) (zal h1 (zab (decide_eq_true (by omega)) h))))))
 ·exact fin (J7 false 0 0 []) fun r h=>zmL (zaQ rfl hf (zaQ rfl hf (zan ha (zaf (zcL _) (zal h1 (zaa (decide_eq_false (by omega)) h))))))
end
end
section
open Go
theorem zp6:∀N:Nat,N≤100000→∀l:List (List AC),zcR l→l.length+rsS l≤N→zgt [.cell (.sl 3 l)]=some (.v (.cell (.sl 3 l))):=by
 intro N;induction N using Nat.strongRecOn with
 | _ N ihN =>
  intro hN l hl hs;have key:∀m k:Nat,k+m=l.length→zen l (l.take k) (k:Int)=some (.v (.cell (.sl 3 l))):=by
   intro m;induction m with
   | zero =>
    intro k hk;refine zhF (zaa (decide_eq_false (by omega)) ?_)
    rw[List.take_of_length_le (by omega)]
   | succ m ih =>
    intro k hk;have hlt:k<l.length:=by omega
    have hmem:l[k]∈l:=List.getElem_mem hlt
    have hf:=hl _ hmem
    have hle:=zgi hmem
    have hn:=ih (k+1) (by omega)
    rw[List.take_succ_eq_append_getElem hlt] at hn;have hg:l.getD k []=l[k]:=by simp[List.getD,hlt]
    generalize hr:l[k]=row at *
    cases hf with
    | expr o n kids ho hno hkl hk2 =>
     have hc:kids.length+rsS kids<l.length+rsS l:=by
      have:cS [AC.int o,.int n,.sl 3 kids]=kids.length+rsS kids:=by simp[cS,rsS,acS,acS.cS,acS.rsS]
      omega
     refine zhF (zab (decide_eq_true (by omega)) (zaB hlt (by rw[hg]) (zaf (zkW (zay (ihN (kids.length+rsS kids) (by omega) (by omega) kids hk2 (Nat.le_refl _)) rfl)) (zbu (by simp;omega) ?_))))
     rw[wrk (by unfold zaS;omega)]
     exact hn
  exact zow (key l.length 0 (by omega))
end
section
open Go Go.RowKit
abbrev Rg:=Nat×Array Oper×Bool
def zxj (id:Nat):Code→Option Rg
 | .region i ops d=>bif Nat.beq i id then some (i,ops,d) else none
 | .seq a b=>match zxj id a with
  | some r=>some r
  | none=>zxj id b
 | .cond _ a b=>match zxj id a with
  | some r=>some r
  | none=>zxj id b
 | .block _ b=>zxj id b
 | .loop b=>zxj id b
 | _=>none
def zj9:List Rg→Code→Code
 | [],c=>c
 | r::rs,c=>.seq (.region r.1 r.2.1 r.2.2) (zj9 rs c)
section
variable {P:Program}{L:Lay}{S:Sig}{T:Nat→Bool}{call:Orc}{ct:TOrc}{Own:Nat→Prop}{bb:Nat}
theorem zAz (hP:P.follows .mixedOrders=true) (hL:LayOk P L) (hC:zbg P S call) (hT:zdl P S T ct):∀(rs:List Rg) (n:Nat) (σ:List AV×List AC) (e:Xt) (σ':List AV×List AC) (st:Stt) (O:Out),
  za7 L T call ct n (zj9 rs .skip) σ=some (e,σ')→zct (zbJ T) L S (zj9 rs .skip) st=some O →
  ∀(p:Stb) (w:World) (a:Act),InvC st p w a.tmps σ Own bb→a.defers=[]→∀(Q:Exit→Act→World→Prop) (y:Code),
  (∀st' a' w' p',e=.norm→O.norm=some st'→InvC st' p' w' a'.tmps σ' Own bb→EvoC Own bb p w p' w'→a'.defers=[]→y.wp P Q a' w')→(zj9 rs y).wp P Q a w
 | [],n,σ,e,σ',st,O,hv,ht,p,w,a,hI,hd,Q,y,h=>by
  cases n with
  | zero=>cases hv
  | succ n =>
   simp only[zj9,za7,Option.some.injEq,Prod.mk.injEq] at hv;obtain⟨rfl,rfl⟩:=hv;cases ht;exact h st a w p rfl rfl hI (EvoC.refl _ _ _ _) hd
 | r::rs,n,σ,e,σ',st,O,hv,ht,p,w,a,hI,hd,Q,y,h=>by
  cases n with
  | zero=>cases hv
  | succ n =>
   simp only[zj9,za7,zzOb] at hv;obtain⟨⟨e1,σ1⟩,h1,h2⟩:=hv;simp only[zj9,zct,zzOb] at ht;obtain⟨A,hA,ht⟩:=ht;have he1:e1=.norm:=by
    cases n with
    | zero=>cases h1
    | succ n =>
     simp only[za7,zzOm,Prod.mk.injEq] at h1;obtain⟨_,_,e,_⟩:=h1;exact e.symm
   subst he1;simp only at h2;refine wp_seq (zsP hP hL hC hT n (.region r.1 r.2.1 r.2.2) σ .norm σ1 st A h1 (by simpa only [zct] using hA) p w a hI hd _ fun st1 a1 w1 p1 ha1 hI1 hev1 hd1=>?_)
   have ha1':A.norm=some st1:=ha1
   rw[ha1'] at ht;simp only[zzOb] at ht;obtain⟨B,hB,hj⟩:=ht;refine zAz hP hL hC hT rs n σ1 e σ' st1 B h2 hB p1 w1 a1 hI1 hd1 Q y fun st2 a2 w2 p2 he ha2 hI2 hev2 hd2=>?_
   subst he;obtain⟨st',h3,h4⟩:=(zdR hj .norm).2 st2 ha2;refine h st' a2 w2 p2 rfl h3 ?_ (EvoC.trans hev1 hev2) hd2
   rcases h4 with rfl|h4
   ·exact hI2
   ·exact Le.c h4 hI2
end
theorem zA1 {Y:CtxT}{S:Sig}{Own:Nat→Prop}{bb:Nat} (hP:Y.X.P.follows .mixedOrders=true) (hL:LayOk Y.X.P Y.X.L) (hC:zbg Y.X.P S (V Y.X.P Y.X.L Y.X.F Y.X.E)) (hA:zA8 Y.X.P Y.X.L S Y.T Y.E) {rs:List Rg}{n:Nat}{o:Ov}{q:List AC}{r:AV×List AC}
  (he:evT Y n (.run (zj9 rs .skip)) [] o q=some r) {σ:List AV} (hl:σ.length=Y.X.fn.ntmps) (hag:AgO o σ) {st:Stt}{O:Out} (ht:zct (zbJ Y.T) Y.X.L S (zj9 rs .skip) st=some O)
  {p:Stb}{w:World}{a:Act} (hI:InvC st p w a.tmps (σ,q) Own bb) (hd:a.defers=[]) (Q:Exit→Act→World→Prop) (y:Code)
  (h:∀st' a' w' p' σ' q',O.norm=some st'→zr2 Y.X.L Y.X.fn (.norm,(σ',q'))=some r→InvC st' p' w' a'.tmps (σ',q') Own bb→EvoC Own bb p w p' w'→a'.defers=[]→y.wp Y.X.P Q a' w'):(zj9 rs y).wp Y.X.P Q a w:=by
 have h1:=zc2 n _ _ _ _ _ he σ hl hag
 simp only[zzOb] at h1;obtain⟨⟨e,σ',q'⟩,h1,h2⟩:=h1;unfold CtxT.vc at h1;obtain⟨m,h1⟩:=TVC_iff.1 h1;refine zAz hP hL hC (zq9 hP hL hC hA m) rs m (σ,q) e (σ',q') st O h1 ht p w a hI hd Q y fun st' a' w' p' he hn hI' hev hd'=>?_
 subst he;exact h st' a' w' p' σ' q' hn h2 hI' hev hd'
end
section
open Go Go.RowKit
def zv5:Value→AV
 | .bool x=>.v (.cell (.bool x))
 | _=>.und
def zis (m:Array Value) (n:Nat) (o:List (Nat×AV)):List AV:=(List.range n).map fun t=>match o.lookup t with
 | some x=>x
 | none=>zv5 (m.getD t undef)
theorem zeP (m:Array Value) (n:Nat) (o:List (Nat×AV)):(zis m n o).length=n:=by simp[zis]
theorem zeN (m:Array Value) (n:Nat) (o:List (Nat×AV)) (t:Nat):VS.get {σ:=zis m n o,pe:=[]} t=if t<n then(match o.lookup t with
 | some x=>x
 | none=>zv5 (m.getD t undef)) else .und:=by
 unfold VS.get zis;by_cases h:t<n
 ·rw[if_pos h]
  simp[List.getD,h]
 ·rw[if_neg h]
  simp[List.getD,h]
theorem zvX (v:Value):zbU (zv5 v)=false:=by cases v <;> rfl
theorem zvp (v:Value) (cs:List AC):zv5 v≠.box cs:=by cases v <;> simp[zv5]
def stM (n:Nat):Stt:=⟨[],[],[],n,[],[]⟩
structure zvn (p:Stb) (w:World) (m:Array Value) (n:Nat) (o:List (Nat×AV)) (Own:Nat→Prop):Prop where
 lt:∀t x,o.lookup t=some x→t<n∧SR p w (m.getD t undef) x
 kind:∀t x,o.lookup t=some x→(∃v,x=.v v)∨∃cs c,x=.box cs∧m.getD t undef=.pointer (some ⟨c,0,none⟩)∧p c=0∧Own c
 apart:∀t t' cs cs' c,t≠t'→o.lookup t=some (.box cs)→o.lookup t'=some (.box cs')→m.getD t undef=.pointer (some ⟨c,0,none⟩)→m.getD t' undef≠.pointer (some ⟨c,0,none⟩)
theorem ztx {p:Stb}{w:World}{m:Array Value}{n:Nat}{o:List (Nat×AV)}{Own:Nat→Prop}{b:Nat}{q:List AC} (hs:m.size=n) (hk:zvn p w m n o Own) (hz:Zp p w) (hown:∀c,w.heap.size≤c→Own c) (h0:m.getD 0 undef=zbl b) (hT:TK p w Own b q) :
  InvC (stM n) p w m (zis m n o,q) Own b:=by
 have hrow:∀t,zbU (VS.get {σ:=zis m n o,pe:=[]} t)=false:=fun t=>by
  rw[zeN];split
  ·split
   ·rename_i x hx
    rcases hk.kind t x hx with ⟨v,rfl⟩|⟨cs,c,rfl,_⟩ <;> rfl
   ·exact zvX _
  ·rfl
 have hbox:∀t cs,VS.get {σ:=zis m n o,pe:=[]} t=.box cs→o.lookup t=some (.box cs):=fun t cs h=>by
  rw[zeN] at h;split at h
  ·split at h
   ·rename_i x hx
    rw[hx,h]
   ·exact absurd h (zvp _ _)
  ·cases h
 refine⟨⟨by rw[zeP];exact hs,(zeP _ _ _).symm,fun t ht=>(by cases ht),trivial,fun t=>⟨?_,fun q hq=>(by cases hq)⟩,hz,trivial,⟨fun _ _=>rfl,fun _ _ _ h=>(by cases h)⟩,hown,fun d cs h=>?_,fun d d' cs cs' c hd h1 h2 h3=>hk.apart d d' cs cs' c hd (hbox _ _ h1) (hbox _ _ h2) h3,
  fun d k r c h=>(by have:=hrow d;rw[h] at this;cases this),fun t d k r h=>(by have:=hrow t;rw[h] at this;cases this),⟨fun t d h=>(by have:=hrow t;rw[h] at this;cases this),fun d k r h=>(by have:=hrow d;rw[h] at this;cases this)⟩,fun _=>undef,
  ⟨fun q id h=>(by cases h),fun id k h=>(by cases h),fun id k b h=>(by cases h),fun id k id' k' b h=>(by cases h),fun q id k d k' r b h=>(by cases h)⟩⟩,h0,hT⟩
 ·rw[zeN]
  split
  ·split
   ·rename_i x hx
    exact(hk.lt t x hx).2
   ·cases e:m.getD t undef with
    | bool x=>exact .bool x
    | _=>intro c hc;cases hc
  ·rename_i hlt
   rw[Array.getD_eq_getD_getElem?,Array.getElem?_eq_none (by omega)]
   intro c hc;cases hc
 ·have hl:=hbox d cs h
  rcases hk.kind d _ hl with ⟨v,e⟩|⟨cs',c,e,h1,h2,h3⟩
  ·cases e
  ·have hsr:=(hk.lt d _ hl).2
   obtain⟨c',a,T,e1,e2,_⟩:=hsr;rw[h1] at e1;cases e1;exact⟨c,h1,h2,h3,(Array.getElem?_eq_some_iff.1 e2).1⟩
theorem zvZ {m:Array Value}{n:Nat}{o:List (Nat×AV)}{b:Nat} (h0:m.getD 0 undef=zbl b) (hn:0<n) (hl:∀t x,o.lookup t=some x→t<n) (hz:o.lookup 0=none):AgO ((0,.und)::o) (zis m n o):=by
 intro i y hy;have hg:=zeN m n o i
 unfold VS.get at hg;simp only at hg;rw[hg];rw[zdn] at hy;split at hy
 ·rename_i e
  subst e;cases hy;rw[if_pos hn,hz];simp only[h0];rfl
 ·have hy':o.lookup i=some y:=by
   clear hg hl hz;induction o with
   | nil=>cases hy
   | cons e o ih =>
    rw[List.lookup_cons];obtain⟨j,z⟩:=e;rw[zdn] at hy;split at hy
    ·rename_i e
     subst e;cases hy;simp
    ·rename_i e
     rw[show(i==j)=false by simpa using fun h:i=j=>e h.symm]
     exact ih hy
  rw[if_pos (hl i y hy'),hy']
theorem zCV {L:Lay}{fn:Func}{σ:List AV}{q q':List AC}{vs:List SV} (h:zr2 L fn (.norm,(σ,q))=some (.tup vs,q')):q=q'∧zff L σ fn.results.toList=some vs:=by
 unfold zr2 at h;simp only[zzOm,Prod.mk.injEq] at h;obtain⟨ws,h1,h2,h3⟩:=h;refine⟨h3,?_⟩
 split at h2
 ·cases h2
 ·cases h2
  exact h1
theorem zm0 {L:Lay}{σ:List AV}:∀{rs:List ResultVar}{vs:List SV},zff L σ rs=some vs→∀(i:Nat) (r:ResultVar) (v:SV),rs[i]?=some r→vs[i]?=some v→ziM L σ r=some v
 | [],vs,h,i,r,v,hr,_=>by simp at hr
 | r0::rs,vs,h,i,r,v,hr,hv=>by
  simp only[zff,zzOb,zzOm] at h;obtain⟨v0,h0,vs',h1,rfl⟩:=h;cases i with
  | zero =>
   simp only[List.getElem?_cons_zero,Option.some.injEq] at hr hv;subst hr;subst hv;exact h0
  | succ i =>
   simp only[List.getElem?_cons_succ] at hr hv;exact zm0 h1 i r v hr hv
theorem zx7 {L:Lay}{σ:List AV}{t ty:Nat}{cs:List AC} (h:ziM L σ (.cell t ty)=some (.agg cs)):σ.getD t .und=.box cs:=by
 simp only[ziM] at h;generalize σ.getD t .und=z at h
 cases z with
 | box cs' =>
  simp only[zzOb] at h;obtain⟨i,_,h⟩:=h;split at h
  ·unfold mkV at h
   split at h
   ·cases h;rfl
   ·split at h <;> cases h
  ·cases h
 | _=>cases h
theorem zDW {L:Lay}{σ:List AV}{t:Nat}{k:Int} (h:ziM L σ (.tmp t)=some (.cell (.int k))):σ.getD t .und=.v (.cell (.int k)):=by
 simp only[ziM] at h;cases hz:σ.getD t .und with
 | v x=>rw[hz] at h;cases h;rfl
 | _ =>
  rw[hz] at h;simp only[zzOm] at h;obtain⟨_,_,h⟩:=h;cases h
theorem InvC.box {st:Stt}{p:Stb}{w:World}{m:Array Value}{σ:List AV}{q:List AC}{Own:Nat→Prop}{b:Nat} (h:InvC st p w m (σ,q) Own b) {d:Nat}{cs:List AC} (hd:σ.getD d .und=.box cs) :
  ∃c a T,m.getD d undef=.pointer (some ⟨c,0,none⟩)∧w.heap[c]?=some (.cells a T (0,0))∧RepL p w a.toList cs∧p c=0∧Own c∧c<w.heap.size∧c≠b:=by
 obtain⟨c,e,h1,h2,h3⟩:=h.1.box d cs hd;have hs:=(h.1.slots d).1
 rw[show VS.get {σ:=σ,pe:=[]} d=.box cs from hd] at hs;obtain⟨c',a,T,e1,e2,e3⟩:=hs;rw[e] at e1;cases e1;exact⟨c,a,T,e,e2,e3,h1,h2,h3,fun hcb=>h.2.2.not (hcb▸h2)⟩
theorem InvC.int {st:Stt}{p:Stb}{w:World}{m:Array Value}{σ:List AV}{q:List AC}{Own:Nat→Prop}{b:Nat} (h:InvC st p w m (σ,q) Own b) {d:Nat}{k:Int} (hd:σ.getD d .und=.v (.cell (.int k))):m.getD d undef=.int .i64 k:=by
 have hs:=(h.1.slots d).1
 rw[show VS.get {σ:=σ,pe:=[]} d=.v (.cell (.int k)) from hd] at hs;have hs':Rep p w (m.getD d undef) (.int k):=hs
 generalize m.getD d undef=v at hs'
 cases hs';rfl
theorem InvC.bool {st:Stt}{p:Stb}{w:World}{m:Array Value}{σ:List AV}{q:List AC}{Own:Nat→Prop}{b:Nat} (h:InvC st p w m (σ,q) Own b) {d:Nat}{k:Bool} (hd:σ.getD d .und=.v (.cell (.bool k))):m.getD d undef=.bool k:=by
 have hs:=(h.1.slots d).1
 rw[show VS.get {σ:=σ,pe:=[]} d=.v (.cell (.bool k)) from hd] at hs;have hs':Rep p w (m.getD d undef) (.bool k):=hs
 generalize m.getD d undef=v at hs'
 cases hs';rfl
end
section
open Go Go.RowKit
def zgO:Nat→Code→Code
 | n+1,.seq _ b=>zgO n b
 | _,c=>c
theorem zEn {Y:CtxT}{S:Sig} (hP:Y.X.P.follows .mixedOrders=true) (hL:LayOk Y.X.P Y.X.L) (hC:zbg Y.X.P S (V Y.X.P Y.X.L Y.X.F Y.X.E)) (hA:zA8 Y.X.P Y.X.L S Y.T Y.E) {c:Code}{n:Nat}{o:Ov}{q:List AC}{r:AV×List AC}
  (he:evT Y n (.run c) [] o q=some r) {σ:List AV} (hl:σ.length=Y.X.fn.ntmps) (hag:AgO o σ) {st:Stt}{O:Out} (ht:zct (zbJ Y.T) Y.X.L S c st=some O)
  {p0 p:Stb}{w0 w:World}{a:Act}{b:Nat} (hI:InvC st p w a.tmps (σ,q) (fun x=>w0.heap.size≤x) b) (hd:a.defers=[]) (hev:Evo (·=b) p0 w0 p w) :
  c.wp Y.X.P (bodyPost Y.X.P Y.X.fn fun e w'=>∃v,e=.returned v∧∃p',SR p' w' v r.1∧(∀cs,r.1≠.box cs)∧r.1≠.und∧Evo (·=b) p0 w0 p' w'∧Zp p' w'∧TK p' w' (fun _=>False) b r.2) a w:=by
 have h1:=zc2 n _ _ _ _ _ he σ hl hag
 simp only[zzOb] at h1;obtain⟨⟨e,σ',q'⟩,h1,h2⟩:=h1;unfold CtxT.vc at h1;obtain⟨m,h1⟩:=TVC_iff.1 h1;refine zsP hP hL hC (zq9 hP hL hC hA m) m c (σ,q) e (σ',q') st O h1 ht p w a hI hd _ fun st' a' w' p' hat hIC hev' hd'=>?_
 obtain⟨hI',_,hTK'⟩:=hIC;have h2:zr2 Y.X.L Y.X.fn (e,(σ',q'))=some r:=h2
 have hfin:(∀i,e≠.exit i)→a'.defers=[]∧∃v,(results Y.X.fn a'.tmps).run Y.X.P w'=.ok v w'∧∃v',Ending.returned v=.returned v'∧∃p',SR p' w' v' r.1∧(∀cs,r.1≠.box cs)∧r.1≠.und∧Evo (·=b) p0 w0 p' w'∧Zp p' w'∧TK p' w' (fun _=>False) b r.2:=by
  intro hne;have hres':∃vs,zff Y.X.L σ' Y.X.fn.results.toList=some vs∧r=((match vs with|[v]=>.v v|vs=>.tup vs),q'):=by
   cases e with
   | exit i=>exact absurd rfl (hne i)
   | norm =>
    simp only[zr2,zzOm] at h2;obtain⟨vs,h1,h2⟩:=h2;exact⟨vs,h1,h2.symm⟩
   | ret =>
    simp only[zr2,zzOm] at h2;obtain⟨vs,h1,h2⟩:=h2;exact⟨vs,h1,h2.symm⟩
  obtain⟨vs,hvs,rfl⟩:=hres';obtain⟨us,hu1,hu2,hu3⟩:=zmI (P:=Y.X.P) hL hI' Y.X.fn.results.toList vs hvs;have hul:=hu2.length
  have hrunres:(results Y.X.fn a'.tmps).run Y.X.P w'=.ok (zf7 us) w':=by
   have hr:results Y.X.fn a'.tmps=(Y.X.fn.results.mapM (zpg a'.tmps) >>= fun vs=>pure (if h:vs.size=1 then vs[0] else .tuple vs)):=by
    unfold results
    congr 2
   have hmap:(Y.X.fn.results.mapM (zpg a'.tmps)).run Y.X.P w'=.ok us.toArray w':=by
    rw[Array.mapM_eq_mapM_toList,map_eq_pure_bind];simp only[Sem.run_bind,hu1,Result.andThen,Sem.run_pure]
   rw[hr];simp only[Sem.run_bind,hmap,Result.andThen,Sem.run_pure]
   congr 1
   match us with
   | []=>rfl
   | [u]=>rfl
   | _::_::_=>simp[zf7]
  have hnt:¬∃n,zdJ a'.tmps {σ:=σ',pe:=[]} b n:=fun⟨n,hn⟩=>hTK'.not (zg6 hI' hn).2.1
  have hevr:=EvoC.trans hev' ((zcd hI').weaken (C:=fun c=>w0.heap.size≤c∨c=b) (fun c hc ⟨n,hn⟩=>.inl (zg6 hI' hn).2.1))
  refine⟨hd',_,hrunres,_,rfl,zdV p' a'.tmps {σ:=σ',pe:=[]},?_,?_,?_,hev.trans hevr (fun _ _ e=>e) (fun c hc e=>?_),zkS hI',?_⟩
  ·match us,vs,hul,hu2 with
   | [],[],_,_=>exact⟨_,rfl,trivial⟩
   | [u],[v],_,hu2=>exact hu2.1
   | u::u'::us,v::v'::vs,_,hu2=>exact⟨_,rfl,by simpa using hu2⟩
  ·intro cs h
   simp only at h;split at h <;> cases h
  ·intro h
   simp only at h;split at h <;> cases h
  ·rcases e with e|e
   ·exact absurd hc (by omega)
   ·exact e
  ·exact(((hTK'.own (Own':=fun c=>∃n,zdJ a'.tmps {σ:=σ',pe:=[]} c n) hnt).evo (zcd hI')).own (fun h=>h))
 cases e with
 | exit i=>cases h2
 | norm=>exact hfin (fun i h=>by cases h)
 | ret=>exact hfin (fun i h=>by cases h)
end
set_option maxRecDepth 100000
section
open Go
noncomputable def zzH:CtxT:={X:={P:=Tryz.prog,L:=lay,F:=sig.has,E:=ext,fn:=Tryz.f80,lv:=[],jv:=[],tp:=[]},T:=tt,E:=zgA}
theorem zrn {n1:Int}{n2:Int}{l3:List (List AC)}{n4:Int}{n5:Int}{l6:List (List AC)}{q:List AC}{r:AV×List AC} (h:( zd4 (zah q [.cell (.int 5)]) false [(false,[.int 0])] fun q8 n7=>bif (n7==0) then zd4 (zah q8 [.cell (.int 15)]) false [(false,[.int 0])] fun q10 n9=>zaM (zai [.cell (.int n9),.cell (.int n2),.cell (.sl 3 l3)]) false [(true,[.int 0,.int 0,.sl 3 []])] fun n11 n12 l13=>some (.v (.agg [.int n11,.int n12,.sl 3 l13]),q10) else bif (n7==1) then zd4 (zbb q8 [.cell (.sl 1 [[.int 1],[.int (-1)],[.int 1000],[.int 2]])]) false [(false,[.int 0])] fun q15 n14=>zaM (zai [.cell (.int n1),.cell (.int (zad (n2+n14))),.cell (.sl 3 l3)]) false [(true,[.int 0,.int 0,.sl 3 []])] fun n16 n17 l18=>some (.v (.agg [.int n16,.int n17,.sl 3 l18]),q15) else bif (n7==2) then zaM (zgt [.cell (.sl 3 l3)]) false [(false,[.sl 3 []])] fun l19=>zaM (zbG [.cell (.int 1)]) false [(true,[.int 0,.int 0,.sl 3 []])] fun n20 n21 l22=>zcB l19 [[.int n20,.int n21,.sl 3 l22]] fun l23=>zaM (zai [.cell (.int n1),.cell (.int n2),.cell (.sl 3 l23)]) false [(true,[.int 0,.int 0,.sl 3 []])] fun n24 n25 l26=>some (.v (.agg [.int n24,.int n25,.sl 3 l26]),q8) else bif (n7==3) then zd4 (zbb q8 [.cell (.sl 1 [[.int 0],[.int 1],[.int 2],[.int 5],[.int 100],[.int (-1)]])]) false [(false,[.int 0])] fun q28 n27=>zaM (zap [.cell (.int n27)]) false [(true,[.int 0,.int 0,.sl 3 []])] fun n29 n30 l31=>some (.v (.agg [.int n29,.int n30,.sl 3 l31]),q28) else zd4 (zbb q8 [.cell (.sl 1 [[.int 0],[.int 1000],[.int (-1000)],[.int 5]])]) false [(false,[.int 0])] fun q33 n32=>zaM (zbG [.cell (.int n32)]) false [(true,[.int 0,.int 0,.sl 3 []])] fun n34 n35 l36=>some (.v (.agg [.int n34,.int n35,.sl 3 l36]),q33):Option (AV×List AC))=some r):evT zzH 100000 (.run (zgO 2 (cOf Tryz.f80))) [] [(0,.und),(3,.box [.int n1,.int n2,.sl 3 l3]),(4,.box [.int n4,.int n5,.sl 3 l6])] q=some r:=Eq.trans (by kernel_rfl) h
theorem zFF:(zct (zbJ tt) lay sig (zgO 2 (cOf Tryz.f80)) ⟨[],[],[],85,[],[]⟩).isSome=true:=by kernel_rfl
end
section
open Go
theorem zss {o n:Int}{kids:List (List AC)} (hk:zcR kids) (hs:kids.length+rsS kids≤100000):zhv [.agg [.int o,.int n,.sl 3 kids]]=some (.v (.agg [.int o,.int n,.sl 3 kids])) :=
 zkW (zay (zp6 100000 (Nat.le_refl _) kids hk hs) rfl)
theorem zzx (z:Int):inI (zad z):=by
 unfold inI zad;rw[IntKind.wrap_i64];omega
section
variable {ns:List Nat} (hns:ns.length≤2000)
include hns
theorem zxw {o n:Int}{kids:List (List AC)}{n4 n5:Int}{l6:List (List AC)} (hf:Fit .expr [.int o,.int n,.sl 3 kids]) {M:Nat} (hs:1+kids.length+rsS kids≤M) (hM:M≤100000) {p:Nat} (hp:p+10≤800000) :
  EG ns p 2 (M+1) (evT zzH 100000 (.run (zgO 2 (cOf Tryz.f80))) [] [(0,.und),(3,.box [.int o,.int n,.sl 3 kids]),(4,.box [.int n4,.int n5,.sl 3 l6])] (Qr ns p)):=by
 have hf':=hf
 cases hf with
 | expr _ _ _ ho hn hl hk =>
 obtain⟨x,hx,h1⟩:=zbM hns (p:=p) (by omega) (m:=5) (by omega)
 rcases(by omega:x=0∨x=1∨x=2∨x=3∨x=4) with rfl|rfl|rfl|rfl|rfl
 ·obtain⟨y,hy,h2⟩:=zbM hns (p:=p+1) (by omega) (m:=15) (by omega)
  exact⟨_,_,_,_,zrn (zal h1 (zab rfl (zal h2 (zaf (zaz _ _ _) rfl)))),by omega,.expr _ _ _ (by unfold inI;omega) hn hl hk,by omega⟩
 ·obtain⟨y,hy,h2⟩:=zlY hns (p:=p+1) (by omega) (xs:=[1,-1,1000,2]) (by simp) (by simp)
  exact⟨_,_,_,_,zrn (zal h1 (zaa rfl (zab rfl (zal h2 (zaf (zaz _ _ _) rfl))))),by omega,.expr _ _ _ ho (zzx _) hl hk,by omega⟩
 ·have hsz:=ze4 (kids:=kids) (o:=0) (n:=1) (l:=[])
  rw[zaR] at hsz;have hlen:(kids++[[AC.int 0,.int 1,.sl 3 []]]).length=kids.length+1:=by simp
  refine⟨_,_,_,_,zrn (zal h1 (zaa rfl (zaa rfl (zab rfl (zay (zp6 100000 (Nat.le_refl _) kids hk (by omega)) (zaf (zcL _) (zbu (by simp;omega) (zaf (zaz _ _ _) rfl)))))))),by omega,.expr _ _ _ ho hn (by rw[hlen];unfold zaS;omega) (fun c hc=>?_),by simp only[List.length_nil] at hsz;omega⟩
  rw[List.mem_append,List.mem_singleton] at hc;rcases hc with hc|rfl
  ·exact hk c hc
  ·exact zak (by omega) (by omega) (by simp) (fun c hc=>by cases hc)
 ·obtain⟨y,hy,h2⟩:=zlY hns (p:=p+1) (by omega) (xs:=[0,1,2,5,100,-1]) (by simp) (by simp)
  have hy2:-1≤y∧y≤100:=by
   simp only[List.mem_cons,List.not_mem_nil,or_false] at hy;omega
  exact⟨_,_,_,_,zrn (zal h1 (zaa rfl (zaa rfl (zaa rfl (zab rfl (zal h2 (zaf (zaZ _) rfl))))))),by omega,zch (by omega),by rw[zaR];simp⟩
 ·obtain⟨y,hy,h2⟩:=zlY hns (p:=p+1) (by omega) (xs:=[0,1000,-1000,5]) (by simp) (by simp)
  have hy2:-1000≤y∧y≤1000:=by
   simp only[List.mem_cons,List.not_mem_nil,or_false] at hy;omega
  exact⟨_,_,_,_,zrn (zal h1 (zaa rfl (zaa rfl (zaa rfl (zaa rfl (zal h2 (zaf (zcL _) rfl))))))),by omega,zak (by omega) (by omega) (by simp) (fun c hc=>by cases hc),by rw[zaR];simp⟩
end
end
end Go.Proofs.YtkgbadeobdbinaaGreat
