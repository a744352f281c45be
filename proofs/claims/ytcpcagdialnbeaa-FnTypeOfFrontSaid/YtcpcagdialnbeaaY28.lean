/- Generic texts and models for the proofs of this seat: part 28. -/
import Derived.Test.YtcpcagdialnbeaaY27
set_option linter.unusedVariables false
set_option linter.unusedSimpArgs false
set_option linter.unusedSectionVars false
namespace Go.Proofs.Ytcpcagdialnbeaa
section
open Go
section
variable {ns:List Nat} (hns:ns.length≤2000) {D:List DM} (hD:D∈zb9) {R:List PM} (hR:GR R)
include hns hD hR
set_option maxRecDepth 8000 in
set_option maxHeartbeats 1600000 in
theorem zpi {f:Nat} (hf:f<R.length) {at_:Nat} (hat:at_<(gP R f).ps.length) {c1 c2:Int}{c3:List (List AC)}{acc:List (List AC)} (ha:zcA acc) (hl:acc.length≤3) (hs:rsS acc≤6) {p:Nat} (hp:p+3000≤800000) :
  EG ns p 1400 700 (zbr (f:Int) (at_:Int) (zah D) (zaC R) c1 c2 c3 (zab (gP R f).ps) (((gP R f).ps.length:Nat):Int) (zab ((gP R f).ps++[0,1])) acc (((gP R f).ps.length:Nat):Int) (Qr ns p)):=by
 obtain⟨s1,s2,s3⟩:=hR.small hf;have h4:=hR.len
 have hnil:=zaG
 have hc4:=(zi8 4).2.1 (by omega)
 have hm4:=(zjb 4).2.1 (by omega)
 have hend:decide ((((gP R f).ps.length:Nat):Int)<(((gP R f).ps.length:Nat):Int))=false:=decide_eq_false (by omega)
 have hA:Fit .expr [.int 9,.int (f:Int),.sl 3 acc]:=zak (by omega) (by omega) (by omega) ha
 have hV:((gP R f).ps++[0,1]).length≤5:=by rw[List.length_append];simp;omega
 by_cases hr:(gP R f).r=1
 ·obtain⟨x,hx,h1⟩:=zbq hns (p:=p) (by omega) (m:=5) (by omega)
  by_cases hx0:0<x
  ·obtain⟨o,n,l,p1,g1,g2,g3,g4⟩:=zg3 hns hD hR 4 (by omega) ((gP R f).ps++[0,1]) 0 (p+1) (by omega) (by omega) (by omega)
   obtain⟨o2,n2,l2,p2,k1,k2,k3,k4⟩:=zg3 hns hD hR 4 (by omega) (gP R f).ps (gP R f).r p1 (by omega) (by omega) (by omega)
   have hcon:Fit .expr [.int 6,.int 1,.sl 3 [[.int o,.int n,.sl 3 l],[.int 9,.int (f:Int),.sl 3 acc]]]:=zak (by omega) (by omega) (by simp) (zm6 g3 hA)
   by_cases h1n:1<(gP R f).ps.length
   ·have hz:0<(gP R f).ps.length:=by omega
    by_cases h2:(gP R f).ps[0]=2
    ·have happ:Fit .expr [.int 11,.int 0,.sl 3 [[.int 12,.int 0,.sl 3 []],[.int 12,.int (((gP R f).ps.length:Nat):Int),.sl 3 []]]]:=zak (by omega) (by omega) (by simp) (zm6 (zbZ (by omega)) (zbZ (by omega)))
     have hcon2:Fit .expr [.int 6,.int 1,.sl 3 [[.int 11,.int 0,.sl 3 [[.int 12,.int 0,.sl 3 []],[.int 12,.int (((gP R f).ps.length:Nat):Int),.sl 3 []]]],[.int 9,.int (f:Int),.sl 3 acc]]]:=zak (by omega) (by omega) (by simp) (zm6 happ hA)
     refine⟨8,1,_,p2,za3 (zaa hend (zae (zaw _ _ _) (za7 rfl hf (zad (by rw[beq_iff_eq];exact hr) (zam h1 (zad (decide_eq_true (by omega)) (zaF g1 (zad (decide_eq_true (by omega)) (zbo (k:=0) hz (zad (by rw[beq_iff_eq];exact h2) (zae (zaP _) (zae (zaP _) (zae (zaw _ _ _) (zae (zaw _ _ _) (zae (zaP _) (za7 rfl hf (zaF k1 (zae (zaw _ _ _) rfl)))))))))))))))))),by omega,zak (by omega) (by omega) (by simp) (zmX (zbZ (by omega)) k3 hcon2),?_⟩
     rw[rs3,rs2,rs2];simp
     omega
    ·refine⟨8,1,_,p2,za3 (zaa hend (zae (zaw _ _ _) (za7 rfl hf (zad (by rw[beq_iff_eq];exact hr) (zam h1 (zad (decide_eq_true (by omega)) (zaF g1 (zad (decide_eq_true (by omega)) (zbo (k:=0) hz (zaa (by rw[beq_eq_false_iff_ne];exact h2) (zae (zaw _ _ _) (zae (zaP _) (za7 rfl hf (zaF k1 (zae (zaw _ _ _) rfl))))))))))))))),by omega,zak (by omega) (by omega) (by simp) (zmX (zbZ (by omega)) k3 hcon),?_⟩
     rw[rs3,rs2];simp
     omega
   ·refine⟨8,1,_,p2,za3 (zaa hend (zae (zaw _ _ _) (za7 rfl hf (zad (by rw[beq_iff_eq];exact hr) (zam h1 (zad (decide_eq_true (by omega)) (zaF g1 (zaa (decide_eq_false (by omega)) (zae (zaw _ _ _) (zae (zaP _) (za7 rfl hf (zaF k1 (zae (zaw _ _ _) rfl))))))))))))),by omega,zak (by omega) (by omega) (by simp) (zmX (zbZ (by omega)) k3 hcon),?_⟩
    rw[rs3,rs2];simp
    omega
  ·obtain⟨o2,n2,l2,p2,k1,k2,k3,k4⟩:=zg3 hns hD hR 4 (by omega) (gP R f).ps (gP R f).r (p+1) (by omega) (by omega) (by omega)
   refine⟨8,1,_,p2,za3 (zaa hend (zae (zaw _ _ _) (za7 rfl hf (zad (by rw[beq_iff_eq];exact hr) (zam h1 (zaa (decide_eq_false (by omega)) (za7 rfl hf (zaa (by rw[beq_eq_false_iff_ne];omega) (zae (zaP _) (za7 rfl hf (zaF k1 (zae (zaw _ _ _) rfl)))))))))))),by omega,zak (by omega) (by omega) (by simp) (zmX (zbZ (by omega)) k3 hA),?_⟩
   rw[rs3];simp
   omega
 ·by_cases hr0:(gP R f).r=0
  ·obtain⟨op,hop,h1⟩:=zjU hns (p:=p) (by omega) (xs:=[1,2]) (by simp) (by simp)
   have hop2:1≤op∧op≤2:=by
    simp only[List.mem_cons,List.not_mem_nil,or_false] at hop;omega
   obtain⟨o,n,l,p1,g1,g2,g3,g4⟩:=zg3 hns hD hR 4 (by omega) ((gP R f).ps++[0,1]) 0 (p+1) (by omega) (by omega) (by omega)
   obtain⟨o2,n2,l2,p2,k1,k2,k3,k4⟩:=zg3 hns hD hR 4 (by omega) (gP R f).ps (gP R f).r p1 (by omega) (by omega) (by omega)
   have hcon:Fit .expr [.int op,.int 0,.sl 3 [[.int o,.int n,.sl 3 l],[.int 9,.int (f:Int),.sl 3 acc]]]:=zak (by omega) (by omega) (by simp) (zm6 g3 hA)
   refine⟨8,1,_,p2,za3 (zaa hend (zae (zaw _ _ _) (za7 rfl hf (zaa (by rw[beq_eq_false_iff_ne];exact hr) (za7 rfl hf (zad (by rw[beq_iff_eq];exact hr0) (zam h1 (zaF g1 (zae (zaw _ _ _) (zae (zaP _) (za7 rfl hf (zaF k1 (zae (zaw _ _ _) rfl))))))))))))),by omega,zak (by omega) (by omega) (by simp) (zmX (zbZ (by omega)) k3 hcon),?_⟩
   rw[rs3,rs2];simp
   omega
  ·obtain⟨o2,n2,l2,p2,k1,k2,k3,k4⟩:=zg3 hns hD hR 4 (by omega) (gP R f).ps (gP R f).r p (by omega) (by omega) (by omega)
   refine⟨8,1,_,p2,za3 (zaa hend (zae (zaw _ _ _) (za7 rfl hf (zaa (by rw[beq_eq_false_iff_ne];exact hr) (za7 rfl hf (zaa (by rw[beq_eq_false_iff_ne];exact hr0) (zae (zaP _) (za7 rfl hf (zaF k1 (zae (zaw _ _ _) rfl)))))))))),by omega,zak (by omega) (by omega) (by simp) (zmX (zbZ (by omega)) k3 hA),?_⟩
   rw[rs3];simp
   omega
set_option maxRecDepth 8000 in
theorem zqI {f:Nat} (hf:f<R.length) {at_:Nat} (hat:at_<(gP R f).ps.length) {c1 c2:Int}{c3:List (List AC)}:∀m k:Nat,k+m=(gP R f).ps.length→∀(acc:List (List AC)),zcA acc→acc.length=k→rsS acc≤2*k→∀p:Nat,p+m+3000≤800000 →
  EG ns p (m+1400) 700 (zbr (f:Int) (at_:Int) (zah D) (zaC R) c1 c2 c3 (zab (gP R f).ps) (((gP R f).ps.length:Nat):Int) (zab ((gP R f).ps++[0,1])) acc (k:Int) (Qr ns p)):=by
 obtain⟨s1,s2,s3⟩:=hR.small hf;have hnil:=zaG
 intro m;induction m with
 | zero =>
  intro k hk acc ha hl hs p hp;obtain rfl:k=(gP R f).ps.length:=by omega
  exact(zpi hns hD hR hf hat ha (by omega) (by omega) (by omega)).le (by omega) (by omega)
 | succ m ih =>
  intro k hk acc ha hl hs p hp;have hlt:k<(gP R f).ps.length:=by omega
  have hgo:decide ((k:Int)<(((gP R f).ps.length:Nat):Int))=true:=decide_eq_true (by omega)
  have hstep:∀(o n:Int) (l:List (List AC)),Fit .expr [.int o,.int n,.sl 3 l]→l.length+rsS l≤2→∀p':Nat,p'≤p+1→EG ns p (m+1+1400) 700 (zbr (f:Int) (at_:Int) (zah D) (zaC R) c1 c2 c3 (zab (gP R f).ps) (((gP R f).ps.length:Nat):Int) (zab ((gP R f).ps++[0,1])) (acc++[[.int o,.int n,.sl 3 l]]) (zaf ((k:Int)+1)) (Qr ns p')):=fun o n l hfl hsl p' hp'=>by
   have hsz:=zec (kids:=acc) (o:=o) (n:=n) (l:=l)
   have hlen:(acc++[[AC.int o,.int n,.sl 3 l]]).length=k+1:=by simp;omega
   have hnx:=ih (k+1) (by omega) (acc++[[.int o,.int n,.sl 3 l]]) (ze3 ha hfl) hlen (by omega) p' (by omega)
   rw[←wrk (by unfold za9;omega)] at hnx
   exact EG.same hnx (by omega) (by omega) fun o n kids q h=>h
  by_cases hka:k=at_
  ·have hw:zaf ((((gP R f).ps.length:Nat):Int)+1)=(((gP R f).ps.length+1:Nat):Int):=by rw[wr (by omega) (by omega)];omega
   refine EG.same (hstep 12 (((gP R f).ps.length+1:Nat):Int) [] (zbZ (by omega)) (by simp[zaG]) p (by omega)) (by omega) (by omega) fun o n kids q h=>za3 (zad hgo (zad (by rw[beq_iff_eq];omega) ?_))
   rw[hw];exact zae (zaP _) (zcL (by simp;omega) h)
  ·have hne:(((k:Nat):Int)==((at_:Nat):Int))=false:=by rw[beq_eq_false_iff_ne];omega
   by_cases h0:(gP R f).ps[k]=0
   ·obtain⟨x,hx,h1⟩:=zbq hns (p:=p) (by omega) (m:=2) (by omega)
    by_cases hx0:x=0
    ·subst hx0
     have hadd:Fit .expr [.int 1,.int 0,.sl 3 [[.int 12,.int (k:Int),.sl 3 []],[.int 12,.int (((gP R f).ps.length:Nat):Int),.sl 3 []]]]:=zak (by omega) (by omega) (by simp) (zm6 (zbZ (by omega)) (zbZ (by omega)))
     exact EG.same (hstep 1 0 _ hadd (by rw[rs2];simp[zaG]) (p+1) (by omega)) (by omega) (by omega) fun o n kids q h=>za3 (zad hgo (zaa hne (zbo hlt (zad (by rw[beq_iff_eq];exact h0) (zam h1 (zad rfl (zae (zaP _) (zae (zaP _) (zae (zaw _ _ _) (zcL (by simp;omega) h))))))))))
    ·exact EG.same (hstep 12 (k:Int) [] (zbZ (by omega)) (by simp[zaG]) (p+1) (by omega)) (by omega) (by omega) fun o n kids q h=>za3 (zad hgo (zaa hne (zbo hlt (zad (by rw[beq_iff_eq];exact h0) (zam h1 (zaa (by rw[beq_eq_false_iff_ne];omega) (zae (zaP _) (zcL (by simp;omega) h))))))))
   ·exact EG.same (hstep 12 (k:Int) [] (zbZ (by omega)) (by simp[zaG]) p (by omega)) (by omega) (by omega) fun o n kids q h=>za3 (zad hgo (zaa hne (zbo hlt (zaa (by rw[beq_eq_false_iff_ne];exact h0) (zae (zaP _) (zcL (by simp;omega) h))))))
set_option maxRecDepth 8000 in
theorem zug {f:Nat} (hf:f<R.length) {at_:Nat} (hat:at_<(gP R f).ps.length) {p:Nat} (hp:p+4000≤800000):EG ns p 1500 700 (ziZ (Qr ns p) [pgC D R,.cell (.int (f:Int)),.cell (.int (at_:Int))]):=by
 obtain⟨s1,s2,s3⟩:=hR.small hf;have h:=zqI hns hD hR hf hat (c1:=0) (c2:=0) (c3:=[]) (gP R f).ps.length 0 (by omega) [] (fun b hb=>by cases hb) rfl (by simp[zaG]) p (by omega)
 refine EG.same h (by omega) (by omega) fun o n kids q h=>zm8 (za7 rfl hf ?_)
 rw[zac];exact zaO (zqC (gP R f).ps [0,1] (by simp;omega)) h
theorem zw1 (xs:List Int) (n:Int) (hx:xs.length≤1048576):∃r:Int,zjw [.cell (.sl 1 (zab xs)),.cell (.int n)]=rI r∧(r=-1∨∃k:Nat,k<xs.length∧r=(k:Int)):=by
 have key:∀m k:Nat,k+m=xs.length→∃r:Int,zeT (zab xs) n (k:Int)=rI r∧(r=-1∨∃k:Nat,k<xs.length∧r=(k:Int)):=by
  intro m;induction m with
  | zero=>intro k hk;exact⟨-1,zeW (zaa (decide_eq_false (by rw[zac];omega)) rfl),.inl rfl⟩
  | succ m ih =>
   intro k hk;have hlt:k<xs.length:=by omega
   rcases e:(xs[k]==n) with _|_
   ·obtain⟨r,h1,h2⟩:=ih (k+1) (by omega)
    rw[←wrk (by unfold za9;omega)] at h1
    exact⟨r,zeW (zad (decide_eq_true (by rw[zac];omega)) (zbo hlt (zaa e h1))),h2⟩
   ·exact⟨(k:Int),zeW (zad (decide_eq_true (by rw[zac];omega)) (zbo hlt (zad e rfl))),.inr ⟨k,hlt,rfl⟩⟩
 obtain⟨r,h1,h2⟩:=key xs.length 0 (by omega)
 exact⟨r,zoI h1,h2⟩
set_option maxRecDepth 8000 in
theorem ztv {f:Nat} (hf:f<R.length) {c1 c2:Int}{c3 l25:List (List AC)}{p p0:Nat}{C:Nat}{x:Option (AV×List AC)} (h:EG ns p C 900 x) (hp:p+C+10000≤800000) {X:Option (AV×List AC)}
  (hX:∀o n l q r,x=some (.v (.agg [.int o,.int n,.sl 3 l]),q)→zcd (zah D) (zaC R) c1 c2 l25 (zab (gP R f).ps) (gP R f).r o n l q=some r→X=some r):EG ns p (C+6100) 900 X:=by
 obtain⟨s1,s2,s3⟩:=hR.small hf;obtain⟨o,n,l,p1,h1,h2,h3,h4⟩:=h;have hn:=zm7 h3
 by_cases h0:zjl [.int o,.int n,.sl 3 l]<0
 ·obtain⟨o2,n2,l2,p2,g1,g2,g3,g4⟩:=znz hns hD hR (V:=(gP R f).ps) (by omega) (t:=(gP R f).r) (by omega) (b:=12) (by omega) (p:=p1) (by omega)
  have e1:p2≤p+(C+6100):=Nat.le_trans g2 (Nat.le_trans (Nat.add_le_add_right h2 6100) (Nat.le_of_eq (Nat.add_assoc p C 6100)))
  exact⟨o2,n2,l2,p2,hX o n l _ _ h1 (zhC (zal hn (zad (decide_eq_true h0) (zaF g1 rfl)))),e1,g3,by clear hX h1 g1 hn hp;omega⟩
 ·exact⟨o,n,l,p1,hX o n l _ _ h1 (zhC (zal hn (zaa (decide_eq_false h0) rfl))),by omega,h3,h4⟩
set_option maxRecDepth 8000 in
set_option maxHeartbeats 1600000 in
theorem zwU {f:Nat} (hf:f<R.length) {p:Nat} (hp:p+30000≤800000):EG ns p 13000 900 (znS (Qr ns p) [pgC D R,.cell (.int (f:Int))]):=by
 obtain⟨s1,s2,s3⟩:=hR.small hf;obtain⟨a,ha,ha2⟩:=zw1 hns hD hR (gP R f).ps 1 (by omega)
 obtain⟨x,hx,h1⟩:=zbq hns (p:=p) (by omega) (m:=4) (by omega)
 -- the last choice
 have J13:∀(b:Bool) (e1 e2:Int) (e3:List (List AC)),(b=true→0<(gP R f).ps.length)→EG ns (p+1) 12200 900 (zcg (f:Int) (zah D) (zaC R) 0 0 [] (zab (gP R f).ps) (gP R f).r e1 e2 e3 b (Qr ns (p+1))):=fun b e1 e2 e3 hb=>by
  cases b with
  | true=>exact(ztv hns hD hR hf (c1:=0) (c2:=0) (c3:=[]) (l25:=[]) (p0:=0) ((zuC hns hD hR hf (hb rfl) (p:=p+1) (by omega)).le (C':=6100) (M':=900) (by omega) (by omega)) (by omega) fun o n l q r h hJ=>zil (zad rfl (zaF h hJ))).le (by omega) (by omega)
  | false=>exact(ztv hns hD hR hf (c1:=0) (c2:=0) (c3:=[]) (l25:=[]) (p0:=0) ((znz hns hD hR (V:=(gP R f).ps) (by omega) (t:=(gP R f).r) (by omega) (b:=18) (by omega) (p:=p+1) (by omega)).le (C':=6100) (M':=900) (by omega) (by omega)) (by omega) fun o n l q r h hJ=>zil (zaa rfl (zaF h hJ))).le (by omega) (by omega)
 have same:∀{X Y:Option (AV×List AC)},EG ns (p+1) 12200 900 Y→(∀r,Y=some r→X=some r)→EG ns (p+1) 12200 900 X:=fun h hXY=>by
  obtain⟨o,n,l,p1,h1,h2,h3,h4⟩:=h;exact⟨o,n,l,p1,hXY _ h1,h2,h3,h4⟩
 have J11:∀(b:Bool) (e1 e2:Int) (e3:List (List AC)),(b=true→0<(gP R f).ps.length)→EG ns (p+1) 12200 900 (zce (f:Int) (zah D) (zaC R) 0 0 [] (zab (gP R f).ps) (gP R f).r e1 e2 e3 (x:Int) b (Qr ns (p+1))):=fun b e1 e2 e3 hb=>by
  cases b with
  | true=>exact(ztv hns hD hR hf (c1:=0) (c2:=0) (c3:=[]) (l25:=[]) (p0:=0) ((zud hns hD hR hf (hb rfl) (p:=p+1) (by omega)).le (C':=6100) (M':=900) (by omega) (by omega)) (by omega) fun o n l q r h hJ=>zbT (zad rfl (zaF h hJ))).le (by omega) (by omega)
  | false =>
   by_cases hx3:x<3
   ·have hx3':decide (((x:Nat):Int)<3)=true:=decide_eq_true (by omega)
    by_cases hz:0<(gP R f).ps.length
    ·have hz':decide (((((zab (gP R f).ps).length:Nat):Int))>0)=true:=decide_eq_true (by rw[zac];omega)
     by_cases h0:(gP R f).ps[0]=0
     ·by_cases hr0:(gP R f).r=0
      ·exact same (J13 true e1 e2 e3 (fun _=>hz)) fun r h=>zbT (zaa rfl (zad hx3' (zad hz' (zbo (k:=0) hz (zad (by rw[beq_iff_eq];exact h0) (zad (by rw[beq_iff_eq];exact hr0) h))))))
      ·exact same (J13 _ e1 e2 e3 (fun _=>hz)) fun r h=>zbT (zaa rfl (zad hx3' (zad hz' (zbo (k:=0) hz (zad (by rw[beq_iff_eq];exact h0) (zaa (by rw[beq_eq_false_iff_ne];exact hr0) h))))))
     ·exact same (J13 false e1 e2 e3 (fun h=>by cases h)) fun r h=>zbT (zaa rfl (zad hx3' (zad hz' (zbo (k:=0) hz (zaa (by rw[beq_eq_false_iff_ne];exact h0) h)))))
    ·exact same (J13 false e1 e2 e3 (fun h=>by cases h)) fun r h=>zbT (zaa rfl (zad hx3' (zaa (decide_eq_false (by rw[zac];omega)) h)))
   ·exact same (J13 false e1 e2 e3 (fun h=>by cases h)) fun r h=>zbT (zaa rfl (zaa (decide_eq_false (by omega)) h))
 have J9:∀(b:Bool) (e1 e2:Int) (e3:List (List AC)),(b=true→0≤a)→EG ns (p+1) 12200 900 (zdi (f:Int) (zah D) (zaC R) 0 0 [] (zab (gP R f).ps) (gP R f).r a e1 e2 e3 (x:Int) b (Qr ns (p+1))):=fun b e1 e2 e3 hb=>by
  cases b with
  | true =>
   obtain⟨k,hk,hak⟩:∃k:Nat,k<(gP R f).ps.length∧a=(k:Int):=by
    rcases ha2 with h|h
    ·have:=hb rfl;omega
    ·exact h
   subst hak;exact(ztv hns hD hR hf (c1:=0) (c2:=0) (c3:=[]) (l25:=[]) (p0:=0) ((zug hns hD hR hf hk (p:=p+1) (by omega)).le (C':=6100) (M':=900) (by omega) (by omega)) (by omega) fun o n l q r h hJ=>zb8 (zad rfl (zaF h hJ))).le (by omega) (by omega)
  | false =>
   by_cases hx3:x<3
   ·have hx3':decide (((x:Nat):Int)<3)=true:=decide_eq_true (by omega)
    by_cases hz:0<(gP R f).ps.length
    ·have hz':decide (((((zab (gP R f).ps).length:Nat):Int))>0)=true:=decide_eq_true (by rw[zac];omega)
     by_cases h0:(gP R f).ps[0]=3
     ·by_cases hr0:(gP R f).r=0
      ·exact same (J11 true e1 e2 e3 (fun _=>hz)) fun r h=>zb8 (zaa rfl (zad hx3' (zad hz' (zbo (k:=0) hz (zad (by rw[beq_iff_eq];exact h0) (zad (by rw[beq_iff_eq];exact hr0) h))))))
      ·exact same (J11 _ e1 e2 e3 (fun _=>hz)) fun r h=>zb8 (zaa rfl (zad hx3' (zad hz' (zbo (k:=0) hz (zad (by rw[beq_iff_eq];exact h0) (zaa (by rw[beq_eq_false_iff_ne];exact hr0) h))))))
     ·exact same (J11 false e1 e2 e3 (fun h=>by cases h)) fun r h=>zb8 (zaa rfl (zad hx3' (zad hz' (zbo (k:=0) hz (zaa (by rw[beq_eq_false_iff_ne];exact h0) h)))))
    ·exact same (J11 false e1 e2 e3 (fun h=>by cases h)) fun r h=>zb8 (zaa rfl (zad hx3' (zaa (decide_eq_false (by rw[zac];omega)) h)))
   ·exact same (J11 false e1 e2 e3 (fun h=>by cases h)) fun r h=>zb8 (zaa rfl (zaa (decide_eq_false (by omega)) h))
 have J7:∀(b:Bool) (e1 e2:Int) (e3:List (List AC)),EG ns (p+1) 12200 900 (zfw (f:Int) (zah D) (zaC R) 0 0 [] (zab (gP R f).ps) (gP R f).r a e1 e2 e3 (x:Int) b (Qr ns (p+1))):=fun b e1 e2 e3=>by
  cases b with
  | true=>exact(ztv hns hD hR hf (c1:=0) (c2:=0) (c3:=[]) (l25:=[]) (p0:=0) ((zun hns hD hR (p:=p+1) (by omega)).le (C':=6100) (M':=900) (by omega) (by omega)) (by omega) fun o n l q r h hJ=>zcY (zad rfl (zaF h hJ))).le (by omega) (by omega)
  | false =>
   by_cases hx3:x<3
   ·have hx3':decide (((x:Nat):Int)<3)=true:=decide_eq_true (by omega)
    by_cases ha0:0≤a
    ·by_cases hr0:(gP R f).r=0
     ·exact same (J9 true e1 e2 e3 (fun _=>ha0)) fun r h=>zcY (zaa rfl (zad hx3' (zad (decide_eq_true ha0) (zad (by rw[beq_iff_eq];exact hr0) h))))
     ·exact same (J9 _ e1 e2 e3 (fun _=>ha0)) fun r h=>zcY (zaa rfl (zad hx3' (zad (decide_eq_true ha0) (zaa (by rw[beq_eq_false_iff_ne];exact hr0) h))))
    ·exact same (J9 false e1 e2 e3 (fun h=>by cases h)) fun r h=>zcY (zaa rfl (zad hx3' (zaa (decide_eq_false ha0) h)))
   ·exact same (J9 false e1 e2 e3 (fun h=>by cases h)) fun r h=>zcY (zaa rfl (zaa (decide_eq_false (by omega)) h))
 have fin:∀{X Y:Option (AV×List AC)},EG ns (p+1) 12200 900 Y→(∀r,Y=some r→X=some r)→EG ns p 13000 900 X:=fun h hXY=>by
  obtain⟨o,n,l,p1,h1,h2,h3,h4⟩:=h;exact⟨o,n,l,p1,hXY _ h1,by omega,h3,h4⟩
 by_cases hx3:x<3
 ·exact fin (J7 ((f:Int)==0) 0 0 []) fun r h=>zkg (za7 rfl hf (za7 rfl hf (zal ha (zae (zcp _) (zam h1 (zad (decide_eq_true (by omega)) h))))))
 ·exact fin (J7 false 0 0 []) fun r h=>zkg (za7 rfl hf (za7 rfl hf (zal ha (zae (zcp _) (zam h1 (zaa (decide_eq_false (by omega)) h))))))
end
end
section
open Go
theorem znR:∀N:Nat,N≤100000→∀l:List (List AC),zcA l→l.length+rsS l≤N→zfD [.cell (.sl 3 l)]=some (.v (.cell (.sl 3 l))):=by
 intro N;induction N using Nat.strongRecOn with
 | _ N ihN =>
  intro hN l hl hs;have key:∀m k:Nat,k+m=l.length→zdY l (l.take k) (k:Int)=some (.v (.cell (.sl 3 l))):=by
   intro m;induction m with
   | zero =>
    intro k hk;refine zgp (zaa (decide_eq_false (by omega)) ?_)
    rw[List.take_of_length_le (by omega)]
   | succ m ih =>
    intro k hk;have hlt:k<l.length:=by omega
    have hmem:l[k]∈l:=List.getElem_mem hlt
    have hf:=hl _ hmem
    have hle:=zkX hmem
    have hn:=ih (k+1) (by omega)
    rw[List.take_succ_eq_append_getElem hlt] at hn;have hg:l.getD k []=l[k]:=by simp[List.getD,hlt]
    generalize hr:l[k]=row at *
    cases hf with
    | expr o n kids ho hno hkl hk2 =>
     have hc:kids.length+rsS kids<l.length+rsS l:=by
      have:cS [AC.int o,.int n,.sl 3 kids]=kids.length+rsS kids:=by simp[cS,rsS,acS,acS.cS,acS.rsS]
      omega
     refine zgp (zad (decide_eq_true (by omega)) (zcc hlt (by rw[hg]) (zae (zja (zaO (ihN (kids.length+rsS kids) (by omega) (by omega) kids hk2 (Nat.le_refl _)) rfl)) (zcL (by simp;omega) ?_))))
     rw[wrk (by unfold za9;omega)]
     exact hn
  exact zmw (key l.length 0 (by omega))
end
section
open Go Go.RowKit
def zdA:Nat→Code→Code
 | n+1,.seq _ b=>zdA n b
 | _,c=>c
theorem zyu [Home] {Y:CtxT}{S:Sig} (hP:Y.X.P.follows .mixedOrders=true) (hL:LayOk Y.X.P Y.X.L) (hC:za4 Y.X.P S (V Y.X.P Y.X.L Y.X.F Y.X.E)) (hA:zwe Y.X.P Y.X.L S Y.T Y.E) {c:Code}{n:Nat}{o:Ov}{q:List AC}{r:AV×List AC}
  (he:evT Y n (.run c) [] o q=some r) {σ:List AV} (hl:σ.length=Y.X.fn.ntmps) (hag:AgO o σ) {st:Stt}{O:Out} (ht:zb2 (zbu Y.T) Y.X.L S c st=some O)
  {p0 p:Stb}{w0 w:World}{a:Act}{b:Nat} (hI:InvC st p w a.tmps (σ,q) (fun x=>w0.heap.size≤x) b) (hd:a.defers=[]) (hev:Evo (·=b) p0 w0 p w) :
  c.wp Y.X.P (bodyPost Y.X.P Y.X.fn fun e w'=>∃v,e=.returned v∧∃p',SR p' w' v r.1∧(∀cs,r.1≠.box cs)∧r.1≠.und∧Evo (·=b) p0 w0 p' w'∧Zp p' w'∧TK p' w' (fun _=>False) b r.2) a w:=by
 have h1:=zcF n _ _ _ _ _ he σ hl hag
 simp only[zzOb] at h1;obtain⟨⟨e,σ',q'⟩,h1,h2⟩:=h1;unfold CtxT.vc at h1;obtain⟨m,h1⟩:=TVC_iff.1 h1;refine zpk hP hL hC (zoX hP hL hC hA m) m c (σ,q) e (σ',q') st O h1 ht p w a hI hd _ fun st' a' w' p' hat hIC hev' hd'=>?_
 obtain⟨hI',_,hTK'⟩:=hIC;have h2:zo7 Y.X.L Y.X.fn (e,(σ',q'))=some r:=h2
 have hfin:(∀i,e≠.exit i)→a'.defers=[]∧∃v,(results Y.X.fn a'.tmps).run Y.X.P w'=.ok v w'∧∃v',Ending.returned v=.returned v'∧∃p',SR p' w' v' r.1∧(∀cs,r.1≠.box cs)∧r.1≠.und∧Evo (·=b) p0 w0 p' w'∧Zp p' w'∧TK p' w' (fun _=>False) b r.2:=by
  intro hne;have hres':∃vs,zeq Y.X.L σ' Y.X.fn.results.toList=some vs∧r=((match vs with|[v]=>.v v|vs=>.tup vs),q'):=by
   cases e with
   | exit i=>exact absurd rfl (hne i)
   | norm =>
    simp only[zo7,zzOm] at h2;obtain⟨vs,h1,h2⟩:=h2;exact⟨vs,h1,h2.symm⟩
   | ret =>
    simp only[zo7,zzOm] at h2;obtain⟨vs,h1,h2⟩:=h2;exact⟨vs,h1,h2.symm⟩
  obtain⟨vs,hvs,rfl⟩:=hres';obtain⟨us,hu1,hu2,hu3⟩:=zkz (P:=Y.X.P) hL hI' Y.X.fn.results.toList vs hvs;have hul:=hu2.length
  have hrunres:(results Y.X.fn a'.tmps).run Y.X.P w'=.ok (zfo us) w':=by
   have hr:results Y.X.fn a'.tmps=(Y.X.fn.results.mapM (znJ a'.tmps) >>= fun vs=>pure (if h:vs.size=1 then vs[0] else .tuple vs)):=by
    unfold results
    congr 2
   have hmap:(Y.X.fn.results.mapM (znJ a'.tmps)).run Y.X.P w'=.ok us.toArray w':=by
    rw[Array.mapM_eq_mapM_toList,map_eq_pure_bind];simp only[Sem.run_bind,hu1,Result.andThen,Sem.run_pure]
   rw[hr];simp only[Sem.run_bind,hmap,Result.andThen,Sem.run_pure]
   congr 1
   match us with
   | []=>rfl
   | [u]=>rfl
   | _::_::_=>simp[zfo]
  have hnt:¬∃n,zdg a'.tmps {σ:=σ',pe:=[]} b n:=fun⟨n,hn⟩=>hTK'.not (zfY hI' hn).2.1
  have hevr:=EvoC.trans hev' ((zbV hI').weaken (C:=fun c=>w0.heap.size≤c∨c=b) (fun c hc ⟨n,hn⟩=>.inl (zfY hI' hn).2.1))
  refine⟨hd',_,hrunres,_,rfl,zdy p' a'.tmps {σ:=σ',pe:=[]},?_,?_,?_,hev.trans hevr (fun _ _ e=>e) (fun c hc e=>?_),zje hI',?_⟩
  ·match us,vs,hul,hu2 with
   | [],[],_,_=>exact⟨_,rfl,trivial⟩
   | [u],[v],_,hu2=>exact hu2.1
   | u::u'::us,v::v'::vs,_,hu2=>exact⟨_,rfl,by simpa using hu2⟩
  ·intro cs h
   simp only at h;split at h <;> cases h
  ·intro h
   simp only at h;split at h <;> cases h
  ·rcases e with e|e
   ·exact absurd hc (by omega)
   ·exact e
  ·exact(((hTK'.own (Own':=fun c=>∃n,zdg a'.tmps {σ:=σ',pe:=[]} c n) hnt).evo (zbV hI')).own (fun h=>h))
 cases e with
 | exit i=>cases h2
 | norm=>exact hfin (fun i h=>by cases h)
 | ret=>exact hfin (fun i h=>by cases h)
end
set_option maxRecDepth 100000
section
open Go
noncomputable def zw4:CtxT:={X:={P:=Try.prog,L:=lay,F:=sig.has,E:=ext,fn:=Try.f30,lv:=[],jv:=[],tp:=[]},T:=tt,E:=zfg}
theorem zp2 {n1:Int}{n2:Int}{l3:List (List AC)}{n4:Int}{n5:Int}{l6:List (List AC)}{q:List AC}{r:AV×List AC} (h:( zdo (zag q [.cell (.int 5)]) false [(false,[.int 0])] fun q8 n7=>bif (n7==0) then zdo (zag q8 [.cell (.int 15)]) false [(false,[.int 0])] fun q10 n9=>zaz (zai [.cell (.int n9),.cell (.int n2),.cell (.sl 3 l3)]) false [(true,[.int 0,.int 0,.sl 3 []])] fun n11 n12 l13=>some (.v (.agg [.int n11,.int n12,.sl 3 l13]),q10) else bif (n7==1) then zdo (zaY q8 [.cell (.sl 1 [[.int 1],[.int (-1)],[.int 1000],[.int 2]])]) false [(false,[.int 0])] fun q15 n14=>zaz (zai [.cell (.int n1),.cell (.int (zaf (n2+n14))),.cell (.sl 3 l3)]) false [(true,[.int 0,.int 0,.sl 3 []])] fun n16 n17 l18=>some (.v (.agg [.int n16,.int n17,.sl 3 l18]),q15) else bif (n7==2) then zaz (zfD [.cell (.sl 3 l3)]) false [(false,[.sl 3 []])] fun l19=>zaz (zbs [.cell (.int 1)]) false [(true,[.int 0,.int 0,.sl 3 []])] fun n20 n21 l22=>ze8 l19 [[.int n20,.int n21,.sl 3 l22]] fun l23=>zaz (zai [.cell (.int n1),.cell (.int n2),.cell (.sl 3 l23)]) false [(true,[.int 0,.int 0,.sl 3 []])] fun n24 n25 l26=>some (.v (.agg [.int n24,.int n25,.sl 3 l26]),q8) else bif (n7==3) then zdo (zaY q8 [.cell (.sl 1 [[.int 0],[.int 1],[.int 2],[.int 5],[.int 100],[.int (-1)]])]) false [(false,[.int 0])] fun q28 n27=>zaz (zan [.cell (.int n27)]) false [(true,[.int 0,.int 0,.sl 3 []])] fun n29 n30 l31=>some (.v (.agg [.int n29,.int n30,.sl 3 l31]),q28) else zdo (zaY q8 [.cell (.sl 1 [[.int 0],[.int 1000],[.int (-1000)],[.int 5]])]) false [(false,[.int 0])] fun q33 n32=>zaz (zbs [.cell (.int n32)]) false [(true,[.int 0,.int 0,.sl 3 []])] fun n34 n35 l36=>some (.v (.agg [.int n34,.int n35,.sl 3 l36]),q33):Option (AV×List AC))=some r):evT zw4 100000 (.run (zdA 2 (cOf Try.f30))) [] [(0,.und),(3,.box [.int n1,.int n2,.sl 3 l3]),(4,.box [.int n4,.int n5,.sl 3 l6])] q=some r:=Eq.trans (by kernel_rfl) h
theorem zAT:(zb2 (zbu tt) lay sig (zdA 2 (cOf Try.f30)) ⟨[],[],[],85,[],[]⟩).isSome=true:=by kernel_rfl
end
section
open Go
theorem zua {o n:Int}{kids:List (List AC)} (hk:zcA kids) (hs:kids.length+rsS kids≤100000):ziP [.agg [.int o,.int n,.sl 3 kids]]=some (.v (.agg [.int o,.int n,.sl 3 kids])) :=
 zja (zaO (znR 100000 (Nat.le_refl _) kids hk hs) rfl)
theorem zwT (z:Int):inI (zaf z):=by
 unfold inI zaf;rw[IntKind.wrap_i64];omega
section
variable {ns:List Nat} (hns:ns.length≤2000)
include hns
theorem zuv {o n:Int}{kids:List (List AC)}{n4 n5:Int}{l6:List (List AC)} (hf:Fit .expr [.int o,.int n,.sl 3 kids]) {M:Nat} (hs:1+kids.length+rsS kids≤M) (hM:M≤100000) {p:Nat} (hp:p+10≤800000) :
  EG ns p 2 (M+1) (evT zw4 100000 (.run (zdA 2 (cOf Try.f30))) [] [(0,.und),(3,.box [.int o,.int n,.sl 3 kids]),(4,.box [.int n4,.int n5,.sl 3 l6])] (Qr ns p)):=by
 have hf':=hf
 cases hf with
 | expr _ _ _ ho hn hl hk =>
 obtain⟨x,hx,h1⟩:=zbq hns (p:=p) (by omega) (m:=5) (by omega)
 rcases(by omega:x=0∨x=1∨x=2∨x=3∨x=4) with rfl|rfl|rfl|rfl|rfl
 ·obtain⟨y,hy,h2⟩:=zbq hns (p:=p+1) (by omega) (m:=15) (by omega)
  exact⟨_,_,_,_,zp2 (zam h1 (zad rfl (zam h2 (zae (zaw _ _ _) rfl)))),by omega,.expr _ _ _ (by unfold inI;omega) hn hl hk,by omega⟩
 ·obtain⟨y,hy,h2⟩:=zjU hns (p:=p+1) (by omega) (xs:=[1,-1,1000,2]) (by simp) (by simp)
  exact⟨_,_,_,_,zp2 (zam h1 (zaa rfl (zad rfl (zam h2 (zae (zaw _ _ _) rfl))))),by omega,.expr _ _ _ ho (zwT _) hl hk,by omega⟩
 ·have hsz:=zec (kids:=kids) (o:=0) (n:=1) (l:=[])
  rw[zaG] at hsz;have hlen:(kids++[[AC.int 0,.int 1,.sl 3 []]]).length=kids.length+1:=by simp
  refine⟨_,_,_,_,zp2 (zam h1 (zaa rfl (zaa rfl (zad rfl (zaO (znR 100000 (Nat.le_refl _) kids hk (by omega)) (zae (zcp _) (zcL (by simp;omega) (zae (zaw _ _ _) rfl)))))))),by omega,.expr _ _ _ ho hn (by rw[hlen];unfold za9;omega) (fun c hc=>?_),by simp only[List.length_nil] at hsz;omega⟩
  rw[List.mem_append,List.mem_singleton] at hc;rcases hc with hc|rfl
  ·exact hk c hc
  ·exact zak (by omega) (by omega) (by simp) (fun c hc=>by cases hc)
 ·obtain⟨y,hy,h2⟩:=zjU hns (p:=p+1) (by omega) (xs:=[0,1,2,5,100,-1]) (by simp) (by simp)
  have hy2:-1≤y∧y≤100:=by
   simp only[List.mem_cons,List.not_mem_nil,or_false] at hy;omega
  exact⟨_,_,_,_,zp2 (zam h1 (zaa rfl (zaa rfl (zaa rfl (zad rfl (zam h2 (zae (zaP _) rfl))))))),by omega,zbZ (by omega),by rw[zaG];simp⟩
 ·obtain⟨y,hy,h2⟩:=zjU hns (p:=p+1) (by omega) (xs:=[0,1000,-1000,5]) (by simp) (by simp)
  have hy2:-1000≤y∧y≤1000:=by
   simp only[List.mem_cons,List.not_mem_nil,or_false] at hy;omega
  exact⟨_,_,_,_,zp2 (zam h1 (zaa rfl (zaa rfl (zaa rfl (zaa rfl (zam h2 (zae (zcp _) rfl))))))),by omega,zak (by omega) (by omega) (by simp) (fun c hc=>by cases hc),by rw[zaG];simp⟩
end
end
set_option maxRecDepth 100000
section
open Go
noncomputable def zxZ:CtxT:={X:={P:=Try.prog,L:=lay,F:=sig.has,E:=ext,fn:={Try.f41 with results:=#[.cell 2 26,.cell 3 26,.tmp 7]},lv:=[],jv:=[],tp:=[]},T:=tt,E:=zfg}
noncomputable def zqs:List Rg:=[0,1,2,3,4,5,6].filterMap fun i=>zt0 i (cOf Try.f41)
theorem zCd  {q:List AC}{r:AV×List AC} (h:( zdo (zhM q []) false [(false,[.sl 3 []])] fun q2 l1=>zaz (zbN [.cell (.sl 1 [[.int 1]]),.cell (.int 0)]) false [(true,[.sl 1 [],.int 0,.int 0,.int 0,.sl 3 []])] fun l3 n4 n5 n6 l7=>zaz (zbN [.cell (.sl 1 [[.int 1],[.int 1]]),.cell (.int 1)]) false [(true,[.sl 1 [],.int 0,.int 0,.int 0,.sl 3 []])] fun l8 n9 n10 n11 l12=>zaz (zbN [.cell (.sl 1 [[.int 1]]),.cell (.int 1)]) false [(true,[.sl 1 [],.int 0,.int 0,.int 0,.sl 3 []])] fun l13 n14 n15 n16 l17=>zaz (zbN [.cell (.sl 1 [[.int 1],[.int 0]]),.cell (.int 1)]) false [(true,[.sl 1 [],.int 0,.int 0,.int 0,.sl 3 []])] fun l18 n19 n20 n21 l22=>zaz (zbN [.cell (.sl 1 [[.int 2],[.int 1]]),.cell (.int 1)]) false [(true,[.sl 1 [],.int 0,.int 0,.int 0,.sl 3 []])] fun l23 n24 n25 n26 l27=>zaz (zbN [.cell (.sl 1 [[.int 1],[.int 1]]),.cell (.int 0)]) false [(true,[.sl 1 [],.int 0,.int 0,.int 0,.sl 3 []])] fun l28 n29 n30 n31 l32=>zaz (zbN [.cell (.sl 1 [[.int 3]]),.cell (.int 0)]) false [(true,[.sl 1 [],.int 0,.int 0,.int 0,.sl 3 []])] fun l33 n34 n35 n36 l37=>zaz (zbN [.cell (.sl 1 [[.int 0]]),.cell (.int 1)]) false [(true,[.sl 1 [],.int 0,.int 0,.int 0,.sl 3 []])] fun l38 n39 n40 n41 l42=>zaz (zbN [.cell (.sl 1 [[.int 0],[.int 1]]),.cell (.int 1)]) false [(true,[.sl 1 [],.int 0,.int 0,.int 0,.sl 3 []])] fun l43 n44 n45 n46 l47=>zaz (zbN [.cell (.sl 1 [[.int 3],[.int 0]]),.cell (.int 3)]) false [(true,[.sl 1 [],.int 0,.int 0,.int 0,.sl 3 []])] fun l48 n49 n50 n51 l52=>zaz (zbN [.cell (.sl 1 [[.int 3]]),.cell (.int 1)]) false [(true,[.sl 1 [],.int 0,.int 0,.int 0,.sl 3 []])] fun l53 n54 n55 n56 l57=>zaz (zbN [.cell (.sl 1 [[.int 1],[.int 3],[.int 0]]),.cell (.int 0)]) false [(true,[.sl 1 [],.int 0,.int 0,.int 0,.sl 3 []])] fun l58 n59 n60 n61 l62=>zaz (zbN [.cell (.sl 1 [[.int 0]]),.cell (.int 0)]) false [(true,[.sl 1 [],.int 0,.int 0,.int 0,.sl 3 []])] fun l63 n64 n65 n66 l67=>zaz (zbN [.cell (.sl 1 [[.int 0],[.int 0]]),.cell (.int 0)]) false [(true,[.sl 1 [],.int 0,.int 0,.int 0,.sl 3 []])] fun l68 n69 n70 n71 l72=>zaz (zbN [.cell (.sl 1 [[.int 1],[.int 0]]),.cell (.int 0)]) false [(true,[.sl 1 [],.int 0,.int 0,.int 0,.sl 3 []])] fun l73 n74 n75 n76 l77=>zaz (zbN [.cell (.sl 1 [[.int 0]]),.cell (.int 1)]) false [(true,[.sl 1 [],.int 0,.int 0,.int 0,.sl 3 []])] fun l78 n79 n80 n81 l82=>zaz (zbN [.cell (.sl 1 []),.cell (.int 0)]) false [(true,[.sl 1 [],.int 0,.int 0,.int 0,.sl 3 []])] fun l83 n84 n85 n86 l87=>zdo (zag q2 [.cell (.int ((([[.sl 1 l3,.int n4,.int n5,.int n6,.sl 3 l7],[.sl 1 l8,.int n9,.int n10,.int n11,.sl 3 l12],[.sl 1 l13,.int n14,.int n15,.int n16,.sl 3 l17],[.sl 1 l18,.int n19,.int n20,.int n21,.sl 3 l22],[.sl 1 l23,.int n24,.int n25,.int n26,.sl 3 l27],[.sl 1 l28,.int n29,.int n30,.int n31,.sl 3 l32]]:List (List AC)).length:Nat):Int))]) false [(false,[.int 0])] fun q89 n88=>zei [[.sl 1 l3,.int n4,.int n5,.int n6,.sl 3 l7],[.sl 1 l8,.int n9,.int n10,.int n11,.sl 3 l12],[.sl 1 l13,.int n14,.int n15,.int n16,.sl 3 l17],[.sl 1 l18,.int n19,.int n20,.int n21,.sl 3 l22],[.sl 1 l23,.int n24,.int n25,.int n26,.sl 3 l27],[.sl 1 l28,.int n29,.int n30,.int n31,.sl 3 l32]] n88 [.sl 1 [],.int 0,.int 0,.int 0,.sl 3 []] fun l90 n91 n92 n93 l94=>zdo (zag q89 [.cell (.int ((([[.sl 1 l33,.int n34,.int n35,.int n36,.sl 3 l37],[.sl 1 l38,.int n39,.int n40,.int n41,.sl 3 l42],[.sl 1 l43,.int n44,.int n45,.int n46,.sl 3 l47],[.sl 1 l48,.int n49,.int n50,.int n51,.sl 3 l52],[.sl 1 l53,.int n54,.int n55,.int n56,.sl 3 l57],[.sl 1 l58,.int n59,.int n60,.int n61,.sl 3 l62]]:List (List AC)).length:Nat):Int))]) false [(false,[.int 0])] fun q96 n95=>zei [[.sl 1 l33,.int n34,.int n35,.int n36,.sl 3 l37],[.sl 1 l38,.int n39,.int n40,.int n41,.sl 3 l42],[.sl 1 l43,.int n44,.int n45,.int n46,.sl 3 l47],[.sl 1 l48,.int n49,.int n50,.int n51,.sl 3 l52],[.sl 1 l53,.int n54,.int n55,.int n56,.sl 3 l57],[.sl 1 l58,.int n59,.int n60,.int n61,.sl 3 l62]] n95 [.sl 1 [],.int 0,.int 0,.int 0,.sl 3 []] fun l97 n98 n99 n100 l101=>zdo (zag q96 [.cell (.int ((([[.sl 1 l63,.int n64,.int n65,.int n66,.sl 3 l67],[.sl 1 l68,.int n69,.int n70,.int n71,.sl 3 l72],[.sl 1 l73,.int n74,.int n75,.int n76,.sl 3 l77],[.sl 1 l78,.int n79,.int n80,.int n81,.sl 3 l82]]:List (List AC)).length:Nat):Int))]) false [(false,[.int 0])] fun q103 n102=>zei [[.sl 1 l63,.int n64,.int n65,.int n66,.sl 3 l67],[.sl 1 l68,.int n69,.int n70,.int n71,.sl 3 l72],[.sl 1 l73,.int n74,.int n75,.int n76,.sl 3 l77],[.sl 1 l78,.int n79,.int n80,.int n81,.sl 3 l82]] n102 [.sl 1 [],.int 0,.int 0,.int 0,.sl 3 []] fun l104 n105 n106 n107 l108=>zdo (zaY q103 [.cell (.sl 1 [[.int 4],[.int 4],[.int 3],[.int 2],[.int 4]])]) false [(false,[.int 0])] fun q110 n109=>some (.tup [.agg [.sl 3 [],.sl 5 []],.agg [.sl 3 l1,.sl 5 [[.sl 1 l83,.int n84,.int n85,.int n86,.sl 3 l87],[.sl 1 l90,.int n91,.int n92,.int n93,.sl 3 l94],[.sl 1 l97,.int n98,.int n99,.int n100,.sl 3 l101],[.sl 1 l104,.int n105,.int n106,.int n107,.sl 3 l108]]],.cell (.int n109)],q110):Option (AV×List AC))=some r):evT zxZ 100000 (.run (zif zqs .skip)) [] [(0,.und)] q=some r:=Eq.trans (by kernel_rfl) h
theorem zBf:(zb2 (zbu tt) lay sig (zif zqs .skip) ⟨[],[],[],110,[],[]⟩).isSome=true:=by kernel_rfl
end
end Go.Proofs.Ytcpcagdialnbeaa
