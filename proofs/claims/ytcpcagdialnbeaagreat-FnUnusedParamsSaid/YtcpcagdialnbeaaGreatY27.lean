/- Generic texts and models for the proofs of this seat: part 27. -/
import Derived.Test.YtcpcagdialnbeaaGreatY26
set_option linter.unusedVariables false
set_option linter.unusedSimpArgs false
set_option linter.unusedSectionVars false
namespace Go.Proofs.YtcpcagdialnbeaaGreat
open Go
section
variable {ns:List Nat} (hns:ns.length ≤ 2000) {D:List DM} (hD:D ∈ zd5) {R:List PM} (hR:GR R)
include hns hD hR
set_option maxRecDepth 8000 in
set_option maxHeartbeats 1600000 in
theorem zsl {f:Nat} (hf:f < R.length) {at_:Nat} (hat:at_ < (gP R f).ps.length) {c1 c2:Int} {c3:List (List AC)} {acc:List (List AC)} (ha:zc8 acc) (hl:acc.length ≤ 3) (hs:rsS acc ≤ 6) {p:Nat} (hp:p + 3000 ≤ 800000) :
  EG ns p 1400 700 (zbD (f:Int) (at_:Int) (zaf D) (zal R) c1 c2 c3 (zad (gP R f).ps) (((gP R f).ps.length:Nat):Int) (zad ((gP R f).ps ++ [0,1])) acc (((gP R f).ps.length:Nat):Int) (Qr ns p)):=by
 obtain ⟨s1,s2,s3⟩:=hR.small hf
 have h4:=hR.len
 have hnil:=zaV
 have hc4:=(zli 4).2.1 (by omega)
 have hm4:=(zln 4).2.1 (by omega)
 have hend:decide ((((gP R f).ps.length:Nat):Int) < (((gP R f).ps.length:Nat):Int)) = false:=decide_eq_false (by omega)
 have hA:Fit .expr [.int 9,.int (f:Int),.sl 3 acc]:=zaq (by omega) (by omega) (by omega) ha
 have hV:((gP R f).ps ++ [0,1]).length ≤ 5:=by rw [List.length_append]; simp; omega
 by_cases hr:(gP R f).r = 1
 ·obtain ⟨x,hx,h1⟩:=zbK hns (p:=p) (by omega) (m:=5) (by omega)
  by_cases hx0:0 < x
  ·obtain ⟨o,n,l,p1,g1,g2,g3,g4⟩:=ziY hns hD hR 4 (by omega) ((gP R f).ps ++ [0,1]) 0 (p + 1) (by omega) (by omega) (by omega)
   obtain ⟨o2,n2,l2,p2,k1,k2,k3,k4⟩:=ziY hns hD hR 4 (by omega) (gP R f).ps (gP R f).r p1 (by omega) (by omega) (by omega)
   have hcon:Fit .expr [.int 6,.int 1,.sl 3 [[.int o,.int n,.sl 3 l],[.int 9,.int (f:Int),.sl 3 acc]]]:=zaq (by omega) (by omega) (by simp) (zqC g3 hA)
   by_cases h1n:1 < (gP R f).ps.length
   ·have hz:0 < (gP R f).ps.length:=by omega
    by_cases h2:(gP R f).ps[0] = 2
    ·have happ:Fit .expr [.int 11,.int 0,.sl 3 [[.int 12,.int 0,.sl 3 []],[.int 12,.int (((gP R f).ps.length:Nat):Int),.sl 3 []]]]:=zaq (by omega) (by omega) (by simp) (zqC (zcs (by omega)) (zcs (by omega)))
     have hcon2:Fit .expr [.int 6,.int 1,.sl 3 [[.int 11,.int 0,.sl 3 [[.int 12,.int 0,.sl 3 []],[.int 12,.int (((gP R f).ps.length:Nat):Int),.sl 3 []]]],[.int 9,.int (f:Int),.sl 3 acc]]]:=zaq (by omega) (by omega) (by simp) (zqC happ hA)
     refine ⟨8,1,_,p2,za9 (zaa hend (zag (zaA _ _ _) (zaH rfl hf (zac (by rw [beq_iff_eq]; exact hr) (zap h1 (zac (decide_eq_true (by omega)) (zaJ g1 (zac (decide_eq_true (by omega)) (zaR (k:=0) hz (zac (by rw [beq_iff_eq]; exact h2) (zag (zaU _) (zag (zaU _) (zag (zaA _ _ _) (zag (zaA _ _ _) (zag (zaU _) (zaH rfl hf (zaJ k1 (zag (zaA _ _ _) rfl)))))))))))))))))),by omega,zaq (by omega) (by omega) (by simp) (zqy (zcs (by omega)) k3 hcon2),?_⟩
     rw [rs3,rs2,rs2]
     simp
     omega
    ·refine ⟨8,1,_,p2,za9 (zaa hend (zag (zaA _ _ _) (zaH rfl hf (zac (by rw [beq_iff_eq]; exact hr) (zap h1 (zac (decide_eq_true (by omega)) (zaJ g1 (zac (decide_eq_true (by omega)) (zaR (k:=0) hz (zaa (by rw [beq_eq_false_iff_ne]; exact h2) (zag (zaA _ _ _) (zag (zaU _) (zaH rfl hf (zaJ k1 (zag (zaA _ _ _) rfl))))))))))))))),by omega,zaq (by omega) (by omega) (by simp) (zqy (zcs (by omega)) k3 hcon),?_⟩
     rw [rs3,rs2]
     simp
     omega
   ·refine ⟨8,1,_,p2,za9 (zaa hend (zag (zaA _ _ _) (zaH rfl hf (zac (by rw [beq_iff_eq]; exact hr) (zap h1 (zac (decide_eq_true (by omega)) (zaJ g1 (zaa (decide_eq_false (by omega)) (zag (zaA _ _ _) (zag (zaU _) (zaH rfl hf (zaJ k1 (zag (zaA _ _ _) rfl))))))))))))),by omega,zaq (by omega) (by omega) (by simp) (zqy (zcs (by omega)) k3 hcon),?_⟩
    rw [rs3,rs2]
    simp
    omega
  ·obtain ⟨o2,n2,l2,p2,k1,k2,k3,k4⟩:=ziY hns hD hR 4 (by omega) (gP R f).ps (gP R f).r (p + 1) (by omega) (by omega) (by omega)
   refine ⟨8,1,_,p2,za9 (zaa hend (zag (zaA _ _ _) (zaH rfl hf (zac (by rw [beq_iff_eq]; exact hr) (zap h1 (zaa (decide_eq_false (by omega)) (zaH rfl hf (zaa (by rw [beq_eq_false_iff_ne]; omega) (zag (zaU _) (zaH rfl hf (zaJ k1 (zag (zaA _ _ _) rfl)))))))))))),by omega,zaq (by omega) (by omega) (by simp) (zqy (zcs (by omega)) k3 hA),?_⟩
   rw [rs3]
   simp
   omega
 ·by_cases hr0:(gP R f).r = 0
  ·obtain ⟨op,hop,h1⟩:=zmi hns (p:=p) (by omega) (xs:=[1,2]) (by simp) (by simp)
   have hop2:1 ≤ op ∧ op ≤ 2:=by
    simp only [List.mem_cons,List.not_mem_nil,or_false] at hop
    omega
   obtain ⟨o,n,l,p1,g1,g2,g3,g4⟩:=ziY hns hD hR 4 (by omega) ((gP R f).ps ++ [0,1]) 0 (p + 1) (by omega) (by omega) (by omega)
   obtain ⟨o2,n2,l2,p2,k1,k2,k3,k4⟩:=ziY hns hD hR 4 (by omega) (gP R f).ps (gP R f).r p1 (by omega) (by omega) (by omega)
   have hcon:Fit .expr [.int op,.int 0,.sl 3 [[.int o,.int n,.sl 3 l],[.int 9,.int (f:Int),.sl 3 acc]]]:=zaq (by omega) (by omega) (by simp) (zqC g3 hA)
   refine ⟨8,1,_,p2,za9 (zaa hend (zag (zaA _ _ _) (zaH rfl hf (zaa (by rw [beq_eq_false_iff_ne]; exact hr) (zaH rfl hf (zac (by rw [beq_iff_eq]; exact hr0) (zap h1 (zaJ g1 (zag (zaA _ _ _) (zag (zaU _) (zaH rfl hf (zaJ k1 (zag (zaA _ _ _) rfl))))))))))))),by omega,zaq (by omega) (by omega) (by simp) (zqy (zcs (by omega)) k3 hcon),?_⟩
   rw [rs3,rs2]
   simp
   omega
  ·obtain ⟨o2,n2,l2,p2,k1,k2,k3,k4⟩:=ziY hns hD hR 4 (by omega) (gP R f).ps (gP R f).r p (by omega) (by omega) (by omega)
   refine ⟨8,1,_,p2,za9 (zaa hend (zag (zaA _ _ _) (zaH rfl hf (zaa (by rw [beq_eq_false_iff_ne]; exact hr) (zaH rfl hf (zaa (by rw [beq_eq_false_iff_ne]; exact hr0) (zag (zaU _) (zaH rfl hf (zaJ k1 (zag (zaA _ _ _) rfl)))))))))),by omega,zaq (by omega) (by omega) (by simp) (zqy (zcs (by omega)) k3 hA),?_⟩
   rw [rs3]
   simp
   omega
set_option maxRecDepth 8000 in
theorem ztL {f:Nat} (hf:f < R.length) {at_:Nat} (hat:at_ < (gP R f).ps.length) {c1 c2:Int} {c3:List (List AC)}:∀ m k:Nat,k + m = (gP R f).ps.length → ∀ (acc:List (List AC)),zc8 acc → acc.length = k → rsS acc ≤ 2 * k → ∀ p:Nat,p + m + 3000 ≤ 800000 →
  EG ns p (m + 1400) 700 (zbD (f:Int) (at_:Int) (zaf D) (zal R) c1 c2 c3 (zad (gP R f).ps) (((gP R f).ps.length:Nat):Int) (zad ((gP R f).ps ++ [0,1])) acc (k:Int) (Qr ns p)):=by
 obtain ⟨s1,s2,s3⟩:=hR.small hf
 have hnil:=zaV
 intro m
 induction m with
 | zero =>
  intro k hk acc ha hl hs p hp
  obtain rfl:k = (gP R f).ps.length:=by omega
  exact (zsl hns hD hR hf hat ha (by omega) (by omega) (by omega)).le (by omega) (by omega)
 | succ m ih =>
  intro k hk acc ha hl hs p hp
  have hlt:k < (gP R f).ps.length:=by omega
  have hgo:decide ((k:Int) < (((gP R f).ps.length:Nat):Int)) = true:=decide_eq_true (by omega)
  have hstep:∀ (o n:Int) (l:List (List AC)),Fit .expr [.int o,.int n,.sl 3 l] → l.length + rsS l ≤ 2 → ∀ p':Nat,p' ≤ p + 1 → EG ns p (m + 1 + 1400) 700 (zbD (f:Int) (at_:Int) (zaf D) (zal R) c1 c2 c3 (zad (gP R f).ps) (((gP R f).ps.length:Nat):Int) (zad ((gP R f).ps ++ [0,1])) (acc ++ [[.int o,.int n,.sl 3 l]]) (zae ((k:Int) + 1)) (Qr ns p')):=fun o n l hfl hsl p' hp' => by
   have hsz:=zfc (kids:=acc) (o:=o) (n:=n) (l:=l)
   have hlen:(acc ++ [[AC.int o,.int n,.sl 3 l]]).length = k + 1:=by simp; omega
   have hnx:=ih (k + 1) (by omega) (acc ++ [[.int o,.int n,.sl 3 l]]) (zgd ha hfl) hlen (by omega) p' (by omega)
   rw [← wrk (by unfold zaE; omega)] at hnx
   exact EG.same hnx (by omega) (by omega) fun o n kids q h => h
  by_cases hka:k = at_
  ·have hw:zae ((((gP R f).ps.length:Nat):Int) + 1) = (((gP R f).ps.length + 1:Nat):Int):=by rw [wr (by omega) (by omega)]; omega
   refine EG.same (hstep 12 (((gP R f).ps.length + 1:Nat):Int) [] (zcs (by omega)) (by simp [zaV]) p (by omega)) (by omega) (by omega) fun o n kids q h => za9 (zac hgo (zac (by rw [beq_iff_eq]; omega) ?_))
   rw [hw]
   exact zag (zaU _) (zb5 (by simp; omega) h)
  ·have hne:(((k:Nat):Int) == ((at_:Nat):Int)) = false:=by rw [beq_eq_false_iff_ne]; omega
   by_cases h0:(gP R f).ps[k] = 0
   ·obtain ⟨x,hx,h1⟩:=zbK hns (p:=p) (by omega) (m:=2) (by omega)
    by_cases hx0:x = 0
    ·subst hx0
     have hadd:Fit .expr [.int 1,.int 0,.sl 3 [[.int 12,.int (k:Int),.sl 3 []],[.int 12,.int (((gP R f).ps.length:Nat):Int),.sl 3 []]]]:=zaq (by omega) (by omega) (by simp) (zqC (zcs (by omega)) (zcs (by omega)))
     exact EG.same (hstep 1 0 _ hadd (by rw [rs2]; simp [zaV]) (p + 1) (by omega)) (by omega) (by omega) fun o n kids q h => za9 (zac hgo (zaa hne (zaR hlt (zac (by rw [beq_iff_eq]; exact h0) (zap h1 (zac rfl (zag (zaU _) (zag (zaU _) (zag (zaA _ _ _) (zb5 (by simp; omega) h))))))))))
    ·exact EG.same (hstep 12 (k:Int) [] (zcs (by omega)) (by simp [zaV]) (p + 1) (by omega)) (by omega) (by omega) fun o n kids q h => za9 (zac hgo (zaa hne (zaR hlt (zac (by rw [beq_iff_eq]; exact h0) (zap h1 (zaa (by rw [beq_eq_false_iff_ne]; omega) (zag (zaU _) (zb5 (by simp; omega) h))))))))
   ·exact EG.same (hstep 12 (k:Int) [] (zcs (by omega)) (by simp [zaV]) p (by omega)) (by omega) (by omega) fun o n kids q h => za9 (zac hgo (zaa hne (zaR hlt (zaa (by rw [beq_eq_false_iff_ne]; exact h0) (zag (zaU _) (zb5 (by simp; omega) h))))))
set_option maxRecDepth 8000 in
theorem zxP {f:Nat} (hf:f < R.length) {at_:Nat} (hat:at_ < (gP R f).ps.length) {p:Nat} (hp:p + 4000 ≤ 800000):EG ns p 1500 700 (zkP (Qr ns p) [pgC D R,.cell (.int (f:Int)),.cell (.int (at_:Int))]):=by
 obtain ⟨s1,s2,s3⟩:=hR.small hf
 have h:=ztL hns hD hR hf hat (c1:=0) (c2:=0) (c3:=[]) (gP R f).ps.length 0 (by omega) [] (fun b hb => by cases hb) rfl (by simp [zaV]) p (by omega)
 refine EG.same h (by omega) (by omega) fun o n kids q h => zqx (zaH rfl hf ?_)
 rw [zab]
 exact zan (ztg (gP R f).ps [0,1] (by simp; omega)) h
theorem zAo (xs:List Int) (n:Int) (hx:xs.length ≤ 1048576):∃ r:Int,zlZ [.cell (.sl 1 (zad xs)),.cell (.int n)] = rI r ∧ (r = -1 ∨ ∃ k:Nat,k < xs.length ∧ r = (k:Int)):=by
 have key:∀ m k:Nat,k + m = xs.length → ∃ r:Int,zfP (zad xs) n (k:Int) = rI r ∧ (r = -1 ∨ ∃ k:Nat,k < xs.length ∧ r = (k:Int)):=by
  intro m
  induction m with
  | zero => intro k hk; exact ⟨-1,zf6 (zaa (decide_eq_false (by rw [zab]; omega)) rfl),.inl rfl⟩
  | succ m ih =>
   intro k hk
   have hlt:k < xs.length:=by omega
   rcases e:(xs[k] == n) with _ | _
   ·obtain ⟨r,h1,h2⟩:=ih (k + 1) (by omega)
    rw [← wrk (by unfold zaE; omega)] at h1
    exact ⟨r,zf6 (zac (decide_eq_true (by rw [zab]; omega)) (zaR hlt (zaa e h1))),h2⟩
   ·exact ⟨(k:Int),zf6 (zac (decide_eq_true (by rw [zab]; omega)) (zaR hlt (zac e rfl))),.inr ⟨k,hlt,rfl⟩⟩
 obtain ⟨r,h1,h2⟩:=key xs.length 0 (by omega)
 exact ⟨r,zrI h1,h2⟩
set_option maxRecDepth 8000 in
theorem zwz {f:Nat} (hf:f < R.length) {c1 c2:Int} {c3 l25:List (List AC)} {p p0:Nat} {C:Nat} {x:Option (AV × List AC)} (h:EG ns p C 900 x) (hp:p + C + 10000 ≤ 800000) {X:Option (AV × List AC)}
  (hX:∀ o n l q r,x = some (.v (.agg [.int o,.int n,.sl 3 l]),q) → zcI (zaf D) (zal R) c1 c2 l25 (zad (gP R f).ps) (gP R f).r o n l q = some r → X = some r):EG ns p (C + 6100) 900 X:=by
 obtain ⟨s1,s2,s3⟩:=hR.small hf
 obtain ⟨o,n,l,p1,h1,h2,h3,h4⟩:=h
 have hn:=zqE h3
 by_cases h0:zsf [.int o,.int n,.sl 3 l] < 0
 ·obtain ⟨o2,n2,l2,p2,g1,g2,g3,g4⟩:=zub hns hD hR (V:=(gP R f).ps) (by omega) (t:=(gP R f).r) (by omega) (b:=12) (by omega) (p:=p1) (by omega)
  have e1:p2 ≤ p + (C + 6100):=Nat.le_trans g2 (Nat.le_trans (Nat.add_le_add_right h2 6100) (Nat.le_of_eq (Nat.add_assoc p C 6100)))
  exact ⟨o2,n2,l2,p2,hX o n l _ _ h1 (zjU (zay hn (zac (decide_eq_true h0) (zaJ g1 rfl)))),e1,g3,by clear hX h1 g1 hn hp; omega⟩
 ·exact ⟨o,n,l,p1,hX o n l _ _ h1 (zjU (zay hn (zaa (decide_eq_false h0) rfl))),by omega,h3,h4⟩
set_option maxRecDepth 8000 in
set_option maxHeartbeats 1600000 in
theorem zA5 {f:Nat} (hf:f < R.length) {p:Nat} (hp:p + 30000 ≤ 800000):EG ns p 13000 900 (zqS (Qr ns p) [pgC D R,.cell (.int (f:Int))]):=by
 obtain ⟨s1,s2,s3⟩:=hR.small hf
 obtain ⟨a,ha,ha2⟩:=zAo hns hD hR (gP R f).ps 1 (by omega)
 obtain ⟨x,hx,h1⟩:=zbK hns (p:=p) (by omega) (m:=4) (by omega)
 -- the last choice
 have J13:∀ (b:Bool) (e1 e2:Int) (e3:List (List AC)),(b = true → 0 < (gP R f).ps.length) → EG ns (p + 1) 12200 900 (zcL (f:Int) (zaf D) (zal R) 0 0 [] (zad (gP R f).ps) (gP R f).r e1 e2 e3 b (Qr ns (p + 1))):=fun b e1 e2 e3 hb => by
  cases b with
  | true => exact (zwz hns hD hR hf (c1:=0) (c2:=0) (c3:=[]) (l25:=[]) (p0:=0) ((zxV hns hD hR hf (hb rfl) (p:=p + 1) (by omega)).le (C':=6100) (M':=900) (by omega) (by omega)) (by omega) fun o n l q r h hJ => zkl (zac rfl (zaJ h hJ))).le (by omega) (by omega)
  | false => exact (zwz hns hD hR hf (c1:=0) (c2:=0) (c3:=[]) (l25:=[]) (p0:=0) ((zub hns hD hR (V:=(gP R f).ps) (by omega) (t:=(gP R f).r) (by omega) (b:=18) (by omega) (p:=p + 1) (by omega)).le (C':=6100) (M':=900) (by omega) (by omega)) (by omega) fun o n l q r h hJ => zkl (zaa rfl (zaJ h hJ))).le (by omega) (by omega)
 have same:∀ {X Y:Option (AV × List AC)},EG ns (p + 1) 12200 900 Y → (∀ r,Y = some r → X = some r) → EG ns (p + 1) 12200 900 X:=fun h hXY => by
  obtain ⟨o,n,l,p1,h1,h2,h3,h4⟩:=h
  exact ⟨o,n,l,p1,hXY _ h1,h2,h3,h4⟩
 have J11:∀ (b:Bool) (e1 e2:Int) (e3:List (List AC)),(b = true → 0 < (gP R f).ps.length) → EG ns (p + 1) 12200 900 (zcJ (f:Int) (zaf D) (zal R) 0 0 [] (zad (gP R f).ps) (gP R f).r e1 e2 e3 (x:Int) b (Qr ns (p + 1))):=fun b e1 e2 e3 hb => by
  cases b with
  | true => exact (zwz hns hD hR hf (c1:=0) (c2:=0) (c3:=[]) (l25:=[]) (p0:=0) ((zx0 hns hD hR hf (hb rfl) (p:=p + 1) (by omega)).le (C':=6100) (M':=900) (by omega) (by omega)) (by omega) fun o n l q r h hJ => zcp (zac rfl (zaJ h hJ))).le (by omega) (by omega)
  | false =>
   by_cases hx3:x < 3
   ·have hx3':decide (((x:Nat):Int) < 3) = true:=decide_eq_true (by omega)
    by_cases hz:0 < (gP R f).ps.length
    ·have hz':decide (((((zad (gP R f).ps).length:Nat):Int)) > 0) = true:=decide_eq_true (by rw [zab]; omega)
     by_cases h0:(gP R f).ps[0] = 0
     ·by_cases hr0:(gP R f).r = 0
      ·exact same (J13 true e1 e2 e3 (fun _ => hz)) fun r h => zcp (zaa rfl (zac hx3' (zac hz' (zaR (k:=0) hz (zac (by rw [beq_iff_eq]; exact h0) (zac (by rw [beq_iff_eq]; exact hr0) h))))))
      ·exact same (J13 _ e1 e2 e3 (fun _ => hz)) fun r h => zcp (zaa rfl (zac hx3' (zac hz' (zaR (k:=0) hz (zac (by rw [beq_iff_eq]; exact h0) (zaa (by rw [beq_eq_false_iff_ne]; exact hr0) h))))))
     ·exact same (J13 false e1 e2 e3 (fun h => by cases h)) fun r h => zcp (zaa rfl (zac hx3' (zac hz' (zaR (k:=0) hz (zaa (by rw [beq_eq_false_iff_ne]; exact h0) h)))))
    ·exact same (J13 false e1 e2 e3 (fun h => by cases h)) fun r h => zcp (zaa rfl (zac hx3' (zaa (decide_eq_false (by rw [zab]; omega)) h)))
   ·exact same (J13 false e1 e2 e3 (fun h => by cases h)) fun r h => zcp (zaa rfl (zaa (decide_eq_false (by omega)) h))
 have J9:∀ (b:Bool) (e1 e2:Int) (e3:List (List AC)),(b = true → 0 ≤ a) → EG ns (p + 1) 12200 900 (zd0 (f:Int) (zaf D) (zal R) 0 0 [] (zad (gP R f).ps) (gP R f).r a e1 e2 e3 (x:Int) b (Qr ns (p + 1))):=fun b e1 e2 e3 hb => by
  cases b with
  | true =>
   obtain ⟨k,hk,hak⟩:∃ k:Nat,k < (gP R f).ps.length ∧ a = (k:Int):=by
    rcases ha2 with h | h
    ·have:=hb rfl; omega
    ·exact h
   subst hak
   exact (zwz hns hD hR hf (c1:=0) (c2:=0) (c3:=[]) (l25:=[]) (p0:=0) ((zxP hns hD hR hf hk (p:=p + 1) (by omega)).le (C':=6100) (M':=900) (by omega) (by omega)) (by omega) fun o n l q r h hJ => zcD (zac rfl (zaJ h hJ))).le (by omega) (by omega)
  | false =>
   by_cases hx3:x < 3
   ·have hx3':decide (((x:Nat):Int) < 3) = true:=decide_eq_true (by omega)
    by_cases hz:0 < (gP R f).ps.length
    ·have hz':decide (((((zad (gP R f).ps).length:Nat):Int)) > 0) = true:=decide_eq_true (by rw [zab]; omega)
     by_cases h0:(gP R f).ps[0] = 3
     ·by_cases hr0:(gP R f).r = 0
      ·exact same (J11 true e1 e2 e3 (fun _ => hz)) fun r h => zcD (zaa rfl (zac hx3' (zac hz' (zaR (k:=0) hz (zac (by rw [beq_iff_eq]; exact h0) (zac (by rw [beq_iff_eq]; exact hr0) h))))))
      ·exact same (J11 _ e1 e2 e3 (fun _ => hz)) fun r h => zcD (zaa rfl (zac hx3' (zac hz' (zaR (k:=0) hz (zac (by rw [beq_iff_eq]; exact h0) (zaa (by rw [beq_eq_false_iff_ne]; exact hr0) h))))))
     ·exact same (J11 false e1 e2 e3 (fun h => by cases h)) fun r h => zcD (zaa rfl (zac hx3' (zac hz' (zaR (k:=0) hz (zaa (by rw [beq_eq_false_iff_ne]; exact h0) h)))))
    ·exact same (J11 false e1 e2 e3 (fun h => by cases h)) fun r h => zcD (zaa rfl (zac hx3' (zaa (decide_eq_false (by rw [zab]; omega)) h)))
   ·exact same (J11 false e1 e2 e3 (fun h => by cases h)) fun r h => zcD (zaa rfl (zaa (decide_eq_false (by omega)) h))
 have J7:∀ (b:Bool) (e1 e2:Int) (e3:List (List AC)),EG ns (p + 1) 12200 900 (zgK (f:Int) (zaf D) (zal R) 0 0 [] (zad (gP R f).ps) (gP R f).r a e1 e2 e3 (x:Int) b (Qr ns (p + 1))):=fun b e1 e2 e3 => by
  cases b with
  | true => exact (zwz hns hD hR hf (c1:=0) (c2:=0) (c3:=[]) (l25:=[]) (p0:=0) ((zxn hns hD hR (p:=p + 1) (by omega)).le (C':=6100) (M':=900) (by omega) (by omega)) (by omega) fun o n l q r h hJ => zds (zac rfl (zaJ h hJ))).le (by omega) (by omega)
  | false =>
   by_cases hx3:x < 3
   ·have hx3':decide (((x:Nat):Int) < 3) = true:=decide_eq_true (by omega)
    by_cases ha0:0 ≤ a
    ·by_cases hr0:(gP R f).r = 0
     ·exact same (J9 true e1 e2 e3 (fun _ => ha0)) fun r h => zds (zaa rfl (zac hx3' (zac (decide_eq_true ha0) (zac (by rw [beq_iff_eq]; exact hr0) h))))
     ·exact same (J9 _ e1 e2 e3 (fun _ => ha0)) fun r h => zds (zaa rfl (zac hx3' (zac (decide_eq_true ha0) (zaa (by rw [beq_eq_false_iff_ne]; exact hr0) h))))
    ·exact same (J9 false e1 e2 e3 (fun h => by cases h)) fun r h => zds (zaa rfl (zac hx3' (zaa (decide_eq_false ha0) h)))
   ·exact same (J9 false e1 e2 e3 (fun h => by cases h)) fun r h => zds (zaa rfl (zaa (decide_eq_false (by omega)) h))
 have fin:∀ {X Y:Option (AV × List AC)},EG ns (p + 1) 12200 900 Y → (∀ r,Y = some r → X = some r) → EG ns p 13000 900 X:=fun h hXY => by
  obtain ⟨o,n,l,p1,h1,h2,h3,h4⟩:=h
  exact ⟨o,n,l,p1,hXY _ h1,by omega,h3,h4⟩
 by_cases hx3:x < 3
 ·exact fin (J7 ((f:Int) == 0) 0 0 []) fun r h => zm5 (zaH rfl hf (zaH rfl hf (zay ha (zag (zcY _) (zap h1 (zac (decide_eq_true (by omega)) h))))))
 ·exact fin (J7 false 0 0 []) fun r h => zm5 (zaH rfl hf (zaH rfl hf (zay ha (zag (zcY _) (zap h1 (zaa (decide_eq_false (by omega)) h))))))
end
end Go.Proofs.YtcpcagdialnbeaaGreat
namespace Go.Proofs.YtcpcagdialnbeaaGreat
open Go
theorem zqQ:∀ N:Nat,N ≤ 100000 → ∀ l:List (List AC),zc8 l → l.length + rsS l ≤ N → zgU [.cell (.sl 3 l)] = some (.v (.cell (.sl 3 l))):=by
 intro N
 induction N using Nat.strongRecOn with
 | _ N ihN =>
  intro hN l hl hs
  have key:∀ m k:Nat,k + m = l.length → zeC l (l.take k) (k:Int) = some (.v (.cell (.sl 3 l))):=by
   intro m
   induction m with
   | zero =>
    intro k hk
    refine zh5 (zaa (decide_eq_false (by omega)) ?_)
    rw [List.take_of_length_le (by omega)]
   | succ m ih =>
    intro k hk
    have hlt:k < l.length:=by omega
    have hmem:l[k] ∈ l:=List.getElem_mem hlt
    have hf:=hl _ hmem
    have hle:=zrZ hmem
    have hn:=ih (k + 1) (by omega)
    rw [List.take_succ_eq_append_getElem hlt] at hn
    have hg:l.getD k [] = l[k]:=by simp [List.getD,hlt]
    generalize hr:l[k] = row at *
    cases hf with
    | expr o n kids ho hno hkl hk2 =>
     have hc:kids.length + rsS kids < l.length + rsS l:=by
      have:cS [AC.int o,.int n,.sl 3 kids] = kids.length + rsS kids:=by simp [cS,rsS,acS,acS.cS,acS.rsS]
      omega
     refine zh5 (zac (decide_eq_true (by omega)) (zcj hlt (by rw [hg]) (zag (zls (zan (ihN (kids.length + rsS kids) (by omega) (by omega) kids hk2 (Nat.le_refl _)) rfl)) (zb5 (by simp; omega) ?_))))
     rw [wrk (by unfold zaE; omega)]
     exact hn
  exact zoJ (key l.length 0 (by omega))
end Go.Proofs.YtcpcagdialnbeaaGreat
namespace Go.Proofs.YtcpcagdialnbeaaGreat
open Go Go.RowKit
abbrev Rg:=Nat × Array Oper × Bool
def zx5 (id:Nat):Code → Option Rg
 | .region i ops d => bif Nat.beq i id then some (i,ops,d) else none
 | .seq a b => match zx5 id a with
  | some r => some r
  | none => zx5 id b
 | .cond _ a b => match zx5 id a with
  | some r => some r
  | none => zx5 id b
 | .block _ b => zx5 id b
 | .loop b => zx5 id b
 | _ => none
def zkb:List Rg → Code → Code
 | [],c => c
 | r :: rs,c => .seq (.region r.1 r.2.1 r.2.2) (zkb rs c)
section
variable {P:Program} {L:Lay} {S:Sig} {T:Nat → Bool} {call:Orc} {ct:TOrc} {Own:Nat → Prop} {bb:Nat}
theorem zz8 (hP:P.follows .mixedOrders = true) (hL:LayOk P L) (hC:zba P S call) (hT:zdA P S T ct):∀ (rs:List Rg) (n:Nat) (σ:List AV × List AC) (e:Xt) (σ':List AV × List AC) (st:Stt) (O:Out),
  zaY L T call ct n (zkb rs .skip) σ = some (e,σ') → zcd (zbH T) L S (zkb rs .skip) st = some O →
  ∀ (p:Stb) (w:World) (a:Act),InvC st p w a.tmps σ Own bb → a.defers = [] → ∀ (Q:Exit → Act → World → Prop) (y:Code),
  (∀ st' a' w' p',e = .norm → O.norm = some st' → InvC st' p' w' a'.tmps σ' Own bb → EvoC Own bb p w p' w' → a'.defers = [] → y.wp P Q a' w') → (zkb rs y).wp P Q a w
 | [],n,σ,e,σ',st,O,hv,ht,p,w,a,hI,hd,Q,y,h => by
  cases n with
  | zero => cases hv
  | succ n =>
   simp only [zkb,zaY,Option.some.injEq,Prod.mk.injEq] at hv
   obtain ⟨rfl,rfl⟩:=hv
   cases ht
   exact h st a w p rfl rfl hI (EvoC.refl _ _ _ _) hd
 | r :: rs,n,σ,e,σ',st,O,hv,ht,p,w,a,hI,hd,Q,y,h => by
  cases n with
  | zero => cases hv
  | succ n =>
   simp only [zkb,zaY,Option.bind_eq_some_iff] at hv
   obtain ⟨⟨e1,σ1⟩,h1,h2⟩:=hv
   simp only [zkb,zcd,Option.bind_eq_some_iff] at ht
   obtain ⟨A,hA,ht⟩:=ht
   have he1:e1 = .norm:=by
    cases n with
    | zero => cases h1
    | succ n =>
     simp only [zaY,Option.map_eq_some_iff,Prod.mk.injEq] at h1
     obtain ⟨_,_,e,_⟩:=h1
     exact e.symm
   subst he1
   simp only at h2
   refine wp_seq (zsy hP hL hC hT n (.region r.1 r.2.1 r.2.2) σ .norm σ1 st A h1 (by simpa only [zcd] using hA) p w a hI hd _ fun st1 a1 w1 p1 ha1 hI1 hev1 hd1 => ?_)
   have ha1':A.norm = some st1:=ha1
   rw [ha1'] at ht
   simp only [Option.bind_eq_some_iff] at ht
   obtain ⟨B,hB,hj⟩:=ht
   refine zz8 hP hL hC hT rs n σ1 e σ' st1 B h2 hB p1 w1 a1 hI1 hd1 Q y fun st2 a2 w2 p2 he ha2 hI2 hev2 hd2 => ?_
   subst he
   obtain ⟨st',h3,h4⟩:=(zd7 hj .norm).2 st2 ha2
   refine h st' a2 w2 p2 rfl h3 ?_ (EvoC.trans hev1 hev2) hd2
   rcases h4 with rfl | h4
   ·exact hI2
   ·exact Le.c h4 hI2
end
theorem zB4 {Y:CtxT} {S:Sig} {Own:Nat → Prop} {bb:Nat} (hP:Y.X.P.follows .mixedOrders = true) (hL:LayOk Y.X.P Y.X.L) (hC:zba Y.X.P S (V Y.X.P Y.X.L Y.X.F Y.X.E)) (hA:zAp Y.X.P Y.X.L S Y.T Y.E) {rs:List Rg} {n:Nat} {o:Ov} {q:List AC} {r:AV × List AC}
  (he:evT Y n (.run (zkb rs .skip)) [] o q = some r) {σ:List AV} (hl:σ.length = Y.X.fn.ntmps) (hag:AgO o σ) {st:Stt} {O:Out} (ht:zcd (zbH Y.T) Y.X.L S (zkb rs .skip) st = some O)
  {p:Stb} {w:World} {a:Act} (hI:InvC st p w a.tmps (σ,q) Own bb) (hd:a.defers = []) (Q:Exit → Act → World → Prop) (y:Code)
  (h:∀ st' a' w' p' σ' q',O.norm = some st' → zsG Y.X.L Y.X.fn (.norm,(σ',q')) = some r → InvC st' p' w' a'.tmps (σ',q') Own bb → EvoC Own bb p w p' w' → a'.defers = [] → y.wp Y.X.P Q a' w'):(zkb rs y).wp Y.X.P Q a w:=by
 have h1:=zc4 n _ _ _ _ _ he σ hl hag
 simp only [Option.bind_eq_some_iff] at h1
 obtain ⟨⟨e,σ',q'⟩,h1,h2⟩:=h1
 unfold CtxT.vc at h1
 obtain ⟨m,h1⟩:=TVC_iff.1 h1
 refine zz8 hP hL hC (zrU hP hL hC hA m) rs m (σ,q) e (σ',q') st O h1 ht p w a hI hd Q y fun st' a' w' p' he hn hI' hev hd' => ?_
 subst he
 exact h st' a' w' p' σ' q' hn h2 hI' hev hd'
end Go.Proofs.YtcpcagdialnbeaaGreat
namespace Go.Proofs.YtcpcagdialnbeaaGreat
open Go Go.RowKit
def zwT:Value → AV
 | .bool x => .v (.cell (.bool x))
 | _ => .und
def ziV (m:Array Value) (n:Nat) (o:List (Nat × AV)):List AV:=(List.range n).map fun t => match o.lookup t with
 | some x => x
 | none => zwT (m.getD t undef)
theorem zcK (m:Array Value) (n:Nat) (o:List (Nat × AV)):(ziV m n o).length = n:=by simp [ziV]
theorem zeV (m:Array Value) (n:Nat) (o:List (Nat × AV)) (t:Nat):VS.get { σ:=ziV m n o,pe:=[] } t = if t < n then (match o.lookup t with
 | some x => x
 | none => zwT (m.getD t undef)) else .und:=by
 unfold VS.get ziV
 by_cases h:t < n
 ·rw [if_pos h]
  simp [List.getD,h]
 ·rw [if_neg h]
  simp [List.getD,h]
theorem zwD (v:Value):zbU (zwT v) = false:=by cases v <;> rfl
theorem zvU (v:Value) (cs:List AC):zwT v ≠ .box cs:=by cases v <;> simp [zwT]
def stM (n:Nat):Stt:=⟨[],[],[],n,[],[]⟩
structure zoL (p:Stb) (w:World) (m:Array Value) (n:Nat) (o:List (Nat × AV)) (Own:Nat → Prop):Prop where
 lt:∀ t x,o.lookup t = some x → t < n ∧ SR p w (m.getD t undef) x
 kind:∀ t x,o.lookup t = some x → (∃ v,x = .v v) ∨ ∃ cs c,x = .box cs ∧ m.getD t undef = .pointer (some ⟨c,0,none⟩) ∧ p c = 0 ∧ Own c
 apart:∀ t t' cs cs' c,t ≠ t' → o.lookup t = some (.box cs) → o.lookup t' = some (.box cs') → m.getD t undef = .pointer (some ⟨c,0,none⟩) → m.getD t' undef ≠ .pointer (some ⟨c,0,none⟩)
theorem zux {p:Stb} {w:World} {m:Array Value} {n:Nat} {o:List (Nat × AV)} {Own:Nat → Prop} {b:Nat} {q:List AC} (hs:m.size = n) (hk:zoL p w m n o Own) (hz:Zp p w) (hown:∀ c,w.heap.size ≤ c → Own c) (h0:m.getD 0 undef = zbi b) (hT:TK p w Own b q) :
  InvC (stM n) p w m (ziV m n o,q) Own b:=by
 have hrow:∀ t,zbU (VS.get { σ:=ziV m n o,pe:=[] } t) = false:=fun t => by
  rw [zeV]
  split
  ·split
   ·rename_i x hx
    rcases hk.kind t x hx with ⟨v,rfl⟩ | ⟨cs,c,rfl,_⟩ <;> rfl
   ·exact zwD _
  ·rfl
 have hbox:∀ t cs,VS.get { σ:=ziV m n o,pe:=[] } t = .box cs → o.lookup t = some (.box cs):=fun t cs h => by
  rw [zeV] at h
  split at h
  ·split at h
   ·rename_i x hx
    rw [hx,h]
   ·exact absurd h (zvU _ _)
  ·cases h
 refine ⟨⟨by rw [zcK]; exact hs,(zcK _ _ _).symm,fun t ht => (by cases ht),trivial,fun t => ⟨?_,fun q hq => (by cases hq)⟩,hz,trivial,⟨fun _ _ => rfl,fun _ _ _ h => (by cases h)⟩,hown,fun d cs h => ?_,fun d d' cs cs' c hd h1 h2 h3 => hk.apart d d' cs cs' c hd (hbox _ _ h1) (hbox _ _ h2) h3,
  fun d k r c h => (by have:=hrow d; rw [h] at this; cases this),fun t d k r h => (by have:=hrow t; rw [h] at this; cases this),⟨fun t d h => (by have:=hrow t; rw [h] at this; cases this),fun d k r h => (by have:=hrow d; rw [h] at this; cases this)⟩,fun _ => undef,
  ⟨fun q id h => (by cases h),fun id k h => (by cases h),fun id k b h => (by cases h),fun id k id' k' b h => (by cases h),fun q id k d k' r b h => (by cases h)⟩⟩,h0,hT⟩
 ·rw [zeV]
  split
  ·split
   ·rename_i x hx
    exact (hk.lt t x hx).2
   ·cases e:m.getD t undef with
    | bool x => exact .bool x
    | _ => intro c hc; cases hc
  ·rename_i hlt
   rw [Array.getD_eq_getD_getElem?,Array.getElem?_eq_none (by omega)]
   intro c hc
   cases hc
 ·have hl:=hbox d cs h
  rcases hk.kind d _ hl with ⟨v,e⟩ | ⟨cs',c,e,h1,h2,h3⟩
  ·cases e
  ·have hsr:=(hk.lt d _ hl).2
   obtain ⟨c',a,T,e1,e2,_⟩:=hsr
   rw [h1] at e1
   cases e1
   exact ⟨c,h1,h2,h3,(Array.getElem?_eq_some_iff.1 e2).1⟩
theorem zwi {m:Array Value} {n:Nat} {o:List (Nat × AV)} {b:Nat} (h0:m.getD 0 undef = zbi b) (hn:0 < n) (hl:∀ t x,o.lookup t = some x → t < n) (hz:o.lookup 0 = none):AgO ((0,.und) :: o) (ziV m n o):=by
 intro i y hy
 have hg:=zeV m n o i
 unfold VS.get at hg
 simp only at hg
 rw [hg]
 rw [zdB] at hy
 split at hy
 ·rename_i e
  subst e
  cases hy
  rw [if_pos hn,hz]
  simp only [h0]
  rfl
 ·have hy':o.lookup i = some y:=by
   clear hg hl hz
   induction o with
   | nil => cases hy
   | cons e o ih =>
    rw [List.lookup_cons]
    obtain ⟨j,z⟩:=e
    rw [zdB] at hy
    split at hy
    ·rename_i e
     subst e
     cases hy
     simp
    ·rename_i e
     rw [show (i == j) = false by simpa using fun h:i = j => e h.symm]
     exact ih hy
  rw [if_pos (hl i y hy'),hy']
theorem zCB {L:Lay} {fn:Func} {σ:List AV} {q q':List AC} {vs:List SV} (h:zsG L fn (.norm,(σ,q)) = some (.tup vs,q')):q = q' ∧ zfk L σ fn.results.toList = some vs:=by
 unfold zsG at h
 simp only [Option.map_eq_some_iff,Prod.mk.injEq] at h
 obtain ⟨ws,h1,h2,h3⟩:=h
 refine ⟨h3,?_⟩
 split at h2
 ·cases h2
 ·cases h2
  exact h1
theorem znm {L:Lay} {σ:List AV}:∀ {rs:List ResultVar} {vs:List SV},zfk L σ rs = some vs → ∀ (i:Nat) (r:ResultVar) (v:SV),rs[i]? = some r → vs[i]? = some v → zjb L σ r = some v
 | [],vs,h,i,r,v,hr,_ => by simp at hr
 | r0 :: rs,vs,h,i,r,v,hr,hv => by
  simp only [zfk,Option.bind_eq_some_iff,Option.map_eq_some_iff] at h
  obtain ⟨v0,h0,vs',h1,rfl⟩:=h
  cases i with
  | zero =>
   simp only [List.getElem?_cons_zero,Option.some.injEq] at hr hv
   subst hr; subst hv
   exact h0
  | succ i =>
   simp only [List.getElem?_cons_succ] at hr hv
   exact znm h1 i r v hr hv
theorem zya {L:Lay} {σ:List AV} {t ty:Nat} {cs:List AC} (h:zjb L σ (.cell t ty) = some (.agg cs)):σ.getD t .und = .box cs:=by
 simp only [zjb] at h
 generalize σ.getD t .und = z at h
 cases z with
 | box cs' =>
  simp only [Option.bind_eq_some_iff] at h
  obtain ⟨i,_,h⟩:=h
  split at h
  ·unfold mkV at h
   split at h
   ·cases h; rfl
   ·split at h <;> cases h
  ·cases h
 | _ => cases h
theorem zEq {L:Lay} {σ:List AV} {t:Nat} {k:Int} (h:zjb L σ (.tmp t) = some (.cell (.int k))):σ.getD t .und = .v (.cell (.int k)):=by
 simp only [zjb] at h
 cases hz:σ.getD t .und with
 | v x => rw [hz] at h; cases h; rfl
 | _ =>
  rw [hz] at h
  simp only [Option.map_eq_some_iff] at h
  obtain ⟨_,_,h⟩:=h
  cases h
theorem InvC.box {st:Stt} {p:Stb} {w:World} {m:Array Value} {σ:List AV} {q:List AC} {Own:Nat → Prop} {b:Nat} (h:InvC st p w m (σ,q) Own b) {d:Nat} {cs:List AC} (hd:σ.getD d .und = .box cs) :
  ∃ c a T,m.getD d undef = .pointer (some ⟨c,0,none⟩) ∧ w.heap[c]? = some (.cells a T (0,0)) ∧ RepL p w a.toList cs ∧ p c = 0 ∧ Own c ∧ c < w.heap.size ∧ c ≠ b:=by
 obtain ⟨c,e,h1,h2,h3⟩:=h.1.box d cs hd
 have hs:=(h.1.slots d).1
 rw [show VS.get { σ:=σ,pe:=[] } d = .box cs from hd] at hs
 obtain ⟨c',a,T,e1,e2,e3⟩:=hs
 rw [e] at e1
 cases e1
 exact ⟨c,a,T,e,e2,e3,h1,h2,h3,fun hcb => h.2.2.not (hcb ▸ h2)⟩
theorem InvC.int {st:Stt} {p:Stb} {w:World} {m:Array Value} {σ:List AV} {q:List AC} {Own:Nat → Prop} {b:Nat} (h:InvC st p w m (σ,q) Own b) {d:Nat} {k:Int} (hd:σ.getD d .und = .v (.cell (.int k))):m.getD d undef = .int .i64 k:=by
 have hs:=(h.1.slots d).1
 rw [show VS.get { σ:=σ,pe:=[] } d = .v (.cell (.int k)) from hd] at hs
 have hs':Rep p w (m.getD d undef) (.int k):=hs
 generalize m.getD d undef = v at hs'
 cases hs'
 rfl
theorem InvC.bool {st:Stt} {p:Stb} {w:World} {m:Array Value} {σ:List AV} {q:List AC} {Own:Nat → Prop} {b:Nat} (h:InvC st p w m (σ,q) Own b) {d:Nat} {k:Bool} (hd:σ.getD d .und = .v (.cell (.bool k))):m.getD d undef = .bool k:=by
 have hs:=(h.1.slots d).1
 rw [show VS.get { σ:=σ,pe:=[] } d = .v (.cell (.bool k)) from hd] at hs
 have hs':Rep p w (m.getD d undef) (.bool k):=hs
 generalize m.getD d undef = v at hs'
 cases hs'
 rfl
end Go.Proofs.YtcpcagdialnbeaaGreat
namespace Go.Proofs.YtcpcagdialnbeaaGreat
open Go Go.RowKit
def zbC:Nat → Code → Code
 | n + 1,.seq _ b => zbC n b
 | _,c => c
theorem zCS {Y:CtxT} {S:Sig} (hP:Y.X.P.follows .mixedOrders = true) (hL:LayOk Y.X.P Y.X.L) (hC:zba Y.X.P S (V Y.X.P Y.X.L Y.X.F Y.X.E)) (hA:zAp Y.X.P Y.X.L S Y.T Y.E) {c:Code} {n:Nat} {o:Ov} {q:List AC} {r:AV × List AC}
  (he:evT Y n (.run c) [] o q = some r) {σ:List AV} (hl:σ.length = Y.X.fn.ntmps) (hag:AgO o σ) {st:Stt} {O:Out} (ht:zcd (zbH Y.T) Y.X.L S c st = some O)
  {p0 p:Stb} {w0 w:World} {a:Act} {b:Nat} (hI:InvC st p w a.tmps (σ,q) (fun x => w0.heap.size ≤ x) b) (hd:a.defers = []) (hev:Evo (· = b) p0 w0 p w) :
  c.wp Y.X.P (bodyPost Y.X.P Y.X.fn fun e w' => ∃ v,e = .returned v ∧ ∃ p',SR p' w' v r.1 ∧ (∀ cs,r.1 ≠ .box cs) ∧ r.1 ≠ .und ∧ Evo (· = b) p0 w0 p' w' ∧ Zp p' w' ∧ TK p' w' (fun _ => False) b r.2) a w:=by
 have h1:=zc4 n _ _ _ _ _ he σ hl hag
 simp only [Option.bind_eq_some_iff] at h1
 obtain ⟨⟨e,σ',q'⟩,h1,h2⟩:=h1
 unfold CtxT.vc at h1
 obtain ⟨m,h1⟩:=TVC_iff.1 h1
 refine zsy hP hL hC (zrU hP hL hC hA m) m c (σ,q) e (σ',q') st O h1 ht p w a hI hd _ fun st' a' w' p' hat hIC hev' hd' => ?_
 obtain ⟨hI',_,hTK'⟩:=hIC
 have h2:zsG Y.X.L Y.X.fn (e,(σ',q')) = some r:=h2
 have hfin:(∀ i,e ≠ .exit i) → a'.defers = [] ∧ ∃ v,(results Y.X.fn a'.tmps).run Y.X.P w' = .ok v w' ∧ ∃ v',Ending.returned v = .returned v' ∧ ∃ p',SR p' w' v' r.1 ∧ (∀ cs,r.1 ≠ .box cs) ∧ r.1 ≠ .und ∧ Evo (· = b) p0 w0 p' w' ∧ Zp p' w' ∧ TK p' w' (fun _ => False) b r.2:=by
  intro hne
  have hres':∃ vs,zfk Y.X.L σ' Y.X.fn.results.toList = some vs ∧ r = ((match vs with | [v] => .v v | vs => .tup vs),q'):=by
   cases e with
   | exit i => exact absurd rfl (hne i)
   | norm =>
    simp only [zsG,Option.map_eq_some_iff] at h2
    obtain ⟨vs,h1,h2⟩:=h2
    exact ⟨vs,h1,h2.symm⟩
   | ret =>
    simp only [zsG,Option.map_eq_some_iff] at h2
    obtain ⟨vs,h1,h2⟩:=h2
    exact ⟨vs,h1,h2.symm⟩
  obtain ⟨vs,hvs,rfl⟩:=hres'
  obtain ⟨us,hu1,hu2,hu3⟩:=zmL (P:=Y.X.P) hL hI' Y.X.fn.results.toList vs hvs
  have hul:=hu2.length
  have hrunres:(results Y.X.fn a'.tmps).run Y.X.P w' = .ok (zgF us) w':=by
   have hr:results Y.X.fn a'.tmps = (Y.X.fn.results.mapM (zp8 a'.tmps) >>= fun vs => pure (if h:vs.size = 1 then vs[0] else .tuple vs)):=by
    unfold results
    congr 2
   have hmap:(Y.X.fn.results.mapM (zp8 a'.tmps)).run Y.X.P w' = .ok us.toArray w':=by
    rw [Array.mapM_eq_mapM_toList,map_eq_pure_bind]
    simp only [Sem.run_bind,hu1,Result.andThen,Sem.run_pure]
   rw [hr]
   simp only [Sem.run_bind,hmap,Result.andThen,Sem.run_pure]
   congr 1
   match us with
   | [] => rfl
   | [u] => rfl
   | _ :: _ :: _ => simp [zgF]
  have hnt:¬ ∃ n,zdO a'.tmps { σ:=σ',pe:=[] } b n:=fun ⟨n,hn⟩ => hTK'.not (zhO hI' hn).2.1
  have hevr:=EvoC.trans hev' ((zcq hI').weaken (C:=fun c => w0.heap.size ≤ c ∨ c = b) (fun c hc ⟨n,hn⟩ => .inl (zhO hI' hn).2.1))
  refine ⟨hd',_,hrunres,_,rfl,zd9 p' a'.tmps { σ:=σ',pe:=[] },?_,?_,?_,hev.trans hevr (fun _ _ e => e) (fun c hc e => ?_),zlk hI',?_⟩
  ·match us,vs,hul,hu2 with
   | [],[],_,_ => exact ⟨_,rfl,trivial⟩
   | [u],[v],_,hu2 => exact hu2.1
   | u :: u' :: us,v :: v' :: vs,_,hu2 => exact ⟨_,rfl,by simpa using hu2⟩
  ·intro cs h
   simp only at h
   split at h <;> cases h
  ·intro h
   simp only at h
   split at h <;> cases h
  ·rcases e with e | e
   ·exact absurd hc (by omega)
   ·exact e
  ·exact (((hTK'.own (Own':=fun c => ∃ n,zdO a'.tmps { σ:=σ',pe:=[] } c n) hnt).evo (zcq hI')).own (fun h => h))
 cases e with
 | exit i => cases h2
 | norm => exact hfin (fun i h => by cases h)
 | ret => exact hfin (fun i h => by cases h)
end Go.Proofs.YtcpcagdialnbeaaGreat
set_option maxRecDepth 100000
namespace Go.Proofs.YtcpcagdialnbeaaGreat
open Go
noncomputable def zAl:CtxT:={ X:={ P:=Tryz.prog,L:=lay,F:=sig.has,E:=ext,fn:=Tryz.f73,lv:=[],jv:=[],tp:=[] },T:=tt,E:=zg0 }
theorem zr8 {n1:Int} {n2:Int} {l3:List (List AC)} {n4:Int} {n5:Int} {l6:List (List AC)} {q:List AC} {r:AV × List AC} (h:( zef (zah q [.cell (.int 5)]) false [(false,[.int 0])] fun q8 n7 => bif (n7 == 0) then zef (zah q8 [.cell (.int 15)]) false [(false,[.int 0])] fun q10 n9 => zao (zaj [.cell (.int n9),.cell (.int n2),.cell (.sl 3 l3)]) false [(true,[.int 0,.int 0,.sl 3 []])] fun n11 n12 l13 => some (.v (.agg [.int n11,.int n12,.sl 3 l13]),q10) else bif (n7 == 1) then zef (za4 q8 [.cell (.sl 1 [[.int 1],[.int (-1)],[.int 1000],[.int 2]])]) false [(false,[.int 0])] fun q15 n14 => zao (zaj [.cell (.int n1),.cell (.int (zae (n2 + n14))),.cell (.sl 3 l3)]) false [(true,[.int 0,.int 0,.sl 3 []])] fun n16 n17 l18 => some (.v (.agg [.int n16,.int n17,.sl 3 l18]),q15) else bif (n7 == 2) then zao (zgU [.cell (.sl 3 l3)]) false [(false,[.sl 3 []])] fun l19 => zao (zbE [.cell (.int 1)]) false [(true,[.int 0,.int 0,.sl 3 []])] fun n20 n21 l22 => zdN l19 [[.int n20,.int n21,.sl 3 l22]] fun l23 => zao (zaj [.cell (.int n1),.cell (.int n2),.cell (.sl 3 l23)]) false [(true,[.int 0,.int 0,.sl 3 []])] fun n24 n25 l26 => some (.v (.agg [.int n24,.int n25,.sl 3 l26]),q8) else bif (n7 == 3) then zef (za4 q8 [.cell (.sl 1 [[.int 0],[.int 1],[.int 2],[.int 5],[.int 100],[.int (-1)]])]) false [(false,[.int 0])] fun q28 n27 => zao (zas [.cell (.int n27)]) false [(true,[.int 0,.int 0,.sl 3 []])] fun n29 n30 l31 => some (.v (.agg [.int n29,.int n30,.sl 3 l31]),q28) else zef (za4 q8 [.cell (.sl 1 [[.int 0],[.int 1000],[.int (-1000)],[.int 5]])]) false [(false,[.int 0])] fun q33 n32 => zao (zbE [.cell (.int n32)]) false [(true,[.int 0,.int 0,.sl 3 []])] fun n34 n35 l36 => some (.v (.agg [.int n34,.int n35,.sl 3 l36]),q33):Option (AV × List AC)) = some r):evT zAl 100000 (.run (zbC 2 (cOf Tryz.f73))) [] [(0,.und),(3,.box [.int n1,.int n2,.sl 3 l3]),(4,.box [.int n4,.int n5,.sl 3 l6])] q = some r:=Eq.trans (by kernel_rfl) h
theorem zFq:(zcd (zbH tt) lay sig (zbC 2 (cOf Tryz.f73)) ⟨[],[],[],85,[],[]⟩).isSome = true:=by kernel_rfl
end Go.Proofs.YtcpcagdialnbeaaGreat
namespace Go.Proofs.YtcpcagdialnbeaaGreat
open Go
theorem zxb {o n:Int} {kids:List (List AC)} (hk:zc8 kids) (hs:kids.length + rsS kids ≤ 100000):zlg [.agg [.int o,.int n,.sl 3 kids]] = some (.v (.agg [.int o,.int n,.sl 3 kids])) :=
 zls (zan (zqQ 100000 (Nat.le_refl _) kids hk hs) rfl)
theorem zA7 (z:Int):inI (zae z):=by
 unfold inI zae
 rw [IntKind.wrap_i64]
 omega
section
variable {ns:List Nat} (hns:ns.length ≤ 2000)
include hns
theorem zxC {o n:Int} {kids:List (List AC)} {n4 n5:Int} {l6:List (List AC)} (hf:Fit .expr [.int o,.int n,.sl 3 kids]) {M:Nat} (hs:1 + kids.length + rsS kids ≤ M) (hM:M ≤ 100000) {p:Nat} (hp:p + 10 ≤ 800000) :
  EG ns p 2 (M + 1) (evT zAl 100000 (.run (zbC 2 (cOf Tryz.f73))) [] [(0,.und),(3,.box [.int o,.int n,.sl 3 kids]),(4,.box [.int n4,.int n5,.sl 3 l6])] (Qr ns p)):=by
 have hf':=hf
 cases hf with
 | expr _ _ _ ho hn hl hk =>
 obtain ⟨x,hx,h1⟩:=zbK hns (p:=p) (by omega) (m:=5) (by omega)
 rcases (by omega:x = 0 ∨ x = 1 ∨ x = 2 ∨ x = 3 ∨ x = 4) with rfl | rfl | rfl | rfl | rfl
 ·obtain ⟨y,hy,h2⟩:=zbK hns (p:=p + 1) (by omega) (m:=15) (by omega)
  exact ⟨_,_,_,_,zr8 (zap h1 (zac rfl (zap h2 (zag (zaA _ _ _) rfl)))),by omega,.expr _ _ _ (by unfold inI; omega) hn hl hk,by omega⟩
 ·obtain ⟨y,hy,h2⟩:=zmi hns (p:=p + 1) (by omega) (xs:=[1,-1,1000,2]) (by simp) (by simp)
  exact ⟨_,_,_,_,zr8 (zap h1 (zaa rfl (zac rfl (zap h2 (zag (zaA _ _ _) rfl))))),by omega,.expr _ _ _ ho (zA7 _) hl hk,by omega⟩
 ·have hsz:=zfc (kids:=kids) (o:=0) (n:=1) (l:=[])
  rw [zaV] at hsz
  have hlen:(kids ++ [[AC.int 0,.int 1,.sl 3 []]]).length = kids.length + 1:=by simp
  refine ⟨_,_,_,_,zr8 (zap h1 (zaa rfl (zaa rfl (zac rfl (zan (zqQ 100000 (Nat.le_refl _) kids hk (by omega)) (zag (zcY _) (zb5 (by simp; omega) (zag (zaA _ _ _) rfl)))))))),by omega,.expr _ _ _ ho hn (by rw [hlen]; unfold zaE; omega) (fun c hc => ?_),by simp only [List.length_nil] at hsz; omega⟩
  rw [List.mem_append,List.mem_singleton] at hc
  rcases hc with hc | rfl
  ·exact hk c hc
  ·exact zaq (by omega) (by omega) (by simp) (fun c hc => by cases hc)
 ·obtain ⟨y,hy,h2⟩:=zmi hns (p:=p + 1) (by omega) (xs:=[0,1,2,5,100,-1]) (by simp) (by simp)
  have hy2:-1 ≤ y ∧ y ≤ 100:=by
   simp only [List.mem_cons,List.not_mem_nil,or_false] at hy
   omega
  exact ⟨_,_,_,_,zr8 (zap h1 (zaa rfl (zaa rfl (zaa rfl (zac rfl (zap h2 (zag (zaU _) rfl))))))),by omega,zcs (by omega),by rw [zaV]; simp⟩
 ·obtain ⟨y,hy,h2⟩:=zmi hns (p:=p + 1) (by omega) (xs:=[0,1000,-1000,5]) (by simp) (by simp)
  have hy2:-1000 ≤ y ∧ y ≤ 1000:=by
   simp only [List.mem_cons,List.not_mem_nil,or_false] at hy
   omega
  exact ⟨_,_,_,_,zr8 (zap h1 (zaa rfl (zaa rfl (zaa rfl (zaa rfl (zap h2 (zag (zcY _) rfl))))))),by omega,zaq (by omega) (by omega) (by simp) (fun c hc => by cases hc),by rw [zaV]; simp⟩
end
end Go.Proofs.YtcpcagdialnbeaaGreat
