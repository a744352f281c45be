/- Generic texts and models for the proofs of this seat: part 27. -/
import Derived.Test.YtcpcagdialnbeaaY26
set_option linter.unusedVariables false
set_option linter.unusedSimpArgs false
set_option linter.unusedSectionVars false
namespace Go.Proofs.Ytcpcagdialnbeaa
open Go
section
variable {ns:List Nat} (hns:ns.length ≤ 2000) {D:List DM} (hD:D ∈ zcJ) {R:List PM} (hR:GR R)
include hns hD hR
set_option maxRecDepth 8000 in
set_option maxHeartbeats 1600000 in
theorem zmh {f:Nat} (hf:f < R.length) {at_:Nat} (hat:at_ < (gP R f).ps.length) {c1 c2:Int} {c3:List (List AC)} {acc:List (List AC)} (ha:zcb acc) (hl:acc.length ≤ 3) (hs:rsS acc ≤ 6) {p:Nat} (hp:p + 3000 ≤ 800000) :
  EG ns p 1400 700 (zba (f:Int) (at_:Int) (zal D) (zaW R) c1 c2 c3 (zah (gP R f).ps) (((gP R f).ps.length:Nat):Int) (zah ((gP R f).ps ++ [0,1])) acc (((gP R f).ps.length:Nat):Int) (Qr ns p)):=by
 obtain ⟨s1,s2,s3⟩:=hR.small hf
 have h4:=hR.len
 have hnil:=zaE
 have hc4:=(zhn 4).2.1 (by omega)
 have hm4:=(zg9 4).2.1 (by omega)
 have hend:decide ((((gP R f).ps.length:Nat):Int) < (((gP R f).ps.length:Nat):Int)) = false:=decide_eq_false (by omega)
 have hA:Fit .expr [.int 9,.int (f:Int),.sl 3 acc]:=zaj (by omega) (by omega) (by omega) ha
 have hV:((gP R f).ps ++ [0,1]).length ≤ 5:=by rw [List.length_append]; simp; omega
 by_cases hr:(gP R f).r = 1
 ·obtain ⟨x,hx,h1⟩:=zbi hns (p:=p) (by omega) (m:=5) (by omega)
  by_cases hx0:0 < x
  ·obtain ⟨o,n,l,p1,g1,g2,g3,g4⟩:=zfB hns hD hR 4 (by omega) ((gP R f).ps ++ [0,1]) 0 (p + 1) (by omega) (by omega) (by omega)
   obtain ⟨o2,n2,l2,p2,k1,k2,k3,k4⟩:=zfB hns hD hR 4 (by omega) (gP R f).ps (gP R f).r p1 (by omega) (by omega) (by omega)
   have hcon:Fit .expr [.int 6,.int 1,.sl 3 [[.int o,.int n,.sl 3 l],[.int 9,.int (f:Int),.sl 3 acc]]]:=zaj (by omega) (by omega) (by simp) (zj1 g3 hA)
   by_cases h1n:1 < (gP R f).ps.length
   ·have hz:0 < (gP R f).ps.length:=by omega
    by_cases h2:(gP R f).ps[0] = 2
    ·have happ:Fit .expr [.int 11,.int 0,.sl 3 [[.int 12,.int 0,.sl 3 []],[.int 12,.int (((gP R f).ps.length:Nat):Int),.sl 3 []]]]:=zaj (by omega) (by omega) (by simp) (zj1 (zbN (by omega)) (zbN (by omega)))
     have hcon2:Fit .expr [.int 6,.int 1,.sl 3 [[.int 11,.int 0,.sl 3 [[.int 12,.int 0,.sl 3 []],[.int 12,.int (((gP R f).ps.length:Nat):Int),.sl 3 []]]],[.int 9,.int (f:Int),.sl 3 acc]]]:=zaj (by omega) (by omega) (by simp) (zj1 happ hA)
     refine ⟨8,1,_,p2,zaP (zab hend (zaa (zar _ _ _) (zaZ rfl hf (zaf (by rw [beq_iff_eq]; exact hr) (zai h1 (zaf (decide_eq_true (by omega)) (zax g1 (zaf (decide_eq_true (by omega)) (zbm (k:=0) hz (zaf (by rw [beq_iff_eq]; exact h2) (zaa (zaD _) (zaa (zaD _) (zaa (zar _ _ _) (zaa (zar _ _ _) (zaa (zaD _) (zaZ rfl hf (zax k1 (zaa (zar _ _ _) rfl)))))))))))))))))),by omega,zaj (by omega) (by omega) (by simp) (zka (zbN (by omega)) k3 hcon2),?_⟩
     rw [rs3,rs2,rs2]
     simp
     omega
    ·refine ⟨8,1,_,p2,zaP (zab hend (zaa (zar _ _ _) (zaZ rfl hf (zaf (by rw [beq_iff_eq]; exact hr) (zai h1 (zaf (decide_eq_true (by omega)) (zax g1 (zaf (decide_eq_true (by omega)) (zbm (k:=0) hz (zab (by rw [beq_eq_false_iff_ne]; exact h2) (zaa (zar _ _ _) (zaa (zaD _) (zaZ rfl hf (zax k1 (zaa (zar _ _ _) rfl))))))))))))))),by omega,zaj (by omega) (by omega) (by simp) (zka (zbN (by omega)) k3 hcon),?_⟩
     rw [rs3,rs2]
     simp
     omega
   ·refine ⟨8,1,_,p2,zaP (zab hend (zaa (zar _ _ _) (zaZ rfl hf (zaf (by rw [beq_iff_eq]; exact hr) (zai h1 (zaf (decide_eq_true (by omega)) (zax g1 (zab (decide_eq_false (by omega)) (zaa (zar _ _ _) (zaa (zaD _) (zaZ rfl hf (zax k1 (zaa (zar _ _ _) rfl))))))))))))),by omega,zaj (by omega) (by omega) (by simp) (zka (zbN (by omega)) k3 hcon),?_⟩
    rw [rs3,rs2]
    simp
    omega
  ·obtain ⟨o2,n2,l2,p2,k1,k2,k3,k4⟩:=zfB hns hD hR 4 (by omega) (gP R f).ps (gP R f).r (p + 1) (by omega) (by omega) (by omega)
   refine ⟨8,1,_,p2,zaP (zab hend (zaa (zar _ _ _) (zaZ rfl hf (zaf (by rw [beq_iff_eq]; exact hr) (zai h1 (zab (decide_eq_false (by omega)) (zaZ rfl hf (zab (by rw [beq_eq_false_iff_ne]; omega) (zaa (zaD _) (zaZ rfl hf (zax k1 (zaa (zar _ _ _) rfl)))))))))))),by omega,zaj (by omega) (by omega) (by simp) (zka (zbN (by omega)) k3 hA),?_⟩
   rw [rs3]
   simp
   omega
 ·by_cases hr0:(gP R f).r = 0
  ·obtain ⟨op,hop,h1⟩:=zhV hns (p:=p) (by omega) (xs:=[1,2]) (by simp) (by simp)
   have hop2:1 ≤ op ∧ op ≤ 2:=by
    simp only [List.mem_cons,List.not_mem_nil,or_false] at hop
    omega
   obtain ⟨o,n,l,p1,g1,g2,g3,g4⟩:=zfB hns hD hR 4 (by omega) ((gP R f).ps ++ [0,1]) 0 (p + 1) (by omega) (by omega) (by omega)
   obtain ⟨o2,n2,l2,p2,k1,k2,k3,k4⟩:=zfB hns hD hR 4 (by omega) (gP R f).ps (gP R f).r p1 (by omega) (by omega) (by omega)
   have hcon:Fit .expr [.int op,.int 0,.sl 3 [[.int o,.int n,.sl 3 l],[.int 9,.int (f:Int),.sl 3 acc]]]:=zaj (by omega) (by omega) (by simp) (zj1 g3 hA)
   refine ⟨8,1,_,p2,zaP (zab hend (zaa (zar _ _ _) (zaZ rfl hf (zab (by rw [beq_eq_false_iff_ne]; exact hr) (zaZ rfl hf (zaf (by rw [beq_iff_eq]; exact hr0) (zai h1 (zax g1 (zaa (zar _ _ _) (zaa (zaD _) (zaZ rfl hf (zax k1 (zaa (zar _ _ _) rfl))))))))))))),by omega,zaj (by omega) (by omega) (by simp) (zka (zbN (by omega)) k3 hcon),?_⟩
   rw [rs3,rs2]
   simp
   omega
  ·obtain ⟨o2,n2,l2,p2,k1,k2,k3,k4⟩:=zfB hns hD hR 4 (by omega) (gP R f).ps (gP R f).r p (by omega) (by omega) (by omega)
   refine ⟨8,1,_,p2,zaP (zab hend (zaa (zar _ _ _) (zaZ rfl hf (zab (by rw [beq_eq_false_iff_ne]; exact hr) (zaZ rfl hf (zab (by rw [beq_eq_false_iff_ne]; exact hr0) (zaa (zaD _) (zaZ rfl hf (zax k1 (zaa (zar _ _ _) rfl)))))))))),by omega,zaj (by omega) (by omega) (by simp) (zka (zbN (by omega)) k3 hA),?_⟩
   rw [rs3]
   simp
   omega
set_option maxRecDepth 8000 in
theorem zm8 {f:Nat} (hf:f < R.length) {at_:Nat} (hat:at_ < (gP R f).ps.length) {c1 c2:Int} {c3:List (List AC)}:∀ m k:Nat,k + m = (gP R f).ps.length → ∀ (acc:List (List AC)),zcb acc → acc.length = k → rsS acc ≤ 2 * k → ∀ p:Nat,p + m + 3000 ≤ 800000 →
  EG ns p (m + 1400) 700 (zba (f:Int) (at_:Int) (zal D) (zaW R) c1 c2 c3 (zah (gP R f).ps) (((gP R f).ps.length:Nat):Int) (zah ((gP R f).ps ++ [0,1])) acc (k:Int) (Qr ns p)):=by
 obtain ⟨s1,s2,s3⟩:=hR.small hf
 have hnil:=zaE
 intro m
 induction m with
 | zero =>
  intro k hk acc ha hl hs p hp
  obtain rfl:k = (gP R f).ps.length:=by omega
  exact (zmh hns hD hR hf hat ha (by omega) (by omega) (by omega)).le (by omega) (by omega)
 | succ m ih =>
  intro k hk acc ha hl hs p hp
  have hlt:k < (gP R f).ps.length:=by omega
  have hgo:decide ((k:Int) < (((gP R f).ps.length:Nat):Int)) = true:=decide_eq_true (by omega)
  have hstep:∀ (o n:Int) (l:List (List AC)),Fit .expr [.int o,.int n,.sl 3 l] → l.length + rsS l ≤ 2 → ∀ p':Nat,p' ≤ p + 1 → EG ns p (m + 1 + 1400) 700 (zba (f:Int) (at_:Int) (zal D) (zaW R) c1 c2 c3 (zah (gP R f).ps) (((gP R f).ps.length:Nat):Int) (zah ((gP R f).ps ++ [0,1])) (acc ++ [[.int o,.int n,.sl 3 l]]) (zag ((k:Int) + 1)) (Qr ns p')):=fun o n l hfl hsl p' hp' => by
   have hsz:=zdw (kids:=acc) (o:=o) (n:=n) (l:=l)
   have hlen:(acc ++ [[AC.int o,.int n,.sl 3 l]]).length = k + 1:=by simp; omega
   have hnx:=ih (k + 1) (by omega) (acc ++ [[.int o,.int n,.sl 3 l]]) (zd4 ha hfl) hlen (by omega) p' (by omega)
   rw [← wrk (by unfold zbd; omega)] at hnx
   exact EG.same hnx (by omega) (by omega) fun o n kids q h => h
  by_cases hka:k = at_
  ·have hw:zag ((((gP R f).ps.length:Nat):Int) + 1) = (((gP R f).ps.length + 1:Nat):Int):=by rw [wr (by omega) (by omega)]; omega
   refine EG.same (hstep 12 (((gP R f).ps.length + 1:Nat):Int) [] (zbN (by omega)) (by simp [zaE]) p (by omega)) (by omega) (by omega) fun o n kids q h => zaP (zaf hgo (zaf (by rw [beq_iff_eq]; omega) ?_))
   rw [hw]
   exact zaa (zaD _) (zdf (by simp; omega) h)
  ·have hne:(((k:Nat):Int) == ((at_:Nat):Int)) = false:=by rw [beq_eq_false_iff_ne]; omega
   by_cases h0:(gP R f).ps[k] = 0
   ·obtain ⟨x,hx,h1⟩:=zbi hns (p:=p) (by omega) (m:=2) (by omega)
    by_cases hx0:x = 0
    ·subst hx0
     have hadd:Fit .expr [.int 1,.int 0,.sl 3 [[.int 12,.int (k:Int),.sl 3 []],[.int 12,.int (((gP R f).ps.length:Nat):Int),.sl 3 []]]]:=zaj (by omega) (by omega) (by simp) (zj1 (zbN (by omega)) (zbN (by omega)))
     exact EG.same (hstep 1 0 _ hadd (by rw [rs2]; simp [zaE]) (p + 1) (by omega)) (by omega) (by omega) fun o n kids q h => zaP (zaf hgo (zab hne (zbm hlt (zaf (by rw [beq_iff_eq]; exact h0) (zai h1 (zaf rfl (zaa (zaD _) (zaa (zaD _) (zaa (zar _ _ _) (zdf (by simp; omega) h))))))))))
    ·exact EG.same (hstep 12 (k:Int) [] (zbN (by omega)) (by simp [zaE]) (p + 1) (by omega)) (by omega) (by omega) fun o n kids q h => zaP (zaf hgo (zab hne (zbm hlt (zaf (by rw [beq_iff_eq]; exact h0) (zai h1 (zab (by rw [beq_eq_false_iff_ne]; omega) (zaa (zaD _) (zdf (by simp; omega) h))))))))
   ·exact EG.same (hstep 12 (k:Int) [] (zbN (by omega)) (by simp [zaE]) p (by omega)) (by omega) (by omega) fun o n kids q h => zaP (zaf hgo (zab hne (zbm hlt (zab (by rw [beq_eq_false_iff_ne]; exact h0) (zaa (zaD _) (zdf (by simp; omega) h))))))
set_option maxRecDepth 8000 in
theorem zqg {f:Nat} (hf:f < R.length) {at_:Nat} (hat:at_ < (gP R f).ps.length) {p:Nat} (hp:p + 4000 ≤ 800000):EG ns p 1500 700 (zgZ (Qr ns p) [pgC D R,.cell (.int (f:Int)),.cell (.int (at_:Int))]):=by
 obtain ⟨s1,s2,s3⟩:=hR.small hf
 have h:=zm8 hns hD hR hf hat (c1:=0) (c2:=0) (c3:=[]) (gP R f).ps.length 0 (by omega) [] (fun b hb => by cases hb) rfl (by simp [zaE]) p (by omega)
 refine EG.same h (by omega) (by omega) fun o n kids q h => zj5 (zaZ rfl hf ?_)
 rw [zac]
 exact zaU (zmL (gP R f).ps [0,1] (by simp; omega)) h
theorem zs4 (xs:List Int) (n:Int) (hx:xs.length ≤ 1048576):∃ r:Int,zhs [.cell (.sl 1 (zah xs)),.cell (.int n)] = rI r ∧ (r = -1 ∨ ∃ k:Nat,k < xs.length ∧ r = (k:Int)):=by
 have key:∀ m k:Nat,k + m = xs.length → ∃ r:Int,zdQ (zah xs) n (k:Int) = rI r ∧ (r = -1 ∨ ∃ k:Nat,k < xs.length ∧ r = (k:Int)):=by
  intro m
  induction m with
  | zero => intro k hk; exact ⟨-1,zdZ (zab (decide_eq_false (by rw [zac]; omega)) rfl),.inl rfl⟩
  | succ m ih =>
   intro k hk
   have hlt:k < xs.length:=by omega
   rcases e:(xs[k] == n) with _ | _
   ·obtain ⟨r,h1,h2⟩:=ih (k + 1) (by omega)
    rw [← wrk (by unfold zbd; omega)] at h1
    exact ⟨r,zdZ (zaf (decide_eq_true (by rw [zac]; omega)) (zbm hlt (zab e h1))),h2⟩
   ·exact ⟨(k:Int),zdZ (zaf (decide_eq_true (by rw [zac]; omega)) (zbm hlt (zaf e rfl))),.inr ⟨k,hlt,rfl⟩⟩
 obtain ⟨r,h1,h2⟩:=key xs.length 0 (by omega)
 exact ⟨r,zlo h1,h2⟩
set_option maxRecDepth 8000 in
theorem zpy {f:Nat} (hf:f < R.length) {c1 c2:Int} {c3 l25:List (List AC)} {p p0:Nat} {C:Nat} {x:Option (AV × List AC)} (h:EG ns p C 900 x) (hp:p + C + 10000 ≤ 800000) {X:Option (AV × List AC)}
  (hX:∀ o n l q r,x = some (.v (.agg [.int o,.int n,.sl 3 l]),q) → zbS (zal D) (zaW R) c1 c2 l25 (zah (gP R f).ps) (gP R f).r o n l q = some r → X = some r):EG ns p (C + 6100) 900 X:=by
 obtain ⟨s1,s2,s3⟩:=hR.small hf
 obtain ⟨o,n,l,p1,h1,h2,h3,h4⟩:=h
 have hn:=znk h3
 by_cases h0:zvj [.int o,.int n,.sl 3 l] < 0
 ·obtain ⟨o2,n2,l2,p2,g1,g2,g3,g4⟩:=znI hns hD hR (V:=(gP R f).ps) (by omega) (t:=(gP R f).r) (by omega) (b:=12) (by omega) (p:=p1) (by omega)
  have e1:p2 ≤ p + (C + 6100):=Nat.le_trans g2 (Nat.le_trans (Nat.add_le_add_right h2 6100) (Nat.le_of_eq (Nat.add_assoc p C 6100)))
  exact ⟨o2,n2,l2,p2,hX o n l _ _ h1 (zgr (zfD hn (zaf (decide_eq_true h0) (zax g1 rfl)))),e1,g3,by clear hX h1 g1 hn hp; omega⟩
 ·exact ⟨o,n,l,p1,hX o n l _ _ h1 (zgr (zfD hn (zab (decide_eq_false h0) rfl))),by omega,h3,h4⟩
set_option maxRecDepth 8000 in
set_option maxHeartbeats 1600000 in
theorem zsI {f:Nat} (hf:f < R.length) {p:Nat} (hp:p + 30000 ≤ 800000):EG ns p 13000 900 (zkN (Qr ns p) [pgC D R,.cell (.int (f:Int))]):=by
 obtain ⟨s1,s2,s3⟩:=hR.small hf
 obtain ⟨a,ha,ha2⟩:=zs4 hns hD hR (gP R f).ps 1 (by omega)
 obtain ⟨x,hx,h1⟩:=zbi hns (p:=p) (by omega) (m:=4) (by omega)
 -- the last choice
 have J13:∀ (b:Bool) (e1 e2:Int) (e3:List (List AC)),(b = true → 0 < (gP R f).ps.length) → EG ns (p + 1) 12200 900 (zbR (f:Int) (zal D) (zaW R) 0 0 [] (zah (gP R f).ps) (gP R f).r e1 e2 e3 b (Qr ns (p + 1))):=fun b e1 e2 e3 hb => by
  cases b with
  | true => exact (zpy hns hD hR hf (c1:=0) (c2:=0) (c3:=[]) (l25:=[]) (p0:=0) ((zqi hns hD hR hf (hb rfl) (p:=p + 1) (by omega)).le (C':=6100) (M':=900) (by omega) (by omega)) (by omega) fun o n l q r h hJ => zgB (zaf rfl (zax h hJ))).le (by omega) (by omega)
  | false => exact (zpy hns hD hR hf (c1:=0) (c2:=0) (c3:=[]) (l25:=[]) (p0:=0) ((znI hns hD hR (V:=(gP R f).ps) (by omega) (t:=(gP R f).r) (by omega) (b:=18) (by omega) (p:=p + 1) (by omega)).le (C':=6100) (M':=900) (by omega) (by omega)) (by omega) fun o n l q r h hJ => zgB (zab rfl (zax h hJ))).le (by omega) (by omega)
 have same:∀ {X Y:Option (AV × List AC)},EG ns (p + 1) 12200 900 Y → (∀ r,Y = some r → X = some r) → EG ns (p + 1) 12200 900 X:=fun h hXY => by
  obtain ⟨o,n,l,p1,h1,h2,h3,h4⟩:=h
  exact ⟨o,n,l,p1,hXY _ h1,h2,h3,h4⟩
 have J11:∀ (b:Bool) (e1 e2:Int) (e3:List (List AC)),(b = true → 0 < (gP R f).ps.length) → EG ns (p + 1) 12200 900 (zbT (f:Int) (zal D) (zaW R) 0 0 [] (zah (gP R f).ps) (gP R f).r e1 e2 e3 (x:Int) b (Qr ns (p + 1))):=fun b e1 e2 e3 hb => by
  cases b with
  | true => exact (zpy hns hD hR hf (c1:=0) (c2:=0) (c3:=[]) (l25:=[]) (p0:=0) ((zqC hns hD hR hf (hb rfl) (p:=p + 1) (by omega)).le (C':=6100) (M':=900) (by omega) (by omega)) (by omega) fun o n l q r h hJ => zbG (zaf rfl (zax h hJ))).le (by omega) (by omega)
  | false =>
   by_cases hx3:x < 3
   ·have hx3':decide (((x:Nat):Int) < 3) = true:=decide_eq_true (by omega)
    by_cases hz:0 < (gP R f).ps.length
    ·have hz':decide (((((zah (gP R f).ps).length:Nat):Int)) > 0) = true:=decide_eq_true (by rw [zac]; omega)
     by_cases h0:(gP R f).ps[0] = 0
     ·by_cases hr0:(gP R f).r = 0
      ·exact same (J13 true e1 e2 e3 (fun _ => hz)) fun r h => zbG (zab rfl (zaf hx3' (zaf hz' (zbm (k:=0) hz (zaf (by rw [beq_iff_eq]; exact h0) (zaf (by rw [beq_iff_eq]; exact hr0) h))))))
      ·exact same (J13 _ e1 e2 e3 (fun _ => hz)) fun r h => zbG (zab rfl (zaf hx3' (zaf hz' (zbm (k:=0) hz (zaf (by rw [beq_iff_eq]; exact h0) (zab (by rw [beq_eq_false_iff_ne]; exact hr0) h))))))
     ·exact same (J13 false e1 e2 e3 (fun h => by cases h)) fun r h => zbG (zab rfl (zaf hx3' (zaf hz' (zbm (k:=0) hz (zab (by rw [beq_eq_false_iff_ne]; exact h0) h)))))
    ·exact same (J13 false e1 e2 e3 (fun h => by cases h)) fun r h => zbG (zab rfl (zaf hx3' (zab (decide_eq_false (by rw [zac]; omega)) h)))
   ·exact same (J13 false e1 e2 e3 (fun h => by cases h)) fun r h => zbG (zab rfl (zab (decide_eq_false (by omega)) h))
 have J9:∀ (b:Bool) (e1 e2:Int) (e3:List (List AC)),(b = true → 0 ≤ a) → EG ns (p + 1) 12200 900 (zcA (f:Int) (zal D) (zaW R) 0 0 [] (zah (gP R f).ps) (gP R f).r a e1 e2 e3 (x:Int) b (Qr ns (p + 1))):=fun b e1 e2 e3 hb => by
  cases b with
  | true =>
   obtain ⟨k,hk,hak⟩:∃ k:Nat,k < (gP R f).ps.length ∧ a = (k:Int):=by
    rcases ha2 with h | h
    ·have:=hb rfl; omega
    ·exact h
   subst hak
   exact (zpy hns hD hR hf (c1:=0) (c2:=0) (c3:=[]) (l25:=[]) (p0:=0) ((zqg hns hD hR hf hk (p:=p + 1) (by omega)).le (C':=6100) (M':=900) (by omega) (by omega)) (by omega) fun o n l q r h hJ => zbP (zaf rfl (zax h hJ))).le (by omega) (by omega)
  | false =>
   by_cases hx3:x < 3
   ·have hx3':decide (((x:Nat):Int) < 3) = true:=decide_eq_true (by omega)
    by_cases hz:0 < (gP R f).ps.length
    ·have hz':decide (((((zah (gP R f).ps).length:Nat):Int)) > 0) = true:=decide_eq_true (by rw [zac]; omega)
     by_cases h0:(gP R f).ps[0] = 3
     ·by_cases hr0:(gP R f).r = 0
      ·exact same (J11 true e1 e2 e3 (fun _ => hz)) fun r h => zbP (zab rfl (zaf hx3' (zaf hz' (zbm (k:=0) hz (zaf (by rw [beq_iff_eq]; exact h0) (zaf (by rw [beq_iff_eq]; exact hr0) h))))))
      ·exact same (J11 _ e1 e2 e3 (fun _ => hz)) fun r h => zbP (zab rfl (zaf hx3' (zaf hz' (zbm (k:=0) hz (zaf (by rw [beq_iff_eq]; exact h0) (zab (by rw [beq_eq_false_iff_ne]; exact hr0) h))))))
     ·exact same (J11 false e1 e2 e3 (fun h => by cases h)) fun r h => zbP (zab rfl (zaf hx3' (zaf hz' (zbm (k:=0) hz (zab (by rw [beq_eq_false_iff_ne]; exact h0) h)))))
    ·exact same (J11 false e1 e2 e3 (fun h => by cases h)) fun r h => zbP (zab rfl (zaf hx3' (zab (decide_eq_false (by rw [zac]; omega)) h)))
   ·exact same (J11 false e1 e2 e3 (fun h => by cases h)) fun r h => zbP (zab rfl (zab (decide_eq_false (by omega)) h))
 have J7:∀ (b:Bool) (e1 e2:Int) (e3:List (List AC)),EG ns (p + 1) 12200 900 (zej (f:Int) (zal D) (zaW R) 0 0 [] (zah (gP R f).ps) (gP R f).r a e1 e2 e3 (x:Int) b (Qr ns (p + 1))):=fun b e1 e2 e3 => by
  cases b with
  | true => exact (zpy hns hD hR hf (c1:=0) (c2:=0) (c3:=[]) (l25:=[]) (p0:=0) ((zp1 hns hD hR (p:=p + 1) (by omega)).le (C':=6100) (M':=900) (by omega) (by omega)) (by omega) fun o n l q r h hJ => zcm (zaf rfl (zax h hJ))).le (by omega) (by omega)
  | false =>
   by_cases hx3:x < 3
   ·have hx3':decide (((x:Nat):Int) < 3) = true:=decide_eq_true (by omega)
    by_cases ha0:0 ≤ a
    ·by_cases hr0:(gP R f).r = 0
     ·exact same (J9 true e1 e2 e3 (fun _ => ha0)) fun r h => zcm (zab rfl (zaf hx3' (zaf (decide_eq_true ha0) (zaf (by rw [beq_iff_eq]; exact hr0) h))))
     ·exact same (J9 _ e1 e2 e3 (fun _ => ha0)) fun r h => zcm (zab rfl (zaf hx3' (zaf (decide_eq_true ha0) (zab (by rw [beq_eq_false_iff_ne]; exact hr0) h))))
    ·exact same (J9 false e1 e2 e3 (fun h => by cases h)) fun r h => zcm (zab rfl (zaf hx3' (zab (decide_eq_false ha0) h)))
   ·exact same (J9 false e1 e2 e3 (fun h => by cases h)) fun r h => zcm (zab rfl (zab (decide_eq_false (by omega)) h))
 have fin:∀ {X Y:Option (AV × List AC)},EG ns (p + 1) 12200 900 Y → (∀ r,Y = some r → X = some r) → EG ns p 13000 900 X:=fun h hXY => by
  obtain ⟨o,n,l,p1,h1,h2,h3,h4⟩:=h
  exact ⟨o,n,l,p1,hXY _ h1,by omega,h3,h4⟩
 by_cases hx3:x < 3
 ·exact fin (J7 ((f:Int) == 0) 0 0 []) fun r h => zh5 (zaZ rfl hf (zaZ rfl hf (zfD ha (zaa (zb1 _) (zai h1 (zaf (decide_eq_true (by omega)) h))))))
 ·exact fin (J7 false 0 0 []) fun r h => zh5 (zaZ rfl hf (zaZ rfl hf (zfD ha (zaa (zb1 _) (zai h1 (zab (decide_eq_false (by omega)) h))))))
end
end Go.Proofs.Ytcpcagdialnbeaa
namespace Go.Proofs.Ytcpcagdialnbeaa
open Go
theorem zkX:∀ N:Nat,N ≤ 100000 → ∀ l:List (List AC),zcb l → l.length + rsS l ≤ N → zeg [.cell (.sl 3 l)] = some (.v (.cell (.sl 3 l))):=by
 intro N
 induction N using Nat.strongRecOn with
 | _ N ihN =>
  intro hN l hl hs
  have key:∀ m k:Nat,k + m = l.length → zc8 l (l.take k) (k:Int) = some (.v (.cell (.sl 3 l))):=by
   intro m
   induction m with
   | zero =>
    intro k hk
    refine ze9 (zab (decide_eq_false (by omega)) ?_)
    rw [List.take_of_length_le (by omega)]
   | succ m ih =>
    intro k hk
    have hlt:k < l.length:=by omega
    have hmem:l[k] ∈ l:=List.getElem_mem hlt
    have hf:=hl _ hmem
    have hle:=zlC hmem
    have hn:=ih (k + 1) (by omega)
    rw [List.take_succ_eq_append_getElem hlt] at hn
    have hg:l.getD k [] = l[k]:=by simp [List.getD,hlt]
    generalize hr:l[k] = row at *
    cases hf with
    | expr o n kids ho hno hkl hk2 =>
     have hc:kids.length + rsS kids < l.length + rsS l:=by
      have:cS [AC.int o,.int n,.sl 3 kids] = kids.length + rsS kids:=by simp [cS,rsS,acS,acS.cS,acS.rsS]
      omega
     refine ze9 (zaf (decide_eq_true (by omega)) (ztT hlt (by rw [hg]) (zaa (zhl (zaU (ihN (kids.length + rsS kids) (by omega) (by omega) kids hk2 (Nat.le_refl _)) rfl)) (zdf (by simp; omega) ?_))))
     rw [wrk (by unfold zbd; omega)]
     exact hn
  exact zjL (key l.length 0 (by omega))
end Go.Proofs.Ytcpcagdialnbeaa
namespace Go.Proofs.Ytcpcagdialnbeaa
open Go Go.RowKit
def zhj:Nat → Code → Code
 | n + 1,.seq _ b => zhj n b
 | _,c => c
theorem zvX {Y:CtxT} {S:Sig} (hP:Y.X.P.follows .mixedOrders = true) (hL:LayOk Y.X.P Y.X.L) (hC:zaR Y.X.P S (V Y.X.P Y.X.L Y.X.F Y.X.E)) (hA:ztz Y.X.P Y.X.L S Y.T Y.E) {c:Code} {n:Nat} {o:Ov} {q:List AC} {r:AV × List AC}
  (he:evT Y n (.run c) [] o q = some r) {σ:List AV} (hl:σ.length = Y.X.fn.ntmps) (hag:AgO o σ) {st:Stt} {O:Out} (ht:zbU (zbe Y.T) Y.X.L S c st = some O)
  {p0 p:Stb} {w0 w:World} {a:Act} {b:Nat} (hI:InvC st p w a.tmps (σ,q) (fun x => w0.heap.size ≤ x) b) (hd:a.defers = []) (hev:Evo (· = b) p0 w0 p w) :
  c.wp Y.X.P (bodyPost Y.X.P Y.X.fn fun e w' => ∃ v,e = .returned v ∧ ∃ p',SR p' w' v r.1 ∧ (∀ cs,r.1 ≠ .box cs) ∧ r.1 ≠ .und ∧ Evo (· = b) p0 w0 p' w' ∧ Zp p' w' ∧ TK p' w' (fun _ => False) b r.2) a w:=by
 have h1:=zb6 n _ _ _ _ _ he σ hl hag
 simp only [Option.bind_eq_some_iff] at h1
 obtain ⟨⟨e,σ',q'⟩,h1,h2⟩:=h1
 unfold CtxT.vc at h1
 obtain ⟨m,h1⟩:=TVC_iff.1 h1
 refine zmy hP hL hC (zlx hP hL hC hA m) m c (σ,q) e (σ',q') st O h1 ht p w a hI hd _ fun st' a' w' p' hat hIC hev' hd' => ?_
 obtain ⟨hI',_,hTK'⟩:=hIC
 have h2:zmF Y.X.L Y.X.fn (e,(σ',q')) = some r:=h2
 have hfin:(∀ i,e ≠ .exit i) → a'.defers = [] ∧ ∃ v,(results Y.X.fn a'.tmps).run Y.X.P w' = .ok v w' ∧ ∃ v',Ending.returned v = .returned v' ∧ ∃ p',SR p' w' v' r.1 ∧ (∀ cs,r.1 ≠ .box cs) ∧ r.1 ≠ .und ∧ Evo (· = b) p0 w0 p' w' ∧ Zp p' w' ∧ TK p' w' (fun _ => False) b r.2:=by
  intro hne
  have hres':∃ vs,zdy Y.X.L σ' Y.X.fn.results.toList = some vs ∧ r = ((match vs with | [v] => .v v | vs => .tup vs),q'):=by
   cases e with
   | exit i => exact absurd rfl (hne i)
   | norm =>
    simp only [zmF,Option.map_eq_some_iff] at h2
    obtain ⟨vs,h1,h2⟩:=h2
    exact ⟨vs,h1,h2.symm⟩
   | ret =>
    simp only [zmF,Option.map_eq_some_iff] at h2
    obtain ⟨vs,h1,h2⟩:=h2
    exact ⟨vs,h1,h2.symm⟩
  obtain ⟨vs,hvs,rfl⟩:=hres'
  obtain ⟨us,hu1,hu2,hu3⟩:=zhZ (P:=Y.X.P) hL hI' Y.X.fn.results.toList vs hvs
  have hul:=hu2.length
  have hrunres:(results Y.X.fn a'.tmps).run Y.X.P w' = .ok (zeo us) w':=by
   have hr:results Y.X.fn a'.tmps = (Y.X.fn.results.mapM (zkq a'.tmps) >>= fun vs => pure (if h:vs.size = 1 then vs[0] else .tuple vs)):=by
    unfold results
    congr 2
   have hmap:(Y.X.fn.results.mapM (zkq a'.tmps)).run Y.X.P w' = .ok us.toArray w':=by
    rw [Array.mapM_eq_mapM_toList,map_eq_pure_bind]
    simp only [Sem.run_bind,hu1,Result.andThen,Sem.run_pure]
   rw [hr]
   simp only [Sem.run_bind,hmap,Result.andThen,Sem.run_pure]
   congr 1
   match us with
   | [] => rfl
   | [u] => rfl
   | _ :: _ :: _ => simp [zeo]
  have hnt:¬ ∃ n,zcG a'.tmps { σ:=σ',pe:=[] } b n:=fun ⟨n,hn⟩ => hTK'.not (zeX hI' hn).2.1
  have hevr:=EvoC.trans hev' ((zbK hI').weaken (C:=fun c => w0.heap.size ≤ c ∨ c = b) (fun c hc ⟨n,hn⟩ => .inl (zeX hI' hn).2.1))
  refine ⟨hd',_,hrunres,_,rfl,zcT p' a'.tmps { σ:=σ',pe:=[] },?_,?_,?_,hev.trans hevr (fun _ _ e => e) (fun c hc e => ?_),zg8 hI',?_⟩
  ·match us,vs,hul,hu2 with
   | [],[],_,_ => exact ⟨_,rfl,trivial⟩
   | [u],[v],_,hu2 => exact hu2.1
   | u :: u' :: us,v :: v' :: vs,_,hu2 => exact ⟨_,rfl,by simpa using hu2⟩
  ·intro cs h
   simp only at h
   split at h <;> cases h
  ·intro h
   simp only at h
   split at h <;> cases h
  ·rcases e with e | e
   ·exact absurd hc (by omega)
   ·exact e
  ·exact (((hTK'.own (Own':=fun c => ∃ n,zcG a'.tmps { σ:=σ',pe:=[] } c n) hnt).evo (zbK hI')).own (fun h => h))
 cases e with
 | exit i => cases h2
 | norm => exact hfin (fun i h => by cases h)
 | ret => exact hfin (fun i h => by cases h)
end Go.Proofs.Ytcpcagdialnbeaa
set_option maxRecDepth 100000
namespace Go.Proofs.Ytcpcagdialnbeaa
open Go
noncomputable def zts:CtxT:={ X:={ P:=Try.prog,L:=lay,F:=sig.has,E:=ext,fn:=Try.f30,lv:=[],jv:=[],tp:=[] },T:=tt,E:=zex }
theorem zmg {n1:Int} {n2:Int} {l3:List (List AC)} {n4:Int} {n5:Int} {l6:List (List AC)} {q:List AC} {r:AV × List AC} (h:( zcO (zad q [.cell (.int 5)]) false [(false,[.int 0])] fun q8 n7 => bif (n7 == 0) then zcO (zad q8 [.cell (.int 15)]) false [(false,[.int 0])] fun q10 n9 => za8 (zae [.cell (.int n9),.cell (.int n2),.cell (.sl 3 l3)]) false [(true,[.int 0,.int 0,.sl 3 []])] fun n11 n12 l13 => some (.v (.agg [.int n11,.int n12,.sl 3 l13]),q10) else bif (n7 == 1) then zcO (zaL q8 [.cell (.sl 1 [[.int 1],[.int (-1)],[.int 1000],[.int 2]])]) false [(false,[.int 0])] fun q15 n14 => za8 (zae [.cell (.int n1),.cell (.int (zag (n2 + n14))),.cell (.sl 3 l3)]) false [(true,[.int 0,.int 0,.sl 3 []])] fun n16 n17 l18 => some (.v (.agg [.int n16,.int n17,.sl 3 l18]),q15) else bif (n7 == 2) then za8 (zeg [.cell (.sl 3 l3)]) false [(false,[.sl 3 []])] fun l19 => za8 (zbc [.cell (.int 1)]) false [(true,[.int 0,.int 0,.sl 3 []])] fun n20 n21 l22 => zfO l19 [[.int n20,.int n21,.sl 3 l22]] fun l23 => za8 (zae [.cell (.int n1),.cell (.int n2),.cell (.sl 3 l23)]) false [(true,[.int 0,.int 0,.sl 3 []])] fun n24 n25 l26 => some (.v (.agg [.int n24,.int n25,.sl 3 l26]),q8) else bif (n7 == 3) then zcO (zaL q8 [.cell (.sl 1 [[.int 0],[.int 1],[.int 2],[.int 5],[.int 100],[.int (-1)]])]) false [(false,[.int 0])] fun q28 n27 => za8 (zak [.cell (.int n27)]) false [(true,[.int 0,.int 0,.sl 3 []])] fun n29 n30 l31 => some (.v (.agg [.int n29,.int n30,.sl 3 l31]),q28) else zcO (zaL q8 [.cell (.sl 1 [[.int 0],[.int 1000],[.int (-1000)],[.int 5]])]) false [(false,[.int 0])] fun q33 n32 => za8 (zbc [.cell (.int n32)]) false [(true,[.int 0,.int 0,.sl 3 []])] fun n34 n35 l36 => some (.v (.agg [.int n34,.int n35,.sl 3 l36]),q33):Option (AV × List AC)) = some r):evT zts 100000 (.run (zhj 2 (cOf Try.f30))) [] [(0,.und),(3,.box [.int n1,.int n2,.sl 3 l3]),(4,.box [.int n4,.int n5,.sl 3 l6])] q = some r:=Eq.trans (by kernel_rfl) h
theorem zxE:(zbU (zbe tt) lay sig (zhj 2 (cOf Try.f30)) ⟨[],[],[],85,[],[]⟩).isSome = true:=by kernel_rfl
end Go.Proofs.Ytcpcagdialnbeaa
namespace Go.Proofs.Ytcpcagdialnbeaa
open Go
theorem zqB {o n:Int} {kids:List (List AC)} (hk:zcb kids) (hs:kids.length + rsS kids ≤ 100000):zg0 [.agg [.int o,.int n,.sl 3 kids]] = some (.v (.agg [.int o,.int n,.sl 3 kids])) :=
 zhl (zaU (zkX 100000 (Nat.le_refl _) kids hk hs) rfl)
theorem zsi (z:Int):inI (zag z):=by
 unfold inI zag
 rw [IntKind.wrap_i64]
 omega
section
variable {ns:List Nat} (hns:ns.length ≤ 2000)
include hns
theorem zqF {o n:Int} {kids:List (List AC)} {n4 n5:Int} {l6:List (List AC)} (hf:Fit .expr [.int o,.int n,.sl 3 kids]) {M:Nat} (hs:1 + kids.length + rsS kids ≤ M) (hM:M ≤ 100000) {p:Nat} (hp:p + 10 ≤ 800000) :
  EG ns p 2 (M + 1) (evT zts 100000 (.run (zhj 2 (cOf Try.f30))) [] [(0,.und),(3,.box [.int o,.int n,.sl 3 kids]),(4,.box [.int n4,.int n5,.sl 3 l6])] (Qr ns p)):=by
 have hf':=hf
 cases hf with
 | expr _ _ _ ho hn hl hk =>
 obtain ⟨x,hx,h1⟩:=zbi hns (p:=p) (by omega) (m:=5) (by omega)
 rcases (by omega:x = 0 ∨ x = 1 ∨ x = 2 ∨ x = 3 ∨ x = 4) with rfl | rfl | rfl | rfl | rfl
 ·obtain ⟨y,hy,h2⟩:=zbi hns (p:=p + 1) (by omega) (m:=15) (by omega)
  exact ⟨_,_,_,_,zmg (zai h1 (zaf rfl (zai h2 (zaa (zar _ _ _) rfl)))),by omega,.expr _ _ _ (by unfold inI; omega) hn hl hk,by omega⟩
 ·obtain ⟨y,hy,h2⟩:=zhV hns (p:=p + 1) (by omega) (xs:=[1,-1,1000,2]) (by simp) (by simp)
  exact ⟨_,_,_,_,zmg (zai h1 (zab rfl (zaf rfl (zai h2 (zaa (zar _ _ _) rfl))))),by omega,.expr _ _ _ ho (zsi _) hl hk,by omega⟩
 ·have hsz:=zdw (kids:=kids) (o:=0) (n:=1) (l:=[])
  rw [zaE] at hsz
  have hlen:(kids ++ [[AC.int 0,.int 1,.sl 3 []]]).length = kids.length + 1:=by simp
  refine ⟨_,_,_,_,zmg (zai h1 (zab rfl (zab rfl (zaf rfl (zaU (zkX 100000 (Nat.le_refl _) kids hk (by omega)) (zaa (zb1 _) (zdf (by simp; omega) (zaa (zar _ _ _) rfl)))))))),by omega,.expr _ _ _ ho hn (by rw [hlen]; unfold zbd; omega) (fun c hc => ?_),by simp only [List.length_nil] at hsz; omega⟩
  rw [List.mem_append,List.mem_singleton] at hc
  rcases hc with hc | rfl
  ·exact hk c hc
  ·exact zaj (by omega) (by omega) (by simp) (fun c hc => by cases hc)
 ·obtain ⟨y,hy,h2⟩:=zhV hns (p:=p + 1) (by omega) (xs:=[0,1,2,5,100,-1]) (by simp) (by simp)
  have hy2:-1 ≤ y ∧ y ≤ 100:=by
   simp only [List.mem_cons,List.not_mem_nil,or_false] at hy
   omega
  exact ⟨_,_,_,_,zmg (zai h1 (zab rfl (zab rfl (zab rfl (zaf rfl (zai h2 (zaa (zaD _) rfl))))))),by omega,zbN (by omega),by rw [zaE]; simp⟩
 ·obtain ⟨y,hy,h2⟩:=zhV hns (p:=p + 1) (by omega) (xs:=[0,1000,-1000,5]) (by simp) (by simp)
  have hy2:-1000 ≤ y ∧ y ≤ 1000:=by
   simp only [List.mem_cons,List.not_mem_nil,or_false] at hy
   omega
  exact ⟨_,_,_,_,zmg (zai h1 (zab rfl (zab rfl (zab rfl (zab rfl (zai h2 (zaa (zb1 _) rfl))))))),by omega,zaj (by omega) (by omega) (by simp) (fun c hc => by cases hc),by rw [zaE]; simp⟩
end
end Go.Proofs.Ytcpcagdialnbeaa
set_option maxRecDepth 100000
namespace Go.Proofs.Ytcpcagdialnbeaa
open Go
noncomputable def zsB:CtxT:={ X:={ P:=Try.prog,L:=lay,F:=sig.has,E:=ext,fn:={ Try.f41 with results:=#[.cell 2 26,.cell 3 26,.tmp 7] },lv:=[],jv:=[],tp:=[] },T:=tt,E:=zex }
noncomputable def zl7:List Rg:=[0,1,2,3,4,5,6].filterMap fun i => zp4 i (cOf Try.f41)
theorem zxn  {q:List AC} {r:AV × List AC} (h:( zcO (zf7 q []) false [(false,[.sl 3 []])] fun q2 l1 => za8 (zbA [.cell (.sl 1 [[.int 1]]),.cell (.int 0)]) false [(true,[.sl 1 [],.int 0,.int 0,.int 0,.sl 3 []])] fun l3 n4 n5 n6 l7 => za8 (zbA [.cell (.sl 1 [[.int 1],[.int 1]]),.cell (.int 1)]) false [(true,[.sl 1 [],.int 0,.int 0,.int 0,.sl 3 []])] fun l8 n9 n10 n11 l12 => za8 (zbA [.cell (.sl 1 [[.int 1]]),.cell (.int 1)]) false [(true,[.sl 1 [],.int 0,.int 0,.int 0,.sl 3 []])] fun l13 n14 n15 n16 l17 => za8 (zbA [.cell (.sl 1 [[.int 1],[.int 0]]),.cell (.int 1)]) false [(true,[.sl 1 [],.int 0,.int 0,.int 0,.sl 3 []])] fun l18 n19 n20 n21 l22 => za8 (zbA [.cell (.sl 1 [[.int 2],[.int 1]]),.cell (.int 1)]) false [(true,[.sl 1 [],.int 0,.int 0,.int 0,.sl 3 []])] fun l23 n24 n25 n26 l27 => za8 (zbA [.cell (.sl 1 [[.int 1],[.int 1]]),.cell (.int 0)]) false [(true,[.sl 1 [],.int 0,.int 0,.int 0,.sl 3 []])] fun l28 n29 n30 n31 l32 => za8 (zbA [.cell (.sl 1 [[.int 3]]),.cell (.int 0)]) false [(true,[.sl 1 [],.int 0,.int 0,.int 0,.sl 3 []])] fun l33 n34 n35 n36 l37 => za8 (zbA [.cell (.sl 1 [[.int 0]]),.cell (.int 1)]) false [(true,[.sl 1 [],.int 0,.int 0,.int 0,.sl 3 []])] fun l38 n39 n40 n41 l42 => za8 (zbA [.cell (.sl 1 [[.int 0],[.int 1]]),.cell (.int 1)]) false [(true,[.sl 1 [],.int 0,.int 0,.int 0,.sl 3 []])] fun l43 n44 n45 n46 l47 => za8 (zbA [.cell (.sl 1 [[.int 3],[.int 0]]),.cell (.int 3)]) false [(true,[.sl 1 [],.int 0,.int 0,.int 0,.sl 3 []])] fun l48 n49 n50 n51 l52 => za8 (zbA [.cell (.sl 1 [[.int 3]]),.cell (.int 1)]) false [(true,[.sl 1 [],.int 0,.int 0,.int 0,.sl 3 []])] fun l53 n54 n55 n56 l57 => za8 (zbA [.cell (.sl 1 [[.int 1],[.int 3],[.int 0]]),.cell (.int 0)]) false [(true,[.sl 1 [],.int 0,.int 0,.int 0,.sl 3 []])] fun l58 n59 n60 n61 l62 => za8 (zbA [.cell (.sl 1 [[.int 0]]),.cell (.int 0)]) false [(true,[.sl 1 [],.int 0,.int 0,.int 0,.sl 3 []])] fun l63 n64 n65 n66 l67 => za8 (zbA [.cell (.sl 1 [[.int 0],[.int 0]]),.cell (.int 0)]) false [(true,[.sl 1 [],.int 0,.int 0,.int 0,.sl 3 []])] fun l68 n69 n70 n71 l72 => za8 (zbA [.cell (.sl 1 [[.int 1],[.int 0]]),.cell (.int 0)]) false [(true,[.sl 1 [],.int 0,.int 0,.int 0,.sl 3 []])] fun l73 n74 n75 n76 l77 => za8 (zbA [.cell (.sl 1 [[.int 0]]),.cell (.int 1)]) false [(true,[.sl 1 [],.int 0,.int 0,.int 0,.sl 3 []])] fun l78 n79 n80 n81 l82 => za8 (zbA [.cell (.sl 1 []),.cell (.int 0)]) false [(true,[.sl 1 [],.int 0,.int 0,.int 0,.sl 3 []])] fun l83 n84 n85 n86 l87 => zcO (zad q2 [.cell (.int ((([[.sl 1 l3,.int n4,.int n5,.int n6,.sl 3 l7],[.sl 1 l8,.int n9,.int n10,.int n11,.sl 3 l12],[.sl 1 l13,.int n14,.int n15,.int n16,.sl 3 l17],[.sl 1 l18,.int n19,.int n20,.int n21,.sl 3 l22],[.sl 1 l23,.int n24,.int n25,.int n26,.sl 3 l27],[.sl 1 l28,.int n29,.int n30,.int n31,.sl 3 l32]]:List (List AC)).length:Nat):Int))]) false [(false,[.int 0])] fun q89 n88 => zgI [[.sl 1 l3,.int n4,.int n5,.int n6,.sl 3 l7],[.sl 1 l8,.int n9,.int n10,.int n11,.sl 3 l12],[.sl 1 l13,.int n14,.int n15,.int n16,.sl 3 l17],[.sl 1 l18,.int n19,.int n20,.int n21,.sl 3 l22],[.sl 1 l23,.int n24,.int n25,.int n26,.sl 3 l27],[.sl 1 l28,.int n29,.int n30,.int n31,.sl 3 l32]] n88 [.sl 1 [],.int 0,.int 0,.int 0,.sl 3 []] fun l90 n91 n92 n93 l94 => zcO (zad q89 [.cell (.int ((([[.sl 1 l33,.int n34,.int n35,.int n36,.sl 3 l37],[.sl 1 l38,.int n39,.int n40,.int n41,.sl 3 l42],[.sl 1 l43,.int n44,.int n45,.int n46,.sl 3 l47],[.sl 1 l48,.int n49,.int n50,.int n51,.sl 3 l52],[.sl 1 l53,.int n54,.int n55,.int n56,.sl 3 l57],[.sl 1 l58,.int n59,.int n60,.int n61,.sl 3 l62]]:List (List AC)).length:Nat):Int))]) false [(false,[.int 0])] fun q96 n95 => zgI [[.sl 1 l33,.int n34,.int n35,.int n36,.sl 3 l37],[.sl 1 l38,.int n39,.int n40,.int n41,.sl 3 l42],[.sl 1 l43,.int n44,.int n45,.int n46,.sl 3 l47],[.sl 1 l48,.int n49,.int n50,.int n51,.sl 3 l52],[.sl 1 l53,.int n54,.int n55,.int n56,.sl 3 l57],[.sl 1 l58,.int n59,.int n60,.int n61,.sl 3 l62]] n95 [.sl 1 [],.int 0,.int 0,.int 0,.sl 3 []] fun l97 n98 n99 n100 l101 => zcO (zad q96 [.cell (.int ((([[.sl 1 l63,.int n64,.int n65,.int n66,.sl 3 l67],[.sl 1 l68,.int n69,.int n70,.int n71,.sl 3 l72],[.sl 1 l73,.int n74,.int n75,.int n76,.sl 3 l77],[.sl 1 l78,.int n79,.int n80,.int n81,.sl 3 l82]]:List (List AC)).length:Nat):Int))]) false [(false,[.int 0])] fun q103 n102 => zgI [[.sl 1 l63,.int n64,.int n65,.int n66,.sl 3 l67],[.sl 1 l68,.int n69,.int n70,.int n71,.sl 3 l72],[.sl 1 l73,.int n74,.int n75,.int n76,.sl 3 l77],[.sl 1 l78,.int n79,.int n80,.int n81,.sl 3 l82]] n102 [.sl 1 [],.int 0,.int 0,.int 0,.sl 3 []] fun l104 n105 n106 n107 l108 => zcO (zaL q103 [.cell (.sl 1 [[.int 4],[.int 4],[.int 3],[.int 2],[.int 4]])]) false [(false,[.int 0])] fun q110 n109 => some (.tup [.agg [.sl 3 [],.sl 5 []],.agg [.sl 3 l1,.sl 5 [[.sl 1 l83,.int n84,.int n85,.int n86,.sl 3 l87],[.sl 1 l90,.int n91,.int n92,.int n93,.sl 3 l94],[.sl 1 l97,.int n98,.int n99,.int n100,.sl 3 l101],[.sl 1 l104,.int n105,.int n106,.int n107,.sl 3 l108]]],.cell (.int n109)],q110):Option (AV × List AC)) = some r):evT zsB 100000 (.run (zgj zl7 .skip)) [] [(0,.und)] q = some r:=Eq.trans (by kernel_rfl) h
theorem zx2:(zbU (zbe tt) lay sig (zgj zl7 .skip) ⟨[],[],[],110,[],[]⟩).isSome = true:=by kernel_rfl
end Go.Proofs.Ytcpcagdialnbeaa
