/- Generic texts and models for the proofs of this seat: part 24. -/
import Derived.Test.YtcpcagdialnbeaaGreatY23
set_option linter.unusedVariables false
set_option linter.unusedSimpArgs false
namespace Go.Proofs.YtcpcagdialnbeaaGreat
open Go
structure DV (D:List DM):Prop where
 len:D.length ≤ 4
 cs:∀ k,k < D.length → (gD D k).cs.length ≤ 3
 c:∀ k,k < D.length → ∀ c ∈ (gD D k).cs,c.length ≤ 3 ∧ ∀ x ∈ c,0 ≤ x ∧ x ≤ D.length
 arr:∀ k,k < D.length → (gD D k).cs.length = 0 → (0 ≤ (gD D k).f ∧ (gD D k).f ≤ D.length) ∧ (0 ≤ (gD D k).t ∧ (gD D k).t ≤ D.length)
theorem isTy_iff {D:List DM} {t:Int}:zeo D t = true ↔ 0 ≤ t ∧ t ≤ D.length:=by simp [zeo]
theorem zEU {D:List DM} (h:zfT D = true):DV D:=by
 simp only [zfT,Bool.and_eq_true,decide_eq_true_eq,List.all_eq_true,List.mem_range] at h
 obtain ⟨h1,h2⟩:=h
 refine ⟨h1,fun k hk => ?_,fun k hk c hc => ?_,fun k hk h0 => ?_⟩
 ·have:=h2 k hk
  unfold zme at this
  split at this
  ·simp only [Bool.and_eq_true,decide_eq_true_eq] at this; exact this.1
  ·omega
 ·have:=h2 k hk
  unfold zme at this
  have hpos:0 < (gD D k).cs.length:=List.length_pos_of_mem hc
  rw [if_pos hpos] at this
  simp only [Bool.and_eq_true,List.all_eq_true,zlr,decide_eq_true_eq] at this
  obtain ⟨g1,g2⟩:=this.2.2.2 c hc
  exact ⟨g1,fun x hx => isTy_iff.1 (g2 x hx)⟩
 ·have:=h2 k hk
  unfold zme at this
  rw [if_neg (by omega)] at this
  simp only [Bool.and_eq_true] at this
  exact ⟨isTy_iff.1 this.1,isTy_iff.1 this.2.1⟩
def zbM:List DM → Nat
 | [] => 0
 | d :: ds => d.cs.length + zbM ds
theorem zwH (a b:List DM):zbM (a ++ b) = zbM a + zbM b:=by
 induction a with
 | nil => simp [zbM]
 | cons x a ih => simp only [List.cons_append,zbM,ih]; omega
theorem zlz {D:List DM} {k:Nat} (h:k < D.length):zbM (D.take (k + 1)) = zbM (D.take k) + (gD D k).cs.length:=by
 rw [List.take_succ_eq_append_getElem h,zwH,zmU h]
 simp [zbM]
theorem zjm {D:List DM} (h:∀ k,k < D.length → (gD D k).cs.length ≤ 3):∀ k,k ≤ D.length → zbM (D.take k) ≤ 3 * k
 | 0,_ => by simp [zbM]
 | k + 1,hk => by
  rw [zlz (by omega)]
  have:=zjm h k (by omega)
  have:=h k (by omega)
  omega
theorem zCG {D:List DM} {k j:Nat} (h:j < k) (hk:k ≤ D.length):gD (D.take k) j = gD D j:=by
 rw [← zmU (D:=D.take k) (by rw [List.length_take]; omega),← zmU (D:=D) (by omega),List.getElem_take]
theorem zlS {D:List DM} (hv:DV D) {k:Nat} (hk:k ≤ D.length):zfI [.cell (.sl 3 (zaf D)),.cell (.int (k:Int))] = rI (zbM (D.take k)):=by
 have h4:=hv.len
 have key:∀ m j:Nat,j + m = k → zfd (zaf D) (k:Int) ((zbM (D.take j):Nat):Int) (j:Int) = rI (zbM (D.take k)):=by
  intro m
  induction m with
  | zero => intro j hj; exact zi2 (zaa (decide_eq_false (by omega)) (by rw [show j = k by omega]))
  | succ m ih =>
   intro j hj
   have hlt:j < D.length:=by omega
   have h1:=zjm hv.cs j (by omega)
   have h2:=hv.cs j hlt
   refine zi2 (zac (decide_eq_true (by omega)) (zb2 rfl hlt ?_))
   rw [za7,wr (by omega) (by omega),wrk (by unfold zaE; omega)]
   have:=ih (j + 1) (by omega)
   rw [zlz hlt] at this
   change @Eq (Option AV) _ _
   simpa using this
 exact zqB (key k 0 (by omega))
theorem zw3 {D:List DM} (h4:D.length ≤ 4) (h3:∀ k,k < D.length → (gD D k).cs.length ≤ 3):zj7 [.cell (.sl 3 (zaf D))] = rI (zbM D):=by
 have key:∀ m j:Nat,j + m = D.length → zeM ((zbM (D.take j):Nat):Int) (zaf D) (((zaf D).length:Nat):Int) (j:Int) = rI (zbM D):=by
  intro m
  induction m with
  | zero => intro j hj; exact zia (zaa (decide_eq_false (by rw [zbh]; omega)) (by rw [List.take_of_length_le (by omega)]))
  | succ m ih =>
   intro j hj
   have hlt:j < D.length:=by omega
   have h1:=zjm h3 j (by omega)
   have h2:=h3 j hlt
   refine zia (zac (decide_eq_true (by rw [zbh]; omega)) (zb2 rfl hlt ?_))
   rw [za7,wr (by omega) (by omega),wrk (by unfold zaE; omega)]
   have:=ih (j + 1) (by omega)
   rw [zlz hlt] at this
   change @Eq (Option AV) _ _
   simpa using this
 exact zo8 (key D.length 0 (by omega))
theorem zxW {D:List DM} (hv:DV D) {k:Nat} (hk:k ≤ D.length):zkV [.cell (.sl 3 (zaf D)),.cell (.int ((k:Int) + 1))] = rI (zbM (D.take k)):=by
 have h4:=hv.len
 have w:zae (((k:Int) + 1) - 1) = (k:Int):=by rw [wr (by omega) (by omega)]; omega
 refine zpR ?_
 rw [w]
 refine zyc (by omega) (by omega) (by rw [zbh]; omega) ?_
 rw [show (((zaf D).drop (0:Int).toNat).take ((k:Int).toNat - (0:Int).toNat)) = zaf (D.take k) by simp [zsK]]
 exact zay (zw3 (by rw [List.length_take]; omega) (fun j hj => by rw [List.length_take] at hj; rw [zCG (by omega) hk]; exact hv.cs j (by omega))) rfl
def zqn (c:Int):List DM → Nat → Nat → Int
 | [],_,_ => -1
 | d :: ds,first,k => if (first:Int) ≤ c ∧ c < (first:Int) + d.cs.length then ((k + 1:Nat):Int) else zqn c ds (first + d.cs.length) (k + 1)
def zjO (D:List DM) (c:Int):Int:=zqn c D 0 0
theorem zqZ {D:List DM} (hv:DV D) (c:Int):zg3 [.cell (.sl 3 (zaf D)),.cell (.int c)] = rI (zjO D c):=by
 have h4:=hv.len
 have key:∀ m k:Nat,k + m = D.length → zcB c ((zbM (D.take k):Nat):Int) (zaf D) (((zaf D).length:Nat):Int) (k:Int) = rI (zqn c (D.drop k) (zbM (D.take k)) k):=by
  intro m
  induction m with
  | zero => intro k hk; exact zim (zaa (decide_eq_false (by rw [zbh]; omega)) (by rw [List.drop_eq_nil_of_le (by omega)]; rfl))
  | succ m ih =>
   intro k hk
   have hlt:k < D.length:=by omega
   have h1:=zjm hv.cs k (by omega)
   have h2:=hv.cs k hlt
   have nx:=ih (k + 1) (by omega)
   rw [zlz hlt] at nx
   rw [List.drop_eq_getElem_cons hlt,zmU hlt]
   unfold zqn
   refine zim (zac (decide_eq_true (by rw [zbh]; omega)) (zb2 rfl hlt ?_))
   rw [za7,wr (n:=((zbM (D.take k):Nat):Int) + ((gD D k).cs.length:Nat)) (by omega) (by omega),wrk (by unfold zaE; omega)]
   have nx':zcB c (((zbM (D.take k):Nat):Int) + (((gD D k).cs.length:Nat):Int)) (zaf D) (((zaf D).length:Nat):Int) ((k + 1:Nat):Int) = rI (zqn c (D.drop (k + 1)) (zbM (D.take k) + (gD D k).cs.length) (k + 1)):=by simpa using nx
   by_cases g1:((zbM (D.take k):Nat):Int) ≤ c
   ·refine zac (decide_eq_true g1) ?_
    by_cases g2:c < ((zbM (D.take k):Nat):Int) + ((gD D k).cs.length:Nat)
    ·rw [if_pos ⟨g1,g2⟩]
     exact zac (decide_eq_true g2) rfl
    ·rw [if_neg (fun h => g2 h.2)]
     exact zaa (decide_eq_false g2) nx'
   ·rw [if_neg (fun h => g1 h.1)]
    exact zaa (decide_eq_false g1) nx'
 exact zpw (key D.length 0 (by omega))
theorem zqs {D:List DM} (hv:DV D) (c:Int):zhc [.cell (.sl 3 (zaf D)),.cell (.int c)] = rI (zjO D c):=by
 have h4:=hv.len
 have key:∀ m k:Nat,k + m = D.length → zfS (zaf D) c (k:Int) = rI (zqn c (D.drop k) (zbM (D.take k)) k):=by
  intro m
  induction m with
  | zero => intro k hk; exact zjV (zaa (decide_eq_false (by rw [zbh]; omega)) (by rw [List.drop_eq_nil_of_le (by omega)]; rfl))
  | succ m ih =>
   intro k hk
   have hlt:k < D.length:=by omega
   have h1:=zjm hv.cs k (by omega)
   have h2:=hv.cs k hlt
   have nx:=ih (k + 1) (by omega)
   rw [zlz hlt] at nx
   rw [List.drop_eq_getElem_cons hlt,zmU hlt]
   unfold zqn
   refine zjV (zac (decide_eq_true (by rw [zbh]; omega)) (zay (zlS hv (by omega)) (zb2 rfl hlt ?_)))
   rw [za7,wr (n:=((zbM (D.take k):Nat):Int) + ((gD D k).cs.length:Nat)) (by omega) (by omega),wr (n:=((zbM (D.take k):Nat):Int) + ((gD D k).cs.length:Nat) - 1) (by omega) (by omega),wrk (by unfold zaE; omega)]
   refine zai (zdk _ _ _) ?_
   by_cases g1:((zbM (D.take k):Nat):Int) ≤ c
   ·rw [decide_eq_true g1]
    by_cases g2:c < ((zbM (D.take k):Nat):Int) + ((gD D k).cs.length:Nat)
    ·rw [if_pos ⟨g1,g2⟩,decide_eq_true (show c ≤ ((zbM (D.take k):Nat):Int) + ((gD D k).cs.length:Nat) - 1 by omega)]
     exact zac rfl rfl
    ·rw [if_neg (fun h => g2 h.2),decide_eq_false (show ¬ c ≤ ((zbM (D.take k):Nat):Int) + ((gD D k).cs.length:Nat) - 1 by omega)]
     exact zaa rfl nx
   ·rw [if_neg (fun h => g1 h.1),decide_eq_false g1]
    exact zaa rfl nx
 exact zrF (key D.length 0 (by omega))
theorem zuH (c:Int):∀ (ds:List DM) (first k:Nat),zqn c ds first k = -1 ∨ ∃ j,j < ds.length ∧ zqn c ds first k = ((k + j + 1:Nat):Int) ∧ ((first + zbM (ds.take j):Nat):Int) ≤ c ∧ c < ((first + zbM (ds.take j):Nat):Int) + (gD ds j).cs.length
 | [],first,k => .inl rfl
 | d :: ds,first,k => by
  unfold zqn
  split
  ·rename_i h
   exact .inr ⟨0,by simp,by simp,by simpa [zbM] using h.1,by simpa [zbM,gD] using h.2⟩
  ·rcases zuH c ds (first + d.cs.length) (k + 1) with h | ⟨j,h1,h2,h3,h4⟩
   ·exact .inl h
   ·refine .inr ⟨j + 1,by simpa using h1,by rw [h2]; congr 1; omega,?_,?_⟩
    ·simp only [List.take_succ_cons,zbM]; omega
    ·simp only [List.take_succ_cons,zbM]
     have:gD (d :: ds) (j + 1) = gD ds j:=by simp [gD]
     rw [this]; omega
theorem zwa:∀ (ds:List DM) (first k j i:Nat),j < ds.length → i < (gD ds j).cs.length → zqn ((first + zbM (ds.take j) + i:Nat):Int) ds first k = ((k + j + 1:Nat):Int)
 | d :: ds,first,k,0,i,_,hi => by
  have hi':i < d.cs.length:=by simpa [gD] using hi
  unfold zqn
  rw [if_pos (by simp [zbM]; omega)]
  try simp
 | d :: ds,first,k,j + 1,i,hj,hi => by
  have hi':i < (gD ds j).cs.length:=by simpa [gD] using hi
  unfold zqn
  rw [if_neg (by simp only [List.take_succ_cons,zbM]; omega)]
  have:=zwa ds (first + d.cs.length) (k + 1) j i (by simpa using hj) hi'
  rw [show first + zbM ((d :: ds).take (j + 1)) + i = first + d.cs.length + zbM (ds.take j) + i by simp only [List.take_succ_cons,zbM]; omega]
  exact this.trans (congrArg (fun n:Nat => ((n:Nat):Int)) (by omega))
 | [],_,_,_,_,h,_ => by simp at h
def fld (D:List DM) (c:Int):List Int:=(gD D ((zjO D c).toNat - 1)).cs.getD (c - ((zbM (D.take ((zjO D c).toNat - 1)):Nat):Int)).toNat []
theorem zhs {D:List DM} (c:Int):zjO D c = -1 ∨ ∃ j i:Nat,j < D.length ∧ zjO D c = ((j:Nat):Int) + 1 ∧ c = ((zbM (D.take j) + i:Nat):Int) ∧ i < (gD D j).cs.length ∧ fld D c = (gD D j).cs.getD i []:=by
 rcases zuH c D 0 0 with h | ⟨j,h1,h2,h3,h4⟩
 ·exact .inl h
 ·have e:zjO D c = ((j:Nat):Int) + 1:=by unfold zjO; rw [h2]; omega
  refine .inr ⟨j,(c - ((zbM (D.take j):Nat):Int)).toNat,h1,e,by omega,by omega,?_⟩
  unfold fld
  rw [e,show (((j:Nat):Int) + 1).toNat - 1 = j by omega]
theorem zw0 {D:List DM} {j i:Nat} (hj:j < D.length) (hi:i < (gD D j).cs.length):zjO D ((zbM (D.take j) + i:Nat):Int) = ((j:Nat):Int) + 1 ∧ fld D ((zbM (D.take j) + i:Nat):Int) = (gD D j).cs.getD i []:=by
 have h:=zwa D 0 0 j i hj hi
 rw [Nat.zero_add] at h
 have e:zjO D ((zbM (D.take j) + i:Nat):Int) = ((j:Nat):Int) + 1:=by unfold zjO; rw [h]; omega
 refine ⟨e,?_⟩
 unfold fld
 rw [e,show (((j:Nat):Int) + 1).toNat - 1 = j by omega,show (((zbM (D.take j) + i:Nat):Int) - ((zbM (D.take j):Nat):Int)).toNat = i by omega]
theorem ztZ {D:List DM} (hv:DV D) {c:Int} (h:1 ≤ zjO D c):zhG [.cell (.sl 3 (zaf D)),.cell (.int c)] = rL (fld D c):=by
 have h4:=hv.len
 rcases zhs (D:=D) c with h0 | ⟨j,i,hj,he,hc,hi,hf⟩
 ·omega
 have h1:=zjm hv.cs j (by omega)
 have h2:=hv.cs j hj
 refine znQ (zay (zqZ hv c) ?_)
 rw [he]
 refine zb2 (k:=j) (by rw [wr (by omega) (by omega)]; omega) hj (zay (zxW hv (by omega)) (zn9 (k:=i) (by rw [hc,wr (by omega) (by omega)]; omega) hi ?_))
 rw [hf]
theorem zkD {D:List DM} (hv:DV D) (c:Int):zaG [.cell (.sl 3 (zaf D)),.cell (.int c)] = rL (if zjO D c < 1 then [] else fld D c):=by
 have h4:=hv.len
 refine zoW (zay (zqs hv c) ?_)
 rcases zhs (D:=D) c with h0 | ⟨j,i,hj,he,hc,hi,hf⟩
 ·rw [h0]
  exact zac rfl rfl
 have h1:=zjm hv.cs j (by omega)
 have h2:=hv.cs j hj
 rw [he,if_neg (by omega)]
 refine zaa (decide_eq_false (by omega)) ?_
 have w:zae (((j:Nat):Int) + 1 - 1) = j:=by rw [wr (by omega) (by omega)]; omega
 rw [w]
 refine zb2 rfl hj (zay (zlS hv (by omega)) (zn9 (k:=i) (by rw [hc,wr (by omega) (by omega)]; omega) hi ?_))
 rw [hf]
theorem zwS {D:List DM} (hl:D.length ≤ 1000) (t:Int):zmQ [.cell (.sl 3 (zaf D)),.cell (.int t)] = rB (zzF D t):=by
 refine ztx ?_
 unfold zzF
 by_cases h:0 < t
 rotate_left
 ·rw [decide_eq_false h]
  exact zaa rfl rfl
 rw [decide_eq_true h]
 refine zac rfl (zai (zlB D t) ?_)
 rcases ht:zeo D t with _ | _
 ·exact zaa rfl rfl
 have:=isTy_iff.1 ht
 refine zac rfl (zb2 (k:=t.toNat - 1) (by rw [wr (by omega) (by omega)]; omega) (by omega) ?_)
 rw [za7]
 by_cases hc:0 < (gD D (t.toNat - 1)).cs.length
 ·rw [decide_eq_true hc,decide_eq_true (by omega)]; rfl
 ·rw [decide_eq_false hc,decide_eq_false (by omega)]; rfl
theorem zy3 {D:List DM} (hl:D.length ≤ 1000) (t:Int):zl5 [.cell (.sl 3 (zaf D)),.cell (.int t)] = rB (zog D t):=by
 refine zrr ?_
 unfold zog
 by_cases h:0 < t
 rotate_left
 ·rw [decide_eq_false h]
  exact zaa rfl rfl
 rw [decide_eq_true h]
 refine zac rfl (zai (zlB D t) ?_)
 rcases ht:zeo D t with _ | _
 ·exact zaa rfl rfl
 have:=isTy_iff.1 ht
 refine zac rfl (zb2 (k:=t.toNat - 1) (by rw [wr (by omega) (by omega)]; omega) (by omega) ?_)
 rw [za7]
 by_cases hc:(gD D (t.toNat - 1)).cs.length = 0
 ·rw [zr hc,hc]; rfl
 ·rw [nz hc,show ((gD D (t.toNat - 1)).cs.length == 0) = false by simpa using hc]; rfl
theorem zem {D:List DM} (hl:D.length ≤ 1000) (t:Int):ze9 [.cell (.sl 3 (zaf D)),.cell (.int t)] = rB (zog D t):=by
 refine zrH (zai (zdk _ _ _) ?_)
 rw [zbh]
 unfold zog
 by_cases h:0 < t
 rotate_left
 ·rw [decide_eq_false h,decide_eq_false (show ¬ (1:Int) ≤ t by omega)]
  exact zaa rfl rfl
 rw [decide_eq_true h,decide_eq_true (show (1:Int) ≤ t by omega)]
 rcases ht:zeo D t with _ | _
 ·have:¬ (t ≤ D.length):=fun hle => by
   have:=isTy_iff.2 ⟨show 0 ≤ t by omega,hle⟩
   rw [ht] at this
   cases this
  rw [decide_eq_false this]
  exact zaa rfl rfl
 have:=isTy_iff.1 ht
 rw [decide_eq_true this.2]
 refine zac rfl (zb2 (k:=t.toNat - 1) (by rw [wr (by omega) (by omega)]; omega) (by omega) ?_)
 rw [za7]
 by_cases hc:(gD D (t.toNat - 1)).cs.length = 0
 ·rw [zr hc,hc]; rfl
 ·rw [nz hc,show ((gD D (t.toNat - 1)).cs.length == 0) = false by simpa using hc]; rfl
def tv (V:List Int) (v:Int):Int:=if 0 ≤ v ∧ v < V.length then V.getD v.toNat 0 else -1
theorem zv2 (G M:List Int) (hG:G.length ≤ 68719476736) (hM:M.length ≤ 68719476736) {v:Int} (hv:inI v):zke [.agg [.sl 1 (zad G),.sl 1 (zad M)],.cell (.int v)] = rI (tv (G ++ M) v):=by
 refine zo2 ?_
 rw [zab,zab]
 obtain ⟨v1,v2⟩:=hv
 unfold tv
 rw [List.length_append]
 by_cases h0:v < 0
 ·rw [if_neg (by omega)]
  exact zac (decide_eq_true h0) rfl
 refine zaa (decide_eq_false h0) ?_
 by_cases h1:v < G.length
 ·rw [if_pos (by omega)]
  refine zac (decide_eq_true h1) (zkY (k:=v.toNat) (by omega) (by omega) ?_)
  change @Eq (Option AV) _ _
  simp [List.getD,List.getElem?_append_left (show v.toNat < G.length by omega)]
 refine zaa (decide_eq_false h1) ?_
 have w:zae (v - G.length) = v - G.length:=wr (by omega) (by omega)
 rw [w]
 by_cases h2:v - G.length < M.length
 ·rw [if_pos (by omega)]
  refine zac (decide_eq_true h2) (zkY (k:=v.toNat - G.length) (by omega) (by omega) ?_)
  change @Eq (Option AV) _ _
  simp [List.getD,List.getElem?_append_right (show G.length ≤ v.toNat by omega)]
 ·rw [if_neg (by omega)]
  exact zaa (decide_eq_false h2) rfl
theorem zpr {xs:List Int} {k:Nat} (h:k < xs.length):zad (xs.take k) ++ [[.int xs[k]]] = zad (xs.take (k + 1)):=by
 show zad (xs.take k) ++ zad [xs[k]] = _
 rw [zjc,← List.take_succ_eq_append_getElem h]
theorem zxd (xs:List Int) (hx:xs.length ≤ 68719476736):zlc [.cell (.sl 1 (zad xs))] = rL xs:=by
 have key:∀ m k:Nat,k + m = xs.length → zfg (zad (xs.take k)) (zad xs) (((zad xs).length:Nat):Int) (k:Int) = rL xs:=by
  intro m
  induction m with
  | zero => intro k hk; exact zi4 (zaa (decide_eq_false (by rw [zab]; omega)) (by rw [List.take_of_length_le (by omega)]))
  | succ m ih =>
   intro k hk
   have hlt:k < xs.length:=by omega
   refine zi4 (zac (decide_eq_true (by rw [zab]; omega)) (zaR hlt (zb5 (by rw [zab,List.length_take]; simp; omega) ?_)))
   rw [zpr hlt,wrk (by unfold zaE; omega)]
   exact ih (k + 1) (by omega)
 exact zqv (key xs.length 0 (by omega))
theorem zxQ (xs:List Int) (hx:xs.length ≤ 68719476736):zk5 [.cell (.sl 1 (zad xs))] = rL xs :=
 zp3 (zb5 (by rw [zab]; simpa using hx) (by rw [List.nil_append]))
theorem zm4 (xs ys:List Int) (hx:xs.length + ys.length ≤ 68719476736):zbI [.cell (.sl 1 (zad xs)),.cell (.sl 1 (zad ys))] = rL (xs ++ ys) :=
 zsM (zan (zxQ xs (by omega)) (zb5 (by rw [zab,zab]; exact hx) (by rw [zjc])))
theorem zxi (G M xs:List Int) (hM:M.length + xs.length ≤ 68719476736):zjA [.agg [.sl 1 (zad G),.sl 1 (zad M)],.cell (.sl 1 (zad xs))] = some (.v (.agg [.sl 1 (zad G),.sl 1 (zad (M ++ xs))])):=by
 have key:∀ m k:Nat,k + m = xs.length → zjh (zad G) (zad M) [] [] (zad (M ++ xs.take k)) (zad xs) (((zad xs).length:Nat):Int) (k:Int) = some (.v (.agg [.sl 1 (zad G),.sl 1 (zad (M ++ xs))])):=by
  intro m
  induction m with
  | zero => intro k hk; exact zml (zaa (decide_eq_false (by rw [zab]; omega)) (by rw [List.take_of_length_le (by omega)]))
  | succ m ih =>
   intro k hk
   have hlt:k < xs.length:=by omega
   refine zml (zac (decide_eq_true (by rw [zab]; omega)) (zaR hlt (zb5 (by rw [zab,List.length_append,List.length_take]; simp; omega) ?_)))
   rw [← zjc,List.append_assoc,zpr hlt,zjc,wrk (by unfold zaE; omega)]
   exact ih (k + 1) (by omega)
 refine zvi (zan (zxd M (by omega)) ?_)
 have:=key xs.length 0 (by omega)
 rw [List.take_zero,List.append_nil] at this
 exact this
theorem zjJ (xs ys:List Int) (hx:xs.length ≤ zaE):zbn [.cell (.sl 1 (zad xs)),.cell (.sl 1 (zad ys))] = rB (decide (xs = ys)):=by
 refine zp2 ?_
 rw [zab,zab]
 by_cases hl:xs.length = ys.length
 rotate_left
 ·rw [decide_eq_false (fun h => hl (by rw [h]))]
  exact zac (net (by omega)) rfl
 refine zaa (nef (by omega)) ?_
 have key:∀ m k:Nat,k + m = xs.length → zfb (zad xs) (zad ys) ((xs.length:Nat):Int) (k:Int) = rB (decide (xs.drop k = ys.drop k)):=by
  intro m
  induction m with
  | zero =>
   intro k hk
   rw [List.drop_eq_nil_of_le (show xs.length ≤ k by omega),List.drop_eq_nil_of_le (show ys.length ≤ k by omega)]
   exact zi8 (zaa (decide_eq_false (by omega)) rfl)
  | succ m ih =>
   intro k hk
   have h1:k < xs.length:=by omega
   have h2:k < ys.length:=by omega
   rw [List.drop_eq_getElem_cons h1,List.drop_eq_getElem_cons h2]
   refine zi8 (zac (decide_eq_true (by omega)) (zaR h1 (zaR h2 ?_)))
   by_cases he:xs[k] = ys[k]
   ·refine zaa (nef he) ?_
    rw [wrk (by omega),ih (k + 1) (by omega)]
    change @Eq (Option AV) _ _
    simp only [List.cons.injEq,he,true_and]
   ·refine zac (net he) ?_
    rw [decide_eq_false (fun h => he (List.cons.inj h).1)]
 exact key xs.length 0 (by omega)
theorem zdd (b:Bool) (t:Int):zav [.cell (.bool b),.cell (.int t)] = rI (if b then t else -1):=by
 cases b
 ·exact zly (zaa rfl rfl)
 ·exact zly (zac rfl rfl)
end Go.Proofs.YtcpcagdialnbeaaGreat
namespace Go.Proofs.YtcpcagdialnbeaaGreat
open Go
structure PM where
 ps:List Int
 r:Int
 o:Int
 n:Int
 kids:List (List AC)
 deriving Inhabited
def pmC (x:PM):List AC:=[.sl 1 (zad x.ps),.int x.r,.int x.o,.int x.n,.sl 3 x.kids]
def zal (R:List PM):List (List AC):=R.map pmC
structure POk (x:PM):Prop where
 ps:zdS x.ps
 r:inI x.r
 b:Fit .expr [.int x.o,.int x.n,.sl 3 x.kids]
theorem zyr:∀ {rs:List (List AC)},(∀ d ∈ rs,Fit .func d) → ∃ R,rs = zal R ∧ ∀ d ∈ R,POk d
 | [],_ => ⟨[],rfl,fun c h => by cases h⟩
 | d :: ds,h => by
  obtain ⟨R,rfl,hR⟩:=zyr fun x hx => h x (List.mem_cons_of_mem _ hx)
  have h0:=h d List.mem_cons_self
  generalize ht:Ty.func = t at h0
  cases h0 with
  | func ps r o n kids hp hr hb =>
   refine ⟨⟨ps,r,o,n,kids⟩ :: R,rfl,fun x hx => ?_⟩
   rcases List.mem_cons.1 hx with rfl | hx
   ·exact ⟨hp,hr,hb⟩
   ·exact hR x hx
  | _ => cases ht
theorem zaF (R:List PM):(zal R).length = R.length:=by simp [zal]
def gP (R:List PM) (k:Nat):PM:=R.getD k default
theorem zgS {R:List PM} {k:Nat} (h:k < R.length):gP R k ∈ R:=zfH h _
theorem zBt {R:List PM} {k:Nat} (h:k < R.length):R[k] = gP R k:=by simp [gP,List.getD,h]
theorem zzK {R:List PM} {k:Nat} (h:k < R.length):(zal R).getD k [] = [.sl 1 (zad (gP R k).ps),.int (gP R k).r,.int (gP R k).o,.int (gP R k).n,.sl 3 (gP R k).kids]:=by simp [zal,List.getD,h,gP,pmC]
section
variable {ρ:Type} {r:ρ}
theorem zaH {R:List PM} {i:Int} {k:Nat} (hi:i = (k:Int)) (h:k < R.length) {K:Fn (Option ρ) [.sl 1 [],.int 0,.int 0,.int 0,.sl 3 []]}
  (h2:(K:List (List AC) → Int → Int → Int → List (List AC) → Option ρ) (zad (gP R k).ps) (gP R k).r (gP R k).o (gP R k).n (gP R k).kids = some r):zdZ (zal R) i [.sl 1 [],.int 0,.int 0,.int 0,.sl 3 []] K = some r:=by
 subst hi
 exact zvK (by rw [zaF]; exact h) (zzK h) h2
end
def zvl (D:List DM) (x:PM):Bool:=decide (x.ps.length ≤ 3) && (x.ps.all (zeo D) && zeo D x.r)
def znZ (D:List DM) (R:List PM):Bool:=zfT D && (decide (1 ≤ R.length) && (decide (R.length ≤ 4) && (R.all (zvl D) && (((gP R 0).ps.length == 0) && ((gP R 0).r == 0)))))
theorem zwP (D:List DM) (x:PM) (hx:POk x):zkX [.cell (.sl 3 (zaf D)),.cell (.sl 1 (zad x.ps)),.cell (.int x.r)] = rB (zvl D x):=by
 refine zp5 ?_
 rw [zab]
 unfold zvl
 by_cases h:x.ps.length ≤ 3
 ·rw [decide_eq_true h]
  refine zac (decide_eq_true (by omega)) (zai (zoh D _ hx.ps.len) ?_)
  rcases x.ps.all (zeo D) with _ | _
  ·exact zaa rfl rfl
  ·exact zac rfl (zai (zlB D _) rfl)
 ·rw [decide_eq_false h]
  exact zaa (decide_eq_false (by omega)) rfl
theorem zlO (D:List DM) (R:List PM) (hD:∀ d ∈ D,DOk d) (hR:∀ x ∈ R,POk x) (hl:D.length ≤ zaE):zg1 [.agg [.sl 3 (zaf D),.sl 5 (zal R)]] = rB (znZ D R):=by
 refine zpd (zai (zvn D hD hl) ?_)
 unfold znZ
 rcases zfT D with _ | _
 ·exact zac rfl rfl
 refine zaa rfl ?_
 rw [zaF]
 by_cases h1:1 ≤ R.length
 rotate_left
 ·rw [decide_eq_false h1]
  exact zac (decide_eq_true (by omega)) rfl
 rw [decide_eq_true h1]
 refine zaa (decide_eq_false (by omega)) ?_
 by_cases h4:R.length ≤ 4
 rotate_left
 ·rw [decide_eq_false h4]
  exact zac (decide_eq_true (by omega)) rfl
 rw [decide_eq_true h4]
 refine zaa (decide_eq_false (by omega)) ?_
 have key:∀ m k:Nat,k + m = R.length → zev (zaf D) (zal R) (zal R) ((R.length:Nat):Int) (k:Int) = rB ((R.drop k).all (zvl D) && (((gP R 0).ps.length == 0) && ((gP R 0).r == 0))):=by
  intro m
  induction m with
  | zero =>
   intro k hk
   rw [List.drop_eq_nil_of_le (by omega)]
   refine zic (zaa (decide_eq_false (by omega)) (zaH (k:=0) rfl (by omega) ?_))
   rw [zab]
   by_cases h0:(gP R 0).ps.length = 0
   ·exact zac (zr h0) (zaH (k:=0) rfl (by omega) (by rw [h0]; rfl))
   ·refine zaa (nz h0) ?_
    rw [show ((gP R 0).ps.length == 0) = false by simpa using h0]
    rfl
  | succ m ih =>
   intro k hk
   have hlt:k < R.length:=by omega
   rw [zj1 hlt,zBt hlt]
   refine zic (zac (decide_eq_true (by omega)) (zaH rfl hlt (zai (zwP D _ (hR _ (zgS hlt))) ?_)))
   rcases zvl D (gP R k) with _ | _
   ·exact zac rfl rfl
   ·exact zaa rfl (by rw [wrk (by unfold zaE; omega)]; exact ih (k + 1) (by omega))
 exact key R.length 0 (by omega)
theorem zo9 (D:List DM) (R:List PM) (hD:∀ d ∈ D,DOk d) (hR:∀ x ∈ R,POk x) (hl:D.length ≤ zaE):zjN [.agg [.sl 3 (zaf D),.sl 5 (zal R)]] = rB (znZ D R):=by
 refine zpf (zai (zu2 D hD hl) ?_)
 unfold znZ
 rcases zfT D with _ | _
 ·exact zac rfl rfl
 refine zaa rfl (zai (zdk _ _ _) ?_)
 rw [zaF]
 by_cases h1:1 ≤ R.length
 rotate_left
 ·rw [decide_eq_false h1,decide_eq_false (show ¬ (1:Int) ≤ ((R.length:Nat):Int) by omega)]
  exact zac rfl rfl
 rw [decide_eq_true h1,decide_eq_true (show (1:Int) ≤ ((R.length:Nat):Int) by omega)]
 by_cases h4:R.length ≤ 4
 rotate_left
 ·rw [decide_eq_false h4,decide_eq_false (show ¬ ((R.length:Nat):Int) ≤ 4 by omega)]
  exact zac rfl rfl
 rw [decide_eq_true h4,decide_eq_true (show ((R.length:Nat):Int) ≤ 4 by omega)]
 refine zaa rfl ?_
 have key:∀ m k:Nat,k + m = R.length → zeJ (zaf D) (zal R) (k:Int) = rB ((R.drop k).all (zvl D) && (((gP R 0).ps.length == 0) && ((gP R 0).r == 0))):=by
  intro m
  induction m with
  | zero =>
   intro k hk
   rw [List.drop_eq_nil_of_le (by omega)]
   refine zh2 (zaa (decide_eq_false (by rw [zaF]; omega)) (zaH (k:=0) rfl (by omega) ?_))
   rw [zab]
   by_cases h0:(gP R 0).ps.length = 0
   ·exact zac (zr h0) (zaH (k:=0) rfl (by omega) (by rw [h0]; rfl))
   ·refine zaa (nz h0) ?_
    rw [show ((gP R 0).ps.length == 0) = false by simpa using h0]
    rfl
  | succ m ih =>
   intro k hk
   have hlt:k < R.length:=by omega
   have hx:=hR _ (zgS hlt)
   rw [zj1 hlt,zBt hlt]
   refine zh2 (zac (decide_eq_true (by rw [zaF]; omega)) (zaH rfl hlt ?_))
   rw [zab]
   unfold zvl
   by_cases h3:(gP R k).ps.length ≤ 3
   rotate_left
   ·rw [decide_eq_false h3]
    exact zac (decide_eq_true (by omega)) rfl
   rw [decide_eq_true h3]
   refine zaa (decide_eq_false (by omega)) (zai (zs7 D _ hx.ps.len) ?_)
   rcases (gP R k).ps.all (zeo D) with _ | _
   ·exact zac rfl rfl
   refine zaa rfl (zai (zvz D _) ?_)
   rcases zeo D (gP R k).r with _ | _
   ·exact zac rfl rfl
   ·exact zaa rfl (by rw [wrk (by unfold zaE; omega)]; exact ih (k + 1) (by omega))
 exact key R.length 0 (by omega)
end Go.Proofs.YtcpcagdialnbeaaGreat
namespace Go.Proofs.YtcpcagdialnbeaaGreat
open Go
structure CP (D:List DM) (R:List PM):Prop where
 dv:DV D
 rl:R.length ≤ 4
 rok:∀ x ∈ R,POk x
 ps:∀ k,k < R.length → (gP R k).ps.length ≤ 3 ∧ ∀ t ∈ (gP R k).ps,0 ≤ t ∧ t ≤ D.length
 r:∀ k,k < R.length → 0 ≤ (gP R k).r ∧ (gP R k).r ≤ D.length
theorem zGO {D:List DM} {R:List PM} (hR:∀ x ∈ R,POk x) (h:znZ D R = true):CP D R:=by
 simp only [znZ,Bool.and_eq_true,decide_eq_true_eq,List.all_eq_true] at h
 obtain ⟨h2,h3,h4,h5,h6⟩:=h
 refine ⟨zEU h2,h4,hR,fun k hk => ?_,fun k hk => ?_⟩
 ·have:=h5 _ (zgS hk)
  simp only [zvl,Bool.and_eq_true,decide_eq_true_eq,List.all_eq_true] at this
  exact ⟨this.1,fun t ht => isTy_iff.1 (this.2.1 t ht)⟩
 ·have:=h5 _ (zgS hk)
  simp only [zvl,Bool.and_eq_true,decide_eq_true_eq,List.all_eq_true] at this
  exact isTy_iff.1 this.2.2
def zvf (ps:List Int):List Int:=ps.take (ps.length - 1)
def zp9 (D:List DM) (R:List PM) (o n:Int) (T:List Int):Int :=
 if o = 0 then (if (-999 ≤ n ∧ n ≤ 999) ∧ T.length = 0 then 0 else -1)
 else if o = 1 ∨ o = 2 ∨ o = 3 ∨ o = 4 then (if n = 0 ∧ T = [0,0] then 0 else -1)
 else if o = 5 then (if n = 0 ∧ T = [0] then 0 else -1)
 else if o = 6 then (if zjO D n < 0 then -1 else if T = fld D n then zjO D n else -1)
 else if o = 9 then (if 0 ≤ n ∧ n < R.length then (if T = (gP R n.toNat).ps then (gP R n.toNat).r else -1) else -1)
 else if o = 10 then (if 0 ≤ n ∧ n < R.length then (if (gP R n.toNat).ps.length = 0 then -1 else if T = zvf (gP R n.toNat).ps then zio ((gP R n.toNat).ps.getD ((gP R n.toNat).ps.length - 1) 0) (gP R n.toNat).r D 0 else -1) else -1)
 else if o = 11 then (if n = 0 then (if T.length = 2 ∧ zog D (T.getD 0 0) = true ∧ T.getD 1 0 = (gD D ((T.getD 0 0).toNat - 1)).f then (gD D ((T.getD 0 0).toNat - 1)).t else -1) else -1)
 else -1
section
variable {D:List DM} {R:List PM} (hv:CP D R)
include hv
theorem zAf {n:Int} (h:¬ zjO D n < 0):(fld D n).length ≤ 3 ∧ ∀ t ∈ fld D n,0 ≤ t ∧ t ≤ D.length:=by
 rcases zhs (D:=D) n with h0 | ⟨j,i,hj,he,hc,hi,hf⟩
 ·omega
 rw [hf]
 exact hv.dv.c j hj _ (zfH hi [])
omit hv in
theorem zn4 (n:Int):zbP [.agg [.sl 3 (zaf D),.sl 5 (zal R)],.cell (.int n)] = rB (decide (0 ≤ n ∧ n < R.length)):=by
 refine zrc ?_
 rw [zaF]
 by_cases h:0 ≤ n
 ·refine zac (decide_eq_true h) ?_
  simp [h] <;> rfl
 ·refine zaa (decide_eq_false h) ?_
  simp [h] <;> rfl
theorem ztv (n:Int) (T:List Int) (hT:T.length ≤ zaE):zcW [.cell (.sl 3 (zaf D)),.cell (.int n),.cell (.sl 1 (zad T))] = rI (if zjO D n < 0 then -1 else if T = fld D n then zjO D n else -1):=by
 refine znO (zay (zqZ hv.dv n) ?_)
 by_cases h:zjO D n < 0
 ·rw [if_pos h]
  exact zac (decide_eq_true h) rfl
 rw [if_neg h]
 refine zaa (decide_eq_false h) ?_
 have h1:1 ≤ zjO D n:=by
  rcases zhs (D:=D) n with h0 | ⟨j,i,hj,he,_⟩ <;> omega
 refine zan (ztZ hv.dv h1) (zai (zjJ T _ hT) (zay (zdd _ _) ?_))
 by_cases hq:T = fld D n <;> simp [hq] <;> rfl
omit hv in
theorem zrB (n:Int) (T:List Int) (hT:T.length ≤ zaE):zcG [.agg [.sl 3 (zaf D),.sl 5 (zal R)],.cell (.int n),.cell (.sl 1 (zad T))] = rI (if 0 ≤ n ∧ n < R.length then (if T = (gP R n.toNat).ps then (gP R n.toNat).r else -1) else -1):=by
 refine zmP (zai (zn4 n) ?_)
 by_cases h:0 ≤ n ∧ n < R.length
 ·rw [if_pos h,decide_eq_true h]
  refine zaa rfl (zaH (k:=n.toNat) (by omega) (by omega) (zai (zjJ T _ hT) (zaH (k:=n.toNat) (by omega) (by omega) (zay (zdd _ _) ?_))))
  by_cases hq:T = (gP R n.toNat).ps <;> simp [hq] <;> rfl
 ·rw [if_neg h,decide_eq_false h]
  exact zac rfl rfl
theorem zqz (n:Int) (T:List Int) (hT:T.length ≤ zaE):zci [.agg [.sl 3 (zaf D),.sl 5 (zal R)],.cell (.int n),.cell (.sl 1 (zad T))] = rI (if 0 ≤ n ∧ n < R.length then (if (gP R n.toNat).ps.length = 0 then -1 else if T = zvf (gP R n.toNat).ps then zio ((gP R n.toNat).ps.getD ((gP R n.toNat).ps.length - 1) 0) (gP R n.toNat).r D 0 else -1) else -1):=by
 have hl:=hv.dv.len
 refine zmp (zai (zn4 n) ?_)
 by_cases h:0 ≤ n ∧ n < R.length
 rotate_left
 ·rw [if_neg h,decide_eq_false h]
  exact zac rfl rfl
 rw [if_pos h,decide_eq_true h]
 refine zaa rfl (zaH (k:=n.toNat) (by omega) (by omega) ?_)
 have hp:=(hv.ps n.toNat (by omega)).1
 rw [zab]
 by_cases h0:(gP R n.toNat).ps.length = 0
 ·rw [if_pos h0]
  exact zac (zr h0) rfl
 rw [if_neg h0]
 refine zaa (nz h0) (zaH (k:=n.toNat) (by omega) (by omega) ?_)
 have w:zae ((((zad (gP R n.toNat).ps).length:Nat):Int) - 1) = (((gP R n.toNat).ps.length - 1:Nat):Int):=by
  rw [zab,wr (by omega) (by omega)]
  omega
 rw [w]
 refine zyc (by omega) (by omega) (by rw [zab]; omega) ?_
 rw [show ((zad (gP R n.toNat).ps).drop (0:Int).toNat).take ((((gP R n.toNat).ps.length - 1:Nat):Int).toNat - (0:Int).toNat) = zad (zvf (gP R n.toNat).ps) by simp [zvf,zs8]]
 refine zai (zjJ T _ hT) (zkY rfl (by omega) (zaH (k:=n.toNat) (by omega) (by omega) (zay (zyz D (by omega) _ _) (zay (zdd _ _) ?_))))
 by_cases hq:T = zvf (gP R n.toNat).ps <;> simp [hq] <;> rfl
theorem zpW (T:List Int):zco [.cell (.sl 3 (zaf D)),.cell (.sl 1 (zad T))] = rI (if T.length = 2 ∧ zog D (T.getD 0 0) = true ∧ T.getD 1 0 = (gD D ((T.getD 0 0).toNat - 1)).f then (gD D ((T.getD 0 0).toNat - 1)).t else -1):=by
 have hl:=hv.dv.len
 refine zmu ?_
 rw [zab]
 by_cases h2:T.length = 2
 rotate_left
 ·rw [if_neg (fun h => h2 h.1)]
  exact zac (net (by omega)) rfl
 refine zaa (nef (by omega)) (zkY (k:=0) rfl (by omega) (zai (zy3 (by omega) _) ?_))
 rcases ha:zog D (T.getD 0 0) with _ | _
 ·rw [if_neg (fun h => by cases h.2.1)]
  exact zac rfl rfl
 have hb:0 < T.getD 0 0 ∧ T.getD 0 0 ≤ D.length:=by
  simp only [zog,Bool.and_eq_true,decide_eq_true_eq] at ha
  exact ⟨ha.1,(isTy_iff.1 ha.2.1).2⟩
 refine zaa rfl (zkY (k:=0) rfl (by omega) (zb2 (k:=(T.getD 0 0).toNat - 1) (by rw [wr (by omega) (by omega)]; omega) (by omega) (zkY (k:=1) rfl (by omega) (zay (zdd _ _) ?_))))
 by_cases hq:T.getD 1 0 = (gD D ((T.getD 0 0).toNat - 1)).f
 ·rw [if_pos (show T.length = 2 ∧ true = true ∧ T.getD 1 0 = (gD D ((T.getD 0 0).toNat - 1)).f from ⟨h2,rfl,hq⟩),eqt hq]; rfl
 ·rw [if_neg (show ¬ (T.length = 2 ∧ true = true ∧ T.getD 1 0 = (gD D ((T.getD 0 0).toNat - 1)).f) from fun h => hq h.2.2),eqf hq]; rfl
omit hv in
theorem zvL (T:List Int) (hT:T.length ≤ zaE) (n:Int) {X:Option AV} (h:X = (bif (n == 0) then
    zao (zbn [.cell (.sl 1 (zad T)),.cell (.sl 1 [[.int 0],[.int 0]])]) false [(false,[.bool false])] fun b9 =>
    zao (zav [.cell (.bool b9),.cell (.int 0)]) false [(false,[.int 0])] fun n10 =>
    some (.v (.cell (.int n10)))
   else
    zao (zav [.cell (.bool false),.cell (.int 0)]) false [(false,[.int 0])] fun n11 =>
    some (.v (.cell (.int n11))))):X = rI (if n = 0 ∧ T = [0,0] then 0 else -1):=by
 rw [h]
 by_cases h0:n = 0
 ·refine zac (eqt h0) (zai (zjJ T [0,0] hT) (zay (zdd _ _) ?_))
  by_cases hq:T = [0,0] <;> simp [hq,h0] <;> rfl
 ·refine zaa (eqf h0) (zay (zdd _ _) ?_)
  simp [h0] <;> rfl
theorem zw8 (o n:Int) (T:List Int) (hT:T.length ≤ zaE):zk2 [.agg [.sl 3 (zaf D),.sl 5 (zal R)],.cell (.int o),.cell (.int n),.cell (.sl 1 (zad T))] = rI (zp9 D R o n T):=by
 refine zqh ?_
 unfold zp9
 by_cases h0:o = 0
 ·rw [if_pos h0]
  refine zac (eqt h0) ?_
  by_cases h1:-999 ≤ n
  ·refine zac (decide_eq_true h1) ?_
   by_cases h2:n ≤ 999
   ·refine zac (decide_eq_true h2) (zay (zdd _ _) ?_)
    rw [zab]
    by_cases h3:T.length = 0
    ·rw [if_pos (show (-999 ≤ n ∧ n ≤ 999) ∧ T.length = 0 from ⟨⟨h1,h2⟩,h3⟩),zr h3]; rfl
    ·rw [if_neg (show ¬ ((-999 ≤ n ∧ n ≤ 999) ∧ T.length = 0) from fun h => h3 h.2),nz h3]; rfl
   ·refine zaa (decide_eq_false h2) (zay (zdd _ _) ?_)
    rw [if_neg (show ¬ ((-999 ≤ n ∧ n ≤ 999) ∧ T.length = 0) from fun h => h2 h.1.2)]; rfl
  ·refine zaa (decide_eq_false h1) (zay (zdd _ _) ?_)
   rw [if_neg (show ¬ ((-999 ≤ n ∧ n ≤ 999) ∧ T.length = 0) from fun h => h1 h.1.1)]; rfl
 rw [if_neg h0]
 refine zaa (eqf h0) ?_
 by_cases h1:o = 1
 ·subst h1
  rw [if_pos (.inl rfl)]
  exact zac rfl (zac rfl (zvL T hT n rfl))
 refine zaa (eqf h1) ?_
 by_cases h2:o = 2
 ·subst h2
  rw [if_pos (.inr (.inl rfl))]
  exact zac rfl (zac rfl (zvL T hT n rfl))
 refine zaa (eqf h2) ?_
 by_cases h3:o = 3
 ·subst h3
  rw [if_pos (.inr (.inr (.inl rfl)))]
  exact zac rfl (zac rfl (zvL T hT n rfl))
 refine zaa (eqf h3) ?_
 by_cases h4:o = 4
 ·subst h4
  rw [if_pos (.inr (.inr (.inr rfl)))]
  exact zac rfl (zvL T hT n rfl)
 refine zaa (eqf h4) ?_
 rw [if_neg (fun h => by rcases h with h | h | h | h <;> contradiction)]
 by_cases h5:o = 5
 ·rw [if_pos h5]
  refine zac (eqt h5) ?_
  by_cases hn:n = 0
  ·refine zac (eqt hn) (zai (zjJ T [0] hT) (zay (zdd _ _) ?_))
   by_cases hq:T = [0] <;> simp [hq,hn] <;> rfl
  ·refine zaa (eqf hn) (zay (zdd _ _) ?_)
   simp [hn] <;> rfl
 rw [if_neg h5]
 refine zaa (eqf h5) ?_
 by_cases h6:o = 6
 ·rw [if_pos h6]
  exact zac (eqt h6) (zay (ztv hv n T hT) rfl)
 rw [if_neg h6]
 refine zaa (eqf h6) ?_
 by_cases h9:o = 9
 ·rw [if_pos h9]
  exact zac (eqt h9) (zay (zrB n T hT) rfl)
 rw [if_neg h9]
 refine zaa (eqf h9) ?_
 by_cases h10:o = 10
 ·rw [if_pos h10]
  exact zac (eqt h10) (zay (zqz hv n T hT) rfl)
 rw [if_neg h10]
 refine zaa (eqf h10) ?_
 by_cases h11:o = 11
 ·rw [if_pos h11]
  refine zac (eqt h11) ?_
  by_cases hn:n = 0
  ·rw [if_pos hn]
   exact zaa (nef hn) (zay (zpW hv T) rfl)
  ·rw [if_neg hn]
   exact zac (net hn) rfl
 rw [if_neg h11]
 exact zaa (eqf h11) rfl
end
end Go.Proofs.YtcpcagdialnbeaaGreat
namespace Go.Proofs.YtcpcagdialnbeaaGreat
open Go
def okT (D:List DM) (t:Int):Prop:=t = -1 ∨ (0 ≤ t ∧ t ≤ D.length)
theorem zyv (f t:Int):∀ (D:List DM) (k:Nat),zio f t D k = -1 ∨ (0 ≤ zio f t D k ∧ zio f t D k ≤ ((k + D.length:Nat):Int))
 | [],_ => .inl rfl
 | d :: ds,k => by
  unfold zio
  split
  ·right; simp only [List.length_cons]; omega
  ·have:=zyv f t ds (k + 1)
   simp only [List.length_cons]
   omega
section
variable {D:List DM} {R:List PM}
theorem zEy (hv:CP D R) (o n:Int) (T:List Int):okT D (zp9 D R o n T):=by
 unfold okT zp9
 split
 ·split <;> omega
 split
 ·split <;> omega
 split
 ·split <;> omega
 split
 ·rcases zhs (D:=D) n with h0 | ⟨j,i,hj,he,_⟩
  ·rw [h0]; simp
  ·split
   ·omega
   ·split <;> omega
 split
 ·split
  ·have:=hv.r n.toNat (by omega)
   split <;> omega
  ·omega
 split
 ·split
  ·split
   ·omega
   ·split
    ·have:=zyv ((gP R n.toNat).ps.getD ((gP R n.toNat).ps.length - 1) 0) (gP R n.toNat).r D 0
     rw [Nat.zero_add] at this
     exact this
    ·omega
  ·omega
 split
 ·split
  ·split
   ·rename_i hc
    have hb:(0 < T.getD 0 0 ∧ T.getD 0 0 ≤ D.length) ∧ (gD D ((T.getD 0 0).toNat - 1)).cs.length = 0:=by
     have hi:=hc.2.1
     simp only [zog,Bool.and_eq_true,decide_eq_true_eq,beq_iff_eq] at hi
     exact ⟨⟨hi.1,(isTy_iff.1 hi.2.1).2⟩,hi.2.2⟩
    have:=(hv.dv.arr ((T.getD 0 0).toNat - 1) (by omega) hb.2).2
    omega
   ·omega
  ·omega
 ·omega
end
theorem zx4 {ρ:Type} {r:ρ} {x:Option AV} {a0:List (List AC)} {a1:List (List AC)} (h:x = some (.v (.agg [.sl 1 a0,.sl 1 a1]))) {K:Fn (Option ρ) (za6 [(true,[.sl 1 [],.sl 1 []])])} (h2:(K:List (List AC) → List (List AC) → Option ρ) a0 a1 = some r):zao x false [(true,[.sl 1 [],.sl 1 []])] K = some r:=by rw [h]; exact h2
def cL (D:List DM) (j:Nat):List Int:=(List.range (gD D j).cs.length).map fun i => ((zbM (D.take j) + i:Nat):Int)
theorem zmb (D:List DM) (j:Nat):(cL D j).length = (gD D j).cs.length:=by simp [cL]
theorem zxk {D:List DM} {j k:Nat} (h:k < (gD D j).cs.length):(cL D j).getD k 0 = ((zbM (D.take j) + k:Nat):Int):=by
 simp [cL,List.getD,h]
theorem zwQ {D:List DM} (hv:DV D) (n:Int):zcT [.cell (.sl 3 (zaf D)),.cell (.int n)] = rL (if 1 ≤ n ∧ n ≤ D.length then cL D (n.toNat - 1) else []):=by
 have hD:=hv.len
 refine zmX (zai (zdk _ _ _) ?_)
 rw [zbh]
 by_cases h:1 ≤ n ∧ n ≤ D.length
 rotate_left
 ·rw [if_neg h]
  refine zac ?_ rfl
  rw [Bool.not_eq_true',Bool.and_eq_false_iff,decide_eq_false_iff_not,decide_eq_false_iff_not]
  omega
 rw [if_pos h,decide_eq_true h.1,decide_eq_true h.2]
 refine zaa rfl ?_
 have hj:n.toNat - 1 < D.length:=by omega
 have w:zae (n - 1) = ((n.toNat - 1:Nat):Int):=by rw [wr (by omega) (by omega)]; omega
 generalize n.toNat - 1 = j at hj w ⊢
 have hc:=hv.cs j hj
 have hs:=zjm hv.cs j (by omega)
 have key:∀ m k:Nat,k + m = (gD D j).cs.length → ze2 (zaf D) n (zad ((cL D j).take k)) (k:Int) = rL (cL D j):=by
  intro m
  induction m with
  | zero =>
   intro k hk
   refine zeO (zb2 (k:=j) w hj (zaa (decide_eq_false (by rw [za7]; omega)) ?_))
   rw [List.take_of_length_le (by rw [zmb]; omega)]
  | succ m ih =>
   intro k hk
   refine zeO (zb2 (k:=j) w hj (zac (decide_eq_true (by rw [za7]; omega)) ?_))
   rw [w]
   refine zay (zlS hv (k:=j) (by omega)) (zb5 (by rw [zab,List.length_take,zmb]; simp; omega) ?_)
   have hlt:k < (cL D j).length:=by rw [zmb]; omega
   have e:=zpr hlt
   have e2:(cL D j)[k] = ((zbM (D.take j) + k:Nat):Int):=by
    have:=zxk (D:=D) (j:=j) (k:=k) (by omega)
    rw [← this]
    simp [List.getD,hlt]
   rw [e2] at e
   rw [wr (n:=((zbM (D.take j):Nat):Int) + (k:Int)) (by omega) (by omega),← Int.natCast_add,e,wrk (by unfold zaE; omega)]
   exact ih (k + 1) (by omega)
 exact key (gD D j).cs.length 0 (by omega)
def chk (T:Nat → Int) (t0:Int):Nat → Nat → Int
 | 0,_ => t0
 | m + 1,k => if T k = t0 then chk T t0 m (k + 1) else -1
theorem zAj {D:List DM} {T:Nat → Int} {t0:Int} (h:okT D t0):∀ m k,okT D (chk T t0 m k)
 | 0,_ => h
 | m + 1,k => by
  unfold chk
  split
  ·exact zAj h m (k + 1)
  ·exact .inl rfl
end Go.Proofs.YtcpcagdialnbeaaGreat
