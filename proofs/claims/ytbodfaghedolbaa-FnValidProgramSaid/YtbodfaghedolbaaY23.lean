/- Generic texts and models for the proofs of this seat: part 23. -/
import Derived.Test.YtbodfaghedolbaaY22
set_option linter.unusedVariables false
set_option linter.unusedSimpArgs false
namespace Go.Proofs.Ytbodfaghedolbaa
open Go
structure DV (D:List DM):Prop where
 len:D.length ≤ 4
 cs:∀ k,k < D.length → (gD D k).cs.length ≤ 3
 c:∀ k,k < D.length → ∀ c ∈ (gD D k).cs,c.length ≤ 3 ∧ ∀ x ∈ c,0 ≤ x ∧ x ≤ D.length
 arr:∀ k,k < D.length → (gD D k).cs.length = 0 → (0 ≤ (gD D k).f ∧ (gD D k).f ≤ D.length) ∧ (0 ≤ (gD D k).t ∧ (gD D k).t ≤ D.length)
theorem isTy_iff {D:List DM} {t:Int}:zdl D t = true ↔ 0 ≤ t ∧ t ≤ D.length:=by simp [zdl]
theorem zyI {D:List DM} (h:zej D = true):DV D:=by
 simp only [zej,Bool.and_eq_true,decide_eq_true_eq,List.all_eq_true,List.mem_range] at h
 obtain ⟨h1,h2⟩:=h
 refine ⟨h1,fun k hk => ?_,fun k hk c hc => ?_,fun k hk h0 => ?_⟩
 ·have:=h2 k hk
  unfold ziU at this
  split at this
  ·simp only [Bool.and_eq_true,decide_eq_true_eq] at this; exact this.1
  ·omega
 ·have:=h2 k hk
  unfold ziU at this
  have hpos:0 < (gD D k).cs.length:=List.length_pos_of_mem hc
  rw [if_pos hpos] at this
  simp only [Bool.and_eq_true,List.all_eq_true,zie,decide_eq_true_eq] at this
  obtain ⟨g1,g2⟩:=this.2.2.2 c hc
  exact ⟨g1,fun x hx => isTy_iff.1 (g2 x hx)⟩
 ·have:=h2 k hk
  unfold ziU at this
  rw [if_neg (by omega)] at this
  simp only [Bool.and_eq_true] at this
  exact ⟨isTy_iff.1 this.1,isTy_iff.1 this.2.1⟩
def zbr:List DM → Nat
 | [] => 0
 | d :: ds => d.cs.length + zbr ds
theorem zqR (a b:List DM):zbr (a ++ b) = zbr a + zbr b:=by
 induction a with
 | nil => simp [zbr]
 | cons x a ih => simp only [List.cons_append,zbr,ih]; omega
theorem zic {D:List DM} {k:Nat} (h:k < D.length):zbr (D.take (k + 1)) = zbr (D.take k) + (gD D k).cs.length:=by
 rw [List.take_succ_eq_append_getElem h,zqR,zi2 h]
 simp [zbr]
theorem zgq {D:List DM} (h:∀ k,k < D.length → (gD D k).cs.length ≤ 3):∀ k,k ≤ D.length → zbr (D.take k) ≤ 3 * k
 | 0,_ => by simp [zbr]
 | k + 1,hk => by
  rw [zic (by omega)]
  have:=zgq h k (by omega)
  have:=h k (by omega)
  omega
theorem zyB {D:List DM} {k j:Nat} (h:j < k) (hk:k ≤ D.length):gD (D.take k) j = gD D j:=by
 rw [← zi2 (D:=D.take k) (by rw [List.length_take]; omega),← zi2 (D:=D) (by omega),List.getElem_take]
theorem ziE {D:List DM} (hv:DV D) {k:Nat} (hk:k ≤ D.length):zeg [.cell (.sl 3 (zak D)),.cell (.int (k:Int))] = rI (zbr (D.take k)):=by
 have h4:=hv.len
 have key:∀ m j:Nat,j + m = k → zdY (zak D) (k:Int) ((zbr (D.take j):Nat):Int) (j:Int) = rI (zbr (D.take k)):=by
  intro m
  induction m with
  | zero => intro j hj; exact zf8 (zab (decide_eq_false (by omega)) (by rw [show j = k by omega]))
  | succ m ih =>
   intro j hj
   have hlt:j < D.length:=by omega
   have h1:=zgq hv.cs j (by omega)
   have h2:=hv.cs j hlt
   refine zf8 (zad (decide_eq_true (by omega)) (zbE rfl hlt ?_))
   rw [zaW,wr (by omega) (by omega),wrk (by unfold za8; omega)]
   have:=ih (j + 1) (by omega)
   rw [zic hlt] at this
   change @Eq (Option AV) _ _
   simpa using this
 exact zlp (key k 0 (by omega))
theorem zqt {D:List DM} (h4:D.length ≤ 4) (h3:∀ k,k < D.length → (gD D k).cs.length ≤ 3):zhc [.cell (.sl 3 (zak D))] = rI (zbr D):=by
 have key:∀ m j:Nat,j + m = D.length → zdv ((zbr (D.take j):Nat):Int) (zak D) (((zak D).length:Nat):Int) (j:Int) = rI (zbr D):=by
  intro m
  induction m with
  | zero => intro j hj; exact zfS (zab (decide_eq_false (by rw [za4]; omega)) (by rw [List.take_of_length_le (by omega)]))
  | succ m ih =>
   intro j hj
   have hlt:j < D.length:=by omega
   have h1:=zgq h3 j (by omega)
   have h2:=h3 j hlt
   refine zfS (zad (decide_eq_true (by rw [za4]; omega)) (zbE rfl hlt ?_))
   rw [zaW,wr (by omega) (by omega),wrk (by unfold za8; omega)]
   have:=ih (j + 1) (by omega)
   rw [zic hlt] at this
   change @Eq (Option AV) _ _
   simpa using this
 exact zkw (key D.length 0 (by omega))
theorem zrN {D:List DM} (hv:DV D) {k:Nat} (hk:k ≤ D.length):zhG [.cell (.sl 3 (zak D)),.cell (.int ((k:Int) + 1))] = rI (zbr (D.take k)):=by
 have h4:=hv.len
 have w:zai (((k:Int) + 1) - 1) = (k:Int):=by rw [wr (by omega) (by omega)]; omega
 refine zlY ?_
 rw [w]
 refine zsK (by omega) (by omega) (by rw [za4]; omega) ?_
 rw [show (((zak D).drop (0:Int).toNat).take ((k:Int).toNat - (0:Int).toNat)) = zak (D.take k) by simp [zob]]
 exact zaC (zqt (by rw [List.length_take]; omega) (fun j hj => by rw [List.length_take] at hj; rw [zyB (by omega) hk]; exact hv.cs j (by omega))) rfl
def zlH (c:Int):List DM → Nat → Nat → Int
 | [],_,_ => -1
 | d :: ds,first,k => if (first:Int) ≤ c ∧ c < (first:Int) + d.cs.length then ((k + 1:Nat):Int) else zlH c ds (first + d.cs.length) (k + 1)
def zgJ (D:List DM) (c:Int):Int:=zlH c D 0 0
theorem zmd {D:List DM} (hv:DV D) (c:Int):ze7 [.cell (.sl 3 (zak D)),.cell (.int c)] = rI (zgJ D c):=by
 have h4:=hv.len
 have key:∀ m k:Nat,k + m = D.length → zb0 c ((zbr (D.take k):Nat):Int) (zak D) (((zak D).length:Nat):Int) (k:Int) = rI (zlH c (D.drop k) (zbr (D.take k)) k):=by
  intro m
  induction m with
  | zero => intro k hk; exact zfJ (zab (decide_eq_false (by rw [za4]; omega)) (by rw [List.drop_eq_nil_of_le (by omega)]; rfl))
  | succ m ih =>
   intro k hk
   have hlt:k < D.length:=by omega
   have h1:=zgq hv.cs k (by omega)
   have h2:=hv.cs k hlt
   have nx:=ih (k + 1) (by omega)
   rw [zic hlt] at nx
   rw [List.drop_eq_getElem_cons hlt,zi2 hlt]
   unfold zlH
   refine zfJ (zad (decide_eq_true (by rw [za4]; omega)) (zbE rfl hlt ?_))
   rw [zaW,wr (n:=((zbr (D.take k):Nat):Int) + ((gD D k).cs.length:Nat)) (by omega) (by omega),wrk (by unfold za8; omega)]
   have nx':zb0 c (((zbr (D.take k):Nat):Int) + (((gD D k).cs.length:Nat):Int)) (zak D) (((zak D).length:Nat):Int) ((k + 1:Nat):Int) = rI (zlH c (D.drop (k + 1)) (zbr (D.take k) + (gD D k).cs.length) (k + 1)):=by simpa using nx
   by_cases g1:((zbr (D.take k):Nat):Int) ≤ c
   ·refine zad (decide_eq_true g1) ?_
    by_cases g2:c < ((zbr (D.take k):Nat):Int) + ((gD D k).cs.length:Nat)
    ·rw [if_pos ⟨g1,g2⟩]
     exact zad (decide_eq_true g2) rfl
    ·rw [if_neg (fun h => g2 h.2)]
     exact zab (decide_eq_false g2) nx'
   ·rw [if_neg (fun h => g1 h.1)]
    exact zab (decide_eq_false g1) nx'
 exact zkH (key D.length 0 (by omega))
theorem zlZ {D:List DM} (hv:DV D) (c:Int):ze3 [.cell (.sl 3 (zak D)),.cell (.int c)] = rI (zgJ D c):=by
 have h4:=hv.len
 have key:∀ m k:Nat,k + m = D.length → zel (zak D) c (k:Int) = rI (zlH c (D.drop k) (zbr (D.take k)) k):=by
  intro m
  induction m with
  | zero => intro k hk; exact zg9 (zab (decide_eq_false (by rw [za4]; omega)) (by rw [List.drop_eq_nil_of_le (by omega)]; rfl))
  | succ m ih =>
   intro k hk
   have hlt:k < D.length:=by omega
   have h1:=zgq hv.cs k (by omega)
   have h2:=hv.cs k hlt
   have nx:=ih (k + 1) (by omega)
   rw [zic hlt] at nx
   rw [List.drop_eq_getElem_cons hlt,zi2 hlt]
   unfold zlH
   refine zg9 (zad (decide_eq_true (by rw [za4]; omega)) (zaC (ziE hv (by omega)) (zbE rfl hlt ?_)))
   rw [zaW,wr (n:=((zbr (D.take k):Nat):Int) + ((gD D k).cs.length:Nat)) (by omega) (by omega),wr (n:=((zbr (D.take k):Nat):Int) + ((gD D k).cs.length:Nat) - 1) (by omega) (by omega),wrk (by unfold za8; omega)]
   refine zaH (zdO _ _ _) ?_
   by_cases g1:((zbr (D.take k):Nat):Int) ≤ c
   ·rw [decide_eq_true g1]
    by_cases g2:c < ((zbr (D.take k):Nat):Int) + ((gD D k).cs.length:Nat)
    ·rw [if_pos ⟨g1,g2⟩,decide_eq_true (show c ≤ ((zbr (D.take k):Nat):Int) + ((gD D k).cs.length:Nat) - 1 by omega)]
     exact zad rfl rfl
    ·rw [if_neg (fun h => g2 h.2),decide_eq_false (show ¬ c ≤ ((zbr (D.take k):Nat):Int) + ((gD D k).cs.length:Nat) - 1 by omega)]
     exact zab rfl nx
   ·rw [if_neg (fun h => g1 h.1),decide_eq_false g1]
    exact zab rfl nx
 exact zmQ (key D.length 0 (by omega))
theorem zpD (c:Int):∀ (ds:List DM) (first k:Nat),zlH c ds first k = -1 ∨ ∃ j,j < ds.length ∧ zlH c ds first k = ((k + j + 1:Nat):Int) ∧ ((first + zbr (ds.take j):Nat):Int) ≤ c ∧ c < ((first + zbr (ds.take j):Nat):Int) + (gD ds j).cs.length
 | [],first,k => .inl rfl
 | d :: ds,first,k => by
  unfold zlH
  split
  ·rename_i h
   exact .inr ⟨0,by simp,by simp,by simpa [zbr] using h.1,by simpa [zbr,gD] using h.2⟩
  ·rcases zpD c ds (first + d.cs.length) (k + 1) with h | ⟨j,h1,h2,h3,h4⟩
   ·exact .inl h
   ·refine .inr ⟨j + 1,by simpa using h1,by rw [h2]; congr 1; omega,?_,?_⟩
    ·simp only [List.take_succ_cons,zbr]; omega
    ·simp only [List.take_succ_cons,zbr]
     have:gD (d :: ds) (j + 1) = gD ds j:=by simp [gD]
     rw [this]; omega
theorem zrB:∀ (ds:List DM) (first k j i:Nat),j < ds.length → i < (gD ds j).cs.length → zlH ((first + zbr (ds.take j) + i:Nat):Int) ds first k = ((k + j + 1:Nat):Int)
 | d :: ds,first,k,0,i,_,hi => by
  have hi':i < d.cs.length:=by simpa [gD] using hi
  unfold zlH
  rw [if_pos (by simp [zbr]; omega)]
  try simp
 | d :: ds,first,k,j + 1,i,hj,hi => by
  have hi':i < (gD ds j).cs.length:=by simpa [gD] using hi
  unfold zlH
  rw [if_neg (by simp only [List.take_succ_cons,zbr]; omega)]
  have:=zrB ds (first + d.cs.length) (k + 1) j i (by simpa using hj) hi'
  rw [show first + zbr ((d :: ds).take (j + 1)) + i = first + d.cs.length + zbr (ds.take j) + i by simp only [List.take_succ_cons,zbr]; omega]
  exact this.trans (congrArg (fun n:Nat => ((n:Nat):Int)) (by omega))
 | [],_,_,_,_,h,_ => by simp at h
def fld (D:List DM) (c:Int):List Int:=(gD D ((zgJ D c).toNat - 1)).cs.getD (c - ((zbr (D.take ((zgJ D c).toNat - 1)):Nat):Int)).toNat []
theorem zfh {D:List DM} (c:Int):zgJ D c = -1 ∨ ∃ j i:Nat,j < D.length ∧ zgJ D c = ((j:Nat):Int) + 1 ∧ c = ((zbr (D.take j) + i:Nat):Int) ∧ i < (gD D j).cs.length ∧ fld D c = (gD D j).cs.getD i []:=by
 rcases zpD c D 0 0 with h | ⟨j,h1,h2,h3,h4⟩
 ·exact .inl h
 ·have e:zgJ D c = ((j:Nat):Int) + 1:=by unfold zgJ; rw [h2]; omega
  refine .inr ⟨j,(c - ((zbr (D.take j):Nat):Int)).toNat,h1,e,by omega,by omega,?_⟩
  unfold fld
  rw [e,show (((j:Nat):Int) + 1).toNat - 1 = j by omega]
theorem zqM {D:List DM} {j i:Nat} (hj:j < D.length) (hi:i < (gD D j).cs.length):zgJ D ((zbr (D.take j) + i:Nat):Int) = ((j:Nat):Int) + 1 ∧ fld D ((zbr (D.take j) + i:Nat):Int) = (gD D j).cs.getD i []:=by
 have h:=zrB D 0 0 j i hj hi
 rw [Nat.zero_add] at h
 have e:zgJ D ((zbr (D.take j) + i:Nat):Int) = ((j:Nat):Int) + 1:=by unfold zgJ; rw [h]; omega
 refine ⟨e,?_⟩
 unfold fld
 rw [e,show (((j:Nat):Int) + 1).toNat - 1 = j by omega,show (((zbr (D.take j) + i:Nat):Int) - ((zbr (D.take j):Nat):Int)).toNat = i by omega]
theorem zoR {D:List DM} (hv:DV D) {c:Int} (h:1 ≤ zgJ D c):zft [.cell (.sl 3 (zak D)),.cell (.int c)] = rL (fld D c):=by
 have h4:=hv.len
 rcases zfh (D:=D) c with h0 | ⟨j,i,hj,he,hc,hi,hf⟩
 ·omega
 have h1:=zgq hv.cs j (by omega)
 have h2:=hv.cs j hj
 refine zjV (zaC (zmd hv c) ?_)
 rw [he]
 refine zbE (k:=j) (by rw [wr (by omega) (by omega)]; omega) hj (zaC (zrN hv (by omega)) (zj9 (k:=i) (by rw [hc,wr (by omega) (by omega)]; omega) hi ?_))
 rw [hf]
theorem zhy {D:List DM} (hv:DV D) (c:Int):zaE [.cell (.sl 3 (zak D)),.cell (.int c)] = rL (if zgJ D c < 1 then [] else fld D c):=by
 have h4:=hv.len
 refine zle (zaC (zlZ hv c) ?_)
 rcases zfh (D:=D) c with h0 | ⟨j,i,hj,he,hc,hi,hf⟩
 ·rw [h0]
  exact zad rfl rfl
 have h1:=zgq hv.cs j (by omega)
 have h2:=hv.cs j hj
 rw [he,if_neg (by omega)]
 refine zab (decide_eq_false (by omega)) ?_
 have w:zai (((j:Nat):Int) + 1 - 1) = j:=by rw [wr (by omega) (by omega)]; omega
 rw [w]
 refine zbE rfl hj (zaC (ziE hv (by omega)) (zj9 (k:=i) (by rw [hc,wr (by omega) (by omega)]; omega) hi ?_))
 rw [hf]
theorem zqy {D:List DM} (hl:D.length ≤ 1000) (t:Int):zjg [.cell (.sl 3 (zak D)),.cell (.int t)] = rB (zvH D t):=by
 refine zn0 ?_
 unfold zvH
 by_cases h:0 < t
 rotate_left
 ·rw [decide_eq_false h]
  exact zab rfl rfl
 rw [decide_eq_true h]
 refine zad rfl (zaH (zib D t) ?_)
 rcases ht:zdl D t with _ | _
 ·exact zab rfl rfl
 have:=isTy_iff.1 ht
 refine zad rfl (zbE (k:=t.toNat - 1) (by rw [wr (by omega) (by omega)]; omega) (by omega) ?_)
 rw [zaW]
 by_cases hc:0 < (gD D (t.toNat - 1)).cs.length
 ·rw [decide_eq_true hc,decide_eq_true (by omega)]; rfl
 ·rw [decide_eq_false hc,decide_eq_false (by omega)]; rfl
theorem ztF {D:List DM} (hl:D.length ≤ 1000) (t:Int):zio [.cell (.sl 3 (zak D)),.cell (.int t)] = rB (zkb D t):=by
 refine zmu ?_
 unfold zkb
 by_cases h:0 < t
 rotate_left
 ·rw [decide_eq_false h]
  exact zab rfl rfl
 rw [decide_eq_true h]
 refine zad rfl (zaH (zib D t) ?_)
 rcases ht:zdl D t with _ | _
 ·exact zab rfl rfl
 have:=isTy_iff.1 ht
 refine zad rfl (zbE (k:=t.toNat - 1) (by rw [wr (by omega) (by omega)]; omega) (by omega) ?_)
 rw [zaW]
 by_cases hc:(gD D (t.toNat - 1)).cs.length = 0
 ·rw [zr hc,hc]; rfl
 ·rw [nz hc,show ((gD D (t.toNat - 1)).cs.length == 0) = false by simpa using hc]; rfl
theorem zdj {D:List DM} (hl:D.length ≤ 1000) (t:Int):zdZ [.cell (.sl 3 (zak D)),.cell (.int t)] = rB (zkb D t):=by
 refine zmt (zaH (zdO _ _ _) ?_)
 rw [za4]
 unfold zkb
 by_cases h:0 < t
 rotate_left
 ·rw [decide_eq_false h,decide_eq_false (show ¬ (1:Int) ≤ t by omega)]
  exact zab rfl rfl
 rw [decide_eq_true h,decide_eq_true (show (1:Int) ≤ t by omega)]
 rcases ht:zdl D t with _ | _
 ·have:¬ (t ≤ D.length):=fun hle => by
   have:=isTy_iff.2 ⟨show 0 ≤ t by omega,hle⟩
   rw [ht] at this
   cases this
  rw [decide_eq_false this]
  exact zab rfl rfl
 have:=isTy_iff.1 ht
 rw [decide_eq_true this.2]
 refine zad rfl (zbE (k:=t.toNat - 1) (by rw [wr (by omega) (by omega)]; omega) (by omega) ?_)
 rw [zaW]
 by_cases hc:(gD D (t.toNat - 1)).cs.length = 0
 ·rw [zr hc,hc]; rfl
 ·rw [nz hc,show ((gD D (t.toNat - 1)).cs.length == 0) = false by simpa using hc]; rfl
def tv (V:List Int) (v:Int):Int:=if 0 ≤ v ∧ v < V.length then V.getD v.toNat 0 else -1
theorem zq6 (G M:List Int) (hG:G.length ≤ 68719476736) (hM:M.length ≤ 68719476736) {v:Int} (hv:inI v):zgW [.agg [.sl 1 (zae G),.sl 1 (zae M)],.cell (.int v)] = rI (tv (G ++ M) v):=by
 refine zlg ?_
 rw [zac,zac]
 obtain ⟨v1,v2⟩:=hv
 unfold tv
 rw [List.length_append]
 by_cases h0:v < 0
 ·rw [if_neg (by omega)]
  exact zad (decide_eq_true h0) rfl
 refine zab (decide_eq_false h0) ?_
 by_cases h1:v < G.length
 ·rw [if_pos (by omega)]
  refine zad (decide_eq_true h1) (zhP (k:=v.toNat) (by omega) (by omega) ?_)
  change @Eq (Option AV) _ _
  simp [List.getD,List.getElem?_append_left (show v.toNat < G.length by omega)]
 refine zab (decide_eq_false h1) ?_
 have w:zai (v - G.length) = v - G.length:=wr (by omega) (by omega)
 rw [w]
 by_cases h2:v - G.length < M.length
 ·rw [if_pos (by omega)]
  refine zad (decide_eq_true h2) (zhP (k:=v.toNat - G.length) (by omega) (by omega) ?_)
  change @Eq (Option AV) _ _
  simp [List.getD,List.getElem?_append_right (show G.length ≤ v.toNat by omega)]
 ·rw [if_neg (by omega)]
  exact zab (decide_eq_false h2) rfl
theorem zkx {xs:List Int} {k:Nat} (h:k < xs.length):zae (xs.take k) ++ [[.int xs[k]]] = zae (xs.take (k + 1)):=by
 show zae (xs.take k) ++ zae [xs[k]] = _
 rw [zgw,← List.take_succ_eq_append_getElem h]
theorem zsl (xs:List Int) (hx:xs.length ≤ 68719476736):zhB [.cell (.sl 1 (zae xs))] = rL xs:=by
 have key:∀ m k:Nat,k + m = xs.length → zdV (zae (xs.take k)) (zae xs) (((zae xs).length:Nat):Int) (k:Int) = rL xs:=by
  intro m
  induction m with
  | zero => intro k hk; exact zf7 (zab (decide_eq_false (by rw [zac]; omega)) (by rw [List.take_of_length_le (by omega)]))
  | succ m ih =>
   intro k hk
   have hlt:k < xs.length:=by omega
   refine zf7 (zad (decide_eq_true (by rw [zac]; omega)) (zbi hlt (zcT (by rw [zac,List.length_take]; simp; omega) ?_)))
   rw [zkx hlt,wrk (by unfold za8; omega)]
   exact ih (k + 1) (by omega)
 exact zl3 (key xs.length 0 (by omega))
theorem zsb (xs:List Int) (hx:xs.length ≤ 68719476736):zhE [.cell (.sl 1 (zae xs))] = rL xs :=
 zlV (zcT (by rw [zac]; simpa using hx) (by rw [List.nil_append]))
theorem zjj (xs ys:List Int) (hx:xs.length + ys.length ≤ 68719476736):zbq [.cell (.sl 1 (zae xs)),.cell (.sl 1 (zae ys))] = rL (xs ++ ys) :=
 zn9 (zaP (zsb xs (by omega)) (zcT (by rw [zac,zac]; exact hx) (by rw [zgw])))
theorem zrW (G M xs:List Int) (hM:M.length + xs.length ≤ 68719476736):zgF [.agg [.sl 1 (zae G),.sl 1 (zae M)],.cell (.sl 1 (zae xs))] = some (.v (.agg [.sl 1 (zae G),.sl 1 (zae (M ++ xs))])):=by
 have key:∀ m k:Nat,k + m = xs.length → zgl (zae G) (zae M) [] [] (zae (M ++ xs.take k)) (zae xs) (((zae xs).length:Nat):Int) (k:Int) = some (.v (.agg [.sl 1 (zae G),.sl 1 (zae (M ++ xs))])):=by
  intro m
  induction m with
  | zero => intro k hk; exact ziQ (zab (decide_eq_false (by rw [zac]; omega)) (by rw [List.take_of_length_le (by omega)]))
  | succ m ih =>
   intro k hk
   have hlt:k < xs.length:=by omega
   refine ziQ (zad (decide_eq_true (by rw [zac]; omega)) (zbi hlt (zcT (by rw [zac,List.length_append,List.length_take]; simp; omega) ?_)))
   rw [← zgw,List.append_assoc,zkx hlt,zgw,wrk (by unfold za8; omega)]
   exact ih (k + 1) (by omega)
 refine zpY (zaP (zsl M (by omega)) ?_)
 have:=key xs.length 0 (by omega)
 rw [List.take_zero,List.append_nil] at this
 exact this
theorem zhl (xs ys:List Int) (hx:xs.length ≤ za8):za9 [.cell (.sl 1 (zae xs)),.cell (.sl 1 (zae ys))] = rB (decide (xs = ys)):=by
 refine zlM ?_
 rw [zac,zac]
 by_cases hl:xs.length = ys.length
 rotate_left
 ·rw [decide_eq_false (fun h => hl (by rw [h]))]
  exact zad (net (by omega)) rfl
 refine zab (nef (by omega)) ?_
 have key:∀ m k:Nat,k + m = xs.length → zdM (zae xs) (zae ys) ((xs.length:Nat):Int) (k:Int) = rB (decide (xs.drop k = ys.drop k)):=by
  intro m
  induction m with
  | zero =>
   intro k hk
   rw [List.drop_eq_nil_of_le (show xs.length ≤ k by omega),List.drop_eq_nil_of_le (show ys.length ≤ k by omega)]
   exact zf9 (zab (decide_eq_false (by omega)) rfl)
  | succ m ih =>
   intro k hk
   have h1:k < xs.length:=by omega
   have h2:k < ys.length:=by omega
   rw [List.drop_eq_getElem_cons h1,List.drop_eq_getElem_cons h2]
   refine zf9 (zad (decide_eq_true (by omega)) (zbi h1 (zbi h2 ?_)))
   by_cases he:xs[k] = ys[k]
   ·refine zab (nef he) ?_
    rw [wrk (by omega),ih (k + 1) (by omega)]
    change @Eq (Option AV) _ _
    simp only [List.cons.injEq,he,true_and]
   ·refine zad (net he) ?_
    rw [decide_eq_false (fun h => he (List.cons.inj h).1)]
 exact key xs.length 0 (by omega)
theorem zcq (b:Bool) (t:Int):zar [.cell (.bool b),.cell (.int t)] = rI (if b then t else -1):=by
 cases b
 ·exact zhX (zab rfl rfl)
 ·exact zhX (zad rfl rfl)
end Go.Proofs.Ytbodfaghedolbaa
namespace Go.Proofs.Ytbodfaghedolbaa
open Go
structure PM where
 ps:List Int
 r:Int
 o:Int
 n:Int
 kids:List (List AC)
 deriving Inhabited
def pmC (x:PM):List AC:=[.sl 1 (zae x.ps),.int x.r,.int x.o,.int x.n,.sl 3 x.kids]
def zaD (R:List PM):List (List AC):=R.map pmC
structure POk (x:PM):Prop where
 ps:zcX x.ps
 r:inI x.r
 b:Fit .expr [.int x.o,.int x.n,.sl 3 x.kids]
theorem zs3:∀ {rs:List (List AC)},(∀ d ∈ rs,Fit .func d) → ∃ R,rs = zaD R ∧ ∀ d ∈ R,POk d
 | [],_ => ⟨[],rfl,fun c h => by cases h⟩
 | d :: ds,h => by
  obtain ⟨R,rfl,hR⟩:=zs3 fun x hx => h x (List.mem_cons_of_mem _ hx)
  have h0:=h d List.mem_cons_self
  generalize ht:Ty.func = t at h0
  cases h0 with
  | func ps r o n kids hp hr hb =>
   refine ⟨⟨ps,r,o,n,kids⟩ :: R,rfl,fun x hx => ?_⟩
   rcases List.mem_cons.1 hx with rfl | hx
   ·exact ⟨hp,hr,hb⟩
   ·exact hR x hx
  | _ => cases ht
theorem zbu (R:List PM):(zaD R).length = R.length:=by simp [zaD]
def gP (R:List PM) (k:Nat):PM:=R.getD k default
theorem zjv {R:List PM} {k:Nat} (h:k < R.length):gP R k ∈ R:=zef h _
theorem zvG {R:List PM} {k:Nat} (h:k < R.length):R[k] = gP R k:=by simp [gP,List.getD,h]
theorem zvA {R:List PM} {k:Nat} (h:k < R.length):(zaD R).getD k [] = [.sl 1 (zae (gP R k).ps),.int (gP R k).r,.int (gP R k).o,.int (gP R k).n,.sl 3 (gP R k).kids]:=by simp [zaD,List.getD,h,gP,pmC]
section
variable {ρ:Type} {r:ρ}
theorem zaT {R:List PM} {i:Int} {k:Nat} (hi:i = (k:Int)) (h:k < R.length) {K:Fn (Option ρ) [.sl 1 [],.int 0,.int 0,.int 0,.sl 3 []]}
  (h2:(K:List (List AC) → Int → Int → Int → List (List AC) → Option ρ) (zae (gP R k).ps) (gP R k).r (gP R k).o (gP R k).n (gP R k).kids = some r):zal (zaD R) i [.sl 1 [],.int 0,.int 0,.int 0,.sl 3 []] K = some r:=by
 subst hi
 exact zpG (by rw [zbu]; exact h) (zvA h) h2
end
def zp4 (D:List DM) (x:PM):Bool:=decide (x.ps.length ≤ 3) && (x.ps.all (zdl D) && zdl D x.r)
def zjW (D:List DM) (R:List PM):Bool:=zej D && (decide (1 ≤ R.length) && (decide (R.length ≤ 4) && (R.all (zp4 D) && (((gP R 0).ps.length == 0) && ((gP R 0).r == 0)))))
theorem zqu (D:List DM) (x:PM) (hx:POk x):zhN [.cell (.sl 3 (zak D)),.cell (.sl 1 (zae x.ps)),.cell (.int x.r)] = rB (zp4 D x):=by
 refine zlo ?_
 rw [zac]
 unfold zp4
 by_cases h:x.ps.length ≤ 3
 ·rw [decide_eq_true h]
  refine zad (decide_eq_true (by omega)) (zaH (zkh D _ hx.ps.len) ?_)
  rcases x.ps.all (zdl D) with _ | _
  ·exact zab rfl rfl
  ·exact zad rfl (zaH (zib D _) rfl)
 ·rw [decide_eq_false h]
  exact zab (decide_eq_false (by omega)) rfl
theorem zgk (D:List DM) (R:List PM) (hD:∀ d ∈ D,DOk d) (hR:∀ x ∈ R,POk x) (hl:D.length ≤ za8):zdH [.agg [.sl 3 (zak D),.sl 5 (zaD R)]] = rB (zjW D R):=by
 refine zkO (zaH (zpT D hD hl) ?_)
 unfold zjW
 rcases zej D with _ | _
 ·exact zad rfl rfl
 refine zab rfl ?_
 rw [zbu]
 by_cases h1:1 ≤ R.length
 rotate_left
 ·rw [decide_eq_false h1]
  exact zad (decide_eq_true (by omega)) rfl
 rw [decide_eq_true h1]
 refine zab (decide_eq_false (by omega)) ?_
 by_cases h4:R.length ≤ 4
 rotate_left
 ·rw [decide_eq_false h4]
  exact zad (decide_eq_true (by omega)) rfl
 rw [decide_eq_true h4]
 refine zab (decide_eq_false (by omega)) ?_
 have key:∀ m k:Nat,k + m = R.length → zdq (zak D) (zaD R) (zaD R) ((R.length:Nat):Int) (k:Int) = rB ((R.drop k).all (zp4 D) && (((gP R 0).ps.length == 0) && ((gP R 0).r == 0))):=by
  intro m
  induction m with
  | zero =>
   intro k hk
   rw [List.drop_eq_nil_of_le (by omega)]
   refine zfF (zab (decide_eq_false (by omega)) (zaT (k:=0) rfl (by omega) ?_))
   rw [zac]
   by_cases h0:(gP R 0).ps.length = 0
   ·exact zad (zr h0) (zaT (k:=0) rfl (by omega) (by rw [h0]; rfl))
   ·refine zab (nz h0) ?_
    rw [show ((gP R 0).ps.length == 0) = false by simpa using h0]
    rfl
  | succ m ih =>
   intro k hk
   have hlt:k < R.length:=by omega
   rw [zgR hlt,zvG hlt]
   refine zfF (zad (decide_eq_true (by omega)) (zaT rfl hlt (zaH (zqu D _ (hR _ (zjv hlt))) ?_)))
   rcases zp4 D (gP R k) with _ | _
   ·exact zad rfl rfl
   ·exact zab rfl (by rw [wrk (by unfold za8; omega)]; exact ih (k + 1) (by omega))
 exact key R.length 0 (by omega)
theorem zkS (D:List DM) (R:List PM) (hD:∀ d ∈ D,DOk d) (hR:∀ x ∈ R,POk x) (hl:D.length ≤ za8):zgV [.agg [.sl 3 (zak D),.sl 5 (zaD R)]] = rB (zjW D R):=by
 refine zkA (zaH (zpR D hD hl) ?_)
 unfold zjW
 rcases zej D with _ | _
 ·exact zad rfl rfl
 refine zab rfl (zaH (zdO _ _ _) ?_)
 rw [zbu]
 by_cases h1:1 ≤ R.length
 rotate_left
 ·rw [decide_eq_false h1,decide_eq_false (show ¬ (1:Int) ≤ ((R.length:Nat):Int) by omega)]
  exact zad rfl rfl
 rw [decide_eq_true h1,decide_eq_true (show (1:Int) ≤ ((R.length:Nat):Int) by omega)]
 by_cases h4:R.length ≤ 4
 rotate_left
 ·rw [decide_eq_false h4,decide_eq_false (show ¬ ((R.length:Nat):Int) ≤ 4 by omega)]
  exact zad rfl rfl
 rw [decide_eq_true h4,decide_eq_true (show ((R.length:Nat):Int) ≤ 4 by omega)]
 refine zab rfl ?_
 have key:∀ m k:Nat,k + m = R.length → zdx (zak D) (zaD R) (k:Int) = rB ((R.drop k).all (zp4 D) && (((gP R 0).ps.length == 0) && ((gP R 0).r == 0))):=by
  intro m
  induction m with
  | zero =>
   intro k hk
   rw [List.drop_eq_nil_of_le (by omega)]
   refine zfO (zab (decide_eq_false (by rw [zbu]; omega)) (zaT (k:=0) rfl (by omega) ?_))
   rw [zac]
   by_cases h0:(gP R 0).ps.length = 0
   ·exact zad (zr h0) (zaT (k:=0) rfl (by omega) (by rw [h0]; rfl))
   ·refine zab (nz h0) ?_
    rw [show ((gP R 0).ps.length == 0) = false by simpa using h0]
    rfl
  | succ m ih =>
   intro k hk
   have hlt:k < R.length:=by omega
   have hx:=hR _ (zjv hlt)
   rw [zgR hlt,zvG hlt]
   refine zfO (zad (decide_eq_true (by rw [zbu]; omega)) (zaT rfl hlt ?_))
   rw [zac]
   unfold zp4
   by_cases h3:(gP R k).ps.length ≤ 3
   rotate_left
   ·rw [decide_eq_false h3]
    exact zad (decide_eq_true (by omega)) rfl
   rw [decide_eq_true h3]
   refine zab (decide_eq_false (by omega)) (zaH (znS D _ hx.ps.len) ?_)
   rcases (gP R k).ps.all (zdl D) with _ | _
   ·exact zad rfl rfl
   refine zab rfl (zaH (zpV D _) ?_)
   rcases zdl D (gP R k).r with _ | _
   ·exact zad rfl rfl
   ·exact zab rfl (by rw [wrk (by unfold za8; omega)]; exact ih (k + 1) (by omega))
 exact key R.length 0 (by omega)
end Go.Proofs.Ytbodfaghedolbaa
namespace Go.Proofs.Ytbodfaghedolbaa
open Go
structure CP (D:List DM) (R:List PM):Prop where
 dv:DV D
 rl:R.length ≤ 4
 rok:∀ x ∈ R,POk x
 ps:∀ k,k < R.length → (gP R k).ps.length ≤ 3 ∧ ∀ t ∈ (gP R k).ps,0 ≤ t ∧ t ≤ D.length
 r:∀ k,k < R.length → 0 ≤ (gP R k).r ∧ (gP R k).r ≤ D.length
theorem zzU {D:List DM} {R:List PM} (hR:∀ x ∈ R,POk x) (h:zjW D R = true):CP D R:=by
 simp only [zjW,Bool.and_eq_true,decide_eq_true_eq,List.all_eq_true] at h
 obtain ⟨h2,h3,h4,h5,h6⟩:=h
 refine ⟨zyI h2,h4,hR,fun k hk => ?_,fun k hk => ?_⟩
 ·have:=h5 _ (zjv hk)
  simp only [zp4,Bool.and_eq_true,decide_eq_true_eq,List.all_eq_true] at this
  exact ⟨this.1,fun t ht => isTy_iff.1 (this.2.1 t ht)⟩
 ·have:=h5 _ (zjv hk)
  simp only [zp4,Bool.and_eq_true,decide_eq_true_eq,List.all_eq_true] at this
  exact isTy_iff.1 this.2.2
def zqh (ps:List Int):List Int:=ps.take (ps.length - 1)
def zl2 (D:List DM) (R:List PM) (o n:Int) (T:List Int):Int :=
 if o = 0 then (if (-999 ≤ n ∧ n ≤ 999) ∧ T.length = 0 then 0 else -1)
 else if o = 1 ∨ o = 2 ∨ o = 3 ∨ o = 4 then (if n = 0 ∧ T = [0,0] then 0 else -1)
 else if o = 5 then (if n = 0 ∧ T = [0] then 0 else -1)
 else if o = 6 then (if zgJ D n < 0 then -1 else if T = fld D n then zgJ D n else -1)
 else if o = 9 then (if 0 ≤ n ∧ n < R.length then (if T = (gP R n.toNat).ps then (gP R n.toNat).r else -1) else -1)
 else if o = 10 then (if 0 ≤ n ∧ n < R.length then (if (gP R n.toNat).ps.length = 0 then -1 else if T = zqh (gP R n.toNat).ps then zfL ((gP R n.toNat).ps.getD ((gP R n.toNat).ps.length - 1) 0) (gP R n.toNat).r D 0 else -1) else -1)
 else if o = 11 then (if n = 0 then (if T.length = 2 ∧ zkb D (T.getD 0 0) = true ∧ T.getD 1 0 = (gD D ((T.getD 0 0).toNat - 1)).f then (gD D ((T.getD 0 0).toNat - 1)).t else -1) else -1)
 else -1
section
variable {D:List DM} {R:List PM} (hv:CP D R)
include hv
theorem zvz {n:Int} (h:¬ zgJ D n < 0):(fld D n).length ≤ 3 ∧ ∀ t ∈ fld D n,0 ≤ t ∧ t ≤ D.length:=by
 rcases zfh (D:=D) n with h0 | ⟨j,i,hj,he,hc,hi,hf⟩
 ·omega
 rw [hf]
 exact hv.dv.c j hj _ (zef hi [])
omit hv in
theorem znr (n:Int):zgn [.agg [.sl 3 (zak D),.sl 5 (zaD R)],.cell (.int n)] = rB (decide (0 ≤ n ∧ n < R.length)):=by
 refine zmV ?_
 rw [zbu]
 by_cases h:0 ≤ n
 ·refine zad (decide_eq_true h) ?_
  simp [h] <;> rfl
 ·refine zab (decide_eq_false h) ?_
  simp [h] <;> rfl
theorem zoF (n:Int) (T:List Int) (hT:T.length ≤ za8):zcg [.cell (.sl 3 (zak D)),.cell (.int n),.cell (.sl 1 (zae T))] = rI (if zgJ D n < 0 then -1 else if T = fld D n then zgJ D n else -1):=by
 refine zjU (zaC (zmd hv.dv n) ?_)
 by_cases h:zgJ D n < 0
 ·rw [if_pos h]
  exact zad (decide_eq_true h) rfl
 rw [if_neg h]
 refine zab (decide_eq_false h) ?_
 have h1:1 ≤ zgJ D n:=by
  rcases zfh (D:=D) n with h0 | ⟨j,i,hj,he,_⟩ <;> omega
 refine zaP (zoR hv.dv h1) (zaH (zhl T _ hT) (zaC (zcq _ _) ?_))
 by_cases hq:T = fld D n <;> simp [hq] <;> rfl
omit hv in
theorem zmx (n:Int) (T:List Int) (hT:T.length ≤ za8):zb4 [.agg [.sl 3 (zak D),.sl 5 (zaD R)],.cell (.int n),.cell (.sl 1 (zae T))] = rI (if 0 ≤ n ∧ n < R.length then (if T = (gP R n.toNat).ps then (gP R n.toNat).r else -1) else -1):=by
 refine zi7 (zaH (znr n) ?_)
 by_cases h:0 ≤ n ∧ n < R.length
 ·rw [if_pos h,decide_eq_true h]
  refine zab rfl (zaT (k:=n.toNat) (by omega) (by omega) (zaH (zhl T _ hT) (zaT (k:=n.toNat) (by omega) (by omega) (zaC (zcq _ _) ?_))))
  by_cases hq:T = (gP R n.toNat).ps <;> simp [hq] <;> rfl
 ·rw [if_neg h,decide_eq_false h]
  exact zad rfl rfl
theorem zlT (n:Int) (T:List Int) (hT:T.length ≤ za8):zbS [.agg [.sl 3 (zak D),.sl 5 (zaD R)],.cell (.int n),.cell (.sl 1 (zae T))] = rI (if 0 ≤ n ∧ n < R.length then (if (gP R n.toNat).ps.length = 0 then -1 else if T = zqh (gP R n.toNat).ps then zfL ((gP R n.toNat).ps.getD ((gP R n.toNat).ps.length - 1) 0) (gP R n.toNat).r D 0 else -1) else -1):=by
 have hl:=hv.dv.len
 refine ziW (zaH (znr n) ?_)
 by_cases h:0 ≤ n ∧ n < R.length
 rotate_left
 ·rw [if_neg h,decide_eq_false h]
  exact zad rfl rfl
 rw [if_pos h,decide_eq_true h]
 refine zab rfl (zaT (k:=n.toNat) (by omega) (by omega) ?_)
 have hp:=(hv.ps n.toNat (by omega)).1
 rw [zac]
 by_cases h0:(gP R n.toNat).ps.length = 0
 ·rw [if_pos h0]
  exact zad (zr h0) rfl
 rw [if_neg h0]
 refine zab (nz h0) (zaT (k:=n.toNat) (by omega) (by omega) ?_)
 have w:zai ((((zae (gP R n.toNat).ps).length:Nat):Int) - 1) = (((gP R n.toNat).ps.length - 1:Nat):Int):=by
  rw [zac,wr (by omega) (by omega)]
  omega
 rw [w]
 refine zsK (by omega) (by omega) (by rw [zac]; omega) ?_
 rw [show ((zae (gP R n.toNat).ps).drop (0:Int).toNat).take ((((gP R n.toNat).ps.length - 1:Nat):Int).toNat - (0:Int).toNat) = zae (zqh (gP R n.toNat).ps) by simp [zqh,zoA]]
 refine zaH (zhl T _ hT) (zhP rfl (by omega) (zaT (k:=n.toNat) (by omega) (by omega) (zaC (zsN D (by omega) _ _) (zaC (zcq _ _) ?_))))
 by_cases hq:T = zqh (gP R n.toNat).ps <;> simp [hq] <;> rfl
theorem zlD (T:List Int):zbQ [.cell (.sl 3 (zak D)),.cell (.sl 1 (zae T))] = rI (if T.length = 2 ∧ zkb D (T.getD 0 0) = true ∧ T.getD 1 0 = (gD D ((T.getD 0 0).toNat - 1)).f then (gD D ((T.getD 0 0).toNat - 1)).t else -1):=by
 have hl:=hv.dv.len
 refine ziX ?_
 rw [zac]
 by_cases h2:T.length = 2
 rotate_left
 ·rw [if_neg (fun h => h2 h.1)]
  exact zad (net (by omega)) rfl
 refine zab (nef (by omega)) (zhP (k:=0) rfl (by omega) (zaH (ztF (by omega) _) ?_))
 rcases ha:zkb D (T.getD 0 0) with _ | _
 ·rw [if_neg (fun h => by cases h.2.1)]
  exact zad rfl rfl
 have hb:0 < T.getD 0 0 ∧ T.getD 0 0 ≤ D.length:=by
  simp only [zkb,Bool.and_eq_true,decide_eq_true_eq] at ha
  exact ⟨ha.1,(isTy_iff.1 ha.2.1).2⟩
 refine zab rfl (zhP (k:=0) rfl (by omega) (zbE (k:=(T.getD 0 0).toNat - 1) (by rw [wr (by omega) (by omega)]; omega) (by omega) (zhP (k:=1) rfl (by omega) (zaC (zcq _ _) ?_))))
 by_cases hq:T.getD 1 0 = (gD D ((T.getD 0 0).toNat - 1)).f
 ·rw [if_pos (show T.length = 2 ∧ true = true ∧ T.getD 1 0 = (gD D ((T.getD 0 0).toNat - 1)).f from ⟨h2,rfl,hq⟩),eqt hq]; rfl
 ·rw [if_neg (show ¬ (T.length = 2 ∧ true = true ∧ T.getD 1 0 = (gD D ((T.getD 0 0).toNat - 1)).f) from fun h => hq h.2.2),eqf hq]; rfl
omit hv in
theorem zpO (T:List Int) (hT:T.length ≤ za8) (n:Int) {X:Option AV} (h:X = (bif (n == 0) then
    zaa (za9 [.cell (.sl 1 (zae T)),.cell (.sl 1 [[.int 0],[.int 0]])]) false [(false,[.bool false])] fun b9 =>
    zaa (zar [.cell (.bool b9),.cell (.int 0)]) false [(false,[.int 0])] fun n10 =>
    some (.v (.cell (.int n10)))
   else
    zaa (zar [.cell (.bool false),.cell (.int 0)]) false [(false,[.int 0])] fun n11 =>
    some (.v (.cell (.int n11))))):X = rI (if n = 0 ∧ T = [0,0] then 0 else -1):=by
 rw [h]
 by_cases h0:n = 0
 ·refine zad (eqt h0) (zaH (zhl T [0,0] hT) (zaC (zcq _ _) ?_))
  by_cases hq:T = [0,0] <;> simp [hq,h0] <;> rfl
 ·refine zab (eqf h0) (zaC (zcq _ _) ?_)
  simp [h0] <;> rfl
theorem zqK (o n:Int) (T:List Int) (hT:T.length ≤ za8):zhR [.agg [.sl 3 (zak D),.sl 5 (zaD R)],.cell (.int o),.cell (.int n),.cell (.sl 1 (zae T))] = rI (zl2 D R o n T):=by
 refine zll ?_
 unfold zl2
 by_cases h0:o = 0
 ·rw [if_pos h0]
  refine zad (eqt h0) ?_
  by_cases h1:-999 ≤ n
  ·refine zad (decide_eq_true h1) ?_
   by_cases h2:n ≤ 999
   ·refine zad (decide_eq_true h2) (zaC (zcq _ _) ?_)
    rw [zac]
    by_cases h3:T.length = 0
    ·rw [if_pos (show (-999 ≤ n ∧ n ≤ 999) ∧ T.length = 0 from ⟨⟨h1,h2⟩,h3⟩),zr h3]; rfl
    ·rw [if_neg (show ¬ ((-999 ≤ n ∧ n ≤ 999) ∧ T.length = 0) from fun h => h3 h.2),nz h3]; rfl
   ·refine zab (decide_eq_false h2) (zaC (zcq _ _) ?_)
    rw [if_neg (show ¬ ((-999 ≤ n ∧ n ≤ 999) ∧ T.length = 0) from fun h => h2 h.1.2)]; rfl
  ·refine zab (decide_eq_false h1) (zaC (zcq _ _) ?_)
   rw [if_neg (show ¬ ((-999 ≤ n ∧ n ≤ 999) ∧ T.length = 0) from fun h => h1 h.1.1)]; rfl
 rw [if_neg h0]
 refine zab (eqf h0) ?_
 by_cases h1:o = 1
 ·subst h1
  rw [if_pos (.inl rfl)]
  exact zad rfl (zad rfl (zpO T hT n rfl))
 refine zab (eqf h1) ?_
 by_cases h2:o = 2
 ·subst h2
  rw [if_pos (.inr (.inl rfl))]
  exact zad rfl (zad rfl (zpO T hT n rfl))
 refine zab (eqf h2) ?_
 by_cases h3:o = 3
 ·subst h3
  rw [if_pos (.inr (.inr (.inl rfl)))]
  exact zad rfl (zad rfl (zpO T hT n rfl))
 refine zab (eqf h3) ?_
 by_cases h4:o = 4
 ·subst h4
  rw [if_pos (.inr (.inr (.inr rfl)))]
  exact zad rfl (zpO T hT n rfl)
 refine zab (eqf h4) ?_
 rw [if_neg (fun h => by rcases h with h | h | h | h <;> contradiction)]
 by_cases h5:o = 5
 ·rw [if_pos h5]
  refine zad (eqt h5) ?_
  by_cases hn:n = 0
  ·refine zad (eqt hn) (zaH (zhl T [0] hT) (zaC (zcq _ _) ?_))
   by_cases hq:T = [0] <;> simp [hq,hn] <;> rfl
  ·refine zab (eqf hn) (zaC (zcq _ _) ?_)
   simp [hn] <;> rfl
 rw [if_neg h5]
 refine zab (eqf h5) ?_
 by_cases h6:o = 6
 ·rw [if_pos h6]
  exact zad (eqt h6) (zaC (zoF hv n T hT) rfl)
 rw [if_neg h6]
 refine zab (eqf h6) ?_
 by_cases h9:o = 9
 ·rw [if_pos h9]
  exact zad (eqt h9) (zaC (zmx n T hT) rfl)
 rw [if_neg h9]
 refine zab (eqf h9) ?_
 by_cases h10:o = 10
 ·rw [if_pos h10]
  exact zad (eqt h10) (zaC (zlT hv n T hT) rfl)
 rw [if_neg h10]
 refine zab (eqf h10) ?_
 by_cases h11:o = 11
 ·rw [if_pos h11]
  refine zad (eqt h11) ?_
  by_cases hn:n = 0
  ·rw [if_pos hn]
   exact zab (nef hn) (zaC (zlD hv T) rfl)
  ·rw [if_neg hn]
   exact zad (net hn) rfl
 rw [if_neg h11]
 exact zab (eqf h11) rfl
end
end Go.Proofs.Ytbodfaghedolbaa
namespace Go.Proofs.Ytbodfaghedolbaa
open Go
def okT (D:List DM) (t:Int):Prop:=t = -1 ∨ (0 ≤ t ∧ t ≤ D.length)
theorem zs4 (f t:Int):∀ (D:List DM) (k:Nat),zfL f t D k = -1 ∨ (0 ≤ zfL f t D k ∧ zfL f t D k ≤ ((k + D.length:Nat):Int))
 | [],_ => .inl rfl
 | d :: ds,k => by
  unfold zfL
  split
  ·right; simp only [List.length_cons]; omega
  ·have:=zs4 f t ds (k + 1)
   simp only [List.length_cons]
   omega
section
variable {D:List DM} {R:List PM}
theorem zyg (hv:CP D R) (o n:Int) (T:List Int):okT D (zl2 D R o n T):=by
 unfold okT zl2
 split
 ·split <;> omega
 split
 ·split <;> omega
 split
 ·split <;> omega
 split
 ·rcases zfh (D:=D) n with h0 | ⟨j,i,hj,he,_⟩
  ·rw [h0]; simp
  ·split
   ·omega
   ·split <;> omega
 split
 ·split
  ·have:=hv.r n.toNat (by omega)
   split <;> omega
  ·omega
 split
 ·split
  ·split
   ·omega
   ·split
    ·have:=zs4 ((gP R n.toNat).ps.getD ((gP R n.toNat).ps.length - 1) 0) (gP R n.toNat).r D 0
     rw [Nat.zero_add] at this
     exact this
    ·omega
  ·omega
 split
 ·split
  ·split
   ·rename_i hc
    have hb:(0 < T.getD 0 0 ∧ T.getD 0 0 ≤ D.length) ∧ (gD D ((T.getD 0 0).toNat - 1)).cs.length = 0:=by
     have hi:=hc.2.1
     simp only [zkb,Bool.and_eq_true,decide_eq_true_eq,beq_iff_eq] at hi
     exact ⟨⟨hi.1,(isTy_iff.1 hi.2.1).2⟩,hi.2.2⟩
    have:=(hv.dv.arr ((T.getD 0 0).toNat - 1) (by omega) hb.2).2
    omega
   ·omega
  ·omega
 ·omega
end
theorem zrM {ρ:Type} {r:ρ} {x:Option AV} {a0:List (List AC)} {a1:List (List AC)} (h:x = some (.v (.agg [.sl 1 a0,.sl 1 a1]))) {K:Fn (Option ρ) (zbt [(true,[.sl 1 [],.sl 1 []])])} (h2:(K:List (List AC) → List (List AC) → Option ρ) a0 a1 = some r):zaa x false [(true,[.sl 1 [],.sl 1 []])] K = some r:=by rw [h]; exact h2
def cL (D:List DM) (j:Nat):List Int:=(List.range (gD D j).cs.length).map fun i => ((zbr (D.take j) + i:Nat):Int)
theorem ziG (D:List DM) (j:Nat):(cL D j).length = (gD D j).cs.length:=by simp [cL]
theorem zrP {D:List DM} {j k:Nat} (h:k < (gD D j).cs.length):(cL D j).getD k 0 = ((zbr (D.take j) + k:Nat):Int):=by
 simp [cL,List.getD,h]
theorem zrL {D:List DM} (hv:DV D) (n:Int):zce [.cell (.sl 3 (zak D)),.cell (.int n)] = rL (if 1 ≤ n ∧ n ≤ D.length then cL D (n.toNat - 1) else []):=by
 have hD:=hv.len
 refine zje (zaH (zdO _ _ _) ?_)
 rw [za4]
 by_cases h:1 ≤ n ∧ n ≤ D.length
 rotate_left
 ·rw [if_neg h]
  refine zad ?_ rfl
  rw [Bool.not_eq_true',Bool.and_eq_false_iff,decide_eq_false_iff_not,decide_eq_false_iff_not]
  omega
 rw [if_pos h,decide_eq_true h.1,decide_eq_true h.2]
 refine zab rfl ?_
 have hj:n.toNat - 1 < D.length:=by omega
 have w:zai (n - 1) = ((n.toNat - 1:Nat):Int):=by rw [wr (by omega) (by omega)]; omega
 generalize n.toNat - 1 = j at hj w ⊢
 have hc:=hv.cs j hj
 have hs:=zgq hv.cs j (by omega)
 have key:∀ m k:Nat,k + m = (gD D j).cs.length → zdG (zak D) n (zae ((cL D j).take k)) (k:Int) = rL (cL D j):=by
  intro m
  induction m with
  | zero =>
   intro k hk
   refine zds (zbE (k:=j) w hj (zab (decide_eq_false (by rw [zaW]; omega)) ?_))
   rw [List.take_of_length_le (by rw [ziG]; omega)]
  | succ m ih =>
   intro k hk
   refine zds (zbE (k:=j) w hj (zad (decide_eq_true (by rw [zaW]; omega)) ?_))
   rw [w]
   refine zaC (ziE hv (k:=j) (by omega)) (zcT (by rw [zac,List.length_take,ziG]; simp; omega) ?_)
   have hlt:k < (cL D j).length:=by rw [ziG]; omega
   have e:=zkx hlt
   have e2:(cL D j)[k] = ((zbr (D.take j) + k:Nat):Int):=by
    have:=zrP (D:=D) (j:=j) (k:=k) (by omega)
    rw [← this]
    simp [List.getD,hlt]
   rw [e2] at e
   rw [wr (n:=((zbr (D.take j):Nat):Int) + (k:Int)) (by omega) (by omega),← Int.natCast_add,e,wrk (by unfold za8; omega)]
   exact ih (k + 1) (by omega)
 exact key (gD D j).cs.length 0 (by omega)
def chk (T:Nat → Int) (t0:Int):Nat → Nat → Int
 | 0,_ => t0
 | m + 1,k => if T k = t0 then chk T t0 m (k + 1) else -1
theorem zut {D:List DM} {T:Nat → Int} {t0:Int} (h:okT D t0):∀ m k,okT D (chk T t0 m k)
 | 0,_ => h
 | m + 1,k => by
  unfold chk
  split
  ·exact zut h m (k + 1)
  ·exact .inl rfl
end Go.Proofs.Ytbodfaghedolbaa
