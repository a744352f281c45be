/- Generic texts and models for the proofs of this seat: part 25. -/
import Derived.Test.YtcpcagdialnbeaaGreatY24
set_option linter.unusedVariables false
set_option linter.unusedSimpArgs false
namespace Go.Proofs.YtcpcagdialnbeaaGreat
open Go
theorem zrT {a b:Int} (h:a = b):rI a = rI b:=by rw [h]
theorem zeL (o n:Int) (kids:List (List AC)):cS [.int o,.int n,.sl 3 kids] = kids.length + rsS kids:=by
 rw [zAQ,zAQ,zGo,zF6]
 omega
theorem zlR {o n:Int} {kids:List (List AC)} (h:Fit .expr [.int o,.int n,.sl 3 kids]):inI o ∧ inI n ∧ kids.length ≤ zaE ∧ ∀ b ∈ kids,Fit .expr b:=by
 generalize ht:Ty.expr = t at h
 generalize hx:[AC.int o,AC.int n,AC.sl 3 kids] = x at h
 cases h with
 | expr o' n' kids' ho hn hl h =>
  simp only [List.cons.injEq,AC.int.injEq,AC.sl.injEq,true_and,and_true] at hx
  obtain ⟨rfl,rfl,rfl⟩:=hx
  exact ⟨ho,hn,hl,h⟩
 | _ => cases ht
theorem zy5 {x:List AC} (h:Fit .expr x):∃ o n kids,x = [.int o,.int n,.sl 3 kids]:=by
 generalize ht:Ty.expr = t at h
 cases h with
 | expr o n kids _ _ _ _ => exact ⟨o,n,kids,rfl⟩
 | _ => cases ht
theorem zez {kids:List (List AC)} (h:∀ b ∈ kids,Fit .expr b) {k:Nat} (hk:k < kids.length):∃ o n ks,kids.getD k [] = [.int o,.int n,.sl 3 ks] ∧ Fit .expr [.int o,.int n,.sl 3 ks]:=by
 have h1:=h _ (zfH hk [])
 obtain ⟨o,n,ks,e⟩:=zy5 h1
 exact ⟨o,n,ks,e,e ▸ h1⟩
theorem zlE {kids:List (List AC)} {k:Nat} (hk:k < kids.length) {o n:Int}:cS (kids.getD k []) < cS [.int o,.int n,.sl 3 kids]:=by
 rw [zeL]
 have:=zrZ (zfH hk [])
 omega
def zj3 (kids:List (List AC)) (k:Nat):Nat:=(kids.length - k) + rsS (kids.drop k)
theorem zgq {kids:List (List AC)} {k:Nat} (hk:k < kids.length):zj3 kids k = 1 + cS (kids.getD k []) + zj3 kids (k + 1):=by
 unfold zj3
 rw [zAB hk]
 omega
theorem zs3 (kids:List (List AC)):zj3 kids kids.length = 0:=by
 unfold zj3
 rw [List.drop_eq_nil_of_le (Nat.le_refl _),zaV]
 omega
theorem zlA (o n:Int) (kids:List (List AC)):zj3 kids 0 = cS [.int o,.int n,.sl 3 kids]:=by
 rw [zeL]
 unfold zj3
 simp
def zsF (a b:Nat):Nat:=if a ≤ b then a else b
theorem zFw:∀ (s:Nat) (o n:Int) (kids:List (List AC)),cS [.int o,.int n,.sl 3 kids] < s → Fit .expr [.int o,.int n,.sl 3 kids] → ∀ L:Nat,L ≤ 30 →
  zgI [.agg [.int o,.int n,.sl 3 kids],.cell (.int (L:Int))] = rI ((zsF (1 + cS [.int o,.int n,.sl 3 kids]) (L + 1):Nat):Int):=by
 intro s
 induction s with
 | zero => intro o n kids h; omega
 | succ s ihs =>
  intro o n kids hs hf L hL
  obtain ⟨_,_,hl,hk⟩:=zlR hf
  have key:∀ m k:Nat,k + m = kids.length → ∀ c:Nat,1 ≤ c → c ≤ L + 1 → zeR (L:Int) (c:Int) kids ((kids.length:Nat):Int) (k:Int) = rI ((zsF (c + zj3 kids k) (L + 1):Nat):Int):=by
   intro m
   induction m with
   | zero =>
    intro k hk c h1 h2
    obtain rfl:k = kids.length:=by omega
    refine ziq (zaa (decide_eq_false (by omega)) ?_)
    rw [zs3]
    unfold zsF
    rw [if_pos (by omega)]
    rfl
   | succ m ih =>
    intro k hkm c h1 h2
    have hlt:k < kids.length:=by omega
    obtain ⟨o',n',ks,e,hf'⟩:=zez hk hlt
    have hr:=zgq hlt
    have hlt':=zlE hlt (o:=o) (n:=n)
    rw [e] at hr hlt'
    refine ziq (zac (decide_eq_true (by omega)) (zcj hlt e ?_))
    by_cases hc:c = L + 1
    ·refine zac (decide_eq_true (by omega)) ?_
     unfold zsF
     split
     ·have:c + zj3 kids k = c:=by omega
      rw [this]
     ·rw [hc]
    refine zaa (decide_eq_false (by omega)) ?_
    have w1:zae ((L:Int) - (c:Int)) = ((L - c:Nat):Int):=by rw [wr (by omega) (by omega)]; omega
    rw [w1]
    refine zay (ihs o' n' ks (by omega) hf' (L - c) (by omega)) ?_
    generalize cS [.int o',.int n',.sl 3 ks] = z at hr
    have hm:zsF (1 + z) (L - c + 1) ≤ L - c + 1 ∧ 1 ≤ zsF (1 + z) (L - c + 1):=by unfold zsF; split <;> omega
    have w2:zae ((c:Int) + ((zsF (1 + z) (L - c + 1):Nat):Int)) = ((c + zsF (1 + z) (L - c + 1):Nat):Int):=by rw [wr (by omega) (by omega)]; omega
    rw [w2,wrk (by omega)]
    rw [ih (k + 1) (by omega) _ (by omega) (by omega),hr]
    refine zrT ?_
    unfold zsF
    split <;> split <;> split <;> omega
  have:=key kids.length 0 (by omega) 1 (by omega) (by omega)
  rw [zlA o n] at this
  exact zpc this
def zsf (x:List AC):Int:=if cS x ≤ 29 then ((1 + cS x:Nat):Int) else -1
theorem zuw {o n:Int} {kids:List (List AC)} (hf:Fit .expr [.int o,.int n,.sl 3 kids]):zjf [.agg [.int o,.int n,.sl 3 kids]] = rI (zsf [.int o,.int n,.sl 3 kids]):=by
 refine zrL (zay (zFw _ o n kids (Nat.lt_succ_self _) hf 30 (by omega)) ?_)
 unfold zsf zsF
 generalize cS [.int o,.int n,.sl 3 kids] = z
 by_cases h:z ≤ 29
 ·rw [if_pos (show 1 + z ≤ 30 + 1 by omega),if_pos h]
  exact zaa (decide_eq_false (by omega)) rfl
 ·rw [if_neg h]
  refine zac (decide_eq_true ?_) rfl
  split <;> omega
theorem zFA:∀ (s:Nat) (o n:Int) (kids:List (List AC)),cS [.int o,.int n,.sl 3 kids] < s → Fit .expr [.int o,.int n,.sl 3 kids] → ∀ L:Nat,L ≤ 30 →
  zhf [.agg [.int o,.int n,.sl 3 kids],.cell (.int (L:Int))] = rI (if 1 + cS [.int o,.int n,.sl 3 kids] ≤ L then ((L - (1 + cS [.int o,.int n,.sl 3 kids]):Nat):Int) else -1):=by
 intro s
 induction s with
 | zero => intro o n kids h; omega
 | succ s ihs =>
  intro o n kids hs hf L hL
  obtain ⟨_,_,hl,hk⟩:=zlR hf
  have key:∀ m k:Nat,k + m = kids.length → ∀ c:Nat,c ≤ 30 → zeK (c:Int) o n kids (k:Int) = rI (if zj3 kids k ≤ c then ((c - zj3 kids k:Nat):Int) else -1):=by
   intro m
   induction m with
   | zero =>
    intro k hk c h2
    obtain rfl:k = kids.length:=by omega
    refine zh4 (zaa (decide_eq_false (by omega)) ?_)
    rw [zs3,if_pos (by omega)]
    rfl
   | succ m ih =>
    intro k hkm c h2
    have hlt:k < kids.length:=by omega
    obtain ⟨o',n',ks,e,hf'⟩:=zez hk hlt
    have hr:=zgq hlt
    have hlt':=zlE hlt (o:=o) (n:=n)
    rw [e] at hr hlt'
    refine zh4 (zac (decide_eq_true (by omega)) (zcj hlt e (zay (ihs o' n' ks (by omega) hf' c h2) ?_)))
    generalize cS [.int o',.int n',.sl 3 ks] = z at hr
    by_cases hc:1 + z ≤ c
    ·rw [if_pos hc]
     refine zaa (decide_eq_false (by omega)) ?_
     rw [wrk (by omega),ih (k + 1) (by omega) _ (by omega)]
     refine zrT ?_
     split <;> split <;> omega
    ·rw [if_neg hc,if_neg (by omega)]
     exact zac rfl rfl
  refine zoG ?_
  by_cases h1:L = 0
  ·rw [if_neg (by omega)]
   exact zac (decide_eq_true (by omega)) rfl
  refine zaa (decide_eq_false (by omega)) ?_
  have w1:zae ((L:Int) - 1) = ((L - 1:Nat):Int):=by rw [wr (by omega) (by omega)]; omega
  have:=key kids.length 0 (by omega) (L - 1) (by omega)
  rw [zlA o n] at this
  rw [w1,show ((0:Nat):Int) = 0 from rfl] at *
  refine Eq.trans this ?_
  refine zrT ?_
  split <;> split <;> omega
theorem zqE {o n:Int} {kids:List (List AC)} (hf:Fit .expr [.int o,.int n,.sl 3 kids]):zgE [.agg [.int o,.int n,.sl 3 kids]] = rI (zsf [.int o,.int n,.sl 3 kids]):=by
 refine zrl (zay (zFA _ o n kids (Nat.lt_succ_self _) hf 30 (by omega)) ?_)
 unfold zsf
 generalize cS [.int o,.int n,.sl 3 kids] = z
 by_cases h:z ≤ 29
 ·rw [if_pos (by omega),if_pos h]
  refine zaa (decide_eq_false (by omega)) ?_
  rw [wr (by omega) (by omega)]
  refine zrT ?_
  omega
 ·rw [if_neg (by omega),if_neg h]
  exact zac rfl rfl
end Go.Proofs.YtcpcagdialnbeaaGreat
namespace Go.Proofs.YtcpcagdialnbeaaGreat
open Go
def Qr (ns:List Nat) (p:Nat):List AC:=[.sl 1 (ns.map fun (u:Nat) => [.bool true,.int (u:Int)]),.int (p:Int)]
section
variable {ρ:Type} {r:ρ}
theorem zap {x:Option (AV × List AC)} {n:Int} {q:List AC} (h:x = some (.v (.cell (.int n)),q)) {K:List AC → Fn (Option ρ) (za6 [(false,[.int 0])])} (h2:(K q:Int → Option ρ) n = some r):zef x false [(false,[.int 0])] K = some r:=by rw [h]; exact h2
theorem zaJ {x:Option (AV × List AC)} {o n:Int} {l:List (List AC)} {q:List AC} (h:x = some (.v (.agg [.int o,.int n,.sl 3 l]),q)) {K:List AC → Fn (Option ρ) (za6 [(true,[.int 0,.int 0,.sl 3 []])])} (h2:(K q:Int → Int → List (List AC) → Option ρ) o n l = some r):zef x false [(true,[.int 0,.int 0,.sl 3 []])] K = some r:=by rw [h]; exact h2
theorem zkT {x:Option (AV × List AC)} {k:Nat} {l:List (List AC)} {q:List AC} (h:x = some (.v (.cell (.sl k l)),q)) {K:List AC → Fn (Option ρ) (za6 [(false,[.sl k []])])} (h2:(K q:List (List AC) → Option ρ) l = some r):zef x false [(false,[.sl k []])] K = some r:=by
 rw [h]
 exact zan rfl h2
theorem ztk {a b:Int} {n:Nat} (ha:0 ≤ a) (hb:0 < b) (hle:a ≤ 9223372036854775807) (h:a / b = (n:Int)) {K:Int → Option ρ} (h2:K (n:Int) = some r):zsX a b K = some r:=by
 unfold zsX
 rw [show (b == 0) = false by rw [beq_eq_false_iff_ne]; omega,Int.tdiv_eq_ediv_of_nonneg ha,h]
 have:a / b ≤ a:=Int.ediv_le_self _ ha
 rw [wr (by omega) (by omega)]
 exact h2
end
theorem zbK {ns:List Nat} (hns:ns.length ≤ 2000) {p:Nat} (hp:p ≤ 1000000) {m:Nat} (hm:1 ≤ m):∃ x:Nat,x < m ∧ zah (Qr ns p) [.cell (.int (m:Int))] = some (.v (.cell (.int (x:Int))),Qr ns (p + 1)):=by
 have hrun:zpt (Qr ns p) [.cell (.int (m:Int))] = some (.v (.cell (.int (zkN ns p m))),Qr ns (p + 1)):=by
  unfold Qr zpt
  simp only [zmZ,Option.bind_some]
  rw [if_pos ⟨by omega,by omega,hns⟩]
  simp
 have hrange:∃ x:Nat,x < m ∧ zkN ns p m = (x:Int):=by
  unfold zkN
  split
  ·exact ⟨0,by omega,rfl⟩
  ·split
   ·have h1:=Int.emod_nonneg ((ns.getD p 0:Nat):Int) (show (m:Int) ≠ 0 by omega)
    have h2:=Int.emod_lt_of_pos ((ns.getD p 0:Nat):Int) (show (0:Int) < m by omega)
    exact ⟨(((ns.getD p 0:Nat):Int) % m).toNat,by omega,by omega⟩
   ·generalize bits .xor .i64 _ _ = z
    have h1:=Int.emod_nonneg z (show (m:Int) ≠ 0 by omega)
    have h2:=Int.emod_lt_of_pos z (show (0:Int) < m by omega)
    exact ⟨(z % m).toNat,by omega,by omega⟩
 obtain ⟨x,hx,e⟩:=hrange
 rw [e] at hrun
 exact ⟨x,hx,zE4 (by kernel_rfl) (by kernel_rfl:zg0 62 = some zyo) hrun⟩
theorem zmi {ns:List Nat} (hns:ns.length ≤ 2000) {p:Nat} (hp:p ≤ 1000000) {xs:List Int} (hx:xs ≠ []) (hl:xs.length ≤ 1000000):∃ x ∈ xs,za4 (Qr ns p) [.cell (.sl 1 (zad xs))] = some (.v (.cell (.int x)),Qr ns (p + 1)):=by
 have hpos:=List.length_pos_iff.2 hx
 obtain ⟨k,hk,h⟩:=zbK hns hp (m:=xs.length) hpos
 refine ⟨xs[k],List.getElem_mem hk,zoB ?_⟩
 rw [zab]
 exact zap h (zaR hk rfl)
theorem zaA (o n:Int) (l:List (List AC)):zaj [.cell (.int o),.cell (.int n),.cell (.sl 3 l)] = some (.v (.agg [.int o,.int n,.sl 3 l])):=zvJ rfl
theorem zcY (n:Int):zbE [.cell (.int n)] = some (.v (.agg [.int 0,.int n,.sl 3 []])):=zrO rfl
theorem zaU (n:Int):zas [.cell (.int n)] = some (.v (.agg [.int 12,.int n,.sl 3 []])):=zqD rfl
theorem zb4 (l:List (List AC)):zfJ [.cell (.sl 1 l)] = some (.v (.agg [.sl 1 l])):=zwo rfl
theorem zuq {ns:List Nat} (hns:ns.length ≤ 2000) {p:Nat} (hp:p + 4 ≤ 1000000):∃ x:Int,(-1000 ≤ x ∧ x ≤ 1000) ∧ zgz (Qr ns p) [] = some (.v (.cell (.int x)),Qr ns (p + 4)):=by
 obtain ⟨a,ha,h1⟩:=zbK hns (p:=p) (by omega) (m:=6) (by omega)
 obtain ⟨b,hb,h2⟩:=zbK hns (p:=p + 1) (by omega) (m:=6) (by omega)
 obtain ⟨c,hc,h3⟩:=zbK hns (p:=p + 1 + 1) (by omega) (m:=40) (by omega)
 obtain ⟨x,hx,h4⟩:=zmi hns (p:=p + 1 + 1 + 1) (by omega) (xs:=[(a:Int),(b:Int),0,1,2,-1,3,(c:Int),999,-998]) (by simp) (by simp)
 refine ⟨x,?_,zrQ (zap h1 (zap h2 (zap h3 (zap h4 rfl))))⟩
 simp only [List.mem_cons,List.not_mem_nil,or_false] at hx
 omega
theorem znu (xs:List Int) (n:Int) (hx:xs.length ≤ 1048576):ze4 [.cell (.sl 1 (zad xs)),.cell (.int n)] = rB (xs.contains n):=by
 have key:∀ m k:Nat,k + m = xs.length → zgB (zad xs) n (k:Int) = some (.v (.cell (.bool ((xs.drop k).contains n)))):=by
  intro m
  induction m with
  | zero =>
   intro k hk
   rw [List.drop_eq_nil_of_le (by omega)]
   exact zfM (zaa (decide_eq_false (by rw [zab]; omega)) rfl)
  | succ m ih =>
   intro k hk
   have hlt:k < xs.length:=by omega
   have hnext:=ih (k + 1) (by omega)
   rw [← wrk (by unfold zaE; omega)] at hnext
   rw [List.drop_eq_getElem_cons hlt,List.contains_cons]
   refine zfM (zac (decide_eq_true (by rw [zab]; omega)) (zaR hlt ?_))
   rcases e:(xs[k] == n) with _ | _
   ·rw [show (n == xs[k]) = false by rw [beq_eq_false_iff_ne] at e ⊢; exact fun h => e h.symm,Bool.false_or]
    exact zaa rfl hnext
   ·rw [show (n == xs[k]) = true by rw [beq_iff_eq] at e ⊢; exact e.symm,Bool.true_or]
    exact zac rfl rfl
 exact zpp (key xs.length 0 (by omega))
def zbQ (D:List DM) (t:Int):List Int:=if 1 ≤ t ∧ t ≤ D.length then (List.range (gD D (t.toNat - 1)).cs.length).map fun i => (((zbM (D.take (t.toNat - 1)) + i:Nat)):Int) else []
theorem zex {D:List DM} (hv:DV D) (t:Int):zcT [.cell (.sl 3 (zaf D)),.cell (.int t)] = rL (zbQ D t):=by
 have h4:=hv.len
 refine zmX (zai (zdk _ _ _) ?_)
 rw [zbh]
 unfold zbQ
 by_cases h:1 ≤ t ∧ t ≤ (D.length:Int)
 rotate_left
 ·rw [if_neg h,show (decide (1 ≤ t) && decide (t ≤ (D.length:Int))) = false by rw [← Bool.decide_and]; exact decide_eq_false h]
  exact zac rfl rfl
 rw [if_pos h,show (decide (1 ≤ t) && decide (t ≤ (D.length:Int))) = true by rw [← Bool.decide_and]; exact decide_eq_true h]
 refine zaa rfl ?_
 have hk:t.toNat - 1 < D.length:=by omega
 have h3:=hv.cs _ hk
 have hsum:=zjm hv.cs (t.toNat - 1) (by omega)
 have key:∀ m i:Nat,i + m = (gD D (t.toNat - 1)).cs.length → ze2 (zaf D) t (zad ((List.range i).map fun i => (((zbM (D.take (t.toNat - 1)) + i:Nat)):Int))) (i:Int) = rL ((List.range (gD D (t.toNat - 1)).cs.length).map fun i => (((zbM (D.take (t.toNat - 1)) + i:Nat)):Int)):=by
  intro m
  induction m with
  | zero =>
   intro i hi
   refine zeO (zb2 (k:=t.toNat - 1) (by rw [wr (by omega) (by omega)]; omega) hk ?_)
   rw [za7]
   exact zaa (decide_eq_false (by omega)) (by rw [show i = (gD D (t.toNat - 1)).cs.length by omega])
  | succ m ih =>
   intro i hi
   refine zeO (zb2 (k:=t.toNat - 1) (by rw [wr (by omega) (by omega)]; omega) hk ?_)
   rw [za7]
   refine zac (decide_eq_true (by omega)) ?_
   rw [show zae (t - 1) = ((t.toNat - 1:Nat):Int) by rw [wr (by omega) (by omega)]; omega]
   refine zay (zlS hv (by omega)) (zb5 (by rw [zab]; simp; omega) ?_)
   have hn:=ih (i + 1) (by omega)
   rw [List.range_succ,List.map_append] at hn
   rw [wrk (by unfold zaE; omega)]
   rw [show zad ((List.range i).map fun i => (((zbM (D.take (t.toNat - 1)) + i:Nat)):Int)) ++ [[AC.int (zae (((zbM (D.take (t.toNat - 1)):Nat):Int) + (i:Int)))]] = zad ((List.range i).map (fun i => (((zbM (D.take (t.toNat - 1)) + i:Nat)):Int)) ++ [i].map (fun i => (((zbM (D.take (t.toNat - 1)) + i:Nat)):Int))) by
    rw [wr (by omega) (by omega)]
    simp [zad]]
   exact hn
 exact key (gD D (t.toNat - 1)).cs.length 0 (by omega)
end Go.Proofs.YtcpcagdialnbeaaGreat
namespace Go.Proofs.YtcpcagdialnbeaaGreat
open Go
def zkR:List DM:=[⟨0,0,[[],[0,1]]⟩,⟨0,0,[]⟩,⟨0,0,[[],[3,0,3]]⟩]
def zd5:List (List DM):=[zkR ++ [⟨0,0,[[1,3]]⟩],zkR ++ [⟨1,0,[]⟩],zkR ++ [⟨0,0,[[1,1,0],[0],[3]]⟩],zkR ++ [⟨0,1,[]⟩],zkR]
theorem zxD:∀ D ∈ zd5,zfT D = true:=by decide
theorem zkz {D:List DM} (h:D ∈ zd5):DV D:=zEU (zxD D h)
theorem zgZ {D:List DM} (h:D ∈ zd5):D.length ≤ 4:=(zkz h).len
theorem zqU {ns:List Nat} (hns:ns.length ≤ 2000) {p:Nat} (hp:p ≤ 1000000):∃ D ∈ zd5,zjE (Qr ns p) [] = some (.v (.cell (.sl 3 (zaf D))),Qr ns (p + 1)):=by
 obtain ⟨x,hx,h1⟩:=zbK hns hp (m:=5) (by omega)
 rcases (by omega:x = 0 ∨ x = 1 ∨ x = 2 ∨ x = 3 ∨ x = 4) with rfl | rfl | rfl | rfl | rfl
 ·exact ⟨zkR ++ [⟨0,0,[[1,3]]⟩],by simp [zd5],zdx (zaX (zb4 _) (zaX (zb4 _) (zaX (zb4 _) (zaX (zb4 _) (zaX (zb4 _) (zaX (zb4 _) (zaX (zb4 _) (zaX (zb4 _) (zap h1 (zac rfl (zsa (k:=0) (by decide) rfl (zb5 (by decide) rfl))))))))))))⟩
 ·exact ⟨zkR ++ [⟨1,0,[]⟩],by simp [zd5],zdx (zaX (zb4 _) (zaX (zb4 _) (zaX (zb4 _) (zaX (zb4 _) (zaX (zb4 _) (zaX (zb4 _) (zaX (zb4 _) (zaX (zb4 _) (zap h1 (zac rfl (zsa (k:=1) (by decide) rfl (zb5 (by decide) rfl))))))))))))⟩
 ·exact ⟨zkR ++ [⟨0,0,[[1,1,0],[0],[3]]⟩],by simp [zd5],zdx (zaX (zb4 _) (zaX (zb4 _) (zaX (zb4 _) (zaX (zb4 _) (zaX (zb4 _) (zaX (zb4 _) (zaX (zb4 _) (zaX (zb4 _) (zap h1 (zac rfl (zsa (k:=2) (by decide) rfl (zb5 (by decide) rfl))))))))))))⟩
 ·exact ⟨zkR ++ [⟨0,1,[]⟩],by simp [zd5],zdx (zaX (zb4 _) (zaX (zb4 _) (zaX (zb4 _) (zaX (zb4 _) (zaX (zb4 _) (zaX (zb4 _) (zaX (zb4 _) (zaX (zb4 _) (zap h1 (zac rfl (zsa (k:=3) (by decide) rfl (zb5 (by decide) rfl))))))))))))⟩
 ·exact ⟨zkR,by simp [zd5],zdx (zaX (zb4 _) (zaX (zb4 _) (zaX (zb4 _) (zaX (zb4 _) (zaX (zb4 _) (zaX (zb4 _) (zaX (zb4 _) (zaX (zb4 _) (zap h1 (zaa rfl rfl))))))))))⟩
def sigL:List (List Int × Int):=[([],0),([1],0),([1,1],1),([1],1),([1,0],1),([2,1],1),([1,1],0),([3],0),([0],1),([0,1],1),([3,0],3),([3],1),([1,3,0],0),([0],0),([0,0],0),([1,0],0)]
structure GR (R:List PM):Prop where
 len:R.length ≤ 4
 sg:∀ x ∈ R,(x.ps,x.r) ∈ sigL
theorem zt8:∀ s ∈ sigL,s.1.length ≤ 3 ∧ (0 ≤ s.2 ∧ s.2 ≤ 3) ∧ ∀ t ∈ s.1,0 ≤ t ∧ t ≤ 3:=by decide
theorem GR.at {R:List PM} (h:GR R) {k:Nat} (hk:k < R.length):((gP R k).ps,(gP R k).r) ∈ sigL:=h.sg _ (zgS hk)
theorem GR.small {R:List PM} (h:GR R) {k:Nat} (hk:k < R.length):(gP R k).ps.length ≤ 3 ∧ (0 ≤ (gP R k).r ∧ (gP R k).r ≤ 3) ∧ ∀ t ∈ (gP R k).ps,0 ≤ t ∧ t ≤ 3:=zt8 _ (h.at hk)
abbrev pgC (D:List DM) (R:List PM):SV:=.agg [.sl 3 (zaf D),.sl 5 (zal R)]
def zFF (D:List DM) (R:List PM) (t:Int) (fs:List Int):Prop:=∀ f ∈ fs,∃ k,k < R.length ∧ f = (k:Int) ∧ 0 < (gP R k).ps.length ∧ zio ((gP R k).ps.getD ((gP R k).ps.length - 1) 0) (gP R k).r D 0 = t
theorem zti (xs:List Int) (x:Int):zad xs ++ [[AC.int x]] = zad (xs ++ [x]):=by simp [zad]
theorem zom {D:List DM} (hD:D.length ≤ 4) {R:List PM} (hR:GR R) (t:Int):∃ fs,zfG [pgC D R,.cell (.int t)] = rL fs ∧ fs.length ≤ 4 ∧ zFF D R t fs:=by
 have h4:=hR.len
 have key:∀ m k:Nat,k + m = R.length → ∀ acc:List Int,acc.length ≤ k → zFF D R t acc → ∃ fs,zcV t (zaf D) (zal R) (zad acc) (k:Int) = rL fs ∧ fs.length ≤ 4 ∧ zFF D R t fs:=by
  intro m
  induction m with
  | zero =>
   intro k hk acc hl ha
   exact ⟨acc,zdL (zaa (decide_eq_false (by rw [zaF]; omega)) rfl),by omega,ha⟩
  | succ m ih =>
   intro k hk acc hl ha
   have hlt:k < R.length:=by omega
   have h3:=(hR.small hlt).1
   have hw:zae ((k:Int) + 1) = ((k + 1:Nat):Int):=wrk (by unfold zaE; omega)
   by_cases hz:0 < (gP R k).ps.length
   ·by_cases he:zio ((gP R k).ps.getD ((gP R k).ps.length - 1) 0) (gP R k).r D 0 = t
    ·obtain ⟨fs,h1,h2,h5⟩:=ih (k + 1) (by omega) (acc ++ [(k:Int)]) (by simp; omega) (fun f hf => by
      rcases List.mem_append.1 hf with hf | hf
      ·exact ha f hf
      ·simp only [List.mem_singleton] at hf
       exact ⟨k,hlt,hf,hz,he⟩)
     refine ⟨fs,zdL (zac (decide_eq_true (by rw [zaF]; omega)) (zaH rfl hlt (zac (decide_eq_true (by rw [zab]; omega)) (zaH rfl hlt ?_)))),h2,h5⟩
     rw [zab,show zae ((((gP R k).ps.length:Nat):Int) - 1) = (((gP R k).ps.length - 1:Nat):Int) by rw [wr (by omega) (by omega)]; omega]
     refine zaR (by omega) (zaH rfl hlt (zay (zu0 D (by omega) _ _) ?_))
     rw [List.getD,List.getElem?_eq_getElem (by omega),Option.getD_some] at he
     refine zac (by rw [he]; simp) (zb5 (by rw [zab]; simp; omega) ?_)
     rw [zti,hw]
     exact h1
    ·obtain ⟨fs,h1,h2,h5⟩:=ih (k + 1) (by omega) acc (by omega) ha
     refine ⟨fs,zdL (zac (decide_eq_true (by rw [zaF]; omega)) (zaH rfl hlt (zac (decide_eq_true (by rw [zab]; omega)) (zaH rfl hlt ?_)))),h2,h5⟩
     rw [zab,show zae ((((gP R k).ps.length:Nat):Int) - 1) = (((gP R k).ps.length - 1:Nat):Int) by rw [wr (by omega) (by omega)]; omega]
     refine zaR (by omega) (zaH rfl hlt (zay (zu0 D (by omega) _ _) ?_))
     rw [List.getD,List.getElem?_eq_getElem (by omega),Option.getD_some] at he
     refine zaa (by rw [beq_eq_false_iff_ne]; exact he) ?_
     rw [hw]
     exact h1
   ·obtain ⟨fs,h1,h2,h5⟩:=ih (k + 1) (by omega) acc (by omega) ha
    refine ⟨fs,zdL (zac (decide_eq_true (by rw [zaF]; omega)) (zaH rfl hlt (zaa (decide_eq_false (by rw [zab]; omega)) ?_))),h2,h5⟩
    rw [hw]
    exact h1
 obtain ⟨fs,h1,h2,h3⟩:=key R.length 0 (by omega) [] (by simp) (fun f hf => by cases hf)
 exact ⟨fs,zpY h1,h2,h3⟩
theorem zny {D:List DM} (hD:D.length ≤ 4) {R:List PM} (hR:GR R) {V:List Int} (hV:V.length ≤ 1048576) (t:Int):∃ b,ze7 [pgC D R,.cell (.sl 1 (zad V)),.cell (.int t)] = rB b:=by
 rcases ha:zog D t with _ | _
 ·exact ⟨true,ziA (zai (zem (by omega) t) (zac (by rw [ha]; rfl) rfl))⟩
 ·obtain ⟨fs,h1,h2,h3⟩:=zom hD hR t
  by_cases hz:0 < fs.length
  ·exact ⟨true,ziA (zai (zem (by omega) t) (zaa (by rw [ha]; rfl) (zan h1 (zac (decide_eq_true (by rw [zab]; omega)) rfl))))⟩
  ·exact ⟨V.contains t,ziA (zai (zem (by omega) t) (zaa (by rw [ha]; rfl) (zan h1 (zaa (decide_eq_false (by rw [zab]; omega)) (zai (znu V t hV) rfl)))))⟩
theorem zvH {V:List Int} (hV:V.length ≤ 1048576) (t:Int):∃ fs,ziE [.cell (.sl 1 (zad V)),.cell (.int t)] = rL fs ∧ fs.length ≤ V.length ∧ ∀ f ∈ fs,0 ≤ f ∧ f ≤ 1048576:=by
 have key:∀ m k:Nat,k + m = V.length → ∀ acc:List Int,acc.length ≤ k → (∀ f ∈ acc,0 ≤ f ∧ f ≤ 1048576) → ∃ fs,zdc (zad V) t (zad acc) (k:Int) = rL fs ∧ fs.length ≤ V.length ∧ ∀ f ∈ fs,0 ≤ f ∧ f ≤ 1048576:=by
  intro m
  induction m with
  | zero =>
   intro k hk acc hl ha
   exact ⟨acc,zeq (zaa (decide_eq_false (by rw [zab]; omega)) rfl),by omega,ha⟩
  | succ m ih =>
   intro k hk acc hl ha
   have hlt:k < V.length:=by omega
   have hw:zae ((k:Int) + 1) = ((k + 1:Nat):Int):=wrk (by unfold zaE; omega)
   rcases he:(V[k] == t) with _ | _
   ·obtain ⟨fs,h1,h2,h5⟩:=ih (k + 1) (by omega) acc (by omega) ha
    refine ⟨fs,zeq (zac (decide_eq_true (by rw [zab]; omega)) (zaR hlt (zaa he ?_))),h2,h5⟩
    rw [hw]
    exact h1
   ·obtain ⟨fs,h1,h2,h5⟩:=ih (k + 1) (by omega) (acc ++ [(k:Int)]) (by simp; omega) (fun f hf => by
     rcases List.mem_append.1 hf with hf | hf
     ·exact ha f hf
     ·simp only [List.mem_singleton] at hf
      omega)
    refine ⟨fs,zeq (zac (decide_eq_true (by rw [zab]; omega)) (zaR hlt (zac he (zb5 (by rw [zab]; simp; omega) ?_)))),h2,h5⟩
    rw [zti,hw]
    exact h1
 obtain ⟨fs,h1,h2,h3⟩:=key V.length 0 (by omega) [] (by simp) (fun f hf => by cases hf)
 exact ⟨fs,zox h1,h2,h3⟩
theorem zuu {D:List DM} (hD:D.length ≤ 4) {R:List PM} (hR:GR R) {V:List Int} (hV:V.length ≤ 1048576) {ns:List Nat} (hns:ns.length ≤ 2000) {p:Nat} (hp:p ≤ 1000000) :
  ∃ t:Int,(0 ≤ t ∧ t ≤ 4) ∧ zjq (Qr ns p) [pgC D R,.cell (.sl 1 (zad V))] = some (.v (.cell (.int t)),Qr ns (p + 1)):=by
 obtain ⟨x,hx,h1⟩:=zmi hns hp (xs:=[1,1,3,0,2,4,3]) (by simp) (by simp)
 have hx4:0 ≤ x ∧ x ≤ 4:=by
  simp only [List.mem_cons,List.not_mem_nil,or_false] at hx
  omega
 by_cases hl:x > (((zaf D).length:Nat):Int)
 ·exact ⟨1,by omega,ziS (zap h1 (zac (decide_eq_true hl) rfl))⟩
 ·obtain ⟨b,hb⟩:=zny hD hR hV x
  rcases b with _ | _
  ·exact ⟨1,by omega,ziS (zap h1 (zaa (decide_eq_false hl) (zai hb (zac rfl rfl))))⟩
  ·exact ⟨x,hx4,ziS (zap h1 (zaa (decide_eq_false hl) (zai hb (zaa rfl rfl))))⟩
def zDT (R:List PM) (fs:List Int):Prop:=∀ f ∈ fs,∃ k,k < R.length ∧ f = (k:Int)
theorem zsZ {D:List DM} (hD:D.length ≤ 4) {R:List PM} (hR:GR R) (t:Int):∃ fs,zbm [pgC D R,.cell (.int t)] = rL fs ∧ fs.length ≤ 4 ∧ zDT R fs:=by
 have h4:=hR.len
 have key:∀ m k:Nat,k + m = R.length → ∀ acc:List Int,acc.length ≤ k → zDT R acc → ∃ fs,zdW t (zaf D) (zal R) (zad acc) (k:Int) = rL fs ∧ fs.length ≤ 4 ∧ zDT R fs:=by
  intro m
  induction m with
  | zero =>
   intro k hk acc hl ha
   exact ⟨acc,zfo (zaa (decide_eq_false (by rw [zaF]; omega)) rfl),by omega,ha⟩
  | succ m ih =>
   intro k hk acc hl ha
   have hlt:k < R.length:=by omega
   have h3:=(hR.small hlt).1
   have hw:zae ((k:Int) + 1) = ((k + 1:Nat):Int):=wrk (by unfold zaE; omega)
   have inner:∀ n i:Nat,i + n = (gP R k).ps.length → ∀ b:Bool,∃ fs,zdR t (zaf D) (zal R) (zad acc) (k:Int) b (i:Int) = rL fs ∧ fs.length ≤ 4 ∧ zDT R fs:=by
    intro n
    induction n with
    | zero =>
     intro i hi b
     cases b with
     | false =>
      obtain ⟨fs,h1,h2,h5⟩:=ih (k + 1) (by omega) acc (by omega) ha
      refine ⟨fs,zdK (zaH rfl hlt (zaa (decide_eq_false (by rw [zab]; omega)) (zaa rfl ?_))),h2,h5⟩
      rw [hw]
      exact h1
     | true =>
      obtain ⟨fs,h1,h2,h5⟩:=ih (k + 1) (by omega) (acc ++ [(k:Int)]) (by simp; omega) (fun f hf => by
       rcases List.mem_append.1 hf with hf | hf
       ·exact ha f hf
       ·simp only [List.mem_singleton] at hf
        exact ⟨k,hlt,hf⟩)
      refine ⟨fs,zdK (zaH rfl hlt (zaa (decide_eq_false (by rw [zab]; omega)) (zac rfl (zb5 (by rw [zab]; simp; omega) ?_)))),h2,h5⟩
      rw [zti,hw]
      exact h1
    | succ n ihn =>
     intro i hi b
     have hil:i < (gP R k).ps.length:=by omega
     have hwi:zae ((i:Int) + 1) = ((i + 1:Nat):Int):=wrk (by unfold zaE; omega)
     cases b with
     | false =>
      obtain ⟨fs,h1,h2,h5⟩:=ihn (i + 1) (by omega) false
      refine ⟨fs,zdK (zaH rfl hlt (zac (decide_eq_true (by rw [zab]; omega)) (zaa rfl ?_))),h2,h5⟩
      rw [hwi]
      exact h1
     | true =>
      obtain ⟨c,hc⟩:=zny hD hR (V:=[]) (by simp) (gP R k).ps[i]
      obtain ⟨fs,h1,h2,h5⟩:=ihn (i + 1) (by omega) c
      refine ⟨fs,zdK (zaH rfl hlt (zac (decide_eq_true (by rw [zab]; omega)) (zac rfl (zaH rfl hlt (zaR hil (zai hc ?_)))))),h2,h5⟩
      rw [hwi]
      exact h1
   obtain ⟨fs,h1,h2,h5⟩:=inner (gP R k).ps.length 0 (by omega) ((gP R k).r == t)
   exact ⟨fs,zfo (zac (decide_eq_true (by rw [zaF]; omega)) (zaH rfl hlt h1)),h2,h5⟩
 rcases Nat.lt_or_ge R.length 1 with h0 | h0
 ·exact ⟨[],zlt (zfo (zaa (decide_eq_false (by rw [zaF]; omega)) rfl)),by simp,fun f hf => by cases hf⟩
 ·obtain ⟨fs,h1,h2,h3⟩:=key (R.length - 1) 1 (by omega) [] (by simp) (fun f hf => by cases hf)
  exact ⟨fs,zlt h1,h2,h3⟩
end Go.Proofs.YtcpcagdialnbeaaGreat
set_option linter.unusedSectionVars false
namespace Go.Proofs.YtcpcagdialnbeaaGreat
open Go
def EG (ns:List Nat) (p C M:Nat) (x:Option (AV × List AC)):Prop:=∃ (o n:Int) (kids:List (List AC)) (p':Nat),x = some (.v (.agg [.int o,.int n,.sl 3 kids]),Qr ns p') ∧ p' ≤ p + C ∧ Fit .expr [.int o,.int n,.sl 3 kids] ∧ 1 + kids.length + rsS kids ≤ M
theorem EG.le {ns:List Nat} {p C M C' M':Nat} {x:Option (AV × List AC)} (h:EG ns p C M x) (h1:C ≤ C') (h2:M ≤ M'):EG ns p C' M' x:=by
 obtain ⟨o,n,kids,p',e,a,b,c⟩:=h
 exact ⟨o,n,kids,p',e,by omega,b,by omega⟩
def zc8 (kids:List (List AC)):Prop:=∀ b ∈ kids,Fit .expr b
theorem zaq {o n:Int} {kids:List (List AC)} (ho:-1000000 ≤ o ∧ o ≤ 1000000) (hn:-10000000 ≤ n ∧ n ≤ 10000000) (hl:kids.length ≤ 1000000) (hk:zc8 kids):Fit .expr [.int o,.int n,.sl 3 kids] :=
 .expr o n kids ⟨by omega,by omega⟩ ⟨by omega,by omega⟩ (by unfold zaE; omega) hk
theorem zn1 (a b:List (List AC)):rsS (a ++ b) = rsS a + rsS b:=by
 induction a with
 | nil => simp [zaV]
 | cons x a ih => rw [List.cons_append,zbo,zbo,ih]; omega
theorem zgd {kids:List (List AC)} {o n:Int} {l:List (List AC)} (hk:zc8 kids) (h:Fit .expr [.int o,.int n,.sl 3 l]):zc8 (kids ++ [[.int o,.int n,.sl 3 l]]):=fun b hb => by
 rcases List.mem_append.1 hb with hb | hb
 ·exact hk b hb
 ·simp only [List.mem_singleton] at hb; rw [hb]; exact h
theorem zfc {kids:List (List AC)} {o n:Int} {l:List (List AC)}:(kids ++ [[AC.int o,.int n,.sl 3 l]]).length + rsS (kids ++ [[AC.int o,.int n,.sl 3 l]]) = kids.length + rsS kids + (1 + l.length + rsS l):=by
 rw [zn1,zbo,zaV,zeL]
 simp
 omega
def cf (D:List DM) (c:Int):List Int:=if zjO D c < 1 then [] else fld D c
theorem zsB {D:List DM} (hv:DV D) (c:Int):zaG [.cell (.sl 3 (zaf D)),.cell (.int c)] = rL (cf D c):=zkD hv c
theorem zzX:∀ D ∈ zd5,∀ t ∈ ([1,3]:List Int),(zbQ D t).length = 2 ∧ cf D ((zbQ D t).getD 0 0) = [] ∧ (cf D ((zbQ D t).getD 1 0)).contains t = true ∧ (cf D ((zbQ D t).getD 1 0)).length ≤ 3 ∧ (0 ≤ (zbQ D t).getD 0 0 ∧ (zbQ D t).getD 0 0 ≤ 100):=by decide
theorem zB5:∀ D ∈ zd5,∀ t ∈ ([2,4]:List Int),(zbQ D t).length ≤ 3 ∧ ∀ c ∈ zbQ D t,(0 ≤ c ∧ c ≤ 100) ∧ (cf D c).contains t = false ∧ (cf D c).length ≤ 3 ∧ ∀ u ∈ cf D c,u = 0 ∨ u = 1 ∨ u = 3:=by decide
theorem zzh:∀ D ∈ zd5,zbQ D 0 = []:=by decide
theorem zBH:∀ D ∈ zd5,∀ s ∈ sigL,∀ t ∈ ([2,4]:List Int),zio (s.1.getD (s.1.length - 1) 0) s.2 D 0 = t → ∀ u ∈ s.1.take (s.1.length - 1),u = 0 ∨ u = 1 ∨ u = 3:=by decide
section
variable {ns:List Nat} (hns:ns.length ≤ 2000) {D:List DM} (hD:D ∈ zd5) {R:List PM} (hR:GR R)
include hns hD hR
theorem zqO {t:Int} (ht:¬ 0 < t ∨ ∃ fs:List Int,zfG [pgC D R,.cell (.int t)] = rL fs ∧ fs = []) (hc:zbQ D t = []) {p:Nat} (hp:p + 4 ≤ 1000000):EG ns p 4 1 (zbq (Qr ns p) [pgC D R,.cell (.int t)]):=by
 obtain ⟨x,hx,h1⟩:=zuq hns hp
 have hcons:=zex (zkz hD) t
 rw [hc] at hcons
 refine ⟨0,x,[],p + 4,?_,by omega,zaq (by omega) (by omega) (by simp) (fun b hb => by cases hb),by simp [zaV]⟩
 rcases ht with ht | ⟨fs,h2,rfl⟩
 ·obtain ⟨fs,h2,_⟩:=zom (zgZ hD) hR t
  exact zbY (zan hcons (zaa rfl (zan h2 (zaa (decide_eq_false ht) (zap h1 (zag (zcY _) rfl))))))
 ·by_cases h0:0 < t
  ·exact zbY (zan hcons (zaa rfl (zan h2 (zac (decide_eq_true h0) (zaa rfl (zap h1 (zag (zcY _) rfl)))))))
  ·exact zbY (zan hcons (zaa rfl (zan h2 (zaa (decide_eq_false h0) (zap h1 (zag (zcY _) rfl))))))
theorem zxw {C:Nat} (hC:C ≤ 1000) {c:Int} (hc:0 ≤ c ∧ c ≤ 100) {fs:List Int} (hl:fs.length ≤ 3) {P:Nat} (hP:P ≤ 900000) (hsm:∀ u ∈ fs,∀ p,p ≤ P → EG ns p C 1 (zbq (Qr ns p) [pgC D R,.cell (.int u)])) {z1 z2:Int} {z3:List (List AC)} :
  ∀ m k:Nat,k + m = fs.length → ∀ (acc:List (List AC)) (p:Nat),zc8 acc → acc.length + rsS acc ≤ k → p + m * C ≤ P → EG ns p (m * C) 4 (zbk (zaf D) (zal R) z1 z2 z3 c acc (zad fs) (k:Int) (Qr ns p)):=by
 intro m
 induction m with
 | zero =>
  intro k hk acc p ha hs hp
  refine ⟨6,c,acc,p,zfn (zaa (decide_eq_false (by rw [zab]; omega)) (zag (zaA _ _ _) rfl)),by omega,zaq (by omega) (by omega) (by omega) ha,by omega⟩
 | succ m ih =>
  intro k hk acc p ha hs hp
  have hlt:k < fs.length:=by omega
  have hmul:(m + 1) * C = m * C + C:=Nat.succ_mul _ _
  obtain ⟨o,n,l,p',h1,h2,h3,h4⟩:=hsm fs[k] (List.getElem_mem hlt) p (by omega)
  have hsz:=zfc (kids:=acc) (o:=o) (n:=n) (l:=l)
  obtain ⟨o2,n2,l2,p2,g1,g2,g3,g4⟩:=ih (k + 1) (by omega) (acc ++ [[.int o,.int n,.sl 3 l]]) p' (zgd ha h3) (by omega) (by omega)
  refine ⟨o2,n2,l2,p2,zfn (zac (decide_eq_true (by rw [zab]; omega)) (zaR hlt (zaJ h1 (zb5 (by simp; omega) ?_)))),by omega,g3,g4⟩
  rw [wrk (by unfold zaE; omega)]
  exact g1
theorem zxz {C:Nat} (hC:C ≤ 1000) {c:Int} (hc:0 ≤ c ∧ c ≤ 100) {fs:List Int} (hl:fs.length ≤ 3) {P:Nat} (hP:P ≤ 900000) (hsm:∀ u ∈ fs.take (fs.length - 1),∀ p,p ≤ P → EG ns p C 1 (zbq (Qr ns p) [pgC D R,.cell (.int u)])) {z1 z2:Int} {z3:List (List AC)} :
  ∀ m k:Nat,k + m = fs.length → ∀ (acc:List (List AC)) (p:Nat),zc8 acc → acc.length + rsS acc ≤ k → p + m * C ≤ P → EG ns p (m * C) 4 (zfe (zaf D) (zal R) z1 z2 z3 c (zad fs) acc (k:Int) (Qr ns p)):=by
 intro m
 induction m with
 | zero =>
  intro k hk acc p ha hs hp
  refine ⟨10,c,acc,p,zfp (zaa (decide_eq_false (by rw [zab,wrk (by unfold zaE; omega)]; omega)) (zag (zaA _ _ _) rfl)),by omega,zaq (by omega) (by omega) (by omega) ha,by omega⟩
 | succ m ih =>
  intro k hk acc p ha hs hp
  have hlt:k < fs.length:=by omega
  have hmul:(m + 1) * C = m * C + C:=Nat.succ_mul _ _
  by_cases hlast:k + 1 < fs.length
  ·have hmem:fs[k] ∈ fs.take (fs.length - 1):=by
    rw [List.mem_take_iff_getElem]
    exact ⟨k,by omega,rfl⟩
   obtain ⟨o,n,l,p',h1,h2,h3,h4⟩:=hsm fs[k] hmem p (by omega)
   have hsz:=zfc (kids:=acc) (o:=o) (n:=n) (l:=l)
   obtain ⟨o2,n2,l2,p2,g1,g2,g3,g4⟩:=ih (k + 1) (by omega) (acc ++ [[.int o,.int n,.sl 3 l]]) p' (zgd ha h3) (by omega) (by omega)
   refine ⟨o2,n2,l2,p2,zfp (zac (decide_eq_true (by rw [zab,wrk (by unfold zaE; omega)]; omega)) (zaR hlt (zaJ h1 (zb5 (by simp; omega) ?_)))),by omega,g3,g4⟩
   rw [wrk (by unfold zaE; omega)]
   exact g1
  ·refine ⟨10,c,acc,p,zfp (zaa (decide_eq_false (by rw [zab,wrk (by unfold zaE; omega)]; omega)) (zag (zaA _ _ _) rfl)),by omega,zaq (by omega) (by omega) (by omega) ha,by omega⟩
theorem zwq {p:Nat} (hp:p + 4 ≤ 1000000):EG ns p 4 1 (zbq (Qr ns p) [pgC D R,.cell (.int 0)]):=zqO hns hD hR (.inl (by omega)) (zzh D hD) hp
theorem zoI {t:Int} (ht:t = 1 ∨ t = 3) {p:Nat} (hp:p + 4 ≤ 1000000):EG ns p 4 1 (zbq (Qr ns p) [pgC D R,.cell (.int t)]):=by
 obtain ⟨g1,g2,g3,g4,g5⟩:=zzX D hD t (by rcases ht with rfl | rfl <;> simp)
 have hdv:=zkz hD
 have hcons:=zex hdv t
 obtain ⟨x,hx,h1⟩:=zbK hns (p:=p) (by omega) (m:=4) (by omega)
 obtain ⟨c0,c1,e⟩:∃ c0 c1,zbQ D t = [c0,c1]:=by
  match h:zbQ D t,g1 with
  | [a,b],_ => exact ⟨a,b,rfl⟩
 rw [e] at g1 g2 g3 g4 g5 hcons
 simp only [List.getD_cons_zero,List.getD_cons_succ] at g2 g3 g4 g5
 have hf0:=zsB hdv c0
 have hf1:=zsB hdv c1
 rw [g2] at hf0
 have hL:∀ q,zbk (zaf D) (zal R) 0 0 [] c0 [] (zad []) 0 q = some (.v (.agg [.int 6,.int c0,.sl 3 []]),q):=fun q => zfn (zaa rfl (zag (zaA _ _ _) rfl))
 have hfin:∀ X,X = some (.v (.agg [.int 6,.int c0,.sl 3 []]),Qr ns (p + 1)) → EG ns p 4 1 X:=fun X hX => ⟨6,c0,[],p + 1,hX,by omega,zaq (by omega) (by omega) (by simp) (fun b hb => by cases hb),by simp [zaV]⟩
 have hin0:=znu [] t (by simp)
 refine hfin _ (zbY (zan hcons (zac rfl (zaR (xs:=[c0,c1]) (k:=0) (by simp) (zac rfl (zap h1 ?_))))))
 by_cases hx0:x = 0
 ·subst hx0
  exact zac rfl (zaR (xs:=[c0,c1]) (k:=1) (by simp) (zan hf1 (zai (znu _ t (by omega)) (zac g3 (zaR (xs:=[c0,c1]) (k:=0) (by simp) (zan hf0 (hL _)))))))
 ·exact zaa (by rw [beq_eq_false_iff_ne]; omega) (zan hf0 (zai hin0 (zaa rfl (zan hf0 (hL _)))))
theorem zqT {u:Int} (hu:u = 0 ∨ u = 1 ∨ u = 3) {p:Nat} (hp:p + 4 ≤ 1000000):EG ns p 4 1 (zbq (Qr ns p) [pgC D R,.cell (.int u)]):=by
 rcases hu with rfl | rfl | rfl
 ·exact zwq hns hD hR hp
 ·exact zoI hns hD hR (.inl rfl) hp
 ·exact zoI hns hD hR (.inr rfl) hp
theorem EG.put {p p1 C C1 M:Nat} {x:Option (AV × List AC)} (h:EG ns p1 C1 M x) (h1:p1 + C1 ≤ p + C):EG ns p C M x:=by
 obtain ⟨o,n,kids,p',e,a,b,c⟩:=h
 exact ⟨o,n,kids,p',e,by omega,b,c⟩
theorem zBQ {t:Int} (ht:t = 2 ∨ t = 4) {p:Nat} (hp:p + 20 ≤ 900000):EG ns p 14 4 (zbq (Qr ns p) [pgC D R,.cell (.int t)]):=by
 have hm:t ∈ ([2,4]:List Int):=by rcases ht with rfl | rfl <;> simp
 obtain ⟨g1,g2⟩:=zB5 D hD t hm
 have hdv:=zkz hD
 have hcons:=zex hdv t
 have hL:∀ c ∈ zbQ D t,∀ p',p' ≤ p + 1 → EG ns p' 12 4 (zbk (zaf D) (zal R) 0 0 [] c [] (zad (cf D c)) 0 (Qr ns p')):=fun c hc p' hp' => by
  obtain ⟨a1,a2,a3,a4⟩:=g2 c hc
  have:=zxw hns hD hR (C:=4) (by omega) a1 a3 (P:=900000) (by omega) (fun u hu q hq => zqT hns hD hR (a4 u hu) (by omega)) (z1:=0) (z2:=0) (z3:=[]) (cf D c).length 0 (by omega) [] p' (fun b hb => by cases hb) (by simp [zaV]) (by omega)
  exact this.le (by omega) (by omega)
 by_cases hz:0 < (zbQ D t).length
 ·have hm0:(zbQ D t)[0] ∈ zbQ D t:=List.getElem_mem hz
  have b0:=(g2 _ hm0).2.1
  have l0:=(g2 _ hm0).2.2.1
  have hz':decide (((((zad (zbQ D t)).length:Nat):Int)) > 0) = true:=decide_eq_true (by rw [zab]; omega)
  by_cases h1:1 < (zbQ D t).length
  ·have hm1:(zbQ D t)[1] ∈ zbQ D t:=List.getElem_mem h1
   have b1:=(g2 _ hm1).2.1
   have l1:=(g2 _ hm1).2.2.1
   obtain ⟨x,hx,hpk⟩:=zbK hns (p:=p) (by omega) (m:=4) (by omega)
   by_cases hx0:x = 0
   ·subst hx0
    obtain ⟨o,n,l,p',e1,e2,e3,e4⟩:=hL _ hm1 (p + 1) (by omega)
    exact ⟨o,n,l,p',zbY (zan hcons (zac hz' (zaR (k:=0) hz (zac (decide_eq_true (by rw [zab]; omega)) (zap hpk (zac rfl (zaR (k:=1) h1 (zan (zsB hdv _) (zai (znu _ t (by omega)) (zaa b1 (zan (zsB hdv _) e1))))))))))),by omega,e3,e4⟩
   ·obtain ⟨o,n,l,p',e1,e2,e3,e4⟩:=hL _ hm0 (p + 1) (by omega)
    exact ⟨o,n,l,p',zbY (zan hcons (zac hz' (zaR (k:=0) hz (zac (decide_eq_true (by rw [zab]; omega)) (zap hpk (zaa (by rw [beq_eq_false_iff_ne]; omega) (zan (zsB hdv _) (zai (znu _ t (by omega)) (zaa b0 (zan (zsB hdv _) e1)))))))))),by omega,e3,e4⟩
  ·obtain ⟨o,n,l,p',e1,e2,e3,e4⟩:=hL _ hm0 p (by omega)
   exact ⟨o,n,l,p',zbY (zan hcons (zac hz' (zaR (k:=0) hz (zaa (decide_eq_false (by rw [zab]; omega)) (zan (zsB hdv _) (zai (znu _ t (by omega)) (zaa b0 (zan (zsB hdv _) e1)))))))),by omega,e3,e4⟩
 ·have hnil:zbQ D t = []:=List.eq_nil_of_length_eq_zero (by omega)
  obtain ⟨fs,h1,h2,h3⟩:=zom (zgZ hD) hR t
  by_cases hf:0 < fs.length
  ·obtain ⟨x,hx,hpk⟩:=zbK hns (p:=p) (by omega) (m:=fs.length) hf
   obtain ⟨k,hk,hfk,hps,harr⟩:=h3 fs[x] (List.getElem_mem hx)
   have hsm:=zBH D hD _ (hR.at hk) t hm harr
   have hl3:=(hR.small hk).1
   have hklt:=hR.len
   have:=zxz hns hD hR (C:=4) (by omega) (c:=(k:Int)) (by omega) hl3 (P:=900000) (by omega) (fun u hu q hq => zqT hns hD hR (hsm u hu) (by omega)) (z1:=0) (z2:=0) (z3:=[]) (gP R k).ps.length 0 (by omega) [] (p + 1) (fun b hb => by cases hb) (by simp [zaV]) (by omega)
   obtain ⟨o,n,l,p',e1,e2,e3,e4⟩:=this
   rw [hnil] at hcons
   refine ⟨o,n,l,p',zbY (zan hcons (zaa rfl (zan h1 (zac (decide_eq_true (by omega)) (zac (decide_eq_true (by rw [zab]; omega)) ?_))))),by omega,e3,e4⟩
   rw [zab]
   refine zap hpk (zaR hx ?_)
   rw [hfk]
   exact zaH rfl hk e1
  ·exact (zqO hns hD hR (.inr ⟨fs,h1,List.eq_nil_of_length_eq_zero (by omega)⟩) hnil (by omega)).le (by omega) (by omega)
theorem ztn {t:Int} (ht:0 ≤ t ∧ t ≤ 4) {p:Nat} (hp:p + 20 ≤ 900000):EG ns p 14 4 (zbq (Qr ns p) [pgC D R,.cell (.int t)]):=by
 rcases (by omega:t = 0 ∨ t = 1 ∨ t = 3 ∨ (t = 2 ∨ t = 4)) with rfl | rfl | rfl | h
 ·exact (zwq hns hD hR (by omega)).le (by omega) (by omega)
 ·exact (zoI hns hD hR (.inl rfl) (by omega)).le (by omega) (by omega)
 ·exact (zoI hns hD hR (.inr rfl) (by omega)).le (by omega) (by omega)
 ·exact zBQ hns hD hR h hp
theorem zoe {V:List Int} (hV:V.length ≤ 1048576) {t:Int} (ht:0 ≤ t ∧ t ≤ 4) {p:Nat} (hp:p + 30 ≤ 900000):EG ns p 16 4 (zdm (Qr ns p) [pgC D R,.cell (.sl 1 (zad V)),.cell (.int t)]):=by
 obtain ⟨fs,h1,h2,h3⟩:=zvH hV t
 have hvar:∀ (x:Nat) (hx:x < fs.length),Fit .expr [.int 12,.int fs[x],.sl 3 []]:=fun x hx => by
  have:=h3 fs[x] (List.getElem_mem hx)
  exact zaq (by omega) (by omega) (by simp) (fun b hb => by cases hb)
 by_cases hf:0 < fs.length
 ·have hf':decide (((((zad fs).length:Nat):Int)) > 0) = true:=decide_eq_true (by rw [zab]; omega)
  obtain ⟨x,hx,hp1⟩:=zbK hns (p:=p) (by omega) (m:=6) (by omega)
  by_cases hx0:0 < x
  ·obtain ⟨y,hy,hp2⟩:=zbK hns (p:=p + 1) (by omega) (m:=fs.length) hf
   refine ⟨12,fs[y],[],p + 1 + 1,zjg (zan h1 (zac hf' (zap hp1 (zac (decide_eq_true (by omega)) ?_)))),by omega,hvar y hy,by simp [zaV]⟩
   rw [zab]
   exact zap hp2 (zaR hy (zag (zaU _) rfl))
  ·obtain ⟨b,hb⟩:=zny (zgZ hD) hR (V:=[]) (by simp) t
   cases b with
   | false =>
    obtain ⟨y,hy,hp2⟩:=zbK hns (p:=p + 1) (by omega) (m:=fs.length) hf
    refine ⟨12,fs[y],[],p + 1 + 1,zjg (zan h1 (zac hf' (zap hp1 (zaa (decide_eq_false (by omega)) (zai hb (zac rfl ?_)))))),by omega,hvar y hy,by simp [zaV]⟩
    rw [zab]
    exact zap hp2 (zaR hy (zag (zaU _) rfl))
   | true =>
    obtain ⟨o,n,l,p',e1,e2,e3,e4⟩:=ztn hns hD hR ht (p:=p + 1) (by omega)
    exact ⟨o,n,l,p',zjg (zan h1 (zac hf' (zap hp1 (zaa (decide_eq_false (by omega)) (zai hb (zaa rfl (zaJ e1 rfl))))))),by omega,e3,e4⟩
 ·obtain ⟨o,n,l,p',e1,e2,e3,e4⟩:=ztn hns hD hR ht (p:=p) (by omega)
  exact ⟨o,n,l,p',zjg (zan h1 (zaa (decide_eq_false (by rw [zab]; omega)) (zaJ e1 rfl))),by omega,e3,e4⟩
end
end Go.Proofs.YtcpcagdialnbeaaGreat
