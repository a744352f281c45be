/- Generic texts and models for the proofs of this seat: part 25. -/
import Derived.Test.YtcpcagdialnbeaaY24
set_option linter.unusedVariables false
set_option linter.unusedSimpArgs false
namespace Go.Proofs.Ytcpcagdialnbeaa
open Go
theorem zoN {a b:Int} (h:a = b):rI a = rI b:=by rw [h]
theorem zea (o n:Int) (kids:List (List AC)):cS [.int o,.int n,.sl 3 kids] = kids.length + rsS kids:=by
 rw [ztn,ztn,zys,zxl]
 omega
theorem zxD {o n:Int} {kids:List (List AC)} (h:Fit .expr [.int o,.int n,.sl 3 kids]):inI o ∧ inI n ∧ kids.length ≤ zbd ∧ ∀ b ∈ kids,Fit .expr b:=by
 generalize ht:Ty.expr = t at h
 generalize hx:[AC.int o,AC.int n,AC.sl 3 kids] = x at h
 cases h with
 | expr o' n' kids' ho hn hl h =>
  simp only [List.cons.injEq,AC.int.injEq,AC.sl.injEq,true_and,and_true] at hx
  obtain ⟨rfl,rfl,rfl⟩:=hx
  exact ⟨ho,hn,hl,h⟩
 | _ => cases ht
theorem zrs {x:List AC} (h:Fit .expr x):∃ o n kids,x = [.int o,.int n,.sl 3 kids]:=by
 generalize ht:Ty.expr = t at h
 cases h with
 | expr o n kids _ _ _ _ => exact ⟨o,n,kids,rfl⟩
 | _ => cases ht
theorem zvO {kids:List (List AC)} (h:∀ b ∈ kids,Fit .expr b) {k:Nat} (hk:k < kids.length):∃ o n ks,kids.getD k [] = [.int o,.int n,.sl 3 ks] ∧ Fit .expr [.int o,.int n,.sl 3 ks]:=by
 have h1:=h _ (zgx hk [])
 obtain ⟨o,n,ks,e⟩:=zrs h1
 exact ⟨o,n,ks,e,e ▸ h1⟩
theorem zw1 {kids:List (List AC)} {k:Nat} (hk:k < kids.length) {o n:Int}:cS (kids.getD k []) < cS [.int o,.int n,.sl 3 kids]:=by
 rw [zea]
 have:=zlC (zgx hk [])
 omega
def zov (kids:List (List AC)) (k:Nat):Nat:=(kids.length - k) + rsS (kids.drop k)
theorem zrP {kids:List (List AC)} {k:Nat} (hk:k < kids.length):zov kids k = 1 + cS (kids.getD k []) + zov kids (k + 1):=by
 unfold zov
 rw [zr9 hk]
 omega
theorem zsu (kids:List (List AC)):zov kids kids.length = 0:=by
 unfold zov
 rw [List.drop_eq_nil_of_le (Nat.le_refl _),zaE]
 omega
theorem zrR (o n:Int) (kids:List (List AC)):zov kids 0 = cS [.int o,.int n,.sl 3 kids]:=by
 rw [zea]
 unfold zov
 simp
def zvj (x:List AC):Int:=if cS x ≤ 29 then ((1 + cS x:Nat):Int) else -1
theorem zxI:∀ (s:Nat) (o n:Int) (kids:List (List AC)),cS [.int o,.int n,.sl 3 kids] < s → Fit .expr [.int o,.int n,.sl 3 kids] → ∀ L:Nat,L ≤ 30 →
  zey [.agg [.int o,.int n,.sl 3 kids],.cell (.int (L:Int))] = rI (if 1 + cS [.int o,.int n,.sl 3 kids] ≤ L then ((L - (1 + cS [.int o,.int n,.sl 3 kids]):Nat):Int) else -1):=by
 intro s
 induction s with
 | zero => intro o n kids h; omega
 | succ s ihs =>
  intro o n kids hs hf L hL
  obtain ⟨_,_,hl,hk⟩:=zxD hf
  have key:∀ m k:Nat,k + m = kids.length → ∀ c:Nat,c ≤ 30 → zc7 (c:Int) o n kids (k:Int) = rI (if zov kids k ≤ c then ((c - zov kids k:Nat):Int) else -1):=by
   intro m
   induction m with
   | zero =>
    intro k hk c h2
    obtain rfl:k = kids.length:=by omega
    refine ze2 (zab (decide_eq_false (by omega)) ?_)
    rw [zsu,if_pos (by omega)]
    rfl
   | succ m ih =>
    intro k hkm c h2
    have hlt:k < kids.length:=by omega
    obtain ⟨o',n',ks,e,hf'⟩:=zvO hk hlt
    have hr:=zrP hlt
    have hlt':=zw1 hlt (o:=o) (n:=n)
    rw [e] at hr hlt'
    refine ze2 (zaf (decide_eq_true (by omega)) (ztT hlt e (zfD (ihs o' n' ks (by omega) hf' c h2) ?_)))
    generalize cS [.int o',.int n',.sl 3 ks] = z at hr
    by_cases hc:1 + z ≤ c
    ·rw [if_pos hc]
     refine zab (decide_eq_false (by omega)) ?_
     rw [wrk (by omega),ih (k + 1) (by omega) _ (by omega)]
     refine zoN ?_
     split <;> split <;> omega
    ·rw [if_neg hc,if_neg (by omega)]
     exact zaf rfl rfl
  refine zjR ?_
  by_cases h1:L = 0
  ·rw [if_neg (by omega)]
   exact zaf (decide_eq_true (by omega)) rfl
  refine zab (decide_eq_false (by omega)) ?_
  have w1:zag ((L:Int) - 1) = ((L - 1:Nat):Int):=by rw [wr (by omega) (by omega)]; omega
  have:=key kids.length 0 (by omega) (L - 1) (by omega)
  rw [zrR o n] at this
  rw [w1,show ((0:Nat):Int) = 0 from rfl] at *
  refine Eq.trans this ?_
  refine zoN ?_
  split <;> split <;> omega
theorem znk {o n:Int} {kids:List (List AC)} (hf:Fit .expr [.int o,.int n,.sl 3 kids]):zfQ [.agg [.int o,.int n,.sl 3 kids]] = rI (zvj [.int o,.int n,.sl 3 kids]):=by
 refine zlr (zfD (zxI _ o n kids (Nat.lt_succ_self _) hf 30 (by omega)) ?_)
 unfold zvj
 generalize cS [.int o,.int n,.sl 3 kids] = z
 by_cases h:z ≤ 29
 ·rw [if_pos (by omega),if_pos h]
  refine zab (decide_eq_false (by omega)) ?_
  rw [wr (by omega) (by omega)]
  refine zoN ?_
  omega
 ·rw [if_neg (by omega),if_neg h]
  exact zaf rfl rfl
end Go.Proofs.Ytcpcagdialnbeaa
namespace Go.Proofs.Ytcpcagdialnbeaa
open Go
def Qr (ns:List Nat) (p:Nat):List AC:=[.sl 1 (ns.map fun (u:Nat) => [.bool true,.int (u:Int)]),.int (p:Int)]
section
variable {ρ:Type} {r:ρ}
theorem zai {x:Option (AV × List AC)} {n:Int} {q:List AC} (h:x = some (.v (.cell (.int n)),q)) {K:List AC → Fn (Option ρ) (zaQ [(false,[.int 0])])} (h2:(K q:Int → Option ρ) n = some r):zcO x false [(false,[.int 0])] K = some r:=by rw [h]; exact h2
theorem zax {x:Option (AV × List AC)} {o n:Int} {l:List (List AC)} {q:List AC} (h:x = some (.v (.agg [.int o,.int n,.sl 3 l]),q)) {K:List AC → Fn (Option ρ) (zaQ [(true,[.int 0,.int 0,.sl 3 []])])} (h2:(K q:Int → Int → List (List AC) → Option ρ) o n l = some r):zcO x false [(true,[.int 0,.int 0,.sl 3 []])] K = some r:=by rw [h]; exact h2
theorem zg7 {x:Option (AV × List AC)} {k:Nat} {l:List (List AC)} {q:List AC} (h:x = some (.v (.cell (.sl k l)),q)) {K:List AC → Fn (Option ρ) (zaQ [(false,[.sl k []])])} (h2:(K q:List (List AC) → Option ρ) l = some r):zcO x false [(false,[.sl k []])] K = some r:=by
 rw [h]
 exact zaU rfl h2
theorem zlF {a b:Int} {n:Nat} (ha:0 ≤ a) (hb:0 < b) (hle:a ≤ 9223372036854775807) (h:a / b = (n:Int)) {K:Int → Option ρ} (h2:K (n:Int) = some r):zml a b K = some r:=by
 unfold zml
 rw [show (b == 0) = false by rw [beq_eq_false_iff_ne]; omega,Int.tdiv_eq_ediv_of_nonneg ha,h]
 have:a / b ≤ a:=Int.ediv_le_self _ ha
 rw [wr (by omega) (by omega)]
 exact h2
end
theorem zbi {ns:List Nat} (hns:ns.length ≤ 2000) {p:Nat} (hp:p ≤ 1000000) {m:Nat} (hm:1 ≤ m):∃ x:Nat,x < m ∧ zad (Qr ns p) [.cell (.int (m:Int))] = some (.v (.cell (.int (x:Int))),Qr ns (p + 1)):=by
 have hrun:zjY (Qr ns p) [.cell (.int (m:Int))] = some (.v (.cell (.int (zgK ns p m))),Qr ns (p + 1)):=by
  unfold Qr zjY
  simp only [zio,Option.bind_some]
  rw [if_pos ⟨by omega,by omega,hns⟩]
  simp
 have hrange:∃ x:Nat,x < m ∧ zgK ns p m = (x:Int):=by
  unfold zgK
  split
  ·exact ⟨0,by omega,rfl⟩
  ·split
   ·have h1:=Int.emod_nonneg ((ns.getD p 0:Nat):Int) (show (m:Int) ≠ 0 by omega)
    have h2:=Int.emod_lt_of_pos ((ns.getD p 0:Nat):Int) (show (0:Int) < m by omega)
    exact ⟨(((ns.getD p 0:Nat):Int) % m).toNat,by omega,by omega⟩
   ·generalize bits .xor .i64 _ _ = z
    have h1:=Int.emod_nonneg z (show (m:Int) ≠ 0 by omega)
    have h2:=Int.emod_lt_of_pos z (show (0:Int) < m by omega)
    exact ⟨(z % m).toNat,by omega,by omega⟩
 obtain ⟨x,hx,e⟩:=hrange
 rw [e] at hrun
 exact ⟨x,hx,zwS (by kernel_rfl) (by kernel_rfl:zex 27 = some zrb) hrun⟩
theorem zhV {ns:List Nat} (hns:ns.length ≤ 2000) {p:Nat} (hp:p ≤ 1000000) {xs:List Int} (hx:xs ≠ []) (hl:xs.length ≤ 1000000):∃ x ∈ xs,zaL (Qr ns p) [.cell (.sl 1 (zah xs))] = some (.v (.cell (.int x)),Qr ns (p + 1)):=by
 have hpos:=List.length_pos_iff.2 hx
 obtain ⟨k,hk,h⟩:=zbi hns hp (m:=xs.length) hpos
 refine ⟨xs[k],List.getElem_mem hk,ziU ?_⟩
 rw [zac]
 exact zai h (zbm hk rfl)
theorem zar (o n:Int) (l:List (List AC)):zae [.cell (.int o),.cell (.int n),.cell (.sl 3 l)] = some (.v (.agg [.int o,.int n,.sl 3 l])):=zoL rfl
theorem zb1 (n:Int):zbc [.cell (.int n)] = some (.v (.agg [.int 0,.int n,.sl 3 []])):=zld rfl
theorem zaD (n:Int):zak [.cell (.int n)] = some (.v (.agg [.int 12,.int n,.sl 3 []])):=zj7 rfl
theorem zbv (l:List (List AC)):zdJ [.cell (.sl 1 l)] = some (.v (.agg [.sl 1 l])):=zpk rfl
theorem znV {ns:List Nat} (hns:ns.length ≤ 2000) {p:Nat} (hp:p + 4 ≤ 1000000):∃ x:Int,(-1000 ≤ x ∧ x ≤ 1000) ∧ zeh (Qr ns p) [] = some (.v (.cell (.int x)),Qr ns (p + 4)):=by
 obtain ⟨a,ha,h1⟩:=zbi hns (p:=p) (by omega) (m:=6) (by omega)
 obtain ⟨b,hb,h2⟩:=zbi hns (p:=p + 1) (by omega) (m:=6) (by omega)
 obtain ⟨c,hc,h3⟩:=zbi hns (p:=p + 1 + 1) (by omega) (m:=40) (by omega)
 obtain ⟨x,hx,h4⟩:=zhV hns (p:=p + 1 + 1 + 1) (by omega) (xs:=[(a:Int),(b:Int),0,1,2,-1,3,(c:Int),999,-998]) (by simp) (by simp)
 refine ⟨x,?_,zlc (zai h1 (zai h2 (zai h3 (zai h4 rfl))))⟩
 simp only [List.mem_cons,List.not_mem_nil,or_false] at hx
 omega
theorem ziF (xs:List Int) (n:Int) (hx:xs.length ≤ 1048576):zf2 [.cell (.sl 1 (zah xs)),.cell (.int n)] = rB (xs.contains n):=by
 have key:∀ m k:Nat,k + m = xs.length → zfX (zah xs) n (k:Int) = some (.v (.cell (.bool ((xs.drop k).contains n)))):=by
  intro m
  induction m with
  | zero =>
   intro k hk
   rw [List.drop_eq_nil_of_le (by omega)]
   exact zhT (zab (decide_eq_false (by rw [zac]; omega)) rfl)
  | succ m ih =>
   intro k hk
   have hlt:k < xs.length:=by omega
   have hnext:=ih (k + 1) (by omega)
   rw [← wrk (by unfold zbd; omega)] at hnext
   rw [List.drop_eq_getElem_cons hlt,List.contains_cons]
   refine zhT (zaf (decide_eq_true (by rw [zac]; omega)) (zbm hlt ?_))
   rcases e:(xs[k] == n) with _ | _
   ·rw [show (n == xs[k]) = false by rw [beq_eq_false_iff_ne] at e ⊢; exact fun h => e h.symm,Bool.false_or]
    exact zab rfl hnext
   ·rw [show (n == xs[k]) = true by rw [beq_iff_eq] at e ⊢; exact e.symm,Bool.true_or]
    exact zaf rfl rfl
 exact zoe (key xs.length 0 (by omega))
def zbj (D:List DM) (t:Int):List Int:=if 1 ≤ t ∧ t ≤ D.length then (List.range (gD D (t.toNat - 1)).cs.length).map fun i => (((zc0 (D.take (t.toNat - 1)) + i:Nat)):Int) else []
theorem zc5 {D:List DM} (hv:DV D) (t:Int):zcK [.cell (.sl 3 (zal D)),.cell (.int t)] = rL (zbj D t):=by
 have h4:=hv.len
 refine zlO (za6 (zha _ _ _) ?_)
 rw [zbf]
 unfold zbj
 by_cases h:1 ≤ t ∧ t ≤ (D.length:Int)
 rotate_left
 ·rw [if_neg h,show (decide (1 ≤ t) && decide (t ≤ (D.length:Int))) = false by rw [← Bool.decide_and]; exact decide_eq_false h]
  exact zaf rfl rfl
 rw [if_pos h,show (decide (1 ≤ t) && decide (t ≤ (D.length:Int))) = true by rw [← Bool.decide_and]; exact decide_eq_true h]
 refine zab rfl ?_
 have hk:t.toNat - 1 < D.length:=by omega
 have h3:=hv.cs _ hk
 have hsum:=zjs hv.cs (t.toNat - 1) (by omega)
 have key:∀ m i:Nat,i + m = (gD D (t.toNat - 1)).cs.length → zeH (zal D) t (zah ((List.range i).map fun i => (((zc0 (D.take (t.toNat - 1)) + i:Nat)):Int))) (i:Int) = rL ((List.range (gD D (t.toNat - 1)).cs.length).map fun i => (((zc0 (D.take (t.toNat - 1)) + i:Nat)):Int)):=by
  intro m
  induction m with
  | zero =>
   intro i hi
   refine zgQ (zcM (k:=t.toNat - 1) (by rw [wr (by omega) (by omega)]; omega) hk ?_)
   rw [zbq]
   exact zab (decide_eq_false (by omega)) (by rw [show i = (gD D (t.toNat - 1)).cs.length by omega])
  | succ m ih =>
   intro i hi
   refine zgQ (zcM (k:=t.toNat - 1) (by rw [wr (by omega) (by omega)]; omega) hk ?_)
   rw [zbq]
   refine zaf (decide_eq_true (by omega)) ?_
   rw [show zag (t - 1) = ((t.toNat - 1:Nat):Int) by rw [wr (by omega) (by omega)]; omega]
   refine zfD (zi0 hv (by omega)) (zdf (by rw [zac]; simp; omega) ?_)
   have hn:=ih (i + 1) (by omega)
   rw [List.range_succ,List.map_append] at hn
   rw [wrk (by unfold zbd; omega)]
   rw [show zah ((List.range i).map fun i => (((zc0 (D.take (t.toNat - 1)) + i:Nat)):Int)) ++ [[AC.int (zag (((zc0 (D.take (t.toNat - 1)):Nat):Int) + (i:Int)))]] = zah ((List.range i).map (fun i => (((zc0 (D.take (t.toNat - 1)) + i:Nat)):Int)) ++ [i].map (fun i => (((zc0 (D.take (t.toNat - 1)) + i:Nat)):Int))) by
    rw [wr (by omega) (by omega)]
    simp [zah]]
   exact hn
 exact key (gD D (t.toNat - 1)).cs.length 0 (by omega)
end Go.Proofs.Ytcpcagdialnbeaa
namespace Go.Proofs.Ytcpcagdialnbeaa
open Go
def zgW:List DM:=[⟨0,0,[[],[0,1]]⟩,⟨0,0,[]⟩,⟨0,0,[[],[3,0,3]]⟩]
def zcJ:List (List DM):=[zgW ++ [⟨0,0,[[1,3]]⟩],zgW ++ [⟨1,0,[]⟩],zgW ++ [⟨0,0,[[1,1,0],[0],[3]]⟩],zgW ++ [⟨0,1,[]⟩],zgW]
theorem zqE:∀ D ∈ zcJ,zdU D = true:=by decide
theorem zgP {D:List DM} (h:D ∈ zcJ):DV D:=zyN (zqE D h)
theorem zeq {D:List DM} (h:D ∈ zcJ):D.length ≤ 4:=(zgP h).len
theorem zkZ {ns:List Nat} (hns:ns.length ≤ 2000) {p:Nat} (hp:p ≤ 1000000):∃ D ∈ zcJ,zf7 (Qr ns p) [] = some (.v (.cell (.sl 3 (zal D))),Qr ns (p + 1)):=by
 obtain ⟨x,hx,h1⟩:=zbi hns hp (m:=5) (by omega)
 rcases (by omega:x = 0 ∨ x = 1 ∨ x = 2 ∨ x = 3 ∨ x = 4) with rfl | rfl | rfl | rfl | rfl
 ·exact ⟨zgW ++ [⟨0,0,[[1,3]]⟩],by simp [zcJ],zcj (zaG (zbv _) (zaG (zbv _) (zaG (zbv _) (zaG (zbv _) (zaG (zbv _) (zaG (zbv _) (zaG (zbv _) (zaG (zbv _) (zai h1 (zaf rfl (zlV (k:=0) (by decide) rfl (zdf (by decide) rfl))))))))))))⟩
 ·exact ⟨zgW ++ [⟨1,0,[]⟩],by simp [zcJ],zcj (zaG (zbv _) (zaG (zbv _) (zaG (zbv _) (zaG (zbv _) (zaG (zbv _) (zaG (zbv _) (zaG (zbv _) (zaG (zbv _) (zai h1 (zaf rfl (zlV (k:=1) (by decide) rfl (zdf (by decide) rfl))))))))))))⟩
 ·exact ⟨zgW ++ [⟨0,0,[[1,1,0],[0],[3]]⟩],by simp [zcJ],zcj (zaG (zbv _) (zaG (zbv _) (zaG (zbv _) (zaG (zbv _) (zaG (zbv _) (zaG (zbv _) (zaG (zbv _) (zaG (zbv _) (zai h1 (zaf rfl (zlV (k:=2) (by decide) rfl (zdf (by decide) rfl))))))))))))⟩
 ·exact ⟨zgW ++ [⟨0,1,[]⟩],by simp [zcJ],zcj (zaG (zbv _) (zaG (zbv _) (zaG (zbv _) (zaG (zbv _) (zaG (zbv _) (zaG (zbv _) (zaG (zbv _) (zaG (zbv _) (zai h1 (zaf rfl (zlV (k:=3) (by decide) rfl (zdf (by decide) rfl))))))))))))⟩
 ·exact ⟨zgW,by simp [zcJ],zcj (zaG (zbv _) (zaG (zbv _) (zaG (zbv _) (zaG (zbv _) (zaG (zbv _) (zaG (zbv _) (zaG (zbv _) (zaG (zbv _) (zai h1 (zab rfl rfl))))))))))⟩
def sigL:List (List Int × Int):=[([],0),([1],0),([1,1],1),([1],1),([1,0],1),([2,1],1),([1,1],0),([3],0),([0],1),([0,1],1),([3,0],3),([3],1),([1,3,0],0),([0],0),([0,0],0),([1,0],0)]
structure GR (R:List PM):Prop where
 len:R.length ≤ 4
 sg:∀ x ∈ R,(x.ps,x.r) ∈ sigL
theorem znn:∀ s ∈ sigL,s.1.length ≤ 3 ∧ (0 ≤ s.2 ∧ s.2 ≤ 3) ∧ ∀ t ∈ s.1,0 ≤ t ∧ t ≤ 3:=by decide
theorem GR.at {R:List PM} (h:GR R) {k:Nat} (hk:k < R.length):((gP R k).ps,(gP R k).r) ∈ sigL:=h.sg _ (zol hk)
theorem GR.small {R:List PM} (h:GR R) {k:Nat} (hk:k < R.length):(gP R k).ps.length ≤ 3 ∧ (0 ≤ (gP R k).r ∧ (gP R k).r ≤ 3) ∧ ∀ t ∈ (gP R k).ps,0 ≤ t ∧ t ≤ 3:=znn _ (h.at hk)
abbrev pgC (D:List DM) (R:List PM):SV:=.agg [.sl 3 (zal D),.sl 5 (zaW R)]
def zxk (D:List DM) (R:List PM) (t:Int) (fs:List Int):Prop:=∀ f ∈ fs,∃ k,k < R.length ∧ f = (k:Int) ∧ 0 < (gP R k).ps.length ∧ zhD ((gP R k).ps.getD ((gP R k).ps.length - 1) 0) (gP R k).r D 0 = t
theorem zl0 (xs:List Int) (x:Int):zah xs ++ [[AC.int x]] = zah (xs ++ [x]):=by simp [zah]
theorem zi4 {D:List DM} (hD:D.length ≤ 4) {R:List PM} (hR:GR R) (t:Int):∃ fs,zdM [pgC D R,.cell (.int t)] = rL fs ∧ fs.length ≤ 4 ∧ zxk D R t fs:=by
 have h4:=hR.len
 have key:∀ m k:Nat,k + m = R.length → ∀ acc:List Int,acc.length ≤ k → zxk D R t acc → ∃ fs,zb0 t (zal D) (zaW R) (zah acc) (k:Int) = rL fs ∧ fs.length ≤ 4 ∧ zxk D R t fs:=by
  intro m
  induction m with
  | zero =>
   intro k hk acc hl ha
   exact ⟨acc,zcu (zab (decide_eq_false (by rw [zby]; omega)) rfl),by omega,ha⟩
  | succ m ih =>
   intro k hk acc hl ha
   have hlt:k < R.length:=by omega
   have h3:=(hR.small hlt).1
   have hw:zag ((k:Int) + 1) = ((k + 1:Nat):Int):=wrk (by unfold zbd; omega)
   by_cases hz:0 < (gP R k).ps.length
   ·by_cases he:zhD ((gP R k).ps.getD ((gP R k).ps.length - 1) 0) (gP R k).r D 0 = t
    ·obtain ⟨fs,h1,h2,h5⟩:=ih (k + 1) (by omega) (acc ++ [(k:Int)]) (by simp; omega) (fun f hf => by
      rcases List.mem_append.1 hf with hf | hf
      ·exact ha f hf
      ·simp only [List.mem_singleton] at hf
       exact ⟨k,hlt,hf,hz,he⟩)
     refine ⟨fs,zcu (zaf (decide_eq_true (by rw [zby]; omega)) (zaZ rfl hlt (zaf (decide_eq_true (by rw [zac]; omega)) (zaZ rfl hlt ?_)))),h2,h5⟩
     rw [zac,show zag ((((gP R k).ps.length:Nat):Int) - 1) = (((gP R k).ps.length - 1:Nat):Int) by rw [wr (by omega) (by omega)]; omega]
     refine zbm (by omega) (zaZ rfl hlt (zfD (zq5 D (by omega) _ _) ?_))
     rw [List.getD,List.getElem?_eq_getElem (by omega),Option.getD_some] at he
     refine zaf (by rw [he]; simp) (zdf (by rw [zac]; simp; omega) ?_)
     rw [zl0,hw]
     exact h1
    ·obtain ⟨fs,h1,h2,h5⟩:=ih (k + 1) (by omega) acc (by omega) ha
     refine ⟨fs,zcu (zaf (decide_eq_true (by rw [zby]; omega)) (zaZ rfl hlt (zaf (decide_eq_true (by rw [zac]; omega)) (zaZ rfl hlt ?_)))),h2,h5⟩
     rw [zac,show zag ((((gP R k).ps.length:Nat):Int) - 1) = (((gP R k).ps.length - 1:Nat):Int) by rw [wr (by omega) (by omega)]; omega]
     refine zbm (by omega) (zaZ rfl hlt (zfD (zq5 D (by omega) _ _) ?_))
     rw [List.getD,List.getElem?_eq_getElem (by omega),Option.getD_some] at he
     refine zab (by rw [beq_eq_false_iff_ne]; exact he) ?_
     rw [hw]
     exact h1
   ·obtain ⟨fs,h1,h2,h5⟩:=ih (k + 1) (by omega) acc (by omega) ha
    refine ⟨fs,zcu (zaf (decide_eq_true (by rw [zby]; omega)) (zaZ rfl hlt (zab (decide_eq_false (by rw [zac]; omega)) ?_))),h2,h5⟩
    rw [hw]
    exact h1
 obtain ⟨fs,h1,h2,h3⟩:=key R.length 0 (by omega) [] (by simp) (fun f hf => by cases hf)
 exact ⟨fs,zj3 h1,h2,h3⟩
theorem ziE {D:List DM} (hD:D.length ≤ 4) {R:List PM} (hR:GR R) {V:List Int} (hV:V.length ≤ 1048576) (t:Int):∃ b,zdr [pgC D R,.cell (.sl 1 (zah V)),.cell (.int t)] = rB b:=by
 rcases ha:zst D t with _ | _
 ·exact ⟨true,zfy (za6 (zdq (by omega) t) (zaf (by rw [ha]; rfl) rfl))⟩
 ·obtain ⟨fs,h1,h2,h3⟩:=zi4 hD hR t
  by_cases hz:0 < fs.length
  ·exact ⟨true,zfy (za6 (zdq (by omega) t) (zab (by rw [ha]; rfl) (zaU h1 (zaf (decide_eq_true (by rw [zac]; omega)) rfl))))⟩
  ·exact ⟨V.contains t,zfy (za6 (zdq (by omega) t) (zab (by rw [ha]; rfl) (zaU h1 (zab (decide_eq_false (by rw [zac]; omega)) (za6 (ziF V t hV) rfl)))))⟩
theorem zom {V:List Int} (hV:V.length ≤ 1048576) (t:Int):∃ fs,zfA [.cell (.sl 1 (zah V)),.cell (.int t)] = rL fs ∧ fs.length ≤ V.length ∧ ∀ f ∈ fs,0 ≤ f ∧ f ≤ 1048576:=by
 have key:∀ m k:Nat,k + m = V.length → ∀ acc:List Int,acc.length ≤ k → (∀ f ∈ acc,0 ≤ f ∧ f ≤ 1048576) → ∃ fs,zb9 (zah V) t (zah acc) (k:Int) = rL fs ∧ fs.length ≤ V.length ∧ ∀ f ∈ fs,0 ≤ f ∧ f ≤ 1048576:=by
  intro m
  induction m with
  | zero =>
   intro k hk acc hl ha
   exact ⟨acc,zc1 (zab (decide_eq_false (by rw [zac]; omega)) rfl),by omega,ha⟩
  | succ m ih =>
   intro k hk acc hl ha
   have hlt:k < V.length:=by omega
   have hw:zag ((k:Int) + 1) = ((k + 1:Nat):Int):=wrk (by unfold zbd; omega)
   rcases he:(V[k] == t) with _ | _
   ·obtain ⟨fs,h1,h2,h5⟩:=ih (k + 1) (by omega) acc (by omega) ha
    refine ⟨fs,zc1 (zaf (decide_eq_true (by rw [zac]; omega)) (zbm hlt (zab he ?_))),h2,h5⟩
    rw [hw]
    exact h1
   ·obtain ⟨fs,h1,h2,h5⟩:=ih (k + 1) (by omega) (acc ++ [(k:Int)]) (by simp; omega) (fun f hf => by
     rcases List.mem_append.1 hf with hf | hf
     ·exact ha f hf
     ·simp only [List.mem_singleton] at hf
      omega)
    refine ⟨fs,zc1 (zaf (decide_eq_true (by rw [zac]; omega)) (zbm hlt (zaf he (zdf (by rw [zac]; simp; omega) ?_)))),h2,h5⟩
    rw [zl0,hw]
    exact h1
 obtain ⟨fs,h1,h2,h3⟩:=key V.length 0 (by omega) [] (by simp) (fun f hf => by cases hf)
 exact ⟨fs,zjf h1,h2,h3⟩
theorem znP {D:List DM} (hD:D.length ≤ 4) {R:List PM} (hR:GR R) {V:List Int} (hV:V.length ≤ 1048576) {ns:List Nat} (hns:ns.length ≤ 2000) {p:Nat} (hp:p ≤ 1000000) :
  ∃ t:Int,(0 ≤ t ∧ t ≤ 4) ∧ zfT (Qr ns p) [pgC D R,.cell (.sl 1 (zah V))] = some (.v (.cell (.int t)),Qr ns (p + 1)):=by
 obtain ⟨x,hx,h1⟩:=zhV hns hp (xs:=[1,1,3,0,2,4,3]) (by simp) (by simp)
 have hx4:0 ≤ x ∧ x ≤ 4:=by
  simp only [List.mem_cons,List.not_mem_nil,or_false] at hx
  omega
 by_cases hl:x > (((zal D).length:Nat):Int)
 ·exact ⟨1,by omega,zfm (zai h1 (zaf (decide_eq_true hl) rfl))⟩
 ·obtain ⟨b,hb⟩:=ziE hD hR hV x
  rcases b with _ | _
  ·exact ⟨1,by omega,zfm (zai h1 (zab (decide_eq_false hl) (za6 hb (zaf rfl rfl))))⟩
  ·exact ⟨x,hx4,zfm (zai h1 (zab (decide_eq_false hl) (za6 hb (zab rfl rfl))))⟩
def zvv (R:List PM) (fs:List Int):Prop:=∀ f ∈ fs,∃ k,k < R.length ∧ f = (k:Int)
theorem zl9 {D:List DM} (hD:D.length ≤ 4) {R:List PM} (hR:GR R) (t:Int):∃ fs,zaY [pgC D R,.cell (.int t)] = rL fs ∧ fs.length ≤ 4 ∧ zvv R fs:=by
 have h4:=hR.len
 have key:∀ m k:Nat,k + m = R.length → ∀ acc:List Int,acc.length ≤ k → zvv R acc → ∃ fs,zcx t (zal D) (zaW R) (zah acc) (k:Int) = rL fs ∧ fs.length ≤ 4 ∧ zvv R fs:=by
  intro m
  induction m with
  | zero =>
   intro k hk acc hl ha
   exact ⟨acc,zdD (zab (decide_eq_false (by rw [zby]; omega)) rfl),by omega,ha⟩
  | succ m ih =>
   intro k hk acc hl ha
   have hlt:k < R.length:=by omega
   have h3:=(hR.small hlt).1
   have hw:zag ((k:Int) + 1) = ((k + 1:Nat):Int):=wrk (by unfold zbd; omega)
   have inner:∀ n i:Nat,i + n = (gP R k).ps.length → ∀ b:Bool,∃ fs,zcy t (zal D) (zaW R) (zah acc) (k:Int) b (i:Int) = rL fs ∧ fs.length ≤ 4 ∧ zvv R fs:=by
    intro n
    induction n with
    | zero =>
     intro i hi b
     cases b with
     | false =>
      obtain ⟨fs,h1,h2,h5⟩:=ih (k + 1) (by omega) acc (by omega) ha
      refine ⟨fs,zcv (zaZ rfl hlt (zab (decide_eq_false (by rw [zac]; omega)) (zab rfl ?_))),h2,h5⟩
      rw [hw]
      exact h1
     | true =>
      obtain ⟨fs,h1,h2,h5⟩:=ih (k + 1) (by omega) (acc ++ [(k:Int)]) (by simp; omega) (fun f hf => by
       rcases List.mem_append.1 hf with hf | hf
       ·exact ha f hf
       ·simp only [List.mem_singleton] at hf
        exact ⟨k,hlt,hf⟩)
      refine ⟨fs,zcv (zaZ rfl hlt (zab (decide_eq_false (by rw [zac]; omega)) (zaf rfl (zdf (by rw [zac]; simp; omega) ?_)))),h2,h5⟩
      rw [zl0,hw]
      exact h1
    | succ n ihn =>
     intro i hi b
     have hil:i < (gP R k).ps.length:=by omega
     have hwi:zag ((i:Int) + 1) = ((i + 1:Nat):Int):=wrk (by unfold zbd; omega)
     cases b with
     | false =>
      obtain ⟨fs,h1,h2,h5⟩:=ihn (i + 1) (by omega) false
      refine ⟨fs,zcv (zaZ rfl hlt (zaf (decide_eq_true (by rw [zac]; omega)) (zab rfl ?_))),h2,h5⟩
      rw [hwi]
      exact h1
     | true =>
      obtain ⟨c,hc⟩:=ziE hD hR (V:=[]) (by simp) (gP R k).ps[i]
      obtain ⟨fs,h1,h2,h5⟩:=ihn (i + 1) (by omega) c
      refine ⟨fs,zcv (zaZ rfl hlt (zaf (decide_eq_true (by rw [zac]; omega)) (zaf rfl (zaZ rfl hlt (zbm hil (za6 hc ?_)))))),h2,h5⟩
      rw [hwi]
      exact h1
   obtain ⟨fs,h1,h2,h5⟩:=inner (gP R k).ps.length 0 (by omega) ((gP R k).r == t)
   exact ⟨fs,zdD (zaf (decide_eq_true (by rw [zby]; omega)) (zaZ rfl hlt h1)),h2,h5⟩
 rcases Nat.lt_or_ge R.length 1 with h0 | h0
 ·exact ⟨[],zhk (zdD (zab (decide_eq_false (by rw [zby]; omega)) rfl)),by simp,fun f hf => by cases hf⟩
 ·obtain ⟨fs,h1,h2,h3⟩:=key (R.length - 1) 1 (by omega) [] (by simp) (fun f hf => by cases hf)
  exact ⟨fs,zhk h1,h2,h3⟩
end Go.Proofs.Ytcpcagdialnbeaa
set_option linter.unusedSectionVars false
namespace Go.Proofs.Ytcpcagdialnbeaa
open Go
def EG (ns:List Nat) (p C M:Nat) (x:Option (AV × List AC)):Prop:=∃ (o n:Int) (kids:List (List AC)) (p':Nat),x = some (.v (.agg [.int o,.int n,.sl 3 kids]),Qr ns p') ∧ p' ≤ p + C ∧ Fit .expr [.int o,.int n,.sl 3 kids] ∧ 1 + kids.length + rsS kids ≤ M
theorem EG.le {ns:List Nat} {p C M C' M':Nat} {x:Option (AV × List AC)} (h:EG ns p C M x) (h1:C ≤ C') (h2:M ≤ M'):EG ns p C' M' x:=by
 obtain ⟨o,n,kids,p',e,a,b,c⟩:=h
 exact ⟨o,n,kids,p',e,by omega,b,by omega⟩
def zcb (kids:List (List AC)):Prop:=∀ b ∈ kids,Fit .expr b
theorem zaj {o n:Int} {kids:List (List AC)} (ho:-1000000 ≤ o ∧ o ≤ 1000000) (hn:-10000000 ≤ n ∧ n ≤ 10000000) (hl:kids.length ≤ 1000000) (hk:zcb kids):Fit .expr [.int o,.int n,.sl 3 kids] :=
 .expr o n kids ⟨by omega,by omega⟩ ⟨by omega,by omega⟩ (by unfold zbd; omega) hk
theorem zja (a b:List (List AC)):rsS (a ++ b) = rsS a + rsS b:=by
 induction a with
 | nil => simp [zaE]
 | cons x a ih => rw [List.cons_append,za0,za0,ih]; omega
theorem zd4 {kids:List (List AC)} {o n:Int} {l:List (List AC)} (hk:zcb kids) (h:Fit .expr [.int o,.int n,.sl 3 l]):zcb (kids ++ [[.int o,.int n,.sl 3 l]]):=fun b hb => by
 rcases List.mem_append.1 hb with hb | hb
 ·exact hk b hb
 ·simp only [List.mem_singleton] at hb; rw [hb]; exact h
theorem zdw {kids:List (List AC)} {o n:Int} {l:List (List AC)}:(kids ++ [[AC.int o,.int n,.sl 3 l]]).length + rsS (kids ++ [[AC.int o,.int n,.sl 3 l]]) = kids.length + rsS kids + (1 + l.length + rsS l):=by
 rw [zja,za0,zaE,zea]
 simp
 omega
def cf (D:List DM) (c:Int):List Int:=if zoJ D c < 1 then [] else fld D c
theorem zmD {D:List DM} (hv:DV D) (c:Int):zaM [.cell (.sl 3 (zal D)),.cell (.int c)] = rL (cf D c):=zpD hv c
theorem ztD:∀ D ∈ zcJ,∀ t ∈ ([1,3]:List Int),(zbj D t).length = 2 ∧ cf D ((zbj D t).getD 0 0) = [] ∧ (cf D ((zbj D t).getD 1 0)).contains t = true ∧ (cf D ((zbj D t).getD 1 0)).length ≤ 3 ∧ (0 ≤ (zbj D t).getD 0 0 ∧ (zbj D t).getD 0 0 ≤ 100):=by decide
theorem zso:∀ D ∈ zcJ,∀ t ∈ ([2,4]:List Int),(zbj D t).length ≤ 3 ∧ ∀ c ∈ zbj D t,(0 ≤ c ∧ c ≤ 100) ∧ (cf D c).contains t = false ∧ (cf D c).length ≤ 3 ∧ ∀ u ∈ cf D c,u = 0 ∨ u = 1 ∨ u = 3:=by decide
theorem zr3:∀ D ∈ zcJ,zbj D 0 = []:=by decide
theorem zsZ:∀ D ∈ zcJ,∀ s ∈ sigL,∀ t ∈ ([2,4]:List Int),zhD (s.1.getD (s.1.length - 1) 0) s.2 D 0 = t → ∀ u ∈ s.1.take (s.1.length - 1),u = 0 ∨ u = 1 ∨ u = 3:=by decide
section
variable {ns:List Nat} (hns:ns.length ≤ 2000) {D:List DM} (hD:D ∈ zcJ) {R:List PM} (hR:GR R)
include hns hD hR
theorem zkL {t:Int} (ht:¬ 0 < t ∨ ∃ fs:List Int,zdM [pgC D R,.cell (.int t)] = rL fs ∧ fs = []) (hc:zbj D t = []) {p:Nat} (hp:p + 4 ≤ 1000000):EG ns p 4 1 (za3 (Qr ns p) [pgC D R,.cell (.int t)]):=by
 obtain ⟨x,hx,h1⟩:=znV hns hp
 have hcons:=zc5 (zgP hD) t
 rw [hc] at hcons
 refine ⟨0,x,[],p + 4,?_,by omega,zaj (by omega) (by omega) (by simp) (fun b hb => by cases hb),by simp [zaE]⟩
 rcases ht with ht | ⟨fs,h2,rfl⟩
 ·obtain ⟨fs,h2,_⟩:=zi4 (zeq hD) hR t
  exact zbn (zaU hcons (zab rfl (zaU h2 (zab (decide_eq_false ht) (zai h1 (zaa (zb1 _) rfl))))))
 ·by_cases h0:0 < t
  ·exact zbn (zaU hcons (zab rfl (zaU h2 (zaf (decide_eq_true h0) (zab rfl (zai h1 (zaa (zb1 _) rfl)))))))
  ·exact zbn (zaU hcons (zab rfl (zaU h2 (zab (decide_eq_false h0) (zai h1 (zaa (zb1 _) rfl))))))
theorem zqQ {C:Nat} (hC:C ≤ 1000) {c:Int} (hc:0 ≤ c ∧ c ≤ 100) {fs:List Int} (hl:fs.length ≤ 3) {P:Nat} (hP:P ≤ 900000) (hsm:∀ u ∈ fs,∀ p,p ≤ P → EG ns p C 1 (za3 (Qr ns p) [pgC D R,.cell (.int u)])) {z1 z2:Int} {z3:List (List AC)} :
  ∀ m k:Nat,k + m = fs.length → ∀ (acc:List (List AC)) (p:Nat),zcb acc → acc.length + rsS acc ≤ k → p + m * C ≤ P → EG ns p (m * C) 4 (zaX (zal D) (zaW R) z1 z2 z3 c acc (zah fs) (k:Int) (Qr ns p)):=by
 intro m
 induction m with
 | zero =>
  intro k hk acc p ha hs hp
  refine ⟨6,c,acc,p,zdG (zab (decide_eq_false (by rw [zac]; omega)) (zaa (zar _ _ _) rfl)),by omega,zaj (by omega) (by omega) (by omega) ha,by omega⟩
 | succ m ih =>
  intro k hk acc p ha hs hp
  have hlt:k < fs.length:=by omega
  have hmul:(m + 1) * C = m * C + C:=Nat.succ_mul _ _
  obtain ⟨o,n,l,p',h1,h2,h3,h4⟩:=hsm fs[k] (List.getElem_mem hlt) p (by omega)
  have hsz:=zdw (kids:=acc) (o:=o) (n:=n) (l:=l)
  obtain ⟨o2,n2,l2,p2,g1,g2,g3,g4⟩:=ih (k + 1) (by omega) (acc ++ [[.int o,.int n,.sl 3 l]]) p' (zd4 ha h3) (by omega) (by omega)
  refine ⟨o2,n2,l2,p2,zdG (zaf (decide_eq_true (by rw [zac]; omega)) (zbm hlt (zax h1 (zdf (by simp; omega) ?_)))),by omega,g3,g4⟩
  rw [wrk (by unfold zbd; omega)]
  exact g1
theorem zqz {C:Nat} (hC:C ≤ 1000) {c:Int} (hc:0 ≤ c ∧ c ≤ 100) {fs:List Int} (hl:fs.length ≤ 3) {P:Nat} (hP:P ≤ 900000) (hsm:∀ u ∈ fs.take (fs.length - 1),∀ p,p ≤ P → EG ns p C 1 (za3 (Qr ns p) [pgC D R,.cell (.int u)])) {z1 z2:Int} {z3:List (List AC)} :
  ∀ m k:Nat,k + m = fs.length → ∀ (acc:List (List AC)) (p:Nat),zcb acc → acc.length + rsS acc ≤ k → p + m * C ≤ P → EG ns p (m * C) 4 (zdt (zal D) (zaW R) z1 z2 z3 c (zah fs) acc (k:Int) (Qr ns p)):=by
 intro m
 induction m with
 | zero =>
  intro k hk acc p ha hs hp
  refine ⟨10,c,acc,p,zdE (zab (decide_eq_false (by rw [zac,wrk (by unfold zbd; omega)]; omega)) (zaa (zar _ _ _) rfl)),by omega,zaj (by omega) (by omega) (by omega) ha,by omega⟩
 | succ m ih =>
  intro k hk acc p ha hs hp
  have hlt:k < fs.length:=by omega
  have hmul:(m + 1) * C = m * C + C:=Nat.succ_mul _ _
  by_cases hlast:k + 1 < fs.length
  ·have hmem:fs[k] ∈ fs.take (fs.length - 1):=by
    rw [List.mem_take_iff_getElem]
    exact ⟨k,by omega,rfl⟩
   obtain ⟨o,n,l,p',h1,h2,h3,h4⟩:=hsm fs[k] hmem p (by omega)
   have hsz:=zdw (kids:=acc) (o:=o) (n:=n) (l:=l)
   obtain ⟨o2,n2,l2,p2,g1,g2,g3,g4⟩:=ih (k + 1) (by omega) (acc ++ [[.int o,.int n,.sl 3 l]]) p' (zd4 ha h3) (by omega) (by omega)
   refine ⟨o2,n2,l2,p2,zdE (zaf (decide_eq_true (by rw [zac,wrk (by unfold zbd; omega)]; omega)) (zbm hlt (zax h1 (zdf (by simp; omega) ?_)))),by omega,g3,g4⟩
   rw [wrk (by unfold zbd; omega)]
   exact g1
  ·refine ⟨10,c,acc,p,zdE (zab (decide_eq_false (by rw [zac,wrk (by unfold zbd; omega)]; omega)) (zaa (zar _ _ _) rfl)),by omega,zaj (by omega) (by omega) (by omega) ha,by omega⟩
theorem zpF {p:Nat} (hp:p + 4 ≤ 1000000):EG ns p 4 1 (za3 (Qr ns p) [pgC D R,.cell (.int 0)]):=zkL hns hD hR (.inl (by omega)) (zr3 D hD) hp
theorem zj0 {t:Int} (ht:t = 1 ∨ t = 3) {p:Nat} (hp:p + 4 ≤ 1000000):EG ns p 4 1 (za3 (Qr ns p) [pgC D R,.cell (.int t)]):=by
 obtain ⟨g1,g2,g3,g4,g5⟩:=ztD D hD t (by rcases ht with rfl | rfl <;> simp)
 have hdv:=zgP hD
 have hcons:=zc5 hdv t
 obtain ⟨x,hx,h1⟩:=zbi hns (p:=p) (by omega) (m:=4) (by omega)
 obtain ⟨c0,c1,e⟩:∃ c0 c1,zbj D t = [c0,c1]:=by
  match h:zbj D t,g1 with
  | [a,b],_ => exact ⟨a,b,rfl⟩
 rw [e] at g1 g2 g3 g4 g5 hcons
 simp only [List.getD_cons_zero,List.getD_cons_succ] at g2 g3 g4 g5
 have hf0:=zmD hdv c0
 have hf1:=zmD hdv c1
 rw [g2] at hf0
 have hL:∀ q,zaX (zal D) (zaW R) 0 0 [] c0 [] (zah []) 0 q = some (.v (.agg [.int 6,.int c0,.sl 3 []]),q):=fun q => zdG (zab rfl (zaa (zar _ _ _) rfl))
 have hfin:∀ X,X = some (.v (.agg [.int 6,.int c0,.sl 3 []]),Qr ns (p + 1)) → EG ns p 4 1 X:=fun X hX => ⟨6,c0,[],p + 1,hX,by omega,zaj (by omega) (by omega) (by simp) (fun b hb => by cases hb),by simp [zaE]⟩
 have hin0:=ziF [] t (by simp)
 refine hfin _ (zbn (zaU hcons (zaf rfl (zbm (xs:=[c0,c1]) (k:=0) (by simp) (zaf rfl (zai h1 ?_))))))
 by_cases hx0:x = 0
 ·subst hx0
  exact zaf rfl (zbm (xs:=[c0,c1]) (k:=1) (by simp) (zaU hf1 (za6 (ziF _ t (by omega)) (zaf g3 (zbm (xs:=[c0,c1]) (k:=0) (by simp) (zaU hf0 (hL _)))))))
 ·exact zab (by rw [beq_eq_false_iff_ne]; omega) (zaU hf0 (za6 hin0 (zab rfl (zaU hf0 (hL _)))))
theorem zkQ {u:Int} (hu:u = 0 ∨ u = 1 ∨ u = 3) {p:Nat} (hp:p + 4 ≤ 1000000):EG ns p 4 1 (za3 (Qr ns p) [pgC D R,.cell (.int u)]):=by
 rcases hu with rfl | rfl | rfl
 ·exact zpF hns hD hR hp
 ·exact zj0 hns hD hR (.inl rfl) hp
 ·exact zj0 hns hD hR (.inr rfl) hp
theorem EG.put {p p1 C C1 M:Nat} {x:Option (AV × List AC)} (h:EG ns p1 C1 M x) (h1:p1 + C1 ≤ p + C):EG ns p C M x:=by
 obtain ⟨o,n,kids,p',e,a,b,c⟩:=h
 exact ⟨o,n,kids,p',e,by omega,b,c⟩
theorem ztR {t:Int} (ht:t = 2 ∨ t = 4) {p:Nat} (hp:p + 20 ≤ 900000):EG ns p 14 4 (za3 (Qr ns p) [pgC D R,.cell (.int t)]):=by
 have hm:t ∈ ([2,4]:List Int):=by rcases ht with rfl | rfl <;> simp
 obtain ⟨g1,g2⟩:=zso D hD t hm
 have hdv:=zgP hD
 have hcons:=zc5 hdv t
 have hL:∀ c ∈ zbj D t,∀ p',p' ≤ p + 1 → EG ns p' 12 4 (zaX (zal D) (zaW R) 0 0 [] c [] (zah (cf D c)) 0 (Qr ns p')):=fun c hc p' hp' => by
  obtain ⟨a1,a2,a3,a4⟩:=g2 c hc
  have:=zqQ hns hD hR (C:=4) (by omega) a1 a3 (P:=900000) (by omega) (fun u hu q hq => zkQ hns hD hR (a4 u hu) (by omega)) (z1:=0) (z2:=0) (z3:=[]) (cf D c).length 0 (by omega) [] p' (fun b hb => by cases hb) (by simp [zaE]) (by omega)
  exact this.le (by omega) (by omega)
 by_cases hz:0 < (zbj D t).length
 ·have hm0:(zbj D t)[0] ∈ zbj D t:=List.getElem_mem hz
  have b0:=(g2 _ hm0).2.1
  have l0:=(g2 _ hm0).2.2.1
  have hz':decide (((((zah (zbj D t)).length:Nat):Int)) > 0) = true:=decide_eq_true (by rw [zac]; omega)
  by_cases h1:1 < (zbj D t).length
  ·have hm1:(zbj D t)[1] ∈ zbj D t:=List.getElem_mem h1
   have b1:=(g2 _ hm1).2.1
   have l1:=(g2 _ hm1).2.2.1
   obtain ⟨x,hx,hpk⟩:=zbi hns (p:=p) (by omega) (m:=4) (by omega)
   by_cases hx0:x = 0
   ·subst hx0
    obtain ⟨o,n,l,p',e1,e2,e3,e4⟩:=hL _ hm1 (p + 1) (by omega)
    exact ⟨o,n,l,p',zbn (zaU hcons (zaf hz' (zbm (k:=0) hz (zaf (decide_eq_true (by rw [zac]; omega)) (zai hpk (zaf rfl (zbm (k:=1) h1 (zaU (zmD hdv _) (za6 (ziF _ t (by omega)) (zab b1 (zaU (zmD hdv _) e1))))))))))),by omega,e3,e4⟩
   ·obtain ⟨o,n,l,p',e1,e2,e3,e4⟩:=hL _ hm0 (p + 1) (by omega)
    exact ⟨o,n,l,p',zbn (zaU hcons (zaf hz' (zbm (k:=0) hz (zaf (decide_eq_true (by rw [zac]; omega)) (zai hpk (zab (by rw [beq_eq_false_iff_ne]; omega) (zaU (zmD hdv _) (za6 (ziF _ t (by omega)) (zab b0 (zaU (zmD hdv _) e1)))))))))),by omega,e3,e4⟩
  ·obtain ⟨o,n,l,p',e1,e2,e3,e4⟩:=hL _ hm0 p (by omega)
   exact ⟨o,n,l,p',zbn (zaU hcons (zaf hz' (zbm (k:=0) hz (zab (decide_eq_false (by rw [zac]; omega)) (zaU (zmD hdv _) (za6 (ziF _ t (by omega)) (zab b0 (zaU (zmD hdv _) e1)))))))),by omega,e3,e4⟩
 ·have hnil:zbj D t = []:=List.eq_nil_of_length_eq_zero (by omega)
  obtain ⟨fs,h1,h2,h3⟩:=zi4 (zeq hD) hR t
  by_cases hf:0 < fs.length
  ·obtain ⟨x,hx,hpk⟩:=zbi hns (p:=p) (by omega) (m:=fs.length) hf
   obtain ⟨k,hk,hfk,hps,harr⟩:=h3 fs[x] (List.getElem_mem hx)
   have hsm:=zsZ D hD _ (hR.at hk) t hm harr
   have hl3:=(hR.small hk).1
   have hklt:=hR.len
   have:=zqz hns hD hR (C:=4) (by omega) (c:=(k:Int)) (by omega) hl3 (P:=900000) (by omega) (fun u hu q hq => zkQ hns hD hR (hsm u hu) (by omega)) (z1:=0) (z2:=0) (z3:=[]) (gP R k).ps.length 0 (by omega) [] (p + 1) (fun b hb => by cases hb) (by simp [zaE]) (by omega)
   obtain ⟨o,n,l,p',e1,e2,e3,e4⟩:=this
   rw [hnil] at hcons
   refine ⟨o,n,l,p',zbn (zaU hcons (zab rfl (zaU h1 (zaf (decide_eq_true (by omega)) (zaf (decide_eq_true (by rw [zac]; omega)) ?_))))),by omega,e3,e4⟩
   rw [zac]
   refine zai hpk (zbm hx ?_)
   rw [hfk]
   exact zaZ rfl hk e1
  ·exact (zkL hns hD hR (.inr ⟨fs,h1,List.eq_nil_of_length_eq_zero (by omega)⟩) hnil (by omega)).le (by omega) (by omega)
theorem zmQ {t:Int} (ht:0 ≤ t ∧ t ≤ 4) {p:Nat} (hp:p + 20 ≤ 900000):EG ns p 14 4 (za3 (Qr ns p) [pgC D R,.cell (.int t)]):=by
 rcases (by omega:t = 0 ∨ t = 1 ∨ t = 3 ∨ (t = 2 ∨ t = 4)) with rfl | rfl | rfl | h
 ·exact (zpF hns hD hR (by omega)).le (by omega) (by omega)
 ·exact (zj0 hns hD hR (.inl rfl) (by omega)).le (by omega) (by omega)
 ·exact (zj0 hns hD hR (.inr rfl) (by omega)).le (by omega) (by omega)
 ·exact ztR hns hD hR h hp
theorem zi3 {V:List Int} (hV:V.length ≤ 1048576) {t:Int} (ht:0 ≤ t ∧ t ≤ 4) {p:Nat} (hp:p + 30 ≤ 900000):EG ns p 16 4 (zch (Qr ns p) [pgC D R,.cell (.sl 1 (zah V)),.cell (.int t)]):=by
 obtain ⟨fs,h1,h2,h3⟩:=zom hV t
 have hvar:∀ (x:Nat) (hx:x < fs.length),Fit .expr [.int 12,.int fs[x],.sl 3 []]:=fun x hx => by
  have:=h3 fs[x] (List.getElem_mem hx)
  exact zaj (by omega) (by omega) (by simp) (fun b hb => by cases hb)
 by_cases hf:0 < fs.length
 ·have hf':decide (((((zah fs).length:Nat):Int)) > 0) = true:=decide_eq_true (by rw [zac]; omega)
  obtain ⟨x,hx,hp1⟩:=zbi hns (p:=p) (by omega) (m:=6) (by omega)
  by_cases hx0:0 < x
  ·obtain ⟨y,hy,hp2⟩:=zbi hns (p:=p + 1) (by omega) (m:=fs.length) hf
   refine ⟨12,fs[y],[],p + 1 + 1,zfM (zaU h1 (zaf hf' (zai hp1 (zaf (decide_eq_true (by omega)) ?_)))),by omega,hvar y hy,by simp [zaE]⟩
   rw [zac]
   exact zai hp2 (zbm hy (zaa (zaD _) rfl))
  ·obtain ⟨b,hb⟩:=ziE (zeq hD) hR (V:=[]) (by simp) t
   cases b with
   | false =>
    obtain ⟨y,hy,hp2⟩:=zbi hns (p:=p + 1) (by omega) (m:=fs.length) hf
    refine ⟨12,fs[y],[],p + 1 + 1,zfM (zaU h1 (zaf hf' (zai hp1 (zab (decide_eq_false (by omega)) (za6 hb (zaf rfl ?_)))))),by omega,hvar y hy,by simp [zaE]⟩
    rw [zac]
    exact zai hp2 (zbm hy (zaa (zaD _) rfl))
   | true =>
    obtain ⟨o,n,l,p',e1,e2,e3,e4⟩:=zmQ hns hD hR ht (p:=p + 1) (by omega)
    exact ⟨o,n,l,p',zfM (zaU h1 (zaf hf' (zai hp1 (zab (decide_eq_false (by omega)) (za6 hb (zab rfl (zax e1 rfl))))))),by omega,e3,e4⟩
 ·obtain ⟨o,n,l,p',e1,e2,e3,e4⟩:=zmQ hns hD hR ht (p:=p) (by omega)
  exact ⟨o,n,l,p',zfM (zaU h1 (zab (decide_eq_false (by rw [zac]; omega)) (zax e1 rfl))),by omega,e3,e4⟩
end
end Go.Proofs.Ytcpcagdialnbeaa
