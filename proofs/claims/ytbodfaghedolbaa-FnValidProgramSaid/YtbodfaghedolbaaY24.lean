/- Generic texts and models for the proofs of this seat: part 24. -/
import Derived.Test.YtbodfaghedolbaaY23
set_option linter.unusedVariables false
set_option linter.unusedSimpArgs false
namespace Go.Proofs.Ytbodfaghedolbaa
open Go
theorem znd {a b:Int} (h:a = b):rI a = rI b:=by rw [h]
theorem zee (o n:Int) (kids:List (List AC)):cS [.int o,.int n,.sl 3 kids] = kids.length + rsS kids:=by
 rw [zv1,zv1,zz0,zy6]
 omega
theorem zrX {o n:Int} {kids:List (List AC)} (h:Fit .expr [.int o,.int n,.sl 3 kids]):inI o ∧ inI n ∧ kids.length ≤ za8 ∧ ∀ b ∈ kids,Fit .expr b:=by
 generalize ht:Ty.expr = t at h
 generalize hx:[AC.int o,AC.int n,AC.sl 3 kids] = x at h
 cases h with
 | expr o' n' kids' ho hn hl h =>
  simp only [List.cons.injEq,AC.int.injEq,AC.sl.injEq,true_and,and_true] at hx
  obtain ⟨rfl,rfl,rfl⟩:=hx
  exact ⟨ho,hn,hl,h⟩
 | _ => cases ht
theorem ztn {x:List AC} (h:Fit .expr x):∃ o n kids,x = [.int o,.int n,.sl 3 kids]:=by
 generalize ht:Ty.expr = t at h
 cases h with
 | expr o n kids _ _ _ _ => exact ⟨o,n,kids,rfl⟩
 | _ => cases ht
theorem znb {kids:List (List AC)} (h:∀ b ∈ kids,Fit .expr b) {k:Nat} (hk:k < kids.length):∃ o n ks,kids.getD k [] = [.int o,.int n,.sl 3 ks] ∧ Fit .expr [.int o,.int n,.sl 3 ks]:=by
 have h1:=h _ (zef hk [])
 obtain ⟨o,n,ks,e⟩:=ztn h1
 exact ⟨o,n,ks,e,e ▸ h1⟩
theorem zrU {kids:List (List AC)} {k:Nat} (hk:k < kids.length) {o n:Int}:cS (kids.getD k []) < cS [.int o,.int n,.sl 3 kids]:=by
 rw [zee]
 have:=zm6 (zef hk [])
 omega
def znJ (kids:List (List AC)) (k:Nat):Nat:=(kids.length - k) + rsS (kids.drop k)
theorem zo9 {kids:List (List AC)} {k:Nat} (hk:k < kids.length):znJ kids k = 1 + cS (kids.getD k []) + znJ kids (k + 1):=by
 unfold znJ
 rw [zul hk]
 omega
theorem zqF (kids:List (List AC)):znJ kids kids.length = 0:=by
 unfold znJ
 rw [List.drop_eq_nil_of_le (Nat.le_refl _),zaO]
 omega
theorem zo3 (o n:Int) (kids:List (List AC)):znJ kids 0 = cS [.int o,.int n,.sl 3 kids]:=by
 rw [zee]
 unfold znJ
 simp
def znH (a b:Nat):Nat:=if a ≤ b then a else b
theorem zzb:∀ (s:Nat) (o n:Int) (kids:List (List AC)),cS [.int o,.int n,.sl 3 kids] < s → Fit .expr [.int o,.int n,.sl 3 kids] → ∀ L:Nat,L ≤ 30 →
  zeU [.agg [.int o,.int n,.sl 3 kids],.cell (.int (L:Int))] = rI ((znH (1 + cS [.int o,.int n,.sl 3 kids]) (L + 1):Nat):Int):=by
 intro s
 induction s with
 | zero => intro o n kids h; omega
 | succ s ihs =>
  intro o n kids hs hf L hL
  obtain ⟨_,_,hl,hk⟩:=zrX hf
  have key:∀ m k:Nat,k + m = kids.length → ∀ c:Nat,1 ≤ c → c ≤ L + 1 → zdw (L:Int) (c:Int) kids ((kids.length:Nat):Int) (k:Int) = rI ((znH (c + znJ kids k) (L + 1):Nat):Int):=by
   intro m
   induction m with
   | zero =>
    intro k hk c h1 h2
    obtain rfl:k = kids.length:=by omega
    refine zfA (zab (decide_eq_false (by omega)) ?_)
    rw [zqF]
    unfold znH
    rw [if_pos (by omega)]
    rfl
   | succ m ih =>
    intro k hkm c h1 h2
    have hlt:k < kids.length:=by omega
    obtain ⟨o',n',ks,e,hf'⟩:=znb hk hlt
    have hr:=zo9 hlt
    have hlt':=zrU hlt (o:=o) (n:=n)
    rw [e] at hr hlt'
    refine zfA (zad (decide_eq_true (by omega)) (zdm hlt e ?_))
    by_cases hc:c = L + 1
    ·refine zad (decide_eq_true (by omega)) ?_
     unfold znH
     split
     ·have:c + znJ kids k = c:=by omega
      rw [this]
     ·rw [hc]
    refine zab (decide_eq_false (by omega)) ?_
    have w1:zai ((L:Int) - (c:Int)) = ((L - c:Nat):Int):=by rw [wr (by omega) (by omega)]; omega
    rw [w1]
    refine zaC (ihs o' n' ks (by omega) hf' (L - c) (by omega)) ?_
    generalize cS [.int o',.int n',.sl 3 ks] = z at hr
    have hm:znH (1 + z) (L - c + 1) ≤ L - c + 1 ∧ 1 ≤ znH (1 + z) (L - c + 1):=by unfold znH; split <;> omega
    have w2:zai ((c:Int) + ((znH (1 + z) (L - c + 1):Nat):Int)) = ((c + znH (1 + z) (L - c + 1):Nat):Int):=by rw [wr (by omega) (by omega)]; omega
    rw [w2,wrk (by omega)]
    rw [ih (k + 1) (by omega) _ (by omega) (by omega),hr]
    refine znd ?_
    unfold znH
    split <;> split <;> split <;> omega
  have:=key kids.length 0 (by omega) 1 (by omega) (by omega)
  rw [zo3 o n] at this
  exact zkW this
def zqZ (x:List AC):Int:=if cS x ≤ 29 then ((1 + cS x:Nat):Int) else -1
theorem zte {o n:Int} {kids:List (List AC)} (hf:Fit .expr [.int o,.int n,.sl 3 kids]):zis [.agg [.int o,.int n,.sl 3 kids]] = rI (zqZ [.int o,.int n,.sl 3 kids]):=by
 refine zmM (zaC (zzb _ o n kids (Nat.lt_succ_self _) hf 30 (by omega)) ?_)
 unfold zqZ znH
 generalize cS [.int o,.int n,.sl 3 kids] = z
 by_cases h:z ≤ 29
 ·rw [if_pos (show 1 + z ≤ 30 + 1 by omega),if_pos h]
  exact zab (decide_eq_false (by omega)) rfl
 ·rw [if_neg h]
  refine zad (decide_eq_true ?_) rfl
  split <;> omega
theorem zyY:∀ (s:Nat) (o n:Int) (kids:List (List AC)),cS [.int o,.int n,.sl 3 kids] < s → Fit .expr [.int o,.int n,.sl 3 kids] → ∀ L:Nat,L ≤ 30 →
  zeV [.agg [.int o,.int n,.sl 3 kids],.cell (.int (L:Int))] = rI (if 1 + cS [.int o,.int n,.sl 3 kids] ≤ L then ((L - (1 + cS [.int o,.int n,.sl 3 kids]):Nat):Int) else -1):=by
 intro s
 induction s with
 | zero => intro o n kids h; omega
 | succ s ihs =>
  intro o n kids hs hf L hL
  obtain ⟨_,_,hl,hk⟩:=zrX hf
  have key:∀ m k:Nat,k + m = kids.length → ∀ c:Nat,c ≤ 30 → zdu (c:Int) o n kids (k:Int) = rI (if znJ kids k ≤ c then ((c - znJ kids k:Nat):Int) else -1):=by
   intro m
   induction m with
   | zero =>
    intro k hk c h2
    obtain rfl:k = kids.length:=by omega
    refine zfH (zab (decide_eq_false (by omega)) ?_)
    rw [zqF,if_pos (by omega)]
    rfl
   | succ m ih =>
    intro k hkm c h2
    have hlt:k < kids.length:=by omega
    obtain ⟨o',n',ks,e,hf'⟩:=znb hk hlt
    have hr:=zo9 hlt
    have hlt':=zrU hlt (o:=o) (n:=n)
    rw [e] at hr hlt'
    refine zfH (zad (decide_eq_true (by omega)) (zdm hlt e (zaC (ihs o' n' ks (by omega) hf' c h2) ?_)))
    generalize cS [.int o',.int n',.sl 3 ks] = z at hr
    by_cases hc:1 + z ≤ c
    ·rw [if_pos hc]
     refine zab (decide_eq_false (by omega)) ?_
     rw [wrk (by omega),ih (k + 1) (by omega) _ (by omega)]
     refine znd ?_
     split <;> split <;> omega
    ·rw [if_neg hc,if_neg (by omega)]
     exact zad rfl rfl
  refine zk6 ?_
  by_cases h1:L = 0
  ·rw [if_neg (by omega)]
   exact zad (decide_eq_true (by omega)) rfl
  refine zab (decide_eq_false (by omega)) ?_
  have w1:zai ((L:Int) - 1) = ((L - 1:Nat):Int):=by rw [wr (by omega) (by omega)]; omega
  have:=key kids.length 0 (by omega) (L - 1) (by omega)
  rw [zo3 o n] at this
  rw [w1,show ((0:Nat):Int) = 0 from rfl] at *
  refine Eq.trans this ?_
  refine znd ?_
  split <;> split <;> omega
theorem zlC {o n:Int} {kids:List (List AC)} (hf:Fit .expr [.int o,.int n,.sl 3 kids]):ze6 [.agg [.int o,.int n,.sl 3 kids]] = rI (zqZ [.int o,.int n,.sl 3 kids]):=by
 refine zmP (zaC (zyY _ o n kids (Nat.lt_succ_self _) hf 30 (by omega)) ?_)
 unfold zqZ
 generalize cS [.int o,.int n,.sl 3 kids] = z
 by_cases h:z ≤ 29
 ·rw [if_pos (by omega),if_pos h]
  refine zab (decide_eq_false (by omega)) ?_
  rw [wr (by omega) (by omega)]
  refine znd ?_
  omega
 ·rw [if_neg (by omega),if_neg h]
  exact zad rfl rfl
end Go.Proofs.Ytbodfaghedolbaa
namespace Go.Proofs.Ytbodfaghedolbaa
open Go
def Qr (ns:List Nat) (p:Nat):List AC:=[.sl 1 (ns.map fun (u:Nat) => [.bool true,.int (u:Int)]),.int (p:Int)]
section
variable {ρ:Type} {r:ρ}
theorem zam {x:Option (AV × List AC)} {n:Int} {q:List AC} (h:x = some (.v (.cell (.int n)),q)) {K:List AC → Fn (Option ρ) (zbt [(false,[.int 0])])} (h2:(K q:Int → Option ρ) n = some r):zaf x false [(false,[.int 0])] K = some r:=by rw [h]; exact h2
theorem zaF {x:Option (AV × List AC)} {o n:Int} {l:List (List AC)} {q:List AC} (h:x = some (.v (.agg [.int o,.int n,.sl 3 l]),q)) {K:List AC → Fn (Option ρ) (zbt [(true,[.int 0,.int 0,.sl 3 []])])} (h2:(K q:Int → Int → List (List AC) → Option ρ) o n l = some r):zaf x false [(true,[.int 0,.int 0,.sl 3 []])] K = some r:=by rw [h]; exact h2
theorem zhH {x:Option (AV × List AC)} {k:Nat} {l:List (List AC)} {q:List AC} (h:x = some (.v (.cell (.sl k l)),q)) {K:List AC → Fn (Option ρ) (zbt [(false,[.sl k []])])} (h2:(K q:List (List AC) → Option ρ) l = some r):zaf x false [(false,[.sl k []])] K = some r:=by
 rw [h]
 exact zaP rfl h2
theorem zod {a b:Int} {n:Nat} (ha:0 ≤ a) (hb:0 < b) (hle:a ≤ 9223372036854775807) (h:a / b = (n:Int)) {K:Int → Option ρ} (h2:K (n:Int) = some r):zot a b K = some r:=by
 unfold zot
 rw [show (b == 0) = false by rw [beq_eq_false_iff_ne]; omega,Int.tdiv_eq_ediv_of_nonneg ha,h]
 have:a / b ≤ a:=Int.ediv_le_self _ ha
 rw [wr (by omega) (by omega)]
 exact h2
end
theorem zbs {ns:List Nat} (hns:ns.length ≤ 2000) {p:Nat} (hp:p ≤ 1000000) {m:Nat} (hm:1 ≤ m):∃ x:Nat,x < m ∧ zah (Qr ns p) [.cell (.int (m:Int))] = some (.v (.cell (.int (x:Int))),Qr ns (p + 1)):=by
 have hrun:zkI (Qr ns p) [.cell (.int (m:Int))] = some (.v (.cell (.int (zhu ns p m))),Qr ns (p + 1)):=by
  unfold Qr zkI
  simp only [zjs,Option.bind_some]
  rw [if_pos ⟨by omega,by omega,hns⟩]
  simp
 have hrange:∃ x:Nat,x < m ∧ zhu ns p m = (x:Int):=by
  unfold zhu
  split
  ·exact ⟨0,by omega,rfl⟩
  ·split
   ·have h1:=Int.emod_nonneg ((ns.getD p 0:Nat):Int) (show (m:Int) ≠ 0 by omega)
    have h2:=Int.emod_lt_of_pos ((ns.getD p 0:Nat):Int) (show (0:Int) < m by omega)
    exact ⟨(((ns.getD p 0:Nat):Int) % m).toNat,by omega,by omega⟩
   ·generalize bits .xor .i64 _ _ = z
    have h1:=Int.emod_nonneg z (show (m:Int) ≠ 0 by omega)
    have h2:=Int.emod_lt_of_pos z (show (0:Int) < m by omega)
    exact ⟨(z % m).toNat,by omega,by omega⟩
 obtain ⟨x,hx,e⟩:=hrange
 rw [e] at hrun
 exact ⟨x,hx,zyQ (by kernel_rfl) (by kernel_rfl:zbw 55 = some zsX) hrun⟩
theorem ziV {ns:List Nat} (hns:ns.length ≤ 2000) {p:Nat} (hp:p ≤ 1000000) {xs:List Int} (hx:xs ≠ []) (hl:xs.length ≤ 1000000):∃ x ∈ xs,zaV (Qr ns p) [.cell (.sl 1 (zae xs))] = some (.v (.cell (.int x)),Qr ns (p + 1)):=by
 have hpos:=List.length_pos_iff.2 hx
 obtain ⟨k,hk,h⟩:=zbs hns hp (m:=xs.length) hpos
 refine ⟨xs[k],List.getElem_mem hk,zkq ?_⟩
 rw [zac]
 exact zam h (zbi hk rfl)
theorem zax (o n:Int) (l:List (List AC)):zaj [.cell (.int o),.cell (.int n),.cell (.sl 3 l)] = some (.v (.agg [.int o,.int n,.sl 3 l])):=zp0 rfl
theorem zck (n:Int):zbo [.cell (.int n)] = some (.v (.agg [.int 0,.int n,.sl 3 []])):=zmU rfl
theorem zaN (n:Int):zap [.cell (.int n)] = some (.v (.agg [.int 12,.int n,.sl 3 []])):=zlF rfl
theorem zbH (l:List (List AC)):zei [.cell (.sl 1 l)] = some (.v (.agg [.sl 1 l])):=zqO rfl
theorem zpc {ns:List Nat} (hns:ns.length ≤ 2000) {p:Nat} (hp:p + 4 ≤ 1000000):∃ x:Int,(-1000 ≤ x ∧ x ≤ 1000) ∧ ze1 (Qr ns p) [] = some (.v (.cell (.int x)),Qr ns (p + 4)):=by
 obtain ⟨a,ha,h1⟩:=zbs hns (p:=p) (by omega) (m:=6) (by omega)
 obtain ⟨b,hb,h2⟩:=zbs hns (p:=p + 1) (by omega) (m:=6) (by omega)
 obtain ⟨c,hc,h3⟩:=zbs hns (p:=p + 1 + 1) (by omega) (m:=40) (by omega)
 obtain ⟨x,hx,h4⟩:=ziV hns (p:=p + 1 + 1 + 1) (by omega) (xs:=[(a:Int),(b:Int),0,1,2,-1,3,(c:Int),999,-998]) (by simp) (by simp)
 refine ⟨x,?_,zmL (zam h1 (zam h2 (zam h3 (zam h4 rfl))))⟩
 simp only [List.mem_cons,List.not_mem_nil,or_false] at hx
 omega
theorem zjC (xs:List Int) (n:Int) (hx:xs.length ≤ 1048576):zgB [.cell (.sl 1 (zae xs)),.cell (.int n)] = rB (xs.contains n):=by
 have key:∀ m k:Nat,k + m = xs.length → zgr (zae xs) n (k:Int) = some (.v (.cell (.bool ((xs.drop k).contains n)))):=by
  intro m
  induction m with
  | zero =>
   intro k hk
   rw [List.drop_eq_nil_of_le (by omega)]
   exact ziP (zab (decide_eq_false (by rw [zac]; omega)) rfl)
  | succ m ih =>
   intro k hk
   have hlt:k < xs.length:=by omega
   have hnext:=ih (k + 1) (by omega)
   rw [← wrk (by unfold za8; omega)] at hnext
   rw [List.drop_eq_getElem_cons hlt,List.contains_cons]
   refine ziP (zad (decide_eq_true (by rw [zac]; omega)) (zbi hlt ?_))
   rcases e:(xs[k] == n) with _ | _
   ·rw [show (n == xs[k]) = false by rw [beq_eq_false_iff_ne] at e ⊢; exact fun h => e h.symm,Bool.false_or]
    exact zab rfl hnext
   ·rw [show (n == xs[k]) = true by rw [beq_iff_eq] at e ⊢; exact e.symm,Bool.true_or]
    exact zad rfl rfl
 exact zpI (key xs.length 0 (by omega))
def zbv (D:List DM) (t:Int):List Int:=if 1 ≤ t ∧ t ≤ D.length then (List.range (gD D (t.toNat - 1)).cs.length).map fun i => (((zbr (D.take (t.toNat - 1)) + i:Nat)):Int) else []
theorem zdC {D:List DM} (hv:DV D) (t:Int):zce [.cell (.sl 3 (zak D)),.cell (.int t)] = rL (zbv D t):=by
 have h4:=hv.len
 refine zje (zaH (zdO _ _ _) ?_)
 rw [za4]
 unfold zbv
 by_cases h:1 ≤ t ∧ t ≤ (D.length:Int)
 rotate_left
 ·rw [if_neg h,show (decide (1 ≤ t) && decide (t ≤ (D.length:Int))) = false by rw [← Bool.decide_and]; exact decide_eq_false h]
  exact zad rfl rfl
 rw [if_pos h,show (decide (1 ≤ t) && decide (t ≤ (D.length:Int))) = true by rw [← Bool.decide_and]; exact decide_eq_true h]
 refine zab rfl ?_
 have hk:t.toNat - 1 < D.length:=by omega
 have h3:=hv.cs _ hk
 have hsum:=zgq hv.cs (t.toNat - 1) (by omega)
 have key:∀ m i:Nat,i + m = (gD D (t.toNat - 1)).cs.length → zdG (zak D) t (zae ((List.range i).map fun i => (((zbr (D.take (t.toNat - 1)) + i:Nat)):Int))) (i:Int) = rL ((List.range (gD D (t.toNat - 1)).cs.length).map fun i => (((zbr (D.take (t.toNat - 1)) + i:Nat)):Int)):=by
  intro m
  induction m with
  | zero =>
   intro i hi
   refine zds (zbE (k:=t.toNat - 1) (by rw [wr (by omega) (by omega)]; omega) hk ?_)
   rw [zaW]
   exact zab (decide_eq_false (by omega)) (by rw [show i = (gD D (t.toNat - 1)).cs.length by omega])
  | succ m ih =>
   intro i hi
   refine zds (zbE (k:=t.toNat - 1) (by rw [wr (by omega) (by omega)]; omega) hk ?_)
   rw [zaW]
   refine zad (decide_eq_true (by omega)) ?_
   rw [show zai (t - 1) = ((t.toNat - 1:Nat):Int) by rw [wr (by omega) (by omega)]; omega]
   refine zaC (ziE hv (by omega)) (zcT (by rw [zac]; simp; omega) ?_)
   have hn:=ih (i + 1) (by omega)
   rw [List.range_succ,List.map_append] at hn
   rw [wrk (by unfold za8; omega)]
   rw [show zae ((List.range i).map fun i => (((zbr (D.take (t.toNat - 1)) + i:Nat)):Int)) ++ [[AC.int (zai (((zbr (D.take (t.toNat - 1)):Nat):Int) + (i:Int)))]] = zae ((List.range i).map (fun i => (((zbr (D.take (t.toNat - 1)) + i:Nat)):Int)) ++ [i].map (fun i => (((zbr (D.take (t.toNat - 1)) + i:Nat)):Int))) by
    rw [wr (by omega) (by omega)]
    simp [zae]]
   exact hn
 exact key (gD D (t.toNat - 1)).cs.length 0 (by omega)
end Go.Proofs.Ytbodfaghedolbaa
namespace Go.Proofs.Ytbodfaghedolbaa
open Go
def zhS:List DM:=[⟨0,0,[[],[0,1]]⟩,⟨0,0,[]⟩,⟨0,0,[[],[3,0,3]]⟩]
def zc8:List (List DM):=[zhS ++ [⟨0,0,[[1,3]]⟩],zhS ++ [⟨1,0,[]⟩],zhS ++ [⟨0,0,[[1,1,0],[0],[3]]⟩],zhS ++ [⟨0,1,[]⟩],zhS]
theorem zsG:∀ D ∈ zc8,zej D = true:=by decide
theorem zhx {D:List DM} (h:D ∈ zc8):DV D:=zyI (zsG D h)
theorem zeT {D:List DM} (h:D ∈ zc8):D.length ≤ 4:=(zhx h).len
theorem zmj {ns:List Nat} (hns:ns.length ≤ 2000) {p:Nat} (hp:p ≤ 1000000):∃ D ∈ zc8,zg5 (Qr ns p) [] = some (.v (.cell (.sl 3 (zak D))),Qr ns (p + 1)):=by
 obtain ⟨x,hx,h1⟩:=zbs hns hp (m:=5) (by omega)
 rcases (by omega:x = 0 ∨ x = 1 ∨ x = 2 ∨ x = 3 ∨ x = 4) with rfl | rfl | rfl | rfl | rfl
 ·exact ⟨zhS ++ [⟨0,0,[[1,3]]⟩],by simp [zc8],zcI (zaR (zbH _) (zaR (zbH _) (zaR (zbH _) (zaR (zbH _) (zaR (zbH _) (zaR (zbH _) (zaR (zbH _) (zaR (zbH _) (zam h1 (zad rfl (zoo (k:=0) (by decide) rfl (zcT (by decide) rfl))))))))))))⟩
 ·exact ⟨zhS ++ [⟨1,0,[]⟩],by simp [zc8],zcI (zaR (zbH _) (zaR (zbH _) (zaR (zbH _) (zaR (zbH _) (zaR (zbH _) (zaR (zbH _) (zaR (zbH _) (zaR (zbH _) (zam h1 (zad rfl (zoo (k:=1) (by decide) rfl (zcT (by decide) rfl))))))))))))⟩
 ·exact ⟨zhS ++ [⟨0,0,[[1,1,0],[0],[3]]⟩],by simp [zc8],zcI (zaR (zbH _) (zaR (zbH _) (zaR (zbH _) (zaR (zbH _) (zaR (zbH _) (zaR (zbH _) (zaR (zbH _) (zaR (zbH _) (zam h1 (zad rfl (zoo (k:=2) (by decide) rfl (zcT (by decide) rfl))))))))))))⟩
 ·exact ⟨zhS ++ [⟨0,1,[]⟩],by simp [zc8],zcI (zaR (zbH _) (zaR (zbH _) (zaR (zbH _) (zaR (zbH _) (zaR (zbH _) (zaR (zbH _) (zaR (zbH _) (zaR (zbH _) (zam h1 (zad rfl (zoo (k:=3) (by decide) rfl (zcT (by decide) rfl))))))))))))⟩
 ·exact ⟨zhS,by simp [zc8],zcI (zaR (zbH _) (zaR (zbH _) (zaR (zbH _) (zaR (zbH _) (zaR (zbH _) (zaR (zbH _) (zaR (zbH _) (zaR (zbH _) (zam h1 (zab rfl rfl))))))))))⟩
def sigL:List (List Int × Int):=[([],0),([1],0),([1,1],1),([1],1),([1,0],1),([2,1],1),([1,1],0),([3],0),([0],1),([0,1],1),([3,0],3),([3],1),([1,3,0],0),([0],0),([0,0],0),([1,0],0)]
structure GR (R:List PM):Prop where
 len:R.length ≤ 4
 sg:∀ x ∈ R,(x.ps,x.r) ∈ sigL
theorem zpo:∀ s ∈ sigL,s.1.length ≤ 3 ∧ (0 ≤ s.2 ∧ s.2 ≤ 3) ∧ ∀ t ∈ s.1,0 ≤ t ∧ t ≤ 3:=by decide
theorem GR.at {R:List PM} (h:GR R) {k:Nat} (hk:k < R.length):((gP R k).ps,(gP R k).r) ∈ sigL:=h.sg _ (zjv hk)
theorem GR.small {R:List PM} (h:GR R) {k:Nat} (hk:k < R.length):(gP R k).ps.length ≤ 3 ∧ (0 ≤ (gP R k).r ∧ (gP R k).r ≤ 3) ∧ ∀ t ∈ (gP R k).ps,0 ≤ t ∧ t ≤ 3:=zpo _ (h.at hk)
abbrev pgC (D:List DM) (R:List PM):SV:=.agg [.sl 3 (zak D),.sl 5 (zaD R)]
def zy3 (D:List DM) (R:List PM) (t:Int) (fs:List Int):Prop:=∀ f ∈ fs,∃ k,k < R.length ∧ f = (k:Int) ∧ 0 < (gP R k).ps.length ∧ zfL ((gP R k).ps.getD ((gP R k).ps.length - 1) 0) (gP R k).r D 0 = t
theorem zof (xs:List Int) (x:Int):zae xs ++ [[AC.int x]] = zae (xs ++ [x]):=by simp [zae]
theorem zkp {D:List DM} (hD:D.length ≤ 4) {R:List PM} (hR:GR R) (t:Int):∃ fs,zed [pgC D R,.cell (.int t)] = rL fs ∧ fs.length ≤ 4 ∧ zy3 D R t fs:=by
 have h4:=hR.len
 have key:∀ m k:Nat,k + m = R.length → ∀ acc:List Int,acc.length ≤ k → zy3 D R t acc → ∃ fs,zcj t (zak D) (zaD R) (zae acc) (k:Int) = rL fs ∧ fs.length ≤ 4 ∧ zy3 D R t fs:=by
  intro m
  induction m with
  | zero =>
   intro k hk acc hl ha
   exact ⟨acc,zcS (zab (decide_eq_false (by rw [zbu]; omega)) rfl),by omega,ha⟩
  | succ m ih =>
   intro k hk acc hl ha
   have hlt:k < R.length:=by omega
   have h3:=(hR.small hlt).1
   have hw:zai ((k:Int) + 1) = ((k + 1:Nat):Int):=wrk (by unfold za8; omega)
   by_cases hz:0 < (gP R k).ps.length
   ·by_cases he:zfL ((gP R k).ps.getD ((gP R k).ps.length - 1) 0) (gP R k).r D 0 = t
    ·obtain ⟨fs,h1,h2,h5⟩:=ih (k + 1) (by omega) (acc ++ [(k:Int)]) (by simp; omega) (fun f hf => by
      rcases List.mem_append.1 hf with hf | hf
      ·exact ha f hf
      ·simp only [List.mem_singleton] at hf
       exact ⟨k,hlt,hf,hz,he⟩)
     refine ⟨fs,zcS (zad (decide_eq_true (by rw [zbu]; omega)) (zaT rfl hlt (zad (decide_eq_true (by rw [zac]; omega)) (zaT rfl hlt ?_)))),h2,h5⟩
     rw [zac,show zai ((((gP R k).ps.length:Nat):Int) - 1) = (((gP R k).ps.length - 1:Nat):Int) by rw [wr (by omega) (by omega)]; omega]
     refine zbi (by omega) (zaT rfl hlt (zaC (zqa D (by omega) _ _) ?_))
     rw [List.getD,List.getElem?_eq_getElem (by omega),Option.getD_some] at he
     refine zad (by rw [he]; simp) (zcT (by rw [zac]; simp; omega) ?_)
     rw [zof,hw]
     exact h1
    ·obtain ⟨fs,h1,h2,h5⟩:=ih (k + 1) (by omega) acc (by omega) ha
     refine ⟨fs,zcS (zad (decide_eq_true (by rw [zbu]; omega)) (zaT rfl hlt (zad (decide_eq_true (by rw [zac]; omega)) (zaT rfl hlt ?_)))),h2,h5⟩
     rw [zac,show zai ((((gP R k).ps.length:Nat):Int) - 1) = (((gP R k).ps.length - 1:Nat):Int) by rw [wr (by omega) (by omega)]; omega]
     refine zbi (by omega) (zaT rfl hlt (zaC (zqa D (by omega) _ _) ?_))
     rw [List.getD,List.getElem?_eq_getElem (by omega),Option.getD_some] at he
     refine zab (by rw [beq_eq_false_iff_ne]; exact he) ?_
     rw [hw]
     exact h1
   ·obtain ⟨fs,h1,h2,h5⟩:=ih (k + 1) (by omega) acc (by omega) ha
    refine ⟨fs,zcS (zad (decide_eq_true (by rw [zbu]; omega)) (zaT rfl hlt (zab (decide_eq_false (by rw [zac]; omega)) ?_))),h2,h5⟩
    rw [hw]
    exact h1
 obtain ⟨fs,h1,h2,h3⟩:=key R.length 0 (by omega) [] (by simp) (fun f hf => by cases hf)
 exact ⟨fs,zlm h1,h2,h3⟩
theorem zjE {D:List DM} (hD:D.length ≤ 4) {R:List PM} (hR:GR R) {V:List Int} (hV:V.length ≤ 1048576) (t:Int):∃ b,zdN [pgC D R,.cell (.sl 1 (zae V)),.cell (.int t)] = rB b:=by
 rcases ha:zkb D t with _ | _
 ·exact ⟨true,zf0 (zaH (zdj (by omega) t) (zad (by rw [ha]; rfl) rfl))⟩
 ·obtain ⟨fs,h1,h2,h3⟩:=zkp hD hR t
  by_cases hz:0 < fs.length
  ·exact ⟨true,zf0 (zaH (zdj (by omega) t) (zab (by rw [ha]; rfl) (zaP h1 (zad (decide_eq_true (by rw [zac]; omega)) rfl))))⟩
  ·exact ⟨V.contains t,zf0 (zaH (zdj (by omega) t) (zab (by rw [ha]; rfl) (zaP h1 (zab (decide_eq_false (by rw [zac]; omega)) (zaH (zjC V t hV) rfl)))))⟩
theorem zqg {V:List Int} (hV:V.length ≤ 1048576) (t:Int):∃ fs,zf4 [.cell (.sl 1 (zae V)),.cell (.int t)] = rL fs ∧ fs.length ≤ V.length ∧ ∀ f ∈ fs,0 ≤ f ∧ f ≤ 1048576:=by
 have key:∀ m k:Nat,k + m = V.length → ∀ acc:List Int,acc.length ≤ k → (∀ f ∈ acc,0 ≤ f ∧ f ≤ 1048576) → ∃ fs,zcp (zae V) t (zae acc) (k:Int) = rL fs ∧ fs.length ≤ V.length ∧ ∀ f ∈ fs,0 ≤ f ∧ f ≤ 1048576:=by
  intro m
  induction m with
  | zero =>
   intro k hk acc hl ha
   exact ⟨acc,zdn (zab (decide_eq_false (by rw [zac]; omega)) rfl),by omega,ha⟩
  | succ m ih =>
   intro k hk acc hl ha
   have hlt:k < V.length:=by omega
   have hw:zai ((k:Int) + 1) = ((k + 1:Nat):Int):=wrk (by unfold za8; omega)
   rcases he:(V[k] == t) with _ | _
   ·obtain ⟨fs,h1,h2,h5⟩:=ih (k + 1) (by omega) acc (by omega) ha
    refine ⟨fs,zdn (zad (decide_eq_true (by rw [zac]; omega)) (zbi hlt (zab he ?_))),h2,h5⟩
    rw [hw]
    exact h1
   ·obtain ⟨fs,h1,h2,h5⟩:=ih (k + 1) (by omega) (acc ++ [(k:Int)]) (by simp; omega) (fun f hf => by
     rcases List.mem_append.1 hf with hf | hf
     ·exact ha f hf
     ·simp only [List.mem_singleton] at hf
      omega)
    refine ⟨fs,zdn (zad (decide_eq_true (by rw [zac]; omega)) (zbi hlt (zad he (zcT (by rw [zac]; simp; omega) ?_)))),h2,h5⟩
    rw [zof,hw]
    exact h1
 obtain ⟨fs,h1,h2,h3⟩:=key V.length 0 (by omega) [] (by simp) (fun f hf => by cases hf)
 exact ⟨fs,zkn h1,h2,h3⟩
theorem zpx {D:List DM} (hD:D.length ≤ 4) {R:List PM} (hR:GR R) {V:List Int} (hV:V.length ≤ 1048576) {ns:List Nat} (hns:ns.length ≤ 2000) {p:Nat} (hp:p ≤ 1000000) :
  ∃ t:Int,(0 ≤ t ∧ t ≤ 4) ∧ zgs (Qr ns p) [pgC D R,.cell (.sl 1 (zae V))] = some (.v (.cell (.int t)),Qr ns (p + 1)):=by
 obtain ⟨x,hx,h1⟩:=ziV hns hp (xs:=[1,1,3,0,2,4,3]) (by simp) (by simp)
 have hx4:0 ≤ x ∧ x ≤ 4:=by
  simp only [List.mem_cons,List.not_mem_nil,or_false] at hx
  omega
 by_cases hl:x > (((zak D).length:Nat):Int)
 ·exact ⟨1,by omega,zfU (zam h1 (zad (decide_eq_true hl) rfl))⟩
 ·obtain ⟨b,hb⟩:=zjE hD hR hV x
  rcases b with _ | _
  ·exact ⟨1,by omega,zfU (zam h1 (zab (decide_eq_false hl) (zaH hb (zad rfl rfl))))⟩
  ·exact ⟨x,hx4,zfU (zam h1 (zab (decide_eq_false hl) (zaH hb (zab rfl rfl))))⟩
def zwl (R:List PM) (fs:List Int):Prop:=∀ f ∈ fs,∃ k,k < R.length ∧ f = (k:Int)
theorem zox {D:List DM} (hD:D.length ≤ 4) {R:List PM} (hR:GR R) (t:Int):∃ fs,zba [pgC D R,.cell (.int t)] = rL fs ∧ fs.length ≤ 4 ∧ zwl R fs:=by
 have h4:=hR.len
 have key:∀ m k:Nat,k + m = R.length → ∀ acc:List Int,acc.length ≤ k → zwl R acc → ∃ fs,zcU t (zak D) (zaD R) (zae acc) (k:Int) = rL fs ∧ fs.length ≤ 4 ∧ zwl R fs:=by
  intro m
  induction m with
  | zero =>
   intro k hk acc hl ha
   exact ⟨acc,zd7 (zab (decide_eq_false (by rw [zbu]; omega)) rfl),by omega,ha⟩
  | succ m ih =>
   intro k hk acc hl ha
   have hlt:k < R.length:=by omega
   have h3:=(hR.small hlt).1
   have hw:zai ((k:Int) + 1) = ((k + 1:Nat):Int):=wrk (by unfold za8; omega)
   have inner:∀ n i:Nat,i + n = (gP R k).ps.length → ∀ b:Bool,∃ fs,zc4 t (zak D) (zaD R) (zae acc) (k:Int) b (i:Int) = rL fs ∧ fs.length ≤ 4 ∧ zwl R fs:=by
    intro n
    induction n with
    | zero =>
     intro i hi b
     cases b with
     | false =>
      obtain ⟨fs,h1,h2,h5⟩:=ih (k + 1) (by omega) acc (by omega) ha
      refine ⟨fs,zcR (zaT rfl hlt (zab (decide_eq_false (by rw [zac]; omega)) (zab rfl ?_))),h2,h5⟩
      rw [hw]
      exact h1
     | true =>
      obtain ⟨fs,h1,h2,h5⟩:=ih (k + 1) (by omega) (acc ++ [(k:Int)]) (by simp; omega) (fun f hf => by
       rcases List.mem_append.1 hf with hf | hf
       ·exact ha f hf
       ·simp only [List.mem_singleton] at hf
        exact ⟨k,hlt,hf⟩)
      refine ⟨fs,zcR (zaT rfl hlt (zab (decide_eq_false (by rw [zac]; omega)) (zad rfl (zcT (by rw [zac]; simp; omega) ?_)))),h2,h5⟩
      rw [zof,hw]
      exact h1
    | succ n ihn =>
     intro i hi b
     have hil:i < (gP R k).ps.length:=by omega
     have hwi:zai ((i:Int) + 1) = ((i + 1:Nat):Int):=wrk (by unfold za8; omega)
     cases b with
     | false =>
      obtain ⟨fs,h1,h2,h5⟩:=ihn (i + 1) (by omega) false
      refine ⟨fs,zcR (zaT rfl hlt (zad (decide_eq_true (by rw [zac]; omega)) (zab rfl ?_))),h2,h5⟩
      rw [hwi]
      exact h1
     | true =>
      obtain ⟨c,hc⟩:=zjE hD hR (V:=[]) (by simp) (gP R k).ps[i]
      obtain ⟨fs,h1,h2,h5⟩:=ihn (i + 1) (by omega) c
      refine ⟨fs,zcR (zaT rfl hlt (zad (decide_eq_true (by rw [zac]; omega)) (zad rfl (zaT rfl hlt (zbi hil (zaH hc ?_)))))),h2,h5⟩
      rw [hwi]
      exact h1
   obtain ⟨fs,h1,h2,h5⟩:=inner (gP R k).ps.length 0 (by omega) ((gP R k).r == t)
   exact ⟨fs,zd7 (zad (decide_eq_true (by rw [zbu]; omega)) (zaT rfl hlt h1)),h2,h5⟩
 rcases Nat.lt_or_ge R.length 1 with h0 | h0
 ·exact ⟨[],zh0 (zd7 (zab (decide_eq_false (by rw [zbu]; omega)) rfl)),by simp,fun f hf => by cases hf⟩
 ·obtain ⟨fs,h1,h2,h3⟩:=key (R.length - 1) 1 (by omega) [] (by simp) (fun f hf => by cases hf)
  exact ⟨fs,zh0 h1,h2,h3⟩
end Go.Proofs.Ytbodfaghedolbaa
set_option linter.unusedSectionVars false
namespace Go.Proofs.Ytbodfaghedolbaa
open Go
def EG (ns:List Nat) (p C M:Nat) (x:Option (AV × List AC)):Prop:=∃ (o n:Int) (kids:List (List AC)) (p':Nat),x = some (.v (.agg [.int o,.int n,.sl 3 kids]),Qr ns p') ∧ p' ≤ p + C ∧ Fit .expr [.int o,.int n,.sl 3 kids] ∧ 1 + kids.length + rsS kids ≤ M
theorem EG.le {ns:List Nat} {p C M C' M':Nat} {x:Option (AV × List AC)} (h:EG ns p C M x) (h1:C ≤ C') (h2:M ≤ M'):EG ns p C' M' x:=by
 obtain ⟨o,n,kids,p',e,a,b,c⟩:=h
 exact ⟨o,n,kids,p',e,by omega,b,by omega⟩
def zcx (kids:List (List AC)):Prop:=∀ b ∈ kids,Fit .expr b
theorem zan {o n:Int} {kids:List (List AC)} (ho:-1000000 ≤ o ∧ o ≤ 1000000) (hn:-10000000 ≤ n ∧ n ≤ 10000000) (hl:kids.length ≤ 1000000) (hk:zcx kids):Fit .expr [.int o,.int n,.sl 3 kids] :=
 .expr o n kids ⟨by omega,by omega⟩ ⟨by omega,by omega⟩ (by unfold za8; omega) hk
theorem zkc (a b:List (List AC)):rsS (a ++ b) = rsS a + rsS b:=by
 induction a with
 | nil => simp [zaO]
 | cons x a ih => rw [List.cons_append,zbb,zbb,ih]; omega
theorem zeH {kids:List (List AC)} {o n:Int} {l:List (List AC)} (hk:zcx kids) (h:Fit .expr [.int o,.int n,.sl 3 l]):zcx (kids ++ [[.int o,.int n,.sl 3 l]]):=fun b hb => by
 rcases List.mem_append.1 hb with hb | hb
 ·exact hk b hb
 ·simp only [List.mem_singleton] at hb; rw [hb]; exact h
theorem zdS {kids:List (List AC)} {o n:Int} {l:List (List AC)}:(kids ++ [[AC.int o,.int n,.sl 3 l]]).length + rsS (kids ++ [[AC.int o,.int n,.sl 3 l]]) = kids.length + rsS kids + (1 + l.length + rsS l):=by
 rw [zkc,zbb,zaO,zee]
 simp
 omega
def cf (D:List DM) (c:Int):List Int:=if zgJ D c < 1 then [] else fld D c
theorem zoh {D:List DM} (hv:DV D) (c:Int):zaE [.cell (.sl 3 (zak D)),.cell (.int c)] = rL (cf D c):=zhy hv c
theorem zuB:∀ D ∈ zc8,∀ t ∈ ([1,3]:List Int),(zbv D t).length = 2 ∧ cf D ((zbv D t).getD 0 0) = [] ∧ (cf D ((zbv D t).getD 1 0)).contains t = true ∧ (cf D ((zbv D t).getD 1 0)).length ≤ 3 ∧ (0 ≤ (zbv D t).getD 0 0 ∧ (zbv D t).getD 0 0 ≤ 100):=by decide
theorem zvK:∀ D ∈ zc8,∀ t ∈ ([2,4]:List Int),(zbv D t).length ≤ 3 ∧ ∀ c ∈ zbv D t,(0 ≤ c ∧ c ≤ 100) ∧ (cf D c).contains t = false ∧ (cf D c).length ≤ 3 ∧ ∀ u ∈ cf D c,u = 0 ∨ u = 1 ∨ u = 3:=by decide
theorem ztK:∀ D ∈ zc8,zbv D 0 = []:=by decide
theorem zt5:∀ D ∈ zc8,∀ s ∈ sigL,∀ t ∈ ([2,4]:List Int),zfL (s.1.getD (s.1.length - 1) 0) s.2 D 0 = t → ∀ u ∈ s.1.take (s.1.length - 1),u = 0 ∨ u = 1 ∨ u = 3:=by decide
section
variable {ns:List Nat} (hns:ns.length ≤ 2000) {D:List DM} (hD:D ∈ zc8) {R:List PM} (hR:GR R)
include hns hD hR
theorem zmb {t:Int} (ht:¬ 0 < t ∨ ∃ fs:List Int,zed [pgC D R,.cell (.int t)] = rL fs ∧ fs = []) (hc:zbv D t = []) {p:Nat} (hp:p + 4 ≤ 1000000):EG ns p 4 1 (zbd (Qr ns p) [pgC D R,.cell (.int t)]):=by
 obtain ⟨x,hx,h1⟩:=zpc hns hp
 have hcons:=zdC (zhx hD) t
 rw [hc] at hcons
 refine ⟨0,x,[],p + 4,?_,by omega,zan (by omega) (by omega) (by simp) (fun b hb => by cases hb),by simp [zaO]⟩
 rcases ht with ht | ⟨fs,h2,rfl⟩
 ·obtain ⟨fs,h2,_⟩:=zkp (zeT hD) hR t
  exact zby (zaP hcons (zab rfl (zaP h2 (zab (decide_eq_false ht) (zam h1 (zag (zck _) rfl))))))
 ·by_cases h0:0 < t
  ·exact zby (zaP hcons (zab rfl (zaP h2 (zad (decide_eq_true h0) (zab rfl (zam h1 (zag (zck _) rfl)))))))
  ·exact zby (zaP hcons (zab rfl (zaP h2 (zab (decide_eq_false h0) (zam h1 (zag (zck _) rfl))))))
theorem zsa {C:Nat} (hC:C ≤ 1000) {c:Int} (hc:0 ≤ c ∧ c ≤ 100) {fs:List Int} (hl:fs.length ≤ 3) {P:Nat} (hP:P ≤ 900000) (hsm:∀ u ∈ fs,∀ p,p ≤ P → EG ns p C 1 (zbd (Qr ns p) [pgC D R,.cell (.int u)])) {z1 z2:Int} {z3:List (List AC)} :
  ∀ m k:Nat,k + m = fs.length → ∀ (acc:List (List AC)) (p:Nat),zcx acc → acc.length + rsS acc ≤ k → p + m * C ≤ P → EG ns p (m * C) 4 (za7 (zak D) (zaD R) z1 z2 z3 c acc (zae fs) (k:Int) (Qr ns p)):=by
 intro m
 induction m with
 | zero =>
  intro k hk acc p ha hs hp
  refine ⟨6,c,acc,p,zd5 (zab (decide_eq_false (by rw [zac]; omega)) (zag (zax _ _ _) rfl)),by omega,zan (by omega) (by omega) (by omega) ha,by omega⟩
 | succ m ih =>
  intro k hk acc p ha hs hp
  have hlt:k < fs.length:=by omega
  have hmul:(m + 1) * C = m * C + C:=Nat.succ_mul _ _
  obtain ⟨o,n,l,p',h1,h2,h3,h4⟩:=hsm fs[k] (List.getElem_mem hlt) p (by omega)
  have hsz:=zdS (kids:=acc) (o:=o) (n:=n) (l:=l)
  obtain ⟨o2,n2,l2,p2,g1,g2,g3,g4⟩:=ih (k + 1) (by omega) (acc ++ [[.int o,.int n,.sl 3 l]]) p' (zeH ha h3) (by omega) (by omega)
  refine ⟨o2,n2,l2,p2,zd5 (zad (decide_eq_true (by rw [zac]; omega)) (zbi hlt (zaF h1 (zcT (by simp; omega) ?_)))),by omega,g3,g4⟩
  rw [wrk (by unfold za8; omega)]
  exact g1
theorem zse {C:Nat} (hC:C ≤ 1000) {c:Int} (hc:0 ≤ c ∧ c ≤ 100) {fs:List Int} (hl:fs.length ≤ 3) {P:Nat} (hP:P ≤ 900000) (hsm:∀ u ∈ fs.take (fs.length - 1),∀ p,p ≤ P → EG ns p C 1 (zbd (Qr ns p) [pgC D R,.cell (.int u)])) {z1 z2:Int} {z3:List (List AC)} :
  ∀ m k:Nat,k + m = fs.length → ∀ (acc:List (List AC)) (p:Nat),zcx acc → acc.length + rsS acc ≤ k → p + m * C ≤ P → EG ns p (m * C) 4 (zdP (zak D) (zaD R) z1 z2 z3 c (zae fs) acc (k:Int) (Qr ns p)):=by
 intro m
 induction m with
 | zero =>
  intro k hk acc p ha hs hp
  refine ⟨10,c,acc,p,zd8 (zab (decide_eq_false (by rw [zac,wrk (by unfold za8; omega)]; omega)) (zag (zax _ _ _) rfl)),by omega,zan (by omega) (by omega) (by omega) ha,by omega⟩
 | succ m ih =>
  intro k hk acc p ha hs hp
  have hlt:k < fs.length:=by omega
  have hmul:(m + 1) * C = m * C + C:=Nat.succ_mul _ _
  by_cases hlast:k + 1 < fs.length
  ·have hmem:fs[k] ∈ fs.take (fs.length - 1):=by
    rw [List.mem_take_iff_getElem]
    exact ⟨k,by omega,rfl⟩
   obtain ⟨o,n,l,p',h1,h2,h3,h4⟩:=hsm fs[k] hmem p (by omega)
   have hsz:=zdS (kids:=acc) (o:=o) (n:=n) (l:=l)
   obtain ⟨o2,n2,l2,p2,g1,g2,g3,g4⟩:=ih (k + 1) (by omega) (acc ++ [[.int o,.int n,.sl 3 l]]) p' (zeH ha h3) (by omega) (by omega)
   refine ⟨o2,n2,l2,p2,zd8 (zad (decide_eq_true (by rw [zac,wrk (by unfold za8; omega)]; omega)) (zbi hlt (zaF h1 (zcT (by simp; omega) ?_)))),by omega,g3,g4⟩
   rw [wrk (by unfold za8; omega)]
   exact g1
  ·refine ⟨10,c,acc,p,zd8 (zab (decide_eq_false (by rw [zac,wrk (by unfold za8; omega)]; omega)) (zag (zax _ _ _) rfl)),by omega,zan (by omega) (by omega) (by omega) ha,by omega⟩
theorem zrI {p:Nat} (hp:p + 4 ≤ 1000000):EG ns p 4 1 (zbd (Qr ns p) [pgC D R,.cell (.int 0)]):=zmb hns hD hR (.inl (by omega)) (ztK D hD) hp
theorem zkL {t:Int} (ht:t = 1 ∨ t = 3) {p:Nat} (hp:p + 4 ≤ 1000000):EG ns p 4 1 (zbd (Qr ns p) [pgC D R,.cell (.int t)]):=by
 obtain ⟨g1,g2,g3,g4,g5⟩:=zuB D hD t (by rcases ht with rfl | rfl <;> simp)
 have hdv:=zhx hD
 have hcons:=zdC hdv t
 obtain ⟨x,hx,h1⟩:=zbs hns (p:=p) (by omega) (m:=4) (by omega)
 obtain ⟨c0,c1,e⟩:∃ c0 c1,zbv D t = [c0,c1]:=by
  match h:zbv D t,g1 with
  | [a,b],_ => exact ⟨a,b,rfl⟩
 rw [e] at g1 g2 g3 g4 g5 hcons
 simp only [List.getD_cons_zero,List.getD_cons_succ] at g2 g3 g4 g5
 have hf0:=zoh hdv c0
 have hf1:=zoh hdv c1
 rw [g2] at hf0
 have hL:∀ q,za7 (zak D) (zaD R) 0 0 [] c0 [] (zae []) 0 q = some (.v (.agg [.int 6,.int c0,.sl 3 []]),q):=fun q => zd5 (zab rfl (zag (zax _ _ _) rfl))
 have hfin:∀ X,X = some (.v (.agg [.int 6,.int c0,.sl 3 []]),Qr ns (p + 1)) → EG ns p 4 1 X:=fun X hX => ⟨6,c0,[],p + 1,hX,by omega,zan (by omega) (by omega) (by simp) (fun b hb => by cases hb),by simp [zaO]⟩
 have hin0:=zjC [] t (by simp)
 refine hfin _ (zby (zaP hcons (zad rfl (zbi (xs:=[c0,c1]) (k:=0) (by simp) (zad rfl (zam h1 ?_))))))
 by_cases hx0:x = 0
 ·subst hx0
  exact zad rfl (zbi (xs:=[c0,c1]) (k:=1) (by simp) (zaP hf1 (zaH (zjC _ t (by omega)) (zad g3 (zbi (xs:=[c0,c1]) (k:=0) (by simp) (zaP hf0 (hL _)))))))
 ·exact zab (by rw [beq_eq_false_iff_ne]; omega) (zaP hf0 (zaH hin0 (zab rfl (zaP hf0 (hL _)))))
theorem zmr {u:Int} (hu:u = 0 ∨ u = 1 ∨ u = 3) {p:Nat} (hp:p + 4 ≤ 1000000):EG ns p 4 1 (zbd (Qr ns p) [pgC D R,.cell (.int u)]):=by
 rcases hu with rfl | rfl | rfl
 ·exact zrI hns hD hR hp
 ·exact zkL hns hD hR (.inl rfl) hp
 ·exact zkL hns hD hR (.inr rfl) hp
theorem EG.put {p p1 C C1 M:Nat} {x:Option (AV × List AC)} (h:EG ns p1 C1 M x) (h1:p1 + C1 ≤ p + C):EG ns p C M x:=by
 obtain ⟨o,n,kids,p',e,a,b,c⟩:=h
 exact ⟨o,n,kids,p',e,by omega,b,c⟩
theorem zwa {t:Int} (ht:t = 2 ∨ t = 4) {p:Nat} (hp:p + 20 ≤ 900000):EG ns p 14 4 (zbd (Qr ns p) [pgC D R,.cell (.int t)]):=by
 have hm:t ∈ ([2,4]:List Int):=by rcases ht with rfl | rfl <;> simp
 obtain ⟨g1,g2⟩:=zvK D hD t hm
 have hdv:=zhx hD
 have hcons:=zdC hdv t
 have hL:∀ c ∈ zbv D t,∀ p',p' ≤ p + 1 → EG ns p' 12 4 (za7 (zak D) (zaD R) 0 0 [] c [] (zae (cf D c)) 0 (Qr ns p')):=fun c hc p' hp' => by
  obtain ⟨a1,a2,a3,a4⟩:=g2 c hc
  have:=zsa hns hD hR (C:=4) (by omega) a1 a3 (P:=900000) (by omega) (fun u hu q hq => zmr hns hD hR (a4 u hu) (by omega)) (z1:=0) (z2:=0) (z3:=[]) (cf D c).length 0 (by omega) [] p' (fun b hb => by cases hb) (by simp [zaO]) (by omega)
  exact this.le (by omega) (by omega)
 by_cases hz:0 < (zbv D t).length
 ·have hm0:(zbv D t)[0] ∈ zbv D t:=List.getElem_mem hz
  have b0:=(g2 _ hm0).2.1
  have l0:=(g2 _ hm0).2.2.1
  have hz':decide (((((zae (zbv D t)).length:Nat):Int)) > 0) = true:=decide_eq_true (by rw [zac]; omega)
  by_cases h1:1 < (zbv D t).length
  ·have hm1:(zbv D t)[1] ∈ zbv D t:=List.getElem_mem h1
   have b1:=(g2 _ hm1).2.1
   have l1:=(g2 _ hm1).2.2.1
   obtain ⟨x,hx,hpk⟩:=zbs hns (p:=p) (by omega) (m:=4) (by omega)
   by_cases hx0:x = 0
   ·subst hx0
    obtain ⟨o,n,l,p',e1,e2,e3,e4⟩:=hL _ hm1 (p + 1) (by omega)
    exact ⟨o,n,l,p',zby (zaP hcons (zad hz' (zbi (k:=0) hz (zad (decide_eq_true (by rw [zac]; omega)) (zam hpk (zad rfl (zbi (k:=1) h1 (zaP (zoh hdv _) (zaH (zjC _ t (by omega)) (zab b1 (zaP (zoh hdv _) e1))))))))))),by omega,e3,e4⟩
   ·obtain ⟨o,n,l,p',e1,e2,e3,e4⟩:=hL _ hm0 (p + 1) (by omega)
    exact ⟨o,n,l,p',zby (zaP hcons (zad hz' (zbi (k:=0) hz (zad (decide_eq_true (by rw [zac]; omega)) (zam hpk (zab (by rw [beq_eq_false_iff_ne]; omega) (zaP (zoh hdv _) (zaH (zjC _ t (by omega)) (zab b0 (zaP (zoh hdv _) e1)))))))))),by omega,e3,e4⟩
  ·obtain ⟨o,n,l,p',e1,e2,e3,e4⟩:=hL _ hm0 p (by omega)
   exact ⟨o,n,l,p',zby (zaP hcons (zad hz' (zbi (k:=0) hz (zab (decide_eq_false (by rw [zac]; omega)) (zaP (zoh hdv _) (zaH (zjC _ t (by omega)) (zab b0 (zaP (zoh hdv _) e1)))))))),by omega,e3,e4⟩
 ·have hnil:zbv D t = []:=List.eq_nil_of_length_eq_zero (by omega)
  obtain ⟨fs,h1,h2,h3⟩:=zkp (zeT hD) hR t
  by_cases hf:0 < fs.length
  ·obtain ⟨x,hx,hpk⟩:=zbs hns (p:=p) (by omega) (m:=fs.length) hf
   obtain ⟨k,hk,hfk,hps,harr⟩:=h3 fs[x] (List.getElem_mem hx)
   have hsm:=zt5 D hD _ (hR.at hk) t hm harr
   have hl3:=(hR.small hk).1
   have hklt:=hR.len
   have:=zse hns hD hR (C:=4) (by omega) (c:=(k:Int)) (by omega) hl3 (P:=900000) (by omega) (fun u hu q hq => zmr hns hD hR (hsm u hu) (by omega)) (z1:=0) (z2:=0) (z3:=[]) (gP R k).ps.length 0 (by omega) [] (p + 1) (fun b hb => by cases hb) (by simp [zaO]) (by omega)
   obtain ⟨o,n,l,p',e1,e2,e3,e4⟩:=this
   rw [hnil] at hcons
   refine ⟨o,n,l,p',zby (zaP hcons (zab rfl (zaP h1 (zad (decide_eq_true (by omega)) (zad (decide_eq_true (by rw [zac]; omega)) ?_))))),by omega,e3,e4⟩
   rw [zac]
   refine zam hpk (zbi hx ?_)
   rw [hfk]
   exact zaT rfl hk e1
  ·exact (zmb hns hD hR (.inr ⟨fs,h1,List.eq_nil_of_length_eq_zero (by omega)⟩) hnil (by omega)).le (by omega) (by omega)
theorem znF {t:Int} (ht:0 ≤ t ∧ t ≤ 4) {p:Nat} (hp:p + 20 ≤ 900000):EG ns p 14 4 (zbd (Qr ns p) [pgC D R,.cell (.int t)]):=by
 rcases (by omega:t = 0 ∨ t = 1 ∨ t = 3 ∨ (t = 2 ∨ t = 4)) with rfl | rfl | rfl | h
 ·exact (zrI hns hD hR (by omega)).le (by omega) (by omega)
 ·exact (zkL hns hD hR (.inl rfl) (by omega)).le (by omega) (by omega)
 ·exact (zkL hns hD hR (.inr rfl) (by omega)).le (by omega) (by omega)
 ·exact zwa hns hD hR h hp
theorem zkk {V:List Int} (hV:V.length ≤ 1048576) {t:Int} (ht:0 ≤ t ∧ t ≤ 4) {p:Nat} (hp:p + 30 ≤ 900000):EG ns p 16 4 (zcB (Qr ns p) [pgC D R,.cell (.sl 1 (zae V)),.cell (.int t)]):=by
 obtain ⟨fs,h1,h2,h3⟩:=zqg hV t
 have hvar:∀ (x:Nat) (hx:x < fs.length),Fit .expr [.int 12,.int fs[x],.sl 3 []]:=fun x hx => by
  have:=h3 fs[x] (List.getElem_mem hx)
  exact zan (by omega) (by omega) (by simp) (fun b hb => by cases hb)
 by_cases hf:0 < fs.length
 ·have hf':decide (((((zae fs).length:Nat):Int)) > 0) = true:=decide_eq_true (by rw [zac]; omega)
  obtain ⟨x,hx,hp1⟩:=zbs hns (p:=p) (by omega) (m:=6) (by omega)
  by_cases hx0:0 < x
  ·obtain ⟨y,hy,hp2⟩:=zbs hns (p:=p + 1) (by omega) (m:=fs.length) hf
   refine ⟨12,fs[y],[],p + 1 + 1,zgp (zaP h1 (zad hf' (zam hp1 (zad (decide_eq_true (by omega)) ?_)))),by omega,hvar y hy,by simp [zaO]⟩
   rw [zac]
   exact zam hp2 (zbi hy (zag (zaN _) rfl))
  ·obtain ⟨b,hb⟩:=zjE (zeT hD) hR (V:=[]) (by simp) t
   cases b with
   | false =>
    obtain ⟨y,hy,hp2⟩:=zbs hns (p:=p + 1) (by omega) (m:=fs.length) hf
    refine ⟨12,fs[y],[],p + 1 + 1,zgp (zaP h1 (zad hf' (zam hp1 (zab (decide_eq_false (by omega)) (zaH hb (zad rfl ?_)))))),by omega,hvar y hy,by simp [zaO]⟩
    rw [zac]
    exact zam hp2 (zbi hy (zag (zaN _) rfl))
   | true =>
    obtain ⟨o,n,l,p',e1,e2,e3,e4⟩:=znF hns hD hR ht (p:=p + 1) (by omega)
    exact ⟨o,n,l,p',zgp (zaP h1 (zad hf' (zam hp1 (zab (decide_eq_false (by omega)) (zaH hb (zab rfl (zaF e1 rfl))))))),by omega,e3,e4⟩
 ·obtain ⟨o,n,l,p',e1,e2,e3,e4⟩:=znF hns hD hR ht (p:=p) (by omega)
  exact ⟨o,n,l,p',zgp (zaP h1 (zab (decide_eq_false (by rw [zac]; omega)) (zaF e1 rfl))),by omega,e3,e4⟩
end
end Go.Proofs.Ytbodfaghedolbaa
