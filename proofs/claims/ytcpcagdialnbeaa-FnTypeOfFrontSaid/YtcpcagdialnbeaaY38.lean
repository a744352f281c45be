/- Generic texts and models for the proofs of this seat: part 38. -/
import Derived.Test.YtcpcagdialnbeaaY37
set_option linter.unusedVariables false
set_option linter.unusedSimpArgs false
namespace Go.Proofs.Ytcpcagdialnbeaa
section
open Go
def tyL (T:Nat→Int) (m:Nat):List Int:=(List.range m).map T
theorem zc5 (T:Nat→Int) (m:Nat):(tyL T m).length=m:=by simp[tyL]
theorem zlV (T:Nat→Int) {m k:Nat} (h:k<m):(tyL T m).getD k 0=T k:=by simp[tyL,List.getD,h]
theorem zr6 (T:Nat→Int) {m k:Nat} (h:k<(tyL T m).length):(tyL T m)[k]=T k:=by simp[tyL]
section
variable {D:List DM}{R:List PM}
theorem zrI (G M:List Int) (kids:List (List AC)) (hm:kids.length≤68719476736) (T:Nat→Int) (hb:∀k,k<kids.length→∃o n ks,kids.getD k []=[.int o,.int n,.sl 3 ks])
  (hT:∀k,k<kids.length→∀o n ks,kids.getD k []=[.int o,.int n,.sl 3 ks]→zbi [.agg [.sl 3 (zah D),.sl 5 (zaC R)],.agg [.sl 1 (zab G),.sl 1 (zab M)],.agg [.int o,.int n,.sl 3 ks]]=rI (T k)) :
  zjv [.agg [.sl 3 (zah D),.sl 5 (zaC R)],.agg [.sl 1 (zab G),.sl 1 (zab M)],.cell (.sl 3 kids)]=rL (tyL T kids.length):=by
 have key:∀m k:Nat,k+m=kids.length→zeQ (zah D) (zaC R) (zab G) (zab M) (zab ((tyL T kids.length).take k)) kids ((kids.length:Nat):Int) (k:Int)=rL (tyL T kids.length):=by
  intro m;induction m with
  | zero =>
   intro k hk;refine zik (zaa (decide_eq_false (by omega)) ?_)
   rw[List.take_of_length_le (by rw[zc5];omega)]
  | succ m ih =>
   intro k hk;have hlt:k<kids.length:=by omega
   obtain⟨o,n,ks,e⟩:=hb k hlt;refine zik (zad (decide_eq_true (by omega)) (zcc hlt e (zal (hT k hlt _ _ _ e) (zcL (by rw[zac,List.length_take,zc5];simp;omega) ?_))))
   have hl:k<(tyL T kids.length).length:=by rw[zc5];exact hlt
   have:=zmi hl
   rw[zr6] at this;rw[this,wrk (by unfold za9;omega)]
   exact ih (k+1) (by omega)
 exact zoD (key kids.length 0 (by omega))
variable (V:List Int) (kids:List (List AC)) (hm:kids.length≤za9) (T:Nat→Int) (hb:∀k,k<kids.length→∃o n ks,kids.getD k []=[.int o,.int n,.sl 3 ks])
  (hT:∀k,k<kids.length→∀o n ks,kids.getD k []=[.int o,.int n,.sl 3 ks]→zaH [.agg [.sl 3 (zah D),.sl 5 (zaC R)],.cell (.sl 1 (zab V)),.agg [.int o,.int n,.sl 3 ks]]=rI (T k))
include hm hb hT
theorem zr3 (types:List Int):zhQ [.agg [.sl 3 (zah D),.sl 5 (zaC R)],.cell (.sl 1 (zab V)),.cell (.sl 3 kids),.cell (.sl 1 (zab types))]=rB (decide (tyL T kids.length=types)):=by
 refine zqU ?_
 rw[zac];by_cases hl:kids.length=types.length
 rotate_left
 ·rw[decide_eq_false (fun h=>hl (by rw[←h,zc5]))]
  exact zad (net (by omega)) rfl
 refine zaa (nef (by omega)) ?_
 have key:∀m k:Nat,k+m=kids.length→zf9 (zab V) kids (zab types) (zah D) (zaC R) (k:Int)=rB (decide ((tyL T kids.length).drop k=types.drop k)):=by
  intro m;induction m with
  | zero =>
   intro k hk;rw[List.drop_eq_nil_of_le (show(tyL T kids.length).length≤k by rw[zc5];omega),List.drop_eq_nil_of_le (show types.length≤k by omega)]
   exact zi2 (zaa (decide_eq_false (by rw[zac];omega)) rfl)
  | succ m ih =>
   intro k hk;have hlt:k<kids.length:=by omega
   have h2:k<types.length:=by omega
   have h3:k<(tyL T kids.length).length:=by rw[zc5];exact hlt
   obtain⟨o,n,ks,e⟩:=hb k hlt;rw[List.drop_eq_getElem_cons h3,List.drop_eq_getElem_cons h2,zr6];refine zi2 (zad (decide_eq_true (by rw[zac];omega)) (zcc hlt e (zal (hT k hlt _ _ _ e) (zbo h2 ?_))))
   by_cases he:T k=types[k]
   ·refine zaa (nef he) ?_
    rw[wrk (by omega),ih (k+1) (by omega)]
    simp only[he,List.cons.injEq,true_and]
   ·refine zad (net he) ?_
    simp only[List.cons.injEq];rw[decide_eq_false (fun h=>he h.1)]
 exact key kids.length 0 (by omega)
theorem zra (c:Nat):zg7 [.agg [.sl 3 (zah D),.sl 5 (zaC R)],.cell (.sl 1 (zab V)),.cell (.sl 3 kids),.cell (.int (c:Int))]=rB (decide (tyL T kids.length=List.replicate c 0)):=by
 refine zou ?_
 by_cases hl:kids.length=c
 rotate_left
 ·rw[decide_eq_false (fun h=>hl (by have:=congrArg List.length h;rw[zc5] at this;simpa using this))]
  exact zad (net (by omega)) rfl
 refine zaa (nef (by omega)) ?_
 have key:∀m k:Nat,k+m=kids.length→zeO (zab V) kids (c:Int) (zah D) (zaC R) (k:Int)=rB (decide ((tyL T kids.length).drop k=List.replicate (c-k) 0)):=by
  intro m;induction m with
  | zero =>
   intro k hk;rw[List.drop_eq_nil_of_le (show(tyL T kids.length).length≤k by rw[zc5];omega),show c-k=0 by omega]
   exact zhR (zaa (decide_eq_false (by omega)) rfl)
  | succ m ih =>
   intro k hk;have hlt:k<kids.length:=by omega
   have h3:k<(tyL T kids.length).length:=by rw[zc5];exact hlt
   obtain⟨o,n,ks,e⟩:=hb k hlt;rw[List.drop_eq_getElem_cons h3,zr6,show c-k=(c-(k+1))+1 by omega,List.replicate_succ]
   refine zhR (zad (decide_eq_true (by omega)) (zcc hlt e (zal (hT k hlt _ _ _ e) ?_)))
   by_cases he:T k=0
   ·refine zaa (nef he) ?_
    rw[wrk (by omega),ih (k+1) (by omega)]
    simp only[he,List.cons.injEq,true_and]
   ·refine zad (net he) ?_
    simp only[List.cons.injEq];rw[decide_eq_false (fun h=>he h.1)]
 have:=key kids.length 0 (by omega)
 simpa using this
theorem zpl (hv:CP D R) (o n:Int):ziX [.agg [.sl 3 (zah D),.sl 5 (zaC R)],.cell (.sl 1 (zab V)),.agg [.int o,.int n,.sl 3 kids]]=rI (if 0≤n∧n<R.length then(if o=9 then(if tyL T kids.length=(gP R n.toNat).ps then(gP R n.toNat).r else -1)
   else if(gP R n.toNat).ps.length=0 then -1 else if tyL T kids.length=zrU (gP R n.toNat).ps then zgl ((gP R n.toNat).ps.getD ((gP R n.toNat).ps.length-1) 0) (gP R n.toNat).r D 0 else -1) else -1):=by
 have hR:=hv.rl
 refine znA (zat (zeg _ _ _) ?_)
 have hw:zaf ((((zaC R).length:Nat):Int)-1)=R.length-1:=by rw[zcj];exact wr (by omega) (by omega)
 rw[hw];by_cases h:0≤n∧n<R.length
 rotate_left
 ·rw[if_neg h]
  refine zad ?_ rfl
  rw[Bool.not_eq_true',Bool.and_eq_false_iff,decide_eq_false_iff_not,decide_eq_false_iff_not];omega
 rw[if_pos h,decide_eq_true h.1,decide_eq_true (show n≤(R.length:Int)-1 by omega)]
 have hp:=(hv.ps n.toNat (by omega)).1
 refine zaa rfl (za7 (k:=n.toNat) (by omega) (by omega) ?_)
 by_cases h9:o=9
 ·rw[if_pos h9]
  refine zad (eqt h9) (zat (zr3 V kids hm T hb hT _) ?_)
  by_cases hq:tyL T kids.length=(gP R n.toNat).ps
  ·rw[if_pos hq,decide_eq_true hq]
   exact zaa rfl rfl
  ·rw[if_neg hq,decide_eq_false hq]
   exact zad rfl rfl
 rw[if_neg h9];refine zaa (eqf h9) ?_
 rw[zac];by_cases h0:(gP R n.toNat).ps.length=0
 ·rw[if_pos h0]
  exact zad (zr h0) rfl
 rw[if_neg h0];refine zaa (nz h0) ?_
 have w:zaf ((((gP R n.toNat).ps.length:Nat):Int)-1)=(((gP R n.toNat).ps.length-1:Nat):Int):=by
  rw[wr (by omega) (by omega)]
  omega
 rw[w];refine zuS (by omega) (by omega) (by rw[zac];omega) ?_
 rw[show((zab (gP R n.toNat).ps).drop (0:Int).toNat).take ((((gP R n.toNat).ps.length-1:Nat):Int).toNat-(0:Int).toNat)=zab (zrU (gP R n.toNat).ps) by simp[zrU,zo6]]
 refine zat (zr3 V kids hm T hb hT _) ?_
 by_cases hq:tyL T kids.length=zrU (gP R n.toNat).ps
 ·rw[if_pos hq,decide_eq_true hq]
  exact zaa rfl (ziO rfl (by omega) (zal (zsz D (by have:=hv.dv.len;omega) _ _) rfl))
 ·rw[if_neg hq,decide_eq_false hq]
  exact zad rfl rfl
end
end
section
open Go
theorem zAN {m:Nat}{P:Nat→Int→Prop} (h:∀k,k<m→∃t,P k t):∃T:Nat→Int,∀k,k<m→P k (T k) :=
 ⟨fun k=>open Classical in if hk:k<m then(h k hk).choose else 0,fun k hk=>by
  simp only[dif_pos hk];exact(h k hk).choose_spec⟩
section
variable {D:List DM}{R:List PM} (hv:CP D R)
section
variable (V:List Int) (kids:List (List AC)) (hm:kids.length≤za9) (T:Nat→Int) (hb:∀k,k<kids.length→∃o n ks,kids.getD k []=[.int o,.int n,.sl 3 ks])
  (hT:∀k,k<kids.length→∀o n ks,kids.getD k []=[.int o,.int n,.sl 3 ks]→zaH [.agg [.sl 3 (zah D),.sl 5 (zaC R)],.cell (.sl 1 (zab V)),.agg [.int o,.int n,.sl 3 ks]]=rI (T k))
include hm hb hT
theorem zuV (o n o':Int):zcf (zab V) (zah D) (zaC R) o n kids (n==0) o' true=rI (if n=0∧tyL T kids.length=[0,0] then 0 else -1):=by
 refine zcJ (zad rfl ?_)
 by_cases hn:n=0
 ·refine zad (eqt hn) (zat (zra V kids hm T hb hT 2) ?_)
  by_cases hq:tyL T kids.length=[0,0]
  ·rw[if_pos ⟨hn,hq⟩,decide_eq_true (show tyL T kids.length=List.replicate 2 0 from hq)]
   exact zad rfl rfl
  ·rw[if_neg (fun h=>hq h.2),decide_eq_false (show ¬tyL T kids.length=List.replicate 2 0 from hq)]
   exact zaa rfl rfl
 ·rw[if_neg (fun h=>hn h.1)]
  exact zaa (eqf hn) rfl
include hv
theorem zBT {o n:Int} (h:¬(o=1∨o=2∨o=3∨o=4)) (h0:o≠0) (h13:o≠13) (h7:o≠7) (h8:o≠8):zcf (zab V) (zah D) (zaC R) o n kids (n==0) o false=rI (zlK D R o n (tyL T kids.length)):=by
 refine zcJ (zaa rfl ?_)
 unfold zlK;rw[if_neg h0,if_neg h];by_cases h5:o=5
 ·rw[if_pos h5]
  refine zad (eqt h5) ?_
  by_cases hn:n=0
  ·refine zad (eqt hn) (zat (zra V kids hm T hb hT 1) ?_)
   by_cases hq:tyL T kids.length=[0]
   ·rw[if_pos ⟨hn,hq⟩,decide_eq_true (show tyL T kids.length=List.replicate 1 0 from hq)]
    exact zad rfl rfl
   ·rw[if_neg (fun h=>hq h.2),decide_eq_false (show ¬tyL T kids.length=List.replicate 1 0 from hq)]
    exact zaa rfl rfl
  ·rw[if_neg (fun h=>hn h.1)]
   exact zaa (eqf hn) rfl
 rw[if_neg h5];refine zaa (eqf h5) ?_
 by_cases h6:o=6
 ·rw[if_pos h6]
  refine zad (eqt h6) (zal (znv hv.dv n) ?_)
  have hc:=zf5 (D:=D) n
  by_cases hn:zhB D n<0
  ·rw[if_pos hn]
   exact zaa (decide_eq_false (by omega)) rfl
  have h1:1≤zhB D n:=by
   rcases hc with h0|⟨j,i,hj,he,_⟩ <;> omega
  have hf:=ziB hv.dv n
  rw[if_neg (by omega)] at hf
  rw[if_neg hn];refine zad (decide_eq_true (by omega)) (zaO hf (zat (zr3 V kids hm T hb hT _) ?_))
  by_cases hq:tyL T kids.length=fld D n
  ·rw[if_pos hq,decide_eq_true hq]
   exact zad rfl (zal (znv hv.dv n) rfl)
  ·rw[if_neg hq,decide_eq_false hq]
   exact zaa rfl rfl
 rw[if_neg h6];refine zaa (eqf h6) (zaa (eqf h13) (zaa (eqf h7) (zaa (eqf h8) ?_)))
 by_cases h9:o=9
 ·rw[if_pos h9]
  refine zad (eqt h9) (zeZ (zad (eqt h9) (zal (zpl V kids hm T hb hT hv o n) ?_)))
  simp only[h9,if_true];rfl
 rw[if_neg h9];refine zaa (eqf h9) ?_
 by_cases h10:o=10
 ·rw[if_pos h10]
  refine zeZ (zad (eqt h10) (zal (zpl V kids hm T hb hT hv o n) ?_))
  simp only[if_neg h9];rfl
 rw[if_neg h10];refine zeZ (zaa (eqf h10) ?_)
 by_cases h11:o=11
 rotate_left
 ·rw[if_neg h11]
  exact zaa (eqf h11) rfl
 rw[if_pos h11];refine zad (eqt h11) ?_
 by_cases hn:n=0
 rotate_left
 ·rw[if_neg hn]
  exact zaa (eqf hn) rfl
 rw[if_pos hn];refine zad (eqt hn) ?_
 rw[zc5];by_cases h2:kids.length=2
 rotate_left
 ·rw[if_neg (fun h=>h2 h.1)]
  exact zaa (eqf (by omega)) rfl
 obtain⟨o0,n0,k0,e0⟩:=hb 0 (by omega)
 obtain⟨o1,n1,k1,e1⟩:=hb 1 (by omega)
 rw[zlV T (show 0<kids.length by omega),zlV T (show 1<kids.length by omega)]
 refine zad (eqt (by omega)) (zdx (by omega) e0 (zal (hT 0 (by omega) _ _ _ e0) (zat (zdH (by have:=hv.dv.len;omega) _) ?_)))
 rcases ha:zlu D (T 0) with _|_
 ·rw[if_neg (fun h=>by cases h.2.1)]
  exact zaa rfl rfl
 have hl:=hv.dv.len
 have hbd:0<T 0∧T 0≤D.length:=by
  simp only[zlu,Bool.and_eq_true,decide_eq_true_eq] at ha;exact⟨ha.1,(isTy_iff.1 ha.2.1).2⟩
 have w:zaf (T 0-1)=(((T 0).toNat-1:Nat):Int):=by rw[wr (by omega) (by omega)];omega
 refine zad rfl (zcc (k:=1) (by omega) e1 (zal (hT 1 (by omega) _ _ _ e1) (zbA (k:=(T 0).toNat-1) w (by omega) ?_)))
 by_cases hq:T 1=(gD D ((T 0).toNat-1)).f
 ·rw[if_pos ⟨h2,rfl,hq⟩]
  exact zad (eqt hq) (zbA (k:=(T 0).toNat-1) w (by omega) rfl)
 ·rw[if_neg (fun h=>hq h.2.2)]
  exact zaa (eqf hq) rfl
theorem zBt {o n:Int} (h12:o≠12) (h13:o≠13) (h7:o≠7) (h8:o≠8):zaH [.agg [.sl 3 (zah D),.sl 5 (zaC R)],.cell (.sl 1 (zab V)),.agg [.int o,.int n,.sl 3 kids]]=rI (zlK D R o n (tyL T kids.length)):=by
 refine zda ?_
 by_cases h0:o=0
 ·refine zad (eqt h0) ?_
  unfold zlK;rw[if_pos h0,zc5];by_cases hl:kids.length=0
  ·refine zad (zr hl) (zat (zeg _ _ _) ?_)
   by_cases hn:-999≤n∧n≤999
   ·rw[if_pos ⟨hn,hl⟩,decide_eq_true hn.1,decide_eq_true hn.2]
    exact zad rfl rfl
   ·rw[if_neg (fun h=>hn h.1)]
    refine zaa ?_ rfl
    rw[Bool.and_eq_false_iff,decide_eq_false_iff_not,decide_eq_false_iff_not];omega
  ·rw[if_neg (fun h=>hl h.2)]
   exact zaa (nz hl) rfl
 refine zaa (eqf h0) (zaa (eqf h12) ?_)
 by_cases h:o=1∨o=2∨o=3∨o=4
 ·have e:zlK D R o n (tyL T kids.length)=(if n=0∧tyL T kids.length=[0,0] then 0 else -1):=by
   unfold zlK;rw[if_neg h0,if_pos h]
  rw[e];rcases h with rfl|rfl|rfl|rfl
  ·exact zad rfl (zuV V kids hm T hb hT _ _ _)
  ·exact zaa rfl (zad rfl (zuV V kids hm T hb hT _ _ _))
  ·exact zaa rfl (zaa rfl (zad rfl (zuV V kids hm T hb hT _ _ _)))
  ·exact zaa rfl (zaa rfl (zaa rfl (zuV V kids hm T hb hT _ _ _)))
 ·refine zaa (eqf (fun h'=>h (.inl h'))) (zaa (eqf (fun h'=>h (.inr (.inl h')))) (zaa (eqf (fun h'=>h (.inr (.inr (.inl h'))))) ?_))
  rw[eqf (show o≠4 from fun h'=>h (.inr (.inr (.inr h'))))]
  exact zBT hv V kids hm T hb hT h h0 h13 h7 h8
end
end
end
section
open Go
section
variable {D:List DM}{R:List PM}
noncomputable abbrev iTy (D:List DM) (R:List PM) (G M:List Int) (x:List AC):Option AV:=zbi [.agg [.sl 3 (zah D),.sl 5 (zaC R)],.agg [.sl 1 (zab G),.sl 1 (zab M)],.agg x]
noncomputable abbrev sTy (D:List DM) (R:List PM) (V:List Int) (x:List AC):Option AV:=zaH [.agg [.sl 3 (zah D),.sl 5 (zaC R)],.cell (.sl 1 (zab V)),.agg x]
inductive HT (D:List DM) (R:List PM):List Int→List AC→Int→Prop
 | var (V:List Int) (n:Int) (kids:List (List AC)) (hk:kids.length=0) (h:0≤n∧n<V.length):HT D R V [.int 12,.int n,.sl 3 kids] (V.getD n.toNat 0)
 | bind (V:List Int) (kids:List (List AC)) (t0 t:Int) (hl:kids.length=2) (h0:0≤t0) (h1:HT D R V (kids.getD 0 []) t0) (h2:HT D R (V++[t0]) (kids.getD 1 []) t):HT D R V [.int 13,.int 0,.sl 3 kids] t
 | ifz (V:List Int) (kids:List (List AC)) (t:Int) (hl:kids.length=3) (h0:HT D R V (kids.getD 0 []) 0) (h1:HT D R V (kids.getD 1 []) t) (h2:HT D R V (kids.getD 2 []) t):HT D R V [.int 7,.int 0,.sl 3 kids] t
 | mtch (V:List Int) (kids:List (List AC)) (j:Nat) (n t:Int) (hn:n=(j:Int)+1) (hj:j<D.length) (hc:0<(gD D j).cs.length) (hl:kids.length=1+(gD D j).cs.length) (h0:HT D R V (kids.getD 0 []) n) (hs:∀k,k<(gD D j).cs.length→HT D R (V++(gD D j).cs.getD k []) (kids.getD (1+k) []) t):HT D R V [.int 8,.int n,.sl 3 kids] t
 | op (V:List Int) (o n:Int) (kids:List (List AC)) (T:Nat→Int) (t:Int) (h12:o≠12) (h13:o≠13) (h7:o≠7) (h8:o≠8) (hk:∀k,k<kids.length→HT D R V (kids.getD k []) (T k)) (ht:zlK D R o n (tyL T kids.length)=t) (h0:0≤t):HT D R V [.int o,.int n,.sl 3 kids] t
theorem zfW {P:Prop} (h:0≤(-1:Int)):P:=absurd h (by decide)
theorem zu2 {T:Nat→Int}{t0:Int}:∀m k,0≤chk T t0 m k→0≤t0∧∀i,k≤i→i<k+m→T i=t0
 | 0,k,h=>⟨h,fun i h1 h2=>by omega⟩
 | m+1,k,h=>by
  unfold chk at h;split at h
  ·rename_i e
   obtain⟨h0,h1⟩:=zu2 m (k+1) h;refine⟨h0,fun i g1 g2=>?_⟩
   by_cases hi:i=k
   ·rw[hi];exact e
   ·exact h1 i (by omega) (by omega)
  ·exact zfW h
theorem zlX {T:Nat→Int}{m:Nat}{types:List Int} (h:tyL T m=types) (hp:∀t∈types,0≤t):∀k,k<m→0≤T k:=fun k hk=>by
 have h1:k<(tyL T m).length:=by rw[zc5];exact hk
 have h2:=List.getElem_mem h1
 rw[zr6] at h2;rw[h] at h2;exact hp _ h2
theorem zxz {D:List DM}{R:List PM} (hv:CP D R) {o n:Int}{T:Nat→Int}{m:Nat} (h:0≤zlK D R o n (tyL T m)):(o=9∨o=10→0≤n∧n<R.length)∧∀k,k<m→0≤T k:=by
 unfold zlK at h;split at h
 ·rename_i h0
  refine⟨by omega,fun k hk=>?_⟩
  split at h
  ·rename_i hc
   rw[zc5] at hc;omega
  ·exact zfW h
 split at h
 ·refine⟨by omega,?_⟩
  split at h
  ·rename_i hc
   exact zlX hc.2 (by simp)
  ·exact zfW h
 split at h
 ·refine⟨by omega,?_⟩
  split at h
  ·rename_i hc
   exact zlX hc.2 (by simp)
  ·exact zfW h
 split at h
 ·refine⟨by omega,?_⟩
  split at h
  ·exact zfW h
  ·rename_i hn
   split at h
   ·rename_i hc
    exact zlX hc fun t ht=>((zws hv hn).2 t ht).1
   ·exact zfW h
 split at h
 ·split at h
  ·rename_i hc
   refine⟨fun _=>hc,?_⟩
   split at h
   ·rename_i hq
    exact zlX hq fun t ht=>((hv.ps n.toNat (by omega)).2 t ht).1
   ·exact zfW h
  ·exact zfW h
 split at h
 ·split at h
  ·rename_i hc
   refine⟨fun _=>hc,?_⟩
   split at h
   ·exact zfW h
   ·split at h
    ·rename_i hq
     exact zlX hq fun t ht=>((hv.ps n.toNat (by omega)).2 t (List.mem_of_mem_take ht)).1
    ·exact zfW h
  ·exact zfW h
 split at h
 ·rename_i h9 h10 _
  refine⟨fun h'=>by omega,?_⟩
  split at h
  ·split at h
   ·rename_i hc
    rw[zc5] at hc;intro k hk;have ha:=hc.2.1
    have hb:=hc.2.2
    rw[zlV T (by omega)] at ha
    rw[zlV T (show 1<m by omega),zlV T (show 0<m by omega)] at hb
    simp only[zlu,Bool.and_eq_true,decide_eq_true_eq,beq_iff_eq] at ha;have h2:=isTy_iff.1 ha.2.1
    have:=(hv.dv.arr ((T 0).toNat-1) (by omega) ha.2.2).1
    rcases(by omega:k=0∨k=1) with rfl|rfl
    ·omega
    ·omega
   ·exact zfW h
  ·exact zfW h
 ·exact zfW h
end
end
section
open Go
section
variable {D:List DM}{R:List PM}
def zAR (D:List DM) (R:List PM) (G M:List Int) (x:List AC) (t:Int):Prop:=okT D t∧iTy D R G M x=rI t∧sTy D R (G++M) x=rI t∧(0≤t→HT D R (G++M) x t)
theorem zsR (G M:List Int) (hM:M.length≤2147483648) (o n:Int) (kids:List (List AC)) (fs:List (List Int)) (T:Nat→Int) (hl:fs.length+1=kids.length) (hm:kids.length≤1048576) (h3:∀k,k<fs.length→(fs.getD k []).length≤3)
  (hb:∀k,k<kids.length→∃o n ks,kids.getD k []=[.int o,.int n,.sl 3 ks])
  (hT:∀k,k<fs.length→iTy D R G (M++fs.getD k []) (kids.getD (1+k) [])=rI (T k)) (t0:Int) :
  ∀m k:Nat,k+m=fs.length→zch (zah D) (zaC R) (zab G) (zab M) o n kids (zcS fs) t0 (k:Int)=rI (chk T t0 m k):=by
 intro m;induction m with
 | zero =>
  intro k hk;exact zfh (zaa (decide_eq_false (by rw[zaX];omega)) rfl)
 | succ m ih =>
  intro k hk;have hlt:k<fs.length:=by omega
  obtain⟨o',n',ks,e⟩:=hb (1+k) (by omega)
  have ht:=hT k hlt
  rw[e] at ht;have w:zaf (1+(k:Int))=((1+k:Nat):Int):=by rw[wr (by omega) (by omega)];omega
  refine zfh (zad (decide_eq_true (by rw[zaX];omega)) (zko (k:=k) rfl (by omega) (zp9 (zqE G M _ (by have:=h3 k hlt;omega)) ?_)))
  rw[w];refine zcc (k:=1+k) (by omega) e (zal ht ?_)
  unfold chk;by_cases hq:T k=t0
  ·rw[if_pos hq,wrk (by unfold za9;omega)]
   exact zaa (nef hq) (ih (k+1) (by omega))
  ·rw[if_neg hq]
   exact zad (net hq) rfl
theorem zwV (hv:CP D R) (V:List Int) (hV:V.length≤2147483648) (o n:Int) (kids:List (List AC)) (j:Nat) (hj:j<D.length) (T:Nat→Int) (hl:(gD D j).cs.length+1=kids.length)
  (hb:∀k,k<kids.length→∃o n ks,kids.getD k []=[.int o,.int n,.sl 3 ks])
  (hT:∀k,k<(gD D j).cs.length→sTy D R (V++(gD D j).cs.getD k []) (kids.getD (1+k) [])=rI (T k)) (t0:Int) :
  ∀m k:Nat,k+m=(gD D j).cs.length→zcX (zab V) (zah D) (zaC R) o n kids (zab (cL D j)) t0 (k:Int)=rI (chk T t0 m k):=by
 have hc:=hv.dv.cs j hj
 intro m;induction m with
 | zero =>
  intro k hk;exact zgf (zaa (decide_eq_false (by rw[zac,zjE];omega)) rfl)
 | succ m ih =>
  intro k hk;have hlt:k<(gD D j).cs.length:=by omega
  obtain⟨o',n',ks,e⟩:=hb (1+k) (by omega)
  have ht:=hT k hlt
  rw[e] at ht;obtain⟨c1,c2⟩:=zsW (D:=D) hj hlt;have hf:=ziB hv.dv ((zby (D.take j)+k:Nat):Int)
  rw[if_neg (by omega),c2] at hf
  have h3:=(hv.dv.c j hj _ (zaZ hlt [])).1
  have w:zaf (1+(k:Int))=((1+k:Nat):Int):=by rw[wr (by omega) (by omega)];omega
  refine zgf (zad (decide_eq_true (by rw[zac,zjE];omega)) (ziO (k:=k) rfl (by rw[zjE];exact hlt) ?_))
  rw[zuh hlt,w];refine zaO hf (zaO (zkH V _ (by omega)) (zcc (k:=1+k) (by omega) e (zal ht ?_)))
  unfold chk;by_cases hq:T k=t0
  ·rw[if_pos hq,wrk (by unfold za9;omega)]
   exact zaa (nef hq) (ih (k+1) (by omega))
  ·rw[if_neg hq]
   exact zad (net hq) rfl
theorem zze (hv:CP D R):∀(s:Nat) (o n:Int) (kids:List (List AC)),Fit .expr [.int o,.int n,.sl 3 kids]→cS [.int o,.int n,.sl 3 kids]<s→s≤31→∀G M:List Int,(∀t∈G++M,0≤t∧t≤D.length)→(G++M).length+3*s≤1048576 →
  ∃t,zAR D R G M [.int o,.int n,.sl 3 kids] t:=by
 intro s;induction s with
 | zero=>intro o n kids _ h;omega
 | succ s ihs =>
  intro o n kids hf hs hs31 G M hV hlen;obtain⟨_,hn,hml,hk⟩:=zdj hf;have hcs:=zcm o n kids
  have hm:kids.length≤1048576:=by omega
  have hb:∀k,k<kids.length→∃o n ks,kids.getD k []=[.int o,.int n,.sl 3 ks]:=fun k hlt=>by
   obtain⟨o',n',ks,e,_⟩:=zdr hk hlt;exact⟨o',n',ks,e⟩
  -- a kid in a scope
  have kid:∀k,k<kids.length→∀X:List Int,X.length≤3→(∀t∈X,0≤t∧t≤D.length)→∃t,zAR D R G (M++X) (kids.getD k []) t:=fun k hlt X hX hXt=>by
   obtain⟨o',n',ks,e,hf'⟩:=zdr hk hlt;have h1:=zcz hlt (o:=o) (n:=n)
   rw[e] at h1 ⊢;refine ihs o' n' ks hf' (by omega) (by omega) G (M++X) (fun t ht=>?_) (by rw[←List.append_assoc,List.length_append];omega)
   rw[←List.append_assoc] at ht;rcases List.mem_append.1 ht with ht|ht
   ·exact hV t ht
   ·exact hXt t ht
  obtain⟨T,hT⟩:=zAN (fun k hlt=>kid k hlt [] (by simp) (fun t ht=>by cases ht))
  simp only[List.append_nil] at hT;have hTi:∀k,k<kids.length→∀o n ks,kids.getD k []=[.int o,.int n,.sl 3 ks]→iTy D R G M [.int o,.int n,.sl 3 ks]=rI (T k):=fun k hlt o n ks e=>by
   have:=(hT k hlt).2.1
   rw[e] at this;exact this
  have hTs:∀k,k<kids.length→∀o n ks,kids.getD k []=[.int o,.int n,.sl 3 ks]→sTy D R (G++M) [.int o,.int n,.sl 3 ks]=rI (T k):=fun k hlt o n ks e=>by
   have:=(hT k hlt).2.2.1
   rw[e] at this;exact this
  have hGM:G.length+M.length≤1048576:=by rw[List.length_append] at hlen;omega
  by_cases h12:o=12
  ·subst h12
   by_cases h0:kids.length=0
   rotate_left
   ·exact⟨-1,.inl rfl,zbg (zad rfl (zad (decide_eq_true (by omega)) rfl)),zda (zaa rfl (zad rfl (zaa (nz h0) rfl))),zfW⟩
   refine⟨tv (G++M) n,?_,zbg (zad rfl (zaa (decide_eq_false (by omega)) (zal (znX G M (by omega) (by omega) hn) rfl))),zda (zaa rfl (zad rfl (zad (zr h0) (zat (zeg _ _ _) ?_)))),fun h=>?_⟩
   ·unfold tv
    split
    ·rename_i hc
     exact .inr (hV _ (zaZ (by omega) 0))
    ·exact .inl rfl
   rotate_left
   ·unfold tv at h ⊢
    split at h
    ·rename_i hc
     rw[if_pos hc];exact .var _ _ _ h0 hc
    ·exact zfW h
   ·have hw:zaf ((((zab (G++M)).length:Nat):Int)-1)=((G++M).length:Int)-1:=by rw[zac,List.length_append];exact wr (by omega) (by omega)
    rw[hw];unfold tv;by_cases hc:0≤n∧n<(G++M).length
    ·rw[if_pos hc,decide_eq_true hc.1,decide_eq_true (show n≤((G++M).length:Int)-1 by omega)]
     exact zad rfl (ziO (k:=n.toNat) (by omega) (by omega) rfl)
    ·rw[if_neg hc]
     refine zaa ?_ rfl
     rw[Bool.and_eq_false_iff,decide_eq_false_iff_not,decide_eq_false_iff_not];omega
  by_cases h13:o=13
  ·subst h13
   have hi:∀r,zh4 [.agg [.sl 3 (zah D),.sl 5 (zaC R)],.agg [.sl 1 (zab G),.sl 1 (zab M)],.agg [.int 13,.int n,.sl 3 kids]]=rI r→iTy D R G M [.int 13,.int n,.sl 3 kids]=rI r:=fun r h=>zbg (zaa rfl (zad rfl (zal h rfl)))
   have hsp:∀r,(bif (n==0) then
        bif (((kids.length:Nat):Int)==2) then
         zei kids 0 [.int 0,.int 0,.sl 3 []] fun n25 n26 l27 =>
         zaz (zaH [.agg [.sl 3 (zah D),.sl 5 (zaC R)],.cell (.sl 1 (zab (G++M))),.agg [.int n25,.int n26,.sl 3 l27]]) false [(false,[.int 0])] fun n28 =>
         bif (decide (n28≥0)) then
          zaz (zbv [.cell (.sl 1 (zab (G++M))),.cell (.sl 1 [[.int n28]])]) false [(false,[.sl 1 []])] fun l29 =>
          zei kids 1 [.int 0,.int 0,.sl 3 []] fun n30 n31 l32 =>
          zaz (zaH [.agg [.sl 3 (zah D),.sl 5 (zaC R)],.cell (.sl 1 l29),.agg [.int n30,.int n31,.sl 3 l32]]) false [(false,[.int 0])] fun n33 =>
          some (.v (.cell (.int n33)))
         else
          some (.v (.cell (.int (-1))))
        else
         some (.v (.cell (.int (-1))))
       else
        some (.v (.cell (.int (-1)))):Option AV)=rI r→sTy D R (G++M) [.int 13,.int n,.sl 3 kids]=rI r:=fun r h=>zda (zaa rfl (zaa rfl (zaa rfl (zaa rfl (zaa rfl (zcJ (zaa rfl (zaa rfl (zaa rfl (zad rfl h))))))))))
   by_cases h0:n=0
   rotate_left
   ·exact⟨-1,.inl rfl,hi _ (zcW (zad (net h0) rfl)),hsp _ (zaa (eqf h0) rfl),zfW⟩
   by_cases h2:kids.length=2
   rotate_left
   ·exact⟨-1,.inl rfl,hi _ (zcW (zaa (nef h0) (zad (net (by omega)) rfl))),hsp _ (zad (eqt h0) (zaa (eqf (by omega)) rfl)),zfW⟩
   obtain⟨o0,n0,k0,e0⟩:=hb 0 (by omega)
   obtain⟨o1,n1,k1,e1⟩:=hb 1 (by omega)
   have t0i:=hTi 0 (by omega) _ _ _ e0
   have t0s:=hTs 0 (by omega) _ _ _ e0
   have t0o:=(hT 0 (by omega)).1
   by_cases hn0:T 0<0
   ·exact⟨-1,.inl rfl,hi _ (zcW (zaa (nef h0) (zaa (nef (by omega)) (zdx (by omega) e0 (zal t0i (zad (decide_eq_true hn0) rfl)))))),
     hsp _ (zad (eqt h0) (zad (eqt (by omega)) (zdx (by omega) e0 (zal t0s (zaa (decide_eq_false (by omega)) rfl))))),zfW⟩
   obtain⟨t,ht1,ht2,ht3,ht4⟩:=kid 1 (by omega) [T 0] (by simp) (fun x hx=>by
    simp only[List.mem_singleton] at hx;subst hx;rcases t0o with h|h <;> omega)
   rw[e1] at ht2 ht3 ht4;rw[←List.append_assoc] at ht3;exact⟨t,ht1,hi _ (zcW (zaa (nef h0) (zaa (nef (by omega)) (zdx (by omega) e0 (zal t0i (zaa (decide_eq_false hn0) (zp9 (zqE G M [T 0] (by simp;omega)) (zcc (k:=1) (by omega) e1 (zal ht2 rfl))))))))),
    hsp _ (zad (eqt h0) (zad (eqt (by omega)) (zdx (by omega) e0 (zal t0s (zad (decide_eq_true (by omega)) (zaO (zkH (G++M) [T 0] (by simp;omega)) (zcc (k:=1) (by omega) e1 (zal ht3 rfl)))))))),fun h=>by
     subst h0;refine .bind _ _ (T 0) _ h2 (by omega) ((hT 0 (by omega)).2.2.2 (by omega)) ?_
     rw[e1,List.append_assoc];exact ht4 h⟩
  by_cases h7:o=7
  ·subst h7
   have hi:∀r,zeA [.agg [.sl 3 (zah D),.sl 5 (zaC R)],.agg [.sl 1 (zab G),.sl 1 (zab M)],.agg [.int 7,.int n,.sl 3 kids]]=rI r→iTy D R G M [.int 7,.int n,.sl 3 kids]=rI r:=fun r h=>zbg (zaa rfl (zaa rfl (zad rfl (zal h rfl))))
   have hsp:∀r,(bif (n==0) then
        bif (((kids.length:Nat):Int)==3) then
          zei kids 0 [.int 0,.int 0,.sl 3 []] fun n34 n35 l36 =>
          zaz (zaH [.agg [.sl 3 (zah D),.sl 5 (zaC R)],.cell (.sl 1 (zab (G++M))),.agg [.int n34,.int n35,.sl 3 l36]]) false [(false,[.int 0])] fun n37 =>
          bif (n37==0) then
           zei kids 1 [.int 0,.int 0,.sl 3 []] fun n38 n39 l40 =>
           zaz (zaH [.agg [.sl 3 (zah D),.sl 5 (zaC R)],.cell (.sl 1 (zab (G++M))),.agg [.int n38,.int n39,.sl 3 l40]]) false [(false,[.int 0])] fun n41 =>
           zei kids 2 [.int 0,.int 0,.sl 3 []] fun n42 n43 l44 =>
           zaz (zaH [.agg [.sl 3 (zah D),.sl 5 (zaC R)],.cell (.sl 1 (zab (G++M))),.agg [.int n42,.int n43,.sl 3 l44]]) false [(false,[.int 0])] fun n45 =>
           bif (n45==n41) then
            some (.v (.cell (.int n41)))
           else
            some (.v (.cell (.int (-1))))
          else
           some (.v (.cell (.int (-1))))
         else
          some (.v (.cell (.int (-1))))
       else
        some (.v (.cell (.int (-1)))):Option AV)=rI r→sTy D R (G++M) [.int 7,.int n,.sl 3 kids]=rI r:=fun r h=>zda (zaa rfl (zaa rfl (zaa rfl (zaa rfl (zaa rfl (zcJ (zaa rfl (zaa rfl (zaa rfl (zaa rfl (zad rfl h)))))))))))
   by_cases h0:n=0
   rotate_left
   ·exact⟨-1,.inl rfl,hi _ (zc7 (zad (net h0) rfl)),hsp _ (zaa (eqf h0) rfl),zfW⟩
   by_cases h2:kids.length=3
   rotate_left
   ·exact⟨-1,.inl rfl,hi _ (zc7 (zaa (nef h0) (zad (net (by omega)) rfl))),hsp _ (zad (eqt h0) (zaa (eqf (by omega)) rfl)),zfW⟩
   obtain⟨o0,n0,k0,e0⟩:=hb 0 (by omega)
   obtain⟨o1,n1,k1,e1⟩:=hb 1 (by omega)
   obtain⟨o2,n2,k2,e2⟩:=hb 2 (by omega)
   have pre:∀r,(bif T 0 != 0 then rI (-1) else bif T 2 != T 1 then rI (-1) else rI (T 1))=rI r→iTy D R G M [.int 7,.int n,.sl 3 kids]=rI r:=fun r h=>by
    refine hi _ (zc7 (zaa (nef h0) (zaa (nef (by omega)) (zcc (k:=1) (by omega) e1 (zal (hTi 1 (by omega) _ _ _ e1) (zdx (by omega) e0 (zal (hTi 0 (by omega) _ _ _ e0) ?_)))))))
    by_cases hq:T 0=0
    ·rw[nef hq] at h
     refine zaa (nef hq) (zcc (k:=2) (by omega) e2 (zal (hTi 2 (by omega) _ _ _ e2) ?_))
     exact h
    ·rw[net hq] at h
     exact zad (net hq) h
   have prs:∀r,(bif T 0==0 then(bif T 2==T 1 then rI (T 1) else rI (-1)) else rI (-1))=rI r→sTy D R (G++M) [.int 7,.int n,.sl 3 kids]=rI r:=fun r h=>by
    refine hsp _ (zad (eqt h0) (zad (eqt (by omega)) (zdx (by omega) e0 (zal (hTs 0 (by omega) _ _ _ e0) ?_))))
    by_cases hq:T 0=0
    ·rw[eqt hq] at h
     exact zad (eqt hq) (zcc (k:=1) (by omega) e1 (zal (hTs 1 (by omega) _ _ _ e1) (zcc (k:=2) (by omega) e2 (zal (hTs 2 (by omega) _ _ _ e2) h))))
    ·rw[eqf hq] at h
     exact zaa (eqf hq) h
   by_cases hq:T 0=0
   rotate_left
   ·exact⟨-1,.inl rfl,pre _ (zad (net hq) rfl),prs _ (zaa (eqf hq) rfl),zfW⟩
   by_cases hq2:T 2=T 1
   ·exact⟨T 1,(hT 1 (by omega)).1,pre _ (zaa (nef hq) (zaa (nef hq2) rfl)),prs _ (zad (eqt hq) (zad (eqt hq2) rfl)),fun h=>by
     subst h0;have k0:=(hT 0 (by omega)).2.2.2 (by omega)
     have k2:=(hT 2 (by omega)).2.2.2 (by omega)
     rw[hq] at k0;rw[hq2] at k2;exact .ifz _ _ _ h2 k0 ((hT 1 (by omega)).2.2.2 h) k2⟩
   ·exact⟨-1,.inl rfl,pre _ (zaa (nef hq) (zad (net hq2) rfl)),prs _ (zad (eqt hq) (zaa (eqf hq2) rfl)),zfW⟩
  by_cases h8:o=8
  ·subst h8
   have hi:∀r,zf6 [.agg [.sl 3 (zah D),.sl 5 (zaC R)],.agg [.sl 1 (zab G),.sl 1 (zab M)],.agg [.int 8,.int n,.sl 3 kids]]=rI r→iTy D R G M [.int 8,.int n,.sl 3 kids]=rI r:=fun r h=>zbg (zaa rfl (zaa rfl (zaa rfl (zad rfl (zal h rfl)))))
   have hsp:∀r,zij [.agg [.sl 3 (zah D),.sl 5 (zaC R)],.cell (.sl 1 (zab (G++M))),.agg [.int 8,.int n,.sl 3 kids]]=rI r→sTy D R (G++M) [.int 8,.int n,.sl 3 kids]=rI r:=fun r h=>zda (zaa rfl (zaa rfl (zaa rfl (zaa rfl (zaa rfl (zcJ (zaa rfl (zaa rfl (zaa rfl (zaa rfl (zaa rfl (zad rfl (zal h rfl)))))))))))))
   have hl4:=hv.dv.len
   rcases hd:zur D n with _|_
   ·refine⟨-1,.inl rfl,hi _ (zer (zat (zpO (by omega) n) (by rw[hd];exact zad rfl rfl))),hsp _ (ziw (zaO (ztB hv.dv n) ?_)),zfW⟩
    refine zad ?_ rfl
    rw[zac];refine zr ?_
    split
    ·rename_i hc
     rw[zjE];unfold zur at hd;rw[decide_eq_true (show 0<n by omega),isTy_iff.2 (show 0≤n∧n≤(D.length:Int) by omega)] at hd
     simp only[Bool.true_and,decide_eq_false_iff_not] at hd;omega
    ·rfl
   have hda:(1≤n∧n≤D.length)∧0<(gD D (n.toNat-1)).cs.length:=by
    unfold zur at hd;simp only[Bool.and_eq_true,decide_eq_true_eq] at hd;have:=isTy_iff.1 hd.2.1
    exact⟨by omega,hd.2.2⟩
   have hco:=ztB hv.dv n
   rw[if_pos hda.1] at hco;have hj:n.toNat-1<D.length:=by omega
   have w:zaf (n-1)=((n.toNat-1:Nat):Int):=by rw[wr (by omega) (by omega)];omega
   generalize hjd:n.toNat-1=j at hj w hco hda
   have hc3:=hv.dv.cs j hj
   have hfs:∀k,k<(gD D j).cs.length→((gD D j).cs.getD k []).length≤3∧∀t∈(gD D j).cs.getD k [],0≤t∧t≤D.length:=fun k hk=>hv.dv.c j hj _ (zaZ hk [])
   have wl:zaf (1+((((gD D j).cs.length:Nat)):Int))=((1+(gD D j).cs.length:Nat):Int):=by rw[wr (by omega) (by omega)];omega
   have prei:∀r,(bif (((kids.length:Nat):Int) != ((1+(gD D j).cs.length:Nat):Int)) then rI (-1) else
     zei kids 0 [.int 0,.int 0,.sl 3 []] fun n12 n13 l14 =>
     zaz (zbi [.agg [.sl 3 (zah D),.sl 5 (zaC R)],.agg [.sl 1 (zab G),.sl 1 (zab M)],.agg [.int n12,.int n13,.sl 3 l14]]) false [(false,[.int 0])] fun n15 =>
     bif (n15 != n) then
      some (.v (.cell (.int (-1))))
     else
      zei (zcS (gD D j).cs) 0 [.sl 1 []] fun l16 =>
      zaz (zhr [.agg [.sl 1 (zab G),.sl 1 (zab M)],.cell (.sl 1 l16)]) false [(true,[.sl 1 [],.sl 1 []])] fun l17 l18 =>
      zei kids 1 [.int 0,.int 0,.sl 3 []] fun n19 n20 l21 =>
      zaz (zbi [.agg [.sl 3 (zah D),.sl 5 (zaC R)],.agg [.sl 1 l17,.sl 1 l18],.agg [.int n19,.int n20,.sl 3 l21]]) false [(false,[.int 0])] fun n22 =>
      zch (zah D) (zaC R) (zab G) (zab M) 8 n kids (zcS (gD D j).cs) n22 1:Option AV)=rI r→iTy D R G M [.int 8,.int n,.sl 3 kids]=rI r:=fun r h=>by
    refine hi _ (zer (zat (zpO (by omega) n) ?_))
    rw[hd];refine zaa rfl (zbA (k:=j) w hj ?_)
    rw[zaX,wl];exact h
   have pres:∀r,(bif (((kids.length:Nat):Int) != ((1+(gD D j).cs.length:Nat):Int)) then rI (-1) else
     zei kids 0 [.int 0,.int 0,.sl 3 []] fun n8 n9 l10 =>
     zaz (zaH [.agg [.sl 3 (zah D),.sl 5 (zaC R)],.cell (.sl 1 (zab (G++M))),.agg [.int n8,.int n9,.sl 3 l10]]) false [(false,[.int 0])] fun n11 =>
     bif (n11 != n) then
      some (.v (.cell (.int (-1))))
     else
      zei (zab (cL D j)) 0 [.int 0] fun n12 =>
      zaz (zaE [.cell (.sl 3 (zah D)),.cell (.int n12)]) false [(false,[.sl 1 []])] fun l13 =>
      zaz (zbv [.cell (.sl 1 (zab (G++M))),.cell (.sl 1 l13)]) false [(false,[.sl 1 []])] fun l14 =>
      zei kids 1 [.int 0,.int 0,.sl 3 []] fun n15 n16 l17 =>
      zaz (zaH [.agg [.sl 3 (zah D),.sl 5 (zaC R)],.cell (.sl 1 l14),.agg [.int n15,.int n16,.sl 3 l17]]) false [(false,[.int 0])] fun n18 =>
      zcX (zab (G++M)) (zah D) (zaC R) 8 n kids (zab (cL D j)) n18 1:Option AV)=rI r→sTy D R (G++M) [.int 8,.int n,.sl 3 kids]=rI r:=fun r h=>by
    refine hsp _ (ziw (zaO hco ?_))
    rw[zac,zjE,wl];exact zaa (nz (by omega)) h
   by_cases hl:kids.length=1+(gD D j).cs.length
   rotate_left
   ·exact⟨-1,.inl rfl,prei _ (zad (net (by omega)) rfl),pres _ (zad (net (by omega)) rfl),zfW⟩
   obtain⟨o0,n0,k0,e0⟩:=hb 0 (by omega)
   by_cases hq:T 0=n
   rotate_left
   ·exact⟨-1,.inl rfl,prei _ (zaa (nef (by omega)) (zdx (by omega) e0 (zal (hTi 0 (by omega) _ _ _ e0) (zad (net hq) rfl)))),
     pres _ (zaa (nef (by omega)) (zdx (by omega) e0 (zal (hTs 0 (by omega) _ _ _ e0) (zad (net hq) rfl)))),zfW⟩
   obtain⟨S,hS⟩:=zAN (m:=(gD D j).cs.length) (fun k hlt=>kid (1+k) (by omega) ((gD D j).cs.getD k []) (hfs k hlt).1 (hfs k hlt).2)
   have hSs:∀k,k<(gD D j).cs.length→sTy D R ((G++M)++(gD D j).cs.getD k []) (kids.getD (1+k) [])=rI (S k):=fun k hk=>by
    rw[List.append_assoc];exact(hS k hk).2.2.1
   obtain⟨o1,n1,k1,e1⟩:=hb 1 (by omega)
   have s0i:=(hS 0 hda.2).2.1
   have s0s:=hSs 0 hda.2
   rw[e1] at s0i s0s;have li:=zsR (D:=D) (R:=R) G M (by omega) 8 n kids (gD D j).cs S (by omega) hm (fun k hk=>(hfs k hk).1) hb (fun k hk=>(hS k hk).2.1) (S 0) ((gD D j).cs.length-1) 1 (by omega)
   have ls:=zwV hv (G++M) (by rw[List.length_append];omega) 8 n kids j hj S (by omega) hb hSs (S 0) ((gD D j).cs.length-1) 1 (by omega)
   obtain⟨c1,c2⟩:=zsW (D:=D) hj hda.2;have hfl:=ziB hv.dv ((zby (D.take j)+0:Nat):Int)
   rw[if_neg (by omega),c2] at hfl
   have hb0:M.length+((gD D j).cs.getD 0 []).length≤68719476736:=by
    have:=(hfs 0 hda.2).1
    omega
   have hb1:(G++M).length+((gD D j).cs.getD 0 []).length≤68719476736:=by
    have:=(hfs 0 hda.2).1
    rw[List.length_append];omega
   refine⟨chk S (S 0) ((gD D j).cs.length-1) 1,zwl (hS 0 hda.2).1 _ _,prei _ (zaa (nef (by omega)) (zdx (by omega) e0 (zal (hTi 0 (by omega) _ _ _ e0) (zaa (nef hq) (zko (k:=0) rfl hda.2 (zp9 (zqE G M _ hb0) (zcc (k:=1) (by omega) e1 (zal s0i li)))))))),?_,fun h=>?_⟩
   rotate_left
   ·obtain⟨g1,g2⟩:=zu2 _ _ h
    have hct:∀m k,0≤chk S (S 0) m k→chk S (S 0) m k=S 0:=by
     intro m;induction m with
     | zero=>intro k h;rfl
     | succ m ih =>
      intro k h;unfold chk at h ⊢;split at h
      ·rename_i e;rw[if_pos e];exact ih _ h
      ·exact zfW h
    rw[hct _ _ h];have k0:=(hT 0 (by omega)).2.2.2 (by omega)
    rw[hq] at k0;refine .mtch _ _ j n _ (by omega) hj hda.2 hl k0 fun k hk=>?_
    have hSk:S k=S 0:=by
     by_cases h1:k=0
     ·rw[h1]
     ·exact g2 k (by omega) (by omega)
    have:=(hS k hk).2.2.2 (by rw[hSk];exact g1)
    rw[hSk,←List.append_assoc] at this;exact this
   refine pres _ (zaa (nef (by omega)) (zdx (by omega) e0 (zal (hTs 0 (by omega) _ _ _ e0) (zaa (nef hq) (ziO (k:=0) rfl (by rw[zjE];exact hda.2) ?_)))))
   rw[zuh hda.2];exact zaO hfl (zaO (zkH (G++M) _ hb1) (zcc (k:=1) (by omega) e1 (zal s0s ls)))
  exact⟨zlK D R o n (tyL T kids.length),zyH hv o n _,zbg (zaa (eqf h12) (zaa (eqf h13) (zaa (eqf h7) (zaa (eqf h8) (zaO (zrI G M kids (by omega) T hb hTi) (zal (znW hv o n _ (by rw[zc5];exact hml)) rfl)))))),
   zBt hv (G++M) kids hml T hb hTs h12 h13 h7 h8,fun h=>.op _ _ _ _ T _ h12 h13 h7 h8 (fun k hk=>(hT k hk).2.2.2 ((zxz hv h).2 k hk)) rfl h⟩
end
end
section
open Go
structure PIn (D:List DM) (R:List PM):Prop where
 d:∀d∈D,DOk d
 r:∀x∈R,POk x
 dl:D.length≤za9
 rl:R.length≤za9
theorem zuD {ds fs:List (List AC)} (h:Fit .prog [.sl 3 ds,.sl 5 fs]):∃D R,ds=zah D∧fs=zaC R∧PIn D R:=by
 generalize ht:Ty.prog=t at h
 generalize hx:[AC.sl 3 ds,AC.sl 5 fs]=x at h
 cases h with
 | prog ds' fs' hd hf h1 h2 =>
  simp only[List.cons.injEq,AC.sl.injEq,true_and,and_true] at hx;obtain⟨rfl,rfl⟩:=hx;obtain⟨D,rfl,hD⟩:=ztf h1;obtain⟨R,rfl,hR⟩:=zuR h2;exact⟨D,R,rfl,rfl,hD,hR,by simpa [zah] using hd,by simpa [zaC] using hf⟩
 | _=>cases ht
section
variable {D:List DM}{R:List PM}
theorem zmH {x:List AC}:decide (zjl x<0)=!decide (cS x≤29):=by
 unfold zjl;split
 ·rename_i h;rw[decide_eq_true h,decide_eq_false (by omega)];rfl
 ·rename_i h;rw[decide_eq_false h];rfl
end
end
section
open Go
end
section
open Go Go.RowKit
def wB (n:Int) (ys:List Int):List Int:=ys.filter fun y=>!(y==n)
theorem zuF {x:List AC}:(cS x≤29∧decide (zjl x<0)=false)∨(¬cS x≤29∧decide (zjl x<0)=true):=by
 unfold zjl;by_cases h:cS x≤29
 ·rw[if_pos h];exact .inl ⟨h,decide_eq_false (by omega)⟩
 ·rw[if_neg h];exact .inr ⟨h,rfl⟩
end
end Go.Proofs.Ytcpcagdialnbeaa
