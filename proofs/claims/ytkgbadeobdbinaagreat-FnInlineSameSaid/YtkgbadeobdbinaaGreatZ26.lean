/- Generic texts and models for the proofs of this seat: part 26. -/
import Derived.Test.YtkgbadeobdbinaaGreatZ25
set_option linter.unusedVariables false
set_option linter.unusedSimpArgs false
namespace Go.Proofs.YtkgbadeobdbinaaGreat
section
open Go
section
variable {D:List DM}{R:List PM}
def zyq (D:List DM) (R:List PM) (G M:List Int) (x:List AC) (t:Int):Prop:=okT D t∧iTy D R G M x=rI t∧sTy D R (G++M) x=rI t∧(0≤t→HT D R (G++M) x t)
theorem zv6 (G M:List Int) (hM:M.length≤2147483648) (o n:Int) (kids:List (List AC)) (fs:List (List Int)) (T:Nat→Int) (hl:fs.length+1=kids.length) (hm:kids.length≤1048576) (h3:∀k,k<fs.length→(fs.getD k []).length≤3)
  (hb:∀k,k<kids.length→∃o n ks,kids.getD k []=[.int o,.int n,.sl 3 ks])
  (hT:∀k,k<fs.length→iTy D R G (M++fs.getD k []) (kids.getD (1+k) [])=rI (T k)) (t0:Int) :
  ∀m k:Nat,k+m=fs.length→zcC (zaf D) (zak R) (zad G) (zad M) o n kids (zbZ fs) t0 (k:Int)=rI (chk T t0 m k):=by
 intro m;induction m with
 | zero =>
  intro k hk;exact zgI (zaa (decide_eq_false (by rw[zaK];omega)) rfl)
 | succ m ih =>
  intro k hk;have hlt:k<fs.length:=by omega
  obtain⟨o',n',ks,e⟩:=hb (1+k) (by omega)
  have ht:=hT k hlt
  rw[e] at ht;have w:zae (1+(k:Int))=((1+k:Nat):Int):=by rw[wr (by omega) (by omega)];omega
  refine zgI (zac (decide_eq_true (by rw[zaK];omega)) (zhP (k:=k) rfl (by omega) (zsB (zrN G M _ (by have:=h3 k hlt;omega)) ?_)))
  rw[w];refine zbu (k:=1+k) (by omega) e (zar ht ?_)
  unfold chk;by_cases hq:T k=t0
  ·rw[if_pos hq,wrk (by unfold zaI;omega)]
   exact zaa (nef hq) (ih (k+1) (by omega))
  ·rw[if_neg hq]
   exact zac (net hq) rfl
theorem zCe (hv:CP D R) (V:List Int) (hV:V.length≤2147483648) (o n:Int) (kids:List (List AC)) (j:Nat) (hj:j<D.length) (T:Nat→Int) (hl:(gD D j).cs.length+1=kids.length)
  (hb:∀k,k<kids.length→∃o n ks,kids.getD k []=[.int o,.int n,.sl 3 ks])
  (hT:∀k,k<(gD D j).cs.length→sTy D R (V++(gD D j).cs.getD k []) (kids.getD (1+k) [])=rI (T k)) (t0:Int) :
  ∀m k:Nat,k+m=(gD D j).cs.length→zdi (zad V) (zaf D) (zak R) o n kids (zad (cL D j)) t0 (k:Int)=rI (chk T t0 m k):=by
 have hc:=hv.dv.cs j hj
 intro m;induction m with
 | zero =>
  intro k hk;exact zis (zaa (decide_eq_false (by rw[zab,zla];omega)) rfl)
 | succ m ih =>
  intro k hk;have hlt:k<(gD D j).cs.length:=by omega
  obtain⟨o',n',ks,e⟩:=hb (1+k) (by omega)
  have ht:=hT k hlt
  rw[e] at ht;obtain⟨c1,c2⟩:=zr7 (D:=D) hj hlt;have hf:=zh3 hv.dv ((zbG (D.take j)+k:Nat):Int)
  rw[if_neg (by omega),c2] at hf
  have h3:=(hv.dv.c j hj _ (zaE hlt [])).1
  have w:zae (1+(k:Int))=((1+k:Nat):Int):=by rw[wr (by omega) (by omega)];omega
  refine zis (zac (decide_eq_true (by rw[zab,zla];omega)) (zjV (k:=k) rfl (by rw[zla];exact hlt) ?_))
  rw[zuJ hlt,w];refine zav hf (zav (zmM V _ (by omega)) (zbu (k:=1+k) (by omega) e (zar ht ?_)))
  unfold chk;by_cases hq:T k=t0
  ·rw[if_pos hq,wrk (by unfold zaI;omega)]
   exact zaa (nef hq) (ih (k+1) (by omega))
  ·rw[if_neg hq]
   exact zac (net hq) rfl
theorem zCP (hv:CP D R):∀(s:Nat) (o n:Int) (kids:List (List AC)),Fit .expr [.int o,.int n,.sl 3 kids]→cS [.int o,.int n,.sl 3 kids]<s→s≤31→∀G M:List Int,(∀t∈G++M,0≤t∧t≤D.length)→(G++M).length+3*s≤1048576 →
  ∃t,zyq D R G M [.int o,.int n,.sl 3 kids] t:=by
 intro s;induction s with
 | zero=>intro o n kids _ h;omega
 | succ s ihs =>
  intro o n kids hf hs hs31 G M hV hlen;obtain⟨_,hn,hml,hk⟩:=zd3 hf;have hcs:=zbv o n kids
  have hm:kids.length≤1048576:=by omega
  have hb:∀k,k<kids.length→∃o n ks,kids.getD k []=[.int o,.int n,.sl 3 ks]:=fun k hlt=>by
   obtain⟨o',n',ks,e,_⟩:=zcE hk hlt;exact⟨o',n',ks,e⟩
  -- a kid in a scope
  have kid:∀k,k<kids.length→∀X:List Int,X.length≤3→(∀t∈X,0≤t∧t≤D.length)→∃t,zyq D R G (M++X) (kids.getD k []) t:=fun k hlt X hX hXt=>by
   obtain⟨o',n',ks,e,hf'⟩:=zcE hk hlt;have h1:=zaO hlt (o:=o) (n:=n)
   rw[e] at h1 ⊢;refine ihs o' n' ks hf' (by omega) (by omega) G (M++X) (fun t ht=>?_) (by rw[←List.append_assoc,List.length_append];omega)
   rw[←List.append_assoc] at ht;rcases List.mem_append.1 ht with ht|ht
   ·exact hV t ht
   ·exact hXt t ht
  obtain⟨T,hT⟩:=zz6 (fun k hlt=>kid k hlt [] (by simp) (fun t ht=>by cases ht))
  simp only[List.append_nil] at hT;have hTi:∀k,k<kids.length→∀o n ks,kids.getD k []=[.int o,.int n,.sl 3 ks]→iTy D R G M [.int o,.int n,.sl 3 ks]=rI (T k):=fun k hlt o n ks e=>by
   have:=(hT k hlt).2.1
   rw[e] at this;exact this
  have hTs:∀k,k<kids.length→∀o n ks,kids.getD k []=[.int o,.int n,.sl 3 ks]→sTy D R (G++M) [.int o,.int n,.sl 3 ks]=rI (T k):=fun k hlt o n ks e=>by
   have:=(hT k hlt).2.2.1
   rw[e] at this;exact this
  have hGM:G.length+M.length≤1048576:=by rw[List.length_append] at hlen;omega
  by_cases h12:o=12
  ·subst h12
   by_cases h0:kids.length=0
   rotate_left
   ·exact⟨-1,.inl rfl,zbB (zac rfl (zac (decide_eq_true (by omega)) rfl)),zdD (zaa rfl (zac rfl (zaa (nz h0) rfl))),zeU⟩
   refine⟨tv (G++M) n,?_,zbB (zac rfl (zaa (decide_eq_false (by omega)) (zar (zqE G M (by omega) (by omega) hn) rfl))),zdD (zaa rfl (zac rfl (zac (zr h0) (zan (zdF _ _ _) ?_)))),fun h=>?_⟩
   ·unfold tv
    split
    ·rename_i hc
     exact .inr (hV _ (zaE (by omega) 0))
    ·exact .inl rfl
   rotate_left
   ·unfold tv at h ⊢
    split at h
    ·rename_i hc
     rw[if_pos hc];exact .var _ _ _ h0 hc
    ·exact zeU h
   ·have hw:zae ((((zad (G++M)).length:Nat):Int)-1)=((G++M).length:Int)-1:=by rw[zab,List.length_append];exact wr (by omega) (by omega)
    rw[hw];unfold tv;by_cases hc:0≤n∧n<(G++M).length
    ·rw[if_pos hc,decide_eq_true hc.1,decide_eq_true (show n≤((G++M).length:Int)-1 by omega)]
     exact zac rfl (zjV (k:=n.toNat) (by omega) (by omega) rfl)
    ·rw[if_neg hc]
     refine zaa ?_ rfl
     rw[Bool.and_eq_false_iff,decide_eq_false_iff_not,decide_eq_false_iff_not];omega
  by_cases h13:o=13
  ·subst h13
   have hi:∀r,zjP [.agg [.sl 3 (zaf D),.sl 5 (zak R)],.agg [.sl 1 (zad G),.sl 1 (zad M)],.agg [.int 13,.int n,.sl 3 kids]]=rI r→iTy D R G M [.int 13,.int n,.sl 3 kids]=rI r:=fun r h=>zbB (zaa rfl (zac rfl (zar h rfl)))
   have hsp:∀r,(bif (n==0) then
        bif (((kids.length:Nat):Int)==2) then
         zdM kids 0 [.int 0,.int 0,.sl 3 []] fun n25 n26 l27 =>
         zaC (zaN [.agg [.sl 3 (zaf D),.sl 5 (zak R)],.cell (.sl 1 (zad (G++M))),.agg [.int n25,.int n26,.sl 3 l27]]) false [(false,[.int 0])] fun n28 =>
         bif (decide (n28≥0)) then
          zaC (zbI [.cell (.sl 1 (zad (G++M))),.cell (.sl 1 [[.int n28]])]) false [(false,[.sl 1 []])] fun l29 =>
          zdM kids 1 [.int 0,.int 0,.sl 3 []] fun n30 n31 l32 =>
          zaC (zaN [.agg [.sl 3 (zaf D),.sl 5 (zak R)],.cell (.sl 1 l29),.agg [.int n30,.int n31,.sl 3 l32]]) false [(false,[.int 0])] fun n33 =>
          some (.v (.cell (.int n33)))
         else
          some (.v (.cell (.int (-1))))
        else
         some (.v (.cell (.int (-1))))
       else
        some (.v (.cell (.int (-1)))):Option AV)=rI r→sTy D R (G++M) [.int 13,.int n,.sl 3 kids]=rI r:=fun r h=>zdD (zaa rfl (zaa rfl (zaa rfl (zaa rfl (zaa rfl (zcM (zaa rfl (zaa rfl (zaa rfl (zac rfl h))))))))))
   by_cases h0:n=0
   rotate_left
   ·exact⟨-1,.inl rfl,hi _ (zc8 (zac (net h0) rfl)),hsp _ (zaa (eqf h0) rfl),zeU⟩
   by_cases h2:kids.length=2
   rotate_left
   ·exact⟨-1,.inl rfl,hi _ (zc8 (zaa (nef h0) (zac (net (by omega)) rfl))),hsp _ (zac (eqt h0) (zaa (eqf (by omega)) rfl)),zeU⟩
   obtain⟨o0,n0,k0,e0⟩:=hb 0 (by omega)
   obtain⟨o1,n1,k1,e1⟩:=hb 1 (by omega)
   have t0i:=hTi 0 (by omega) _ _ _ e0
   have t0s:=hTs 0 (by omega) _ _ _ e0
   have t0o:=(hT 0 (by omega)).1
   by_cases hn0:T 0<0
   ·exact⟨-1,.inl rfl,hi _ (zc8 (zaa (nef h0) (zaa (nef (by omega)) (zeD (by omega) e0 (zar t0i (zac (decide_eq_true hn0) rfl)))))),
     hsp _ (zac (eqt h0) (zac (eqt (by omega)) (zeD (by omega) e0 (zar t0s (zaa (decide_eq_false (by omega)) rfl))))),zeU⟩
   obtain⟨t,ht1,ht2,ht3,ht4⟩:=kid 1 (by omega) [T 0] (by simp) (fun x hx=>by
    simp only[List.mem_singleton] at hx;subst hx;rcases t0o with h|h <;> omega)
   rw[e1] at ht2 ht3 ht4;rw[←List.append_assoc] at ht3;exact⟨t,ht1,hi _ (zc8 (zaa (nef h0) (zaa (nef (by omega)) (zeD (by omega) e0 (zar t0i (zaa (decide_eq_false hn0) (zsB (zrN G M [T 0] (by simp;omega)) (zbu (k:=1) (by omega) e1 (zar ht2 rfl))))))))),
    hsp _ (zac (eqt h0) (zac (eqt (by omega)) (zeD (by omega) e0 (zar t0s (zac (decide_eq_true (by omega)) (zav (zmM (G++M) [T 0] (by simp;omega)) (zbu (k:=1) (by omega) e1 (zar ht3 rfl)))))))),fun h=>by
     subst h0;refine .bind _ _ (T 0) _ h2 (by omega) ((hT 0 (by omega)).2.2.2 (by omega)) ?_
     rw[e1,List.append_assoc];exact ht4 h⟩
  by_cases h7:o=7
  ·subst h7
   have hi:∀r,zhX [.agg [.sl 3 (zaf D),.sl 5 (zak R)],.agg [.sl 1 (zad G),.sl 1 (zad M)],.agg [.int 7,.int n,.sl 3 kids]]=rI r→iTy D R G M [.int 7,.int n,.sl 3 kids]=rI r:=fun r h=>zbB (zaa rfl (zaa rfl (zac rfl (zar h rfl))))
   have hsp:∀r,(bif (n==0) then
        bif (((kids.length:Nat):Int)==3) then
          zdM kids 0 [.int 0,.int 0,.sl 3 []] fun n34 n35 l36 =>
          zaC (zaN [.agg [.sl 3 (zaf D),.sl 5 (zak R)],.cell (.sl 1 (zad (G++M))),.agg [.int n34,.int n35,.sl 3 l36]]) false [(false,[.int 0])] fun n37 =>
          bif (n37==0) then
           zdM kids 1 [.int 0,.int 0,.sl 3 []] fun n38 n39 l40 =>
           zaC (zaN [.agg [.sl 3 (zaf D),.sl 5 (zak R)],.cell (.sl 1 (zad (G++M))),.agg [.int n38,.int n39,.sl 3 l40]]) false [(false,[.int 0])] fun n41 =>
           zdM kids 2 [.int 0,.int 0,.sl 3 []] fun n42 n43 l44 =>
           zaC (zaN [.agg [.sl 3 (zaf D),.sl 5 (zak R)],.cell (.sl 1 (zad (G++M))),.agg [.int n42,.int n43,.sl 3 l44]]) false [(false,[.int 0])] fun n45 =>
           bif (n45==n41) then
            some (.v (.cell (.int n41)))
           else
            some (.v (.cell (.int (-1))))
          else
           some (.v (.cell (.int (-1))))
         else
          some (.v (.cell (.int (-1))))
       else
        some (.v (.cell (.int (-1)))):Option AV)=rI r→sTy D R (G++M) [.int 7,.int n,.sl 3 kids]=rI r:=fun r h=>zdD (zaa rfl (zaa rfl (zaa rfl (zaa rfl (zaa rfl (zcM (zaa rfl (zaa rfl (zaa rfl (zaa rfl (zac rfl h)))))))))))
   by_cases h0:n=0
   rotate_left
   ·exact⟨-1,.inl rfl,hi _ (ze5 (zac (net h0) rfl)),hsp _ (zaa (eqf h0) rfl),zeU⟩
   by_cases h2:kids.length=3
   rotate_left
   ·exact⟨-1,.inl rfl,hi _ (ze5 (zaa (nef h0) (zac (net (by omega)) rfl))),hsp _ (zac (eqt h0) (zaa (eqf (by omega)) rfl)),zeU⟩
   obtain⟨o0,n0,k0,e0⟩:=hb 0 (by omega)
   obtain⟨o1,n1,k1,e1⟩:=hb 1 (by omega)
   obtain⟨o2,n2,k2,e2⟩:=hb 2 (by omega)
   have pre:∀r,(bif T 0 != 0 then rI (-1) else bif T 2 != T 1 then rI (-1) else rI (T 1))=rI r→iTy D R G M [.int 7,.int n,.sl 3 kids]=rI r:=fun r h=>by
    refine hi _ (ze5 (zaa (nef h0) (zaa (nef (by omega)) (zbu (k:=1) (by omega) e1 (zar (hTi 1 (by omega) _ _ _ e1) (zeD (by omega) e0 (zar (hTi 0 (by omega) _ _ _ e0) ?_)))))))
    by_cases hq:T 0=0
    ·rw[nef hq] at h
     refine zaa (nef hq) (zbu (k:=2) (by omega) e2 (zar (hTi 2 (by omega) _ _ _ e2) ?_))
     exact h
    ·rw[net hq] at h
     exact zac (net hq) h
   have prs:∀r,(bif T 0==0 then(bif T 2==T 1 then rI (T 1) else rI (-1)) else rI (-1))=rI r→sTy D R (G++M) [.int 7,.int n,.sl 3 kids]=rI r:=fun r h=>by
    refine hsp _ (zac (eqt h0) (zac (eqt (by omega)) (zeD (by omega) e0 (zar (hTs 0 (by omega) _ _ _ e0) ?_))))
    by_cases hq:T 0=0
    ·rw[eqt hq] at h
     exact zac (eqt hq) (zbu (k:=1) (by omega) e1 (zar (hTs 1 (by omega) _ _ _ e1) (zbu (k:=2) (by omega) e2 (zar (hTs 2 (by omega) _ _ _ e2) h))))
    ·rw[eqf hq] at h
     exact zaa (eqf hq) h
   by_cases hq:T 0=0
   rotate_left
   ·exact⟨-1,.inl rfl,pre _ (zac (net hq) rfl),prs _ (zaa (eqf hq) rfl),zeU⟩
   by_cases hq2:T 2=T 1
   ·exact⟨T 1,(hT 1 (by omega)).1,pre _ (zaa (nef hq) (zaa (nef hq2) rfl)),prs _ (zac (eqt hq) (zac (eqt hq2) rfl)),fun h=>by
     subst h0;have k0:=(hT 0 (by omega)).2.2.2 (by omega)
     have k2:=(hT 2 (by omega)).2.2.2 (by omega)
     rw[hq] at k0;rw[hq2] at k2;exact .ifz _ _ _ h2 k0 ((hT 1 (by omega)).2.2.2 h) k2⟩
   ·exact⟨-1,.inl rfl,pre _ (zaa (nef hq) (zac (net hq2) rfl)),prs _ (zac (eqt hq) (zaa (eqf hq2) rfl)),zeU⟩
  by_cases h8:o=8
  ·subst h8
   have hi:∀r,zhH [.agg [.sl 3 (zaf D),.sl 5 (zak R)],.agg [.sl 1 (zad G),.sl 1 (zad M)],.agg [.int 8,.int n,.sl 3 kids]]=rI r→iTy D R G M [.int 8,.int n,.sl 3 kids]=rI r:=fun r h=>zbB (zaa rfl (zaa rfl (zaa rfl (zac rfl (zar h rfl)))))
   have hsp:∀r,zkg [.agg [.sl 3 (zaf D),.sl 5 (zak R)],.cell (.sl 1 (zad (G++M))),.agg [.int 8,.int n,.sl 3 kids]]=rI r→sTy D R (G++M) [.int 8,.int n,.sl 3 kids]=rI r:=fun r h=>zdD (zaa rfl (zaa rfl (zaa rfl (zaa rfl (zaa rfl (zcM (zaa rfl (zaa rfl (zaa rfl (zaa rfl (zaa rfl (zac rfl (zar h rfl)))))))))))))
   have hl4:=hv.dv.len
   rcases hd:zxt D n with _|_
   ·refine⟨-1,.inl rfl,hi _ (zfs (zan (zs6 (by omega) n) (by rw[hd];exact zac rfl rfl))),hsp _ (zkG (zav (zsO hv.dv n) ?_)),zeU⟩
    refine zac ?_ rfl
    rw[zab];refine zr ?_
    split
    ·rename_i hc
     rw[zla];unfold zxt at hd;rw[decide_eq_true (show 0<n by omega),isTy_iff.2 (show 0≤n∧n≤(D.length:Int) by omega)] at hd
     simp only[Bool.true_and,decide_eq_false_iff_not] at hd;omega
    ·rfl
   have hda:(1≤n∧n≤D.length)∧0<(gD D (n.toNat-1)).cs.length:=by
    unfold zxt at hd;simp only[Bool.and_eq_true,decide_eq_true_eq] at hd;have:=isTy_iff.1 hd.2.1
    exact⟨by omega,hd.2.2⟩
   have hco:=zsO hv.dv n
   rw[if_pos hda.1] at hco;have hj:n.toNat-1<D.length:=by omega
   have w:zae (n-1)=((n.toNat-1:Nat):Int):=by rw[wr (by omega) (by omega)];omega
   generalize hjd:n.toNat-1=j at hj w hco hda
   have hc3:=hv.dv.cs j hj
   have hfs:∀k,k<(gD D j).cs.length→((gD D j).cs.getD k []).length≤3∧∀t∈(gD D j).cs.getD k [],0≤t∧t≤D.length:=fun k hk=>hv.dv.c j hj _ (zaE hk [])
   have wl:zae (1+((((gD D j).cs.length:Nat)):Int))=((1+(gD D j).cs.length:Nat):Int):=by rw[wr (by omega) (by omega)];omega
   have prei:∀r,(bif (((kids.length:Nat):Int) != ((1+(gD D j).cs.length:Nat):Int)) then rI (-1) else
     zdM kids 0 [.int 0,.int 0,.sl 3 []] fun n12 n13 l14 =>
     zaC (zby [.agg [.sl 3 (zaf D),.sl 5 (zak R)],.agg [.sl 1 (zad G),.sl 1 (zad M)],.agg [.int n12,.int n13,.sl 3 l14]]) false [(false,[.int 0])] fun n15 =>
     bif (n15 != n) then
      some (.v (.cell (.int (-1))))
     else
      zdM (zbZ (gD D j).cs) 0 [.sl 1 []] fun l16 =>
      zaC (zjB [.agg [.sl 1 (zad G),.sl 1 (zad M)],.cell (.sl 1 l16)]) false [(true,[.sl 1 [],.sl 1 []])] fun l17 l18 =>
      zdM kids 1 [.int 0,.int 0,.sl 3 []] fun n19 n20 l21 =>
      zaC (zby [.agg [.sl 3 (zaf D),.sl 5 (zak R)],.agg [.sl 1 l17,.sl 1 l18],.agg [.int n19,.int n20,.sl 3 l21]]) false [(false,[.int 0])] fun n22 =>
      zcC (zaf D) (zak R) (zad G) (zad M) 8 n kids (zbZ (gD D j).cs) n22 1:Option AV)=rI r→iTy D R G M [.int 8,.int n,.sl 3 kids]=rI r:=fun r h=>by
    refine hi _ (zfs (zan (zs6 (by omega) n) ?_))
    rw[hd];refine zaa rfl (za5 (k:=j) w hj ?_)
    rw[zaK,wl];exact h
   have pres:∀r,(bif (((kids.length:Nat):Int) != ((1+(gD D j).cs.length:Nat):Int)) then rI (-1) else
     zdM kids 0 [.int 0,.int 0,.sl 3 []] fun n8 n9 l10 =>
     zaC (zaN [.agg [.sl 3 (zaf D),.sl 5 (zak R)],.cell (.sl 1 (zad (G++M))),.agg [.int n8,.int n9,.sl 3 l10]]) false [(false,[.int 0])] fun n11 =>
     bif (n11 != n) then
      some (.v (.cell (.int (-1))))
     else
      zdM (zad (cL D j)) 0 [.int 0] fun n12 =>
      zaC (zaF [.cell (.sl 3 (zaf D)),.cell (.int n12)]) false [(false,[.sl 1 []])] fun l13 =>
      zaC (zbI [.cell (.sl 1 (zad (G++M))),.cell (.sl 1 l13)]) false [(false,[.sl 1 []])] fun l14 =>
      zdM kids 1 [.int 0,.int 0,.sl 3 []] fun n15 n16 l17 =>
      zaC (zaN [.agg [.sl 3 (zaf D),.sl 5 (zak R)],.cell (.sl 1 l14),.agg [.int n15,.int n16,.sl 3 l17]]) false [(false,[.int 0])] fun n18 =>
      zdi (zad (G++M)) (zaf D) (zak R) 8 n kids (zad (cL D j)) n18 1:Option AV)=rI r→sTy D R (G++M) [.int 8,.int n,.sl 3 kids]=rI r:=fun r h=>by
    refine hsp _ (zkG (zav hco ?_))
    rw[zab,zla,wl];exact zaa (nz (by omega)) h
   by_cases hl:kids.length=1+(gD D j).cs.length
   rotate_left
   ·exact⟨-1,.inl rfl,prei _ (zac (net (by omega)) rfl),pres _ (zac (net (by omega)) rfl),zeU⟩
   obtain⟨o0,n0,k0,e0⟩:=hb 0 (by omega)
   by_cases hq:T 0=n
   rotate_left
   ·exact⟨-1,.inl rfl,prei _ (zaa (nef (by omega)) (zeD (by omega) e0 (zar (hTi 0 (by omega) _ _ _ e0) (zac (net hq) rfl)))),
     pres _ (zaa (nef (by omega)) (zeD (by omega) e0 (zar (hTs 0 (by omega) _ _ _ e0) (zac (net hq) rfl)))),zeU⟩
   obtain⟨S,hS⟩:=zz6 (m:=(gD D j).cs.length) (fun k hlt=>kid (1+k) (by omega) ((gD D j).cs.getD k []) (hfs k hlt).1 (hfs k hlt).2)
   have hSs:∀k,k<(gD D j).cs.length→sTy D R ((G++M)++(gD D j).cs.getD k []) (kids.getD (1+k) [])=rI (S k):=fun k hk=>by
    rw[List.append_assoc];exact(hS k hk).2.2.1
   obtain⟨o1,n1,k1,e1⟩:=hb 1 (by omega)
   have s0i:=(hS 0 hda.2).2.1
   have s0s:=hSs 0 hda.2
   rw[e1] at s0i s0s;have li:=zv6 (D:=D) (R:=R) G M (by omega) 8 n kids (gD D j).cs S (by omega) hm (fun k hk=>(hfs k hk).1) hb (fun k hk=>(hS k hk).2.1) (S 0) ((gD D j).cs.length-1) 1 (by omega)
   have ls:=zCe hv (G++M) (by rw[List.length_append];omega) 8 n kids j hj S (by omega) hb hSs (S 0) ((gD D j).cs.length-1) 1 (by omega)
   obtain⟨c1,c2⟩:=zr7 (D:=D) hj hda.2;have hfl:=zh3 hv.dv ((zbG (D.take j)+0:Nat):Int)
   rw[if_neg (by omega),c2] at hfl
   have hb0:M.length+((gD D j).cs.getD 0 []).length≤68719476736:=by
    have:=(hfs 0 hda.2).1
    omega
   have hb1:(G++M).length+((gD D j).cs.getD 0 []).length≤68719476736:=by
    have:=(hfs 0 hda.2).1
    rw[List.length_append];omega
   refine⟨chk S (S 0) ((gD D j).cs.length-1) 1,zBp (hS 0 hda.2).1 _ _,prei _ (zaa (nef (by omega)) (zeD (by omega) e0 (zar (hTi 0 (by omega) _ _ _ e0) (zaa (nef hq) (zhP (k:=0) rfl hda.2 (zsB (zrN G M _ hb0) (zbu (k:=1) (by omega) e1 (zar s0i li)))))))),?_,fun h=>?_⟩
   rotate_left
   ·obtain⟨g1,g2⟩:=zyM _ _ h
    have hct:∀m k,0≤chk S (S 0) m k→chk S (S 0) m k=S 0:=by
     intro m;induction m with
     | zero=>intro k h;rfl
     | succ m ih =>
      intro k h;unfold chk at h ⊢;split at h
      ·rename_i e;rw[if_pos e];exact ih _ h
      ·exact zeU h
    rw[hct _ _ h];have k0:=(hT 0 (by omega)).2.2.2 (by omega)
    rw[hq] at k0;refine .mtch _ _ j n _ (by omega) hj hda.2 hl k0 fun k hk=>?_
    have hSk:S k=S 0:=by
     by_cases h1:k=0
     ·rw[h1]
     ·exact g2 k (by omega) (by omega)
    have:=(hS k hk).2.2.2 (by rw[hSk];exact g1)
    rw[hSk,←List.append_assoc] at this;exact this
   refine pres _ (zaa (nef (by omega)) (zeD (by omega) e0 (zar (hTs 0 (by omega) _ _ _ e0) (zaa (nef hq) (zjV (k:=0) rfl (by rw[zla];exact hda.2) ?_)))))
   rw[zuJ hda.2];exact zav hfl (zav (zmM (G++M) _ hb1) (zbu (k:=1) (by omega) e1 (zar s0s ls)))
  exact⟨zmp D R o n (tyL T kids.length),zyG hv o n _,zbB (zaa (eqf h12) (zaa (eqf h13) (zaa (eqf h7) (zaa (eqf h8) (zav (zuk G M kids (by omega) T hb hTi) (zar (zqN hv o n _ (by rw[zdc];exact hml)) rfl)))))),
   zFU hv (G++M) kids hml T hb hTs h12 h13 h7 h8,fun h=>.op _ _ _ _ T _ h12 h13 h7 h8 (fun k hk=>(hT k hk).2.2.2 ((zwh hv h).2 k hk)) rfl h⟩
end
end
section
open Go
def zaH (x:PM):List AC:=[.int x.o,.int x.n,.sl 3 x.kids]
structure PIn (D:List DM) (R:List PM):Prop where
 d:∀d∈D,DOk d
 r:∀x∈R,POk x
 dl:D.length≤zaI
 rl:R.length≤zaI
theorem zFT {ds fs:List (List AC)} (h:Fit .prog [.sl 3 ds,.sl 5 fs]):∃D R,ds=zaf D∧fs=zak R∧PIn D R:=by
 generalize ht:Ty.prog=t at h
 generalize hx:[AC.sl 3 ds,AC.sl 5 fs]=x at h
 cases h with
 | prog ds' fs' hd hf h1 h2 =>
  simp only[List.cons.injEq,AC.sl.injEq,true_and,and_true] at hx;obtain⟨rfl,rfl⟩:=hx;obtain⟨D,rfl,hD⟩:=zwB h1;obtain⟨R,rfl,hR⟩:=zyR h2;exact⟨D,R,rfl,rfl,hD,hR,by simpa [zaf] using hd,by simpa [zak] using hf⟩
 | _=>cases ht
structure VP (D:List DM) (R:List PM):Prop where
 cp:CP D R
 pos:1≤R.length
 small:∀k,k<R.length→cS (zaH (gP R k))≤29
 nm:∀k,k<R.length→Nm R.length (zaH (gP R k))
 sg:zhi D R=true
 ht:∀k,k<R.length→HT D R (gP R k).ps (zaH (gP R k)) (gP R k).r
 ty:∀k,k<R.length→zil [.agg [.sl 3 (zaf D),.sl 5 (zak R)],.cell (.sl 1 (zad (gP R k).ps)),.agg (zaH (gP R k))]=rI (gP R k).r
section
variable {D:List DM}{R:List PM}
theorem zmN {x:List AC}:decide (zwM x<0)=!decide (cS x≤29):=by
 unfold zwM;split
 ·rename_i h;rw[decide_eq_true h,decide_eq_false (by omega)];rfl
 ·rename_i h;rw[decide_eq_false h];rfl
theorem zxe (hi:PIn D R) (hs:zhi D R=true) (hv:CP D R) {k:Nat} (hk:k<R.length) {t:Int} (hT:cS (zaH (gP R k))≤29→zyq D R (gP R k).ps [] (zaH (gP R k)) t) :
  zil [.agg [.sl 3 (zaf D),.sl 5 (zak R)],.cell (.sl 1 (zad (gP R k).ps)),.agg (zaH (gP R k))]=rI (if cS (zaH (gP R k))≤29 then t else -1):=by
 have hx:=hi.r _ (zf2 hk)
 refine zmR (zan (zgE D R hi.d hi.r hi.dl) ?_)
 rw[hs];refine zaa rfl (zan (zlK D _ hx.ps.len) ?_)
 have ha:(gP R k).ps.all (zed D)=true:=by
  rw[List.all_eq_true];exact fun t ht=>isTy_iff.2 ((hv.ps k hk).2 t ht)
 rw[ha];refine zaa rfl (zar (zqm hx.b) ?_)
 rw[zmN];show(bif !decide (cS (zaH (gP R k))≤29) then _ else _)=_
 by_cases h:cS (zaH (gP R k))≤29
 ·rw[if_pos h,decide_eq_true h]
  exact zaa rfl (zar (hT h).2.1 rfl)
 ·rw[if_neg h,decide_eq_false h]
  exact zac rfl rfl
theorem zyz (hi:PIn D R):∃b,za6 [.agg [.sl 3 (zaf D),.sl 5 (zak R)]]=rB b∧zdg [.agg [.sl 3 (zaf D),.sl 5 (zak R)]]=rB b∧(b=true→VP D R):=by
 rcases hs:zhi D R with _|_
 ·refine⟨false,zeT (zan (zgE D R hi.d hi.r hi.dl) ?_),zib (zan (zoG D R hi.d hi.r hi.dl) ?_),(fun h=>by cases h)⟩
  ·rw[hs];exact zac rfl rfl
  ·rw[hs];exact zac rfl rfl
 have hv:=zHH hi.r hs
 have hR:=hv.rl
 have h1:1≤R.length:=by
  simp only[zhi,Bool.and_eq_true,decide_eq_true_eq] at hs;exact hs.2.1
 obtain⟨T,hT⟩:=zz6 (m:=R.length) (P:=fun k t=>cS (zaH (gP R k))≤29→zyq D R (gP R k).ps [] (zaH (gP R k)) t) (fun k hk=>by
  by_cases h:cS (zaH (gP R k))≤29
  ·have hx:=hi.r _ (zf2 hk)
   obtain⟨t,ht⟩:=zCP hv 30 _ _ _ hx.b (by show cS (zaH (gP R k))<30;omega) (by omega) (gP R k).ps [] (fun t ht=>by rw[List.append_nil] at ht;exact(hv.ps k hk).2 t ht) (by rw[List.append_nil];have:=(hv.ps k hk).1;omega)
   exact⟨t,fun _=>ht⟩
  ·exact⟨0,fun h'=>absurd h' h⟩)
 let okF:Nat→Bool:=fun k=>decide (cS (zaH (gP R k))≤29)&&(T k==(gP R k).r)
 refine⟨(List.range R.length).all okF,zeT (zan (zgE D R hi.d hi.r hi.dl) ?_),zib (zan (zoG D R hi.d hi.r hi.dl) ?_),fun h=>⟨hv,h1,fun k hk=>?_,fun k hk=>?_,hs,fun k hk=>?_,fun k hk=>?_⟩⟩
 ·rw[hs]
  refine zaa rfl ?_
  have key:∀m k:Nat,k+m=R.length→zcj (zaf D) (zak R) (zak R) (((zak R).length:Nat):Int) (k:Int)=rB (((List.range R.length).drop k).all okF):=by
   intro m;induction m with
   | zero=>intro k hk;exact zcu (zaa (decide_eq_false (by rw[zaA];omega)) (by rw[List.drop_eq_nil_of_le (by simp;omega)];rfl))
   | succ m ih =>
    intro k hk;have hlt:k<R.length:=by omega
    have hrr:=hv.r k hlt
    rw[zl8 hlt];refine zcu (zac (decide_eq_true (by rw[zaA];omega)) (zaB (k:=k) rfl hlt (zar (zxe hi hs hv hlt (hT k hlt)) ?_)))
    show _=rB ((decide (cS (zaH (gP R k))≤29)&&(T k==(gP R k).r))&&_)
    by_cases h:cS (zaH (gP R k))≤29
    ·rw[if_pos h,decide_eq_true h]
     by_cases hq:T k=(gP R k).r
     ·rw[eqt hq]
      exact zaa (nef hq) (by rw[wrk (by unfold zaI;omega)];exact ih (k+1) (by omega))
     ·rw[eqf hq]
      exact zac (net hq) rfl
    ·rw[if_neg h,decide_eq_false h]
     exact zac (net (by omega)) rfl
  have:=key R.length 0 (by omega)
  rw[List.drop_zero] at this;exact this
 ·rw[hs]
  refine zaa rfl ?_
  have key:∀m k:Nat,k+m=R.length→zdf (zaf D) (zak R) (k:Int)=rB (((List.range R.length).drop k).all okF):=by
   intro m;induction m with
   | zero=>intro k hk;exact zf8 (zaa (decide_eq_false (by rw[zaA];omega)) (by rw[List.drop_eq_nil_of_le (by simp;omega)];rfl))
   | succ m ih =>
    intro k hk;have hlt:k<R.length:=by omega
    have hrr:=hv.r k hlt
    have hx:=hi.r _ (zf2 hlt)
    rw[zl8 hlt];refine zf8 (zac (decide_eq_true (by rw[zaA];omega)) (zaB (k:=k) rfl hlt (zar (znr hx.b) ?_)))
    rw[zmN];show(bif !decide (cS (zaH (gP R k))≤29) then _ else _)=rB ((decide (cS (zaH (gP R k))≤29)&&(T k==(gP R k).r))&&_)
    by_cases h:cS (zaH (gP R k))≤29
    ·rw[decide_eq_true h]
     have ht:=(hT k hlt h).2.2.1
     rw[List.append_nil] at ht;refine zaa rfl (zaB (k:=k) rfl hlt (zaB (k:=k) rfl hlt (zar ht (zaB (k:=k) rfl hlt ?_))))
     by_cases hq:T k=(gP R k).r
     ·rw[eqt hq]
      exact zaa (nef hq) (by rw[wrk (by unfold zaI;omega)];exact ih (k+1) (by omega))
     ·rw[eqf hq]
      exact zac (net hq) rfl
    ·rw[decide_eq_false h]
     exact zac rfl rfl
  have:=key R.length 0 (by omega)
  rw[List.drop_zero] at this;exact this
 ·rw[List.all_eq_true] at h
  have:=h k (by simpa using hk)
  simp only[okF,Bool.and_eq_true,decide_eq_true_eq] at this;exact this.1
 ·rw[List.all_eq_true] at h
  have:=h k (by simpa using hk)
  simp only[okF,Bool.and_eq_true,decide_eq_true_eq,beq_iff_eq] at this;have hr:=(hv.r k hk).1
  exact((hT k hk this.1).2.2.2 (by omega)).nm hv
 ·rw[List.all_eq_true] at h
  have:=h k (by simpa using hk)
  simp only[okF,Bool.and_eq_true,decide_eq_true_eq,beq_iff_eq] at this;have hr:=(hv.r k hk).1
  have g:=(hT k hk this.1).2.2.2 (by omega)
  rw[List.append_nil,this.2] at g;exact g
 ·rw[List.all_eq_true] at h
  have:=h k (by simpa using hk)
  simp only[okF,Bool.and_eq_true,decide_eq_true_eq,beq_iff_eq] at this;rw[zxe hi hs hv hk (hT k hk),if_pos this.1,this.2]
end
end
section
open Go
def zte:List Int→Int→List Int
 | [],x=>[x]
 | y::ys,x=>if y≥x then(if y>x then x::y::ys else y::ys) else y::zte ys x
def za8 (S:Nat→Bool) (a m:Nat):List Int:=((List.range' a m).filter S).map fun i:Nat=>(i:Int)
theorem zyp {S:Nat→Bool}{a m:Nat}:∀y∈za8 S a m,(a:Int)≤y:=by
 intro y hy;unfold za8 at hy;obtain⟨i,hi,rfl⟩:=List.mem_map.1 hy;have:=List.mem_range'_1.1 (List.mem_filter.1 hi).1
 omega
theorem zx6 {x:Int}:∀{l:List Int},(∀y∈l,x<y)→zte l x=x::l
 | [],_=>rfl
 | y::ys,h=>by
  have:=h y List.mem_cons_self
  unfold zte;rw[if_pos (by omega),if_pos (by omega)]
theorem zln (S:Nat→Bool) (a m:Nat):za8 S a (m+1)=if S a then(a:Int)::za8 S (a+1) m else za8 S (a+1) m:=by
 unfold za8;rw[List.range'_succ,List.filter_cons];split <;> rfl
theorem zls {S S':Nat→Bool}:∀{m a:Nat},(∀i,a≤i→i<a+m→S i=S' i)→za8 S a m=za8 S' a m
 | 0,_,_=>rfl
 | m+1,a,h=>by
  rw[zln,zln,h a (by omega) (by omega),zls (m:=m) (a:=a+1) fun i h1 h2=>h i (by omega) (by omega)]
theorem zoH (S:Nat→Bool) (j:Nat):∀(m a:Nat),a≤j→j<a+m→zte (za8 S a m) (j:Int)=za8 (fun i=>S i||i==j) a m
 | 0,a,h1,h2=>by omega
 | m+1,a,h1,h2=>by
  rw[zln,zln];by_cases hj:a=j
  ·subst hj
   have e:za8 (fun i=>S i||i==a) (a+1) m=za8 S (a+1) m:=zls fun i g1 g2=>by
    have:(i==a)=false:=by simp;omega
    rw[this,Bool.or_false]
   rw[beq_self_eq_true,Bool.or_true,if_pos rfl,e];split
   ·unfold zte
    rw[if_pos (by omega),if_neg (by omega)]
   ·exact zx6 fun y hy=>by have:=zyp y hy;omega
  ·have e:(a==j)=false:=by simp[hj]
   rw[e,Bool.or_false];have ih:=zoH S j m (a+1) (by omega) (by omega)
   split
   ·conv=>lhs;unfold zte
    rw[if_neg (by omega),ih]
   ·exact ih
theorem zrz (S:Nat→Bool) {n k:Nat} (hk:k<n):(za8 S 0 n).contains (k:Int)=S k:=by
 rw[Bool.eq_iff_iff,List.contains_iff_mem];unfold za8;rw[List.mem_map];constructor
 ·rintro⟨i,hi,e⟩
  have:i=k:=by omega
  subst this;exact(List.mem_filter.1 hi).2
 ·intro h
  exact⟨k,List.mem_filter.2 ⟨List.mem_range'_1.2 ⟨by omega,by omega⟩,h⟩,rfl⟩
theorem zcS (xs:List Int) (x:Int):zad xs++[[AC.int x]]=zad (xs++[x]):=by simp[zad]
theorem zys (xs:List Int) (n:Int) (hx:xs.length≤1048576):zfg [.cell (.sl 1 (zad xs)),.cell (.int n)]=some (.v (.cell (.bool (xs.contains n)))):=by
 have key:∀m k:Nat,k+m=xs.length→zgx (zad xs) n (k:Int)=some (.v (.cell (.bool ((xs.drop k).contains n)))):=by
  intro m;induction m with
  | zero =>
   intro k hk;rw[List.drop_eq_nil_of_le (by omega)]
   exact zfT (zaa (decide_eq_false (by rw[zab];omega)) rfl)
  | succ m ih =>
   intro k hk;have hlt:k<xs.length:=by omega
   have hnext:=ih (k+1) (by omega)
   rw[←wrk (by unfold zaI;omega)] at hnext
   rw[List.drop_eq_getElem_cons hlt,List.contains_cons];refine zfT (zac (decide_eq_true (by rw[zab];omega)) (za9 hlt ?_))
   rcases e:(xs[k]==n) with _|_
   ·rw[show(n==xs[k])=false by rw[beq_eq_false_iff_ne] at e ⊢;exact fun h=>e h.symm,Bool.false_or]
    exact zaa rfl hnext
   ·rw[show(n==xs[k])=true by rw[beq_iff_eq] at e ⊢;exact e.symm,Bool.true_or]
    exact zac rfl rfl
 exact zoD (key xs.length 0 (by omega))
theorem zzl (xs:List Int) (n:Int) (hx:xs.length≤1048576):zgc [.cell (.sl 1 (zad xs)),.cell (.int n)]=some (.v (.cell (.sl 1 (zad (zte xs n))))):=by
 have rest:∀m k:Nat,k+m=xs.length→∀acc:List Int,acc.length≤k+1→zci (zad xs) n (zad acc) true (k:Int)=some (.v (.cell (.sl 1 (zad (acc++xs.drop k))))):=by
  intro m;induction m with
  | zero =>
   intro k hk acc ha;rw[List.drop_eq_nil_of_le (by omega),List.append_nil]
   exact zeI (zaa (decide_eq_false (by rw[zab];omega)) (zaa rfl rfl))
  | succ m ih =>
   intro k hk acc ha;have hlt:k<xs.length:=by omega
   have hnext:=ih (k+1) (by omega) (acc++[xs[k]]) (by simp;omega)
   rw[←wrk (by unfold zaI;omega),List.append_assoc,List.singleton_append,←List.drop_eq_getElem_cons hlt] at hnext
   refine zeI (zac (decide_eq_true (by rw[zab];omega)) (zaa rfl (za9 hlt (zbs (by rw[zab];simp;omega) ?_))))
   rw[zcS];exact hnext
 have key:∀m k:Nat,k+m=xs.length→∀acc:List Int,acc.length≤k→zci (zad xs) n (zad acc) false (k:Int)=some (.v (.cell (.sl 1 (zad (acc++zte (xs.drop k) n))))):=by
  intro m;induction m with
  | zero =>
   intro k hk acc ha;rw[List.drop_eq_nil_of_le (by omega)]
   refine zeI (zaa (decide_eq_false (by rw[zab];omega)) (zac rfl (zbs (by rw[zab];simp;omega) ?_)))
   rw[zcS];rfl
  | succ m ih =>
   intro k hk acc ha;have hlt:k<xs.length:=by omega
   rw[List.drop_eq_getElem_cons hlt];refine zeI (zac (decide_eq_true (by rw[zab];omega)) (zac rfl (za9 hlt ?_)))
   unfold zte;by_cases h1:xs[k]≥n
   ·rw[if_pos h1]
    refine zac (decide_eq_true h1) (za9 hlt ?_)
    by_cases h2:xs[k]>n
    ·rw[if_pos h2]
     have hnext:=rest m (k+1) (by omega) (acc++[n]++[xs[k]]) (by simp;omega)
     rw[←wrk (by unfold zaI;omega),List.append_assoc,List.append_assoc] at hnext
     refine zac (decide_eq_true h2) (zbs (by rw[zab];simp;omega) (za9 hlt ?_))
     rw[zcS];refine zbs (by rw[zab];simp;omega) ?_
     rw[zcS,List.append_assoc];exact hnext
    ·rw[if_neg h2]
     have hnext:=rest m (k+1) (by omega) (acc++[xs[k]]) (by simp;omega)
     rw[←wrk (by unfold zaI;omega),List.append_assoc] at hnext
     refine zaa (decide_eq_false h2) (za9 hlt (zbs (by rw[zab];simp;omega) ?_))
     rw[zcS];exact hnext
   ·rw[if_neg h1]
    have hnext:=ih (k+1) (by omega) (acc++[xs[k]]) (by simp;omega)
    rw[←wrk (by unfold zaI;omega),List.append_assoc] at hnext
    refine zaa (decide_eq_false h1) (za9 hlt (zbs (by rw[zab];simp;omega) ?_))
    rw[zcS];exact hnext
 exact zti (key xs.length 0 (by omega) [] (by simp))
end
section
open Go Go.RowKit
def wB (n:Int) (ys:List Int):List Int:=ys.filter fun y=>!(y==n)
def wF (n:Int):List Int→List Int
 | []=>[n]
 | y::ys=>if y≥n then n::wB n (y::ys) else y::wF n ys
theorem zGL {n:Int}{ys:List Int} (h:∀y∈ys,n<y):wB n ys=ys:=by
 unfold wB;rw[List.filter_eq_self];intro y hy;have:=h y hy
 simp
 omega
theorem zuK (n y:Int) (ys:List Int):wB n (y::ys)=if y=n then wB n ys else y::wB n ys:=by
 unfold wB;rw[List.filter_cons];by_cases h:y=n <;> simp[h]
theorem zxs (S:Nat→Bool) (j:Nat):∀(m a:Nat),wF (j:Int) (za8 S a m)=zte (za8 S a m) (j:Int)
 | 0,a=>rfl
 | m+1,a=>by
  rw[zln];split
  ·unfold wF zte
   have hr:wB (j:Int) (za8 S (a+1) m)=za8 S (a+1) m∨(a:Int)<j:=by
    by_cases h:(a:Int)<j
    ·exact .inr h
    ·exact .inl (zGL fun y hy=>by have:=zyp y hy;omega)
   by_cases h:(a:Int)≥(j:Int)
   ·rw[if_pos h,if_pos h,zuK,hr.resolve_right (by omega)]
    by_cases h2:(a:Int)=(j:Int)
    ·rw[if_pos h2,if_neg (by omega),h2]
    ·rw[if_neg h2,if_pos (by omega)]
   ·rw[if_neg h,if_neg h,zxs S j m (a+1)]
  ·exact zxs S j m (a+1)
theorem zxr (xs:List Int) (n:Int) (hx:xs.length≤1048576):zgB [.cell (.sl 1 (zad xs)),.cell (.int n)]=rL (wF n xs):=by
 have rest:∀m k:Nat,k+m=xs.length→∀acc:List Int,acc.length≤k+1→zbi n (zad acc) true (zad xs) ((xs.length:Nat):Int) (k:Int)=rL (acc++wB n (xs.drop k)):=by
  intro m;induction m with
  | zero =>
   intro k hk acc ha;rw[List.drop_eq_nil_of_le (by omega)]
   refine zd2 (zaa (decide_eq_false (by omega)) (zaa rfl ?_))
   rw[show wB n []=[] from rfl,List.append_nil]
  | succ m ih =>
   intro k hk acc ha;have hlt:k<xs.length:=by omega
   have w:zae ((k:Int)+1)=((k+1:Nat):Int):=wrk (by unfold zaI;omega)
   rw[List.drop_eq_getElem_cons hlt,zuK];refine zd2 (zac (decide_eq_true (by omega)) (za9 hlt ?_))
   rw[w];have app:∀r,zbi n (zad (acc++[xs[k]])) true (zad xs) ((xs.length:Nat):Int) ((k+1:Nat):Int)=some r→zcy (zad acc) [[.int xs[k]]] (fun l12=>zbi n l12 true (zad xs) ((xs.length:Nat):Int) ((k+1:Nat):Int))=some r:=fun r h=>zbs (by rw[zab];simp;omega) (by rw[zcS];exact h)
   by_cases h2:xs[k]=n
   ·rw[if_pos h2]
    refine zac (decide_eq_true (by omega)) (zaa rfl (zaa (nef h2) ?_))
    exact ih (k+1) (by omega) acc (by omega)
   ·rw[if_neg h2]
    have nx:=ih (k+1) (by omega) (acc++[xs[k]]) (by simp;omega)
    rw[List.append_assoc] at nx;by_cases h:xs[k]≥n
    ·exact zac (decide_eq_true h) (zaa rfl (zac (net h2) (app _ (by rw[nx];rfl))))
    ·exact zaa (decide_eq_false h) (zac (net h2) (app _ (by rw[nx];rfl)))
 have key:∀m k:Nat,k+m=xs.length→∀acc:List Int,acc.length≤k→zbi n (zad acc) false (zad xs) ((xs.length:Nat):Int) (k:Int)=rL (acc++wF n (xs.drop k)):=by
  intro m;induction m with
  | zero =>
   intro k hk acc ha;rw[List.drop_eq_nil_of_le (by omega)]
   refine zd2 (zaa (decide_eq_false (by omega)) (zac rfl (zbs (by rw[zab];simp;omega) ?_)))
   rw[zcS];rfl
  | succ m ih =>
   intro k hk acc ha;have hlt:k<xs.length:=by omega
   have w:zae ((k:Int)+1)=((k+1:Nat):Int):=wrk (by unfold zaI;omega)
   rw[List.drop_eq_getElem_cons hlt];refine zd2 (zac (decide_eq_true (by omega)) (za9 hlt ?_))
   rw[w];unfold wF;by_cases h:xs[k]≥n
   ·rw[if_pos h,zuK]
    refine zac (decide_eq_true h) (zac rfl (zbs (by rw[zab];simp;omega) ?_))
    rw[zcS];by_cases h2:xs[k]=n
    ·rw[if_pos h2]
     refine zaa (nef h2) ?_
     rw[rest m (k+1) (by omega) (acc++[n]) (by simp;omega),List.append_assoc]
     rfl
    ·rw[if_neg h2]
     refine zac (net h2) (zbs (by rw[zab];simp;omega) ?_)
     rw[zcS,rest m (k+1) (by omega) (acc++[n]++[xs[k]]) (by simp;omega),List.append_assoc,List.append_assoc]
     rfl
   ·rw[if_neg h]
    refine zaa (decide_eq_false h) (zac (net (by omega)) (zbs (by rw[zab];simp;omega) ?_))
    rw[zcS,ih (k+1) (by omega) (acc++[xs[k]]) (by simp;omega),List.append_assoc]
    rfl
 have:=key xs.length 0 (by omega) [] (by simp)
 refine zq6 ?_
 rw[zab];exact this
theorem zj8 (S:Nat→Bool) (a m:Nat):(za8 S a m).length≤m:=by
 unfold za8;rw[List.length_map];have:=List.length_filter_le S (List.range' a m)
 simpa using this
def orS (A B:Nat→Bool):Nat→Bool:=fun i=>A i||B i
def zn5 (j:Nat):Nat→Bool:=fun i=>i==j
theorem zHn {m j:Nat} (hj:j<m) (hm:m≤1000) (A:Nat→Bool):zgB [.cell (.sl 1 (zad (za8 A 0 m))),.cell (.int (j:Int))]=rL (za8 (orS A (zn5 j)) 0 m):=by
 have hl:=zj8 A 0 m
 rw[zxr _ _ (by omega),zxs,zoH A j m 0 (by omega) (by omega)]
 rfl
theorem zFv {m j:Nat} (hj:j<m) (hm:m≤1000) (A:Nat→Bool):zgc [.cell (.sl 1 (zad (za8 A 0 m))),.cell (.int (j:Int))]=rL (za8 (orS A (zn5 j)) 0 m):=by
 have hl:=zj8 A 0 m
 rw[zzl _ _ (by omega),zoH A j m 0 (by omega) (by omega)]
 rfl
theorem zvc (xs:List Int) (hx:xs.length≤1048576):zdA [.cell (.sl 1 (zad xs)),.cell (.sl 1 (zad xs))]=rB true:=by
 have key:∀m k:Nat,k+m=xs.length→zew (zad xs) (zad xs) (k:Int)=rB true:=by
  intro m;induction m with
  | zero =>
   intro k hk;exact zii (zaa (decide_eq_false (by rw[zab];omega)) rfl)
  | succ m ih =>
   intro k hk;have hlt:k<xs.length:=by omega
   have hnext:=ih (k+1) (by omega)
   rw[←wrk (by unfold zaI;omega)] at hnext
   exact zii (zac (decide_eq_true (by rw[zab];omega)) (za9 hlt (za9 hlt (zaa (nef rfl) hnext))))
 exact zoI (zaa (nef rfl) (key xs.length 0 (by omega)))
end
section
open Go Go.RowKit
theorem zvp {P:Nat→List AC→Prop} (h:∀s o n kids,Fit .expr [.int o,.int n,.sl 3 kids]→(∀c∈kids,Fit .expr c∧cS c<s∧P s c)→P (s+1) [.int o,.int n,.sl 3 kids]):∀s row,Fit .expr row→cS row<s→P s row:=by
 intro s;induction s with
 | zero=>intro row _ h;omega
 | succ s ih =>
  intro row hf hs;obtain⟨o,n,kids,rfl⟩:=znl hf;obtain⟨_,_,_,hk⟩:=zd3 hf;refine h s o n kids hf fun c hc=>?_
  have h1:=zjo hc
  have h2:=zbv o n kids
  have h3:=List.length_pos_of_mem hc
  exact⟨hk c hc,by omega,ih c (hk c hc) (by omega)⟩
theorem zo6 {f:List AC→List AC}:∀{kids:List (List AC)},(∀c∈kids,cS (f c)=cS c)→rsS (kids.map f)=rsS kids
 | [],_=>rfl
 | c::kids,h=>by
  rw[List.map_cons,za0,za0,h c (by simp),zo6 fun x hx=>h x (by simp[hx])]
theorem zfF {f:List AC→List AC}{kids:List (List AC)}{k:Nat} (h:k<kids.length):(kids.map f).getD k []=f (kids.getD k []):=by simp[List.getD,h]
def shF (a b o n:Int):Int:=if o=12∧a≤n then n+b else n
def shr (a b:Int):Nat→List AC→List AC
 | s+1,[.int o,.int n,.sl 3 kids]=>[.int o,.int (shF a b o n),.sl 3 (kids.map (shr a b s))]
 | _,r=>r
theorem zeh (a b:Int) (s:Nat) (o n:Int) (kids:List (List AC)):shr a b (s+1) [.int o,.int n,.sl 3 kids]=[.int o,.int (shF a b o n),.sl 3 (kids.map (shr a b s))]:=rfl
theorem zCb:∀s row,Fit .expr row→cS row<s→cS row≤100000→zeS [.agg row,.agg row]=rB true :=
 zvp (P:=fun s row=>cS row≤100000→zeS [.agg row,.agg row]=rB true) fun s o n kids hf hk hc=>by
  rw[zbv] at hc;obtain⟨_,_,hl,hkf⟩:=zd3 hf;have key:∀m k:Nat,k+m=kids.length→zey o n kids o n kids (k:Int)=rB true:=by
   intro m;induction m with
   | zero =>
    intro k hkm;exact ziq (zaa (decide_eq_false (by omega)) rfl)
   | succ m ih =>
    intro k hkm;have hlt:k<kids.length:=by omega
    obtain⟨o',n',ks,e,_⟩:=zcE hkf hlt;have hle:=zjo (zaE hlt [])
    have g:=(hk _ (zaE hlt [])).2.2 (by omega)
    rw[e] at g;refine ziq (zac (decide_eq_true (by omega)) (zbu hlt e (zbu hlt e (zan g (zaa rfl ?_)))))
    rw[wrk (by unfold zaI at *;omega)]
    exact ih (k+1) (by omega)
  exact zoP (zaa (nef rfl) (zaa (nef rfl) (zaa (nef rfl) (key kids.length 0 (by omega)))))
end
end Go.Proofs.YtkgbadeobdbinaaGreat
