/- Generic texts and models for the proofs of this seat: part 27. -/
import Derived.Test.YtcpcagdialnbeaaY26
set_option linter.unusedVariables false
set_option linter.unusedSimpArgs false
set_option linter.unusedSectionVars false
namespace Go.Proofs.Ytcpcagdialnbeaa
section
open Go
def LG (ns:List Nat) (p C M l:Nat) (x:Option (AV×List AC)):Prop:=∃(kids:List (List AC)) (p':Nat),x=some (.v (.cell (.sl 3 kids)),Qr ns p')∧p'≤p+C∧zcA kids∧kids.length+rsS kids≤M∧kids.length=l
def zDd (T:List Int):Prop:=∀t∈T,0≤t∧t≤4
theorem zqC (xs ys:List Int) (hx:xs.length+ys.length≤68719476736):zbv [.cell (.sl 1 (zab xs)),.cell (.sl 1 (zab ys))]=rL (xs++ys):=zkH xs ys hx
theorem zsH:∀D∈zb9,∀t∈([0,1,2,3,4]:List Int),(zbz D t).length≤3∧∀c∈zbz D t,(0≤c∧c≤100)∧(cf D c).length≤3∧∀u∈cf D c,0≤u∧u≤4:=by decide
theorem zwR:∀D∈zb9,∀k,k<D.length→(0≤(gD D k).f∧(gD D k).f≤4):=by decide
def cC (b:Nat):Nat:=if b<3 then 16 else 100*b-20
def cM (b:Nat):Nat:=if b<3 then 4 else 40*b-10
theorem zi8 (b:Nat):cC b≤100*b+16∧(3≤b→cC b=100*b-20)∧(b<3→cC b=16):=by
 unfold cC;split <;> exact⟨by omega,fun h=>by omega,fun h=>by omega⟩
theorem zjb (b:Nat):cM b≤40*b+4∧(3≤b→cM b=40*b-10)∧(b<3→cM b=4):=by
 unfold cM;split <;> exact⟨by omega,fun h=>by omega,fun h=>by omega⟩
def Gen (ns:List Nat) (D:List DM) (R:List PM) (b:Nat):Prop:=∀(V:List Int) (t:Int) (p:Nat),V.length+3*b≤1000000→0≤t∧t≤4→p+100*b+100≤800000→EG ns p (cC b) (cM b) (za6 (Qr ns p) [pgC D R,.cell (.sl 1 (zab V)),.cell (.int t),.cell (.int (b:Int))])
theorem EG.same {ns:List Nat}{p p1 C M C1 M1:Nat}{x X:Option (AV×List AC)} (h:EG ns p1 C M x) (hC:p1+C≤p+C1) (hM:M≤M1)
  (hX:∀o n kids q,x=some (.v (.agg [.int o,.int n,.sl 3 kids]),q)→X=some (.v (.agg [.int o,.int n,.sl 3 kids]),q)):EG ns p C1 M1 X:=by
 obtain⟨o,n,kids,p',h1,h2,h3,h4⟩:=h;exact⟨o,n,kids,p',hX o n kids _ h1,by omega,h3,by omega⟩
section
variable {ns:List Nat} (hns:ns.length≤2000) {D:List DM} (hD:D∈zb9) {R:List PM} (hR:GR R)
include hns hD hR
theorem zfC {T:List Int} (hl:T.length≤3) (hT:zDd T) {B:Nat} (hB:B≤1000) (hG:0<T.length→Gen ns D R (B / T.length)) {V:List Int} (hV:V.length+3*B≤1000000) {p:Nat} (hp:p+100*B+132≤800000) :
  LG ns p (100*B+48) (40*B+12) T.length (zaQ (Qr ns p) [pgC D R,.cell (.sl 1 (zab V)),.cell (.sl 1 (zab T)),.cell (.int (B:Int))]):=by
 obtain⟨n,hn⟩:∃n,n=T.length:=⟨_,rfl⟩;obtain⟨d,hd⟩:∃d,d=B / T.length:=⟨_,rfl⟩;have hdb:n*d≤B:=by rw[hn,hd];exact Nat.mul_div_le B T.length
 obtain⟨C,hC⟩:∃C,C=100*d+16:=⟨_,rfl⟩;obtain⟨M,hM⟩:∃M,M=40*d+4:=⟨_,rfl⟩;have hd1:0<n→d≤B:=fun h0=>by rw[hd];exact Nat.div_le_self _ _
 have hnC:n*C≤100*B+48:=by
  rcases(by omega:n=0∨n=1∨n=2∨n=3) with h|h|h|h <;> rw[h] at hdb ⊢ <;> omega
 have hnM:n*M≤40*B+12:=by
  rcases(by omega:n=0∨n=1∨n=2∨n=3) with h|h|h|h <;> rw[h] at hdb ⊢ <;> omega
 have key:∀m k:Nat,k+m=T.length→∀(acc:List (List AC)) (p':Nat),zcA acc→acc.length=k→acc.length+rsS acc≤k*M→p'≤p+k*C→∃(kids:List (List AC)) (p2:Nat),zfv (zab V) (zab T) (B:Int) (zah D) (zaC R) acc (k:Int) (Qr ns p')=some (.v (.cell (.sl 3 kids)),Qr ns p2)∧p2≤p+n*C∧zcA kids∧kids.length+rsS kids≤n*M∧kids.length=T.length:=by
  intro m;induction m with
  | zero =>
   intro k hk acc p' ha hal hs hp';have hkn:k=n:=by omega
   subst hkn;exact⟨acc,p',ziD (zaa (decide_eq_false (by rw[zac];omega)) rfl),hp',ha,hs,by omega⟩
  | succ m ih =>
   intro k hk acc p' ha hal hs hp';have hlt:k<T.length:=by omega
   have hkC:(k+1)*C≤n*C:=Nat.mul_le_mul_right _ (by omega)
   have hkC':(k+1)*C=k*C+C:=Nat.succ_mul _ _
   have hkM':(k+1)*M=k*M+M:=Nat.succ_mul _ _
   have hdB:=hd1 (by omega)
   have hcC:=(zi8 d).1
   have hcM:=(zjb d).1
   obtain⟨o,x,l,p1,h1,h2,h3,h4⟩:=hG (by omega) V T[k] p' (by rw[←hd];omega) (hT _ (List.getElem_mem hlt)) (by rw[←hd];omega)
   rw[←hd] at h1 h2 h4;have hsz:=zec (kids:=acc) (o:=o) (n:=x) (l:=l)
   have hlen:(acc++[[AC.int o,.int x,.sl 3 l]]).length=k+1:=by simp;omega
   obtain⟨kids,p2,g1,g2,g3,g4,g5⟩:=ih (k+1) (by omega) (acc++[[.int o,.int x,.sl 3 l]]) p1 (ze3 ha h3) hlen (by omega) (by omega)
   refine⟨kids,p2,ziD (zad (decide_eq_true (by rw[zac];omega)) (zbo hlt ?_)),g2,g3,g4,g5⟩
   rw[zac];refine zo0 (n:=d) (by omega) (by omega) (by omega) (by rw[hd];rfl) (zaF h1 (zcL (by simp;omega) ?_))
   rw[wrk (by unfold za9;omega)]
   exact g1
 obtain⟨kids,p2,h1,h2,h3,h4,h5⟩:=key T.length 0 (by omega) [] p (fun b hb=>by cases hb) rfl (by simp[zaG]) (by omega)
 exact⟨kids,p2,zqh h1,by omega,h3,by omega,h5⟩
theorem zqT {b:Nat} (hb:3≤b) (hb2:b≤1000) (hG:∀b',b'<b→Gen ns D R b') {V:List Int} (hV:V.length+3*b≤1000000) {t:Int} (ht:0≤t∧t≤4) {d:Int} (hd:0≤d∧d≤4) {c0 c1:Int}{c2:List (List AC)}{o0 n0:Int}{l0:List (List AC)} (h0:Fit .expr [.int o0,.int n0,.sl 3 l0]) (hs0:1+l0.length+rsS l0≤4)
  {p:Nat} (hp:p+100*b+10≤800000):EG ns p (100*(b-2)+48) (40*(b-2)+17) (zbD (zab V) t (b:Int) (zah D) (zaC R) c0 c1 c2 d (zab (zbz D d)) [[.int o0,.int n0,.sl 3 l0]] 0 (Qr ns p)):=by
 have hm:d∈([0,1,2,3,4]:List Int):=by
  rcases(by omega:d=0∨d=1∨d=2∨d=3∨d=4) with rfl|rfl|rfl|rfl|rfl <;> simp
 obtain⟨gl,gc⟩:=zsH D hD d hm;obtain⟨n,hn⟩:∃n,n=(zbz D d).length:=⟨_,rfl⟩;obtain⟨e,he⟩:∃e,e=(b-2) / (zbz D d).length:=⟨_,rfl⟩;have hdb:n*e≤b-2:=by rw[hn,he];exact Nat.mul_div_le _ _
 obtain⟨C,hC⟩:∃C,C=100*e+16:=⟨_,rfl⟩;obtain⟨M,hM⟩:∃M,M=40*e+4:=⟨_,rfl⟩;have hd1:e≤b-2:=by rw[he];exact Nat.div_le_self _ _
 have hnC:n*C≤100*(b-2)+48:=by
  rcases(by omega:n=0∨n=1∨n=2∨n=3) with h|h|h|h <;> rw[h] at hdb ⊢ <;> omega
 have hnM:n*M≤40*(b-2)+12:=by
  rcases(by omega:n=0∨n=1∨n=2∨n=3) with h|h|h|h <;> rw[h] at hdb ⊢ <;> omega
 have key:∀m k:Nat,k+m=(zbz D d).length→∀(acc:List (List AC)) (p':Nat),zcA acc→acc.length=k+1→acc.length+rsS acc≤4+k*M→p'≤p+k*C→∃(o x:Int) (kids:List (List AC)) (p2:Nat),zbD (zab V) t (b:Int) (zah D) (zaC R) c0 c1 c2 d (zab (zbz D d)) acc (k:Int) (Qr ns p')=some (.v (.agg [.int o,.int x,.sl 3 kids]),Qr ns p2)∧p2≤p+n*C∧Fit .expr [.int o,.int x,.sl 3 kids]∧kids.length+rsS kids≤4+n*M:=by
  intro m;induction m with
  | zero =>
   intro k hk acc p' ha hal hs hp';have hkn:k=n:=by omega
   subst hkn;exact⟨8,d,acc,p',zg0 (zaa (decide_eq_false (by rw[zac];omega)) (zae (zaw _ _ _) rfl)),hp',zak (by omega) (by omega) (by omega) ha,hs⟩
  | succ m ih =>
   intro k hk acc p' ha hal hs hp';have hlt:k<(zbz D d).length:=by omega
   obtain⟨q1,q2,q3⟩:=gc _ (List.getElem_mem hlt);have hkC:(k+1)*C≤n*C:=Nat.mul_le_mul_right _ (by omega)
   have hkC':(k+1)*C=k*C+C:=Nat.succ_mul _ _
   have hkM':(k+1)*M=k*M+M:=Nat.succ_mul _ _
   have hcC:=(zi8 e).1
   have hcM:=(zjb e).1
   obtain⟨o,x,l,p1,h1,h2,h3,h4⟩:=hG e (by omega) (V++cf D (zbz D d)[k]) t p' (by rw[List.length_append];omega) ht (by omega)
   have hsz:=zec (kids:=acc) (o:=o) (n:=x) (l:=l)
   have hlen:(acc++[[AC.int o,.int x,.sl 3 l]]).length=k+1+1:=by simp;omega
   obtain⟨o2,x2,kids,p2,g1,g2,g3,g4⟩:=ih (k+1) (by omega) (acc++[[.int o,.int x,.sl 3 l]]) p1 (ze3 ha h3) hlen (by omega) (by omega)
   refine⟨o2,x2,kids,p2,zg0 (zad (decide_eq_true (by rw[zac];omega)) (zbo hlt (zaO (zql (ziz hD) _) (zaO (zqC _ _ (by omega)) ?_)))),g2,g3,g4⟩
   rw[zac,show zaf ((b:Int)-2)=((b-2:Nat):Int) by rw[wr (by omega) (by omega)];omega]
   refine zo0 (n:=e) (by omega) (by omega) (by omega) (by rw[he];rfl) (zaF h1 (zcL (by simp;omega) ?_))
   rw[wrk (by unfold za9;omega)]
   exact g1
 obtain⟨o,x,kids,p2,h1,h2,h3,h4⟩:=key (zbz D d).length 0 (by omega) [[.int o0,.int n0,.sl 3 l0]] p (fun b hb=>by simp only[List.mem_singleton] at hb;rw[hb];exact h0) rfl (by
  rw[zaJ,zaG,zcm];simp
  omega) (by omega)
 exact⟨o,x,kids,p2,h1,by omega,h3,by omega⟩
theorem zlJ {b:Nat} (hb:3≤b) (hb2:b≤1000) (hG:∀b',b'<b→Gen ns D R b') {V:List Int} (hV:V.length+3*b≤1000000) {t:Int} (ht:0≤t∧t≤4)
  {p:Nat} (hp:p+100*b+40≤800000):EG ns p (100*(b-2)+65) (40*(b-2)+17) (zcn (Qr ns p) [pgC D R,.cell (.sl 1 (zab V)),.cell (.int t),.cell (.int (b:Int))]):=by
 obtain⟨d,hd,h1⟩:=zjU hns (p:=p) (by omega) (xs:=[1,1,3,4]) (by simp) (by simp)
 have hd4:0≤d∧d≤4:=by
  simp only[List.mem_cons,List.not_mem_nil,or_false] at hd;omega
 have fin:∀(u:Int) (hu:0≤u∧u≤4),∃(o n:Int) (l:List (List AC)) (p1:Nat),zcO (Qr ns (p+1)) [pgC D R,.cell (.sl 1 (zab V)),.cell (.int u)]=some (.v (.agg [.int o,.int n,.sl 3 l]),Qr ns p1)∧∃(o2 n2:Int) (l2:List (List AC)) (p2:Nat),zbD (zab V) t (b:Int) (zah D) (zaC R) 0 0 [] u (zab (zbz D u)) [[.int o,.int n,.sl 3 l]] 0 (Qr ns p1)=some (.v (.agg [.int o2,.int n2,.sl 3 l2]),Qr ns p2)∧p2≤p+(100*(b-2)+65)∧Fit .expr [.int o2,.int n2,.sl 3 l2]∧1+l2.length+rsS l2≤40*(b-2)+17:=fun u hu=>by
  obtain⟨o,n,l,p1,g1,g2,g3,g4⟩:=zlp hns hD hR (V:=V) (by omega) hu (p:=p+1) (by omega)
  obtain⟨o2,n2,l2,p2,k1,k2,k3,k4⟩:=zqT hns hD hR hb hb2 hG hV ht hu (c0:=0) (c1:=0) (c2:=[]) g3 g4 (p:=p1) (by omega)
  exact⟨o,n,l,p1,g1,o2,n2,l2,p2,k1,by omega,k3,k4⟩
 have hdv:=ziz hD
 by_cases hl:d>(((zah D).length:Nat):Int)
 ·obtain⟨o,n,l,p1,g1,o2,n2,l2,p2,k1,k2,k3,k4⟩:=fin 1 (by omega)
  exact⟨o2,n2,l2,p2,zf7 (zam h1 (zad (decide_eq_true hl) (zaO (zdS hdv 1) (zaF g1 k1)))),k2,k3,k4⟩
 ·rcases ha:zlu D d with _|_
  ·obtain⟨o,n,l,p1,g1,o2,n2,l2,p2,k1,k2,k3,k4⟩:=fin d hd4
   exact⟨o2,n2,l2,p2,zf7 (zam h1 (zaa (decide_eq_false hl) (zat (zdH (by have:=hdv.len;omega) d) (zaa ha (zaO (zdS hdv d) (zaF g1 k1)))))),k2,k3,k4⟩
  ·obtain⟨o,n,l,p1,g1,o2,n2,l2,p2,k1,k2,k3,k4⟩:=fin 1 (by omega)
   exact⟨o2,n2,l2,p2,zf7 (zam h1 (zaa (decide_eq_false hl) (zat (zdH (by have:=hdv.len;omega) d) (zad ha (zaO (zdS hdv 1) (zaF g1 k1)))))),k2,k3,k4⟩
theorem zqV {b:Nat} (hb:3≤b) (hb2:b≤1000) (hG:∀b',b'<b→Gen ns D R b') {V:List Int} (hV:V.length+3*b≤1000000) {t:Int} (ht:0≤t∧t≤4) {c0 c1:Int}{c2:List (List AC)} :
  ∀m a:Nat,a+m=D.length+1→1≤a→∀p:Nat,p+100*b+50≤800000→EG ns p (100*b-40) (40*b-20) (zcq (zab V) t (b:Int) (zah D) (zaC R) c0 c1 c2 (a:Int) (Qr ns p)):=by
 have hm:t∈([0,1,2,3,4]:List Int):=by
  rcases(by omega:t=0∨t=1∨t=2∨t=3∨t=4) with rfl|rfl|rfl|rfl|rfl <;> simp
 obtain⟨gl,gc⟩:=zsH D hD t hm;have hdv:=ziz hD
 have hb1:zaf ((b:Int)-1)=((b-1:Nat):Int):=by rw[wr (by omega) (by omega)];omega
 have h4:=hdv.len
 intro m;induction m with
 | zero =>
  intro a ha ha1 p hp;have hend:decide ((a:Int)≤(((zah D).length:Nat):Int))=false:=decide_eq_false (by rw[za8];omega)
  by_cases hz:0<(zbz D t).length
  ·obtain⟨x,hx,h1⟩:=zbq hns (p:=p) (by omega) (m:=(zbz D t).length) hz
   obtain⟨q1,q2,q3⟩:=gc _ (List.getElem_mem hx);obtain⟨kids,p',g1,g2,g3,g4,g5⟩:=zfC hns hD hR q2 q3 (B:=b-1) (by omega) (fun h0=>hG _ (by have:=Nat.div_le_self (b-1) (cf D (zbz D t)[x]).length;omega)) (V:=V) (by omega) (p:=p+1) (by omega)
   refine⟨6,(zbz D t)[x],kids,p',zbk (zaa hend (zaO (zdS hdv t) (zad (decide_eq_true (by rw[zac];omega)) ?_))),by omega,zak (by omega) (by omega) (by omega) g3,by omega⟩
   rw[zac,hb1];exact zam h1 (zbo hx (zaO (zql hdv _) (zi0 g1 (zae (zaw _ _ _) rfl))))
  ·by_cases ht0:t>0
   ·obtain⟨o,n,l,p',g1,g2,g3,g4⟩:=zlp hns hD hR (V:=V) (by omega) ht (p:=p) (by omega)
    exact⟨o,n,l,p',zbk (zaa hend (zaO (zdS hdv t) (zaa (decide_eq_false (by rw[zac];omega)) (zad (decide_eq_true ht0) (zaF g1 rfl))))),by omega,g3,by omega⟩
   ·obtain⟨x,hx,h1⟩:=zbq hns (p:=p) (by omega) (m:=3) (by omega)
    by_cases hx0:x=0
    ·subst hx0
     obtain⟨kids,p',g1,g2,g3,g4,g5⟩:=zfC hns hD hR (T:=[0]) (by simp) (fun u hu=>by simp at hu;omega) (B:=b-1) (by omega) (fun h0=>hG _ (by simp;omega)) (V:=V) (by omega) (p:=p+1) (by omega)
     refine⟨5,0,kids,p',zbk (zaa hend (zaO (zdS hdv t) (zaa (decide_eq_false (by rw[zac];omega)) (zaa (decide_eq_false ht0) (zam h1 (zad rfl ?_)))))),by omega,zak (by omega) (by omega) (by rw[g5];simp) g3,by omega⟩
     rw[hb1];exact zi0 g1 (zae (zaw _ _ _) rfl)
    ·obtain⟨op,hop,h2⟩:=zjU hns (p:=p+1) (by omega) (xs:=[1,2,3,4]) (by simp) (by simp)
     have hop4:1≤op∧op≤4:=by
      simp only[List.mem_cons,List.not_mem_nil,or_false] at hop;omega
     obtain⟨kids,p',g1,g2,g3,g4,g5⟩:=zfC hns hD hR (T:=[0,0]) (by simp) (fun u hu=>by simp at hu;omega) (B:=b-1) (by omega) (fun h0=>hG _ (by simp;omega)) (V:=V) (by omega) (p:=p+1+1) (by omega)
     refine⟨op,0,kids,p',zbk (zaa hend (zaO (zdS hdv t) (zaa (decide_eq_false (by rw[zac];omega)) (zaa (decide_eq_false ht0) (zam h1 (zaa (by rw[beq_eq_false_iff_ne];omega) (zam h2 ?_))))))),by omega,zak (by omega) (by omega) (by rw[g5];simp) g3,by omega⟩
     rw[hb1];exact zi0 g1 (zae (zaw _ _ _) rfl)
 | succ m ih =>
  intro a ha ha1 p hp;have hlt:a-1<D.length:=by omega
  have hgo:decide ((a:Int)≤(((zah D).length:Nat):Int))=true:=decide_eq_true (by rw[za8];omega)
  have hnext:=ih (a+1) (by omega) (by omega) p hp
  rw[←wrk (by unfold za9;omega)] at hnext
  have hw:zaf ((a:Int)-1)=((a-1:Nat):Int):=by rw[wr (by omega) (by omega)];omega
  rcases hA:zlu D (a:Int) with _|_
  ·exact EG.same hnext (Nat.le_refl _) (Nat.le_refl _) fun o n kids q h=>zbk (zad hgo (zat (zdH (by omega) _) (zaa hA h)))
  ·by_cases hto:(gD D (a-1)).t=t
   ·obtain⟨c,hc⟩:=zkW (zfy hD) hR (V:=V) (by omega) (a:Int)
    cases c with
    | false=>exact EG.same hnext (Nat.le_refl _) (Nat.le_refl _) fun o n kids q h=>zbk (zad hgo (zat (zdH (by omega) _) (zad hA (zbA hw hlt (zad (by rw[beq_iff_eq];exact hto) (zat hc (zaa rfl h)))))))
    | true =>
     obtain⟨o,n,l,p1,g1,g2,g3,g4⟩:=zlp hns hD hR (V:=V) (by omega) (t:=(a:Int)) (by omega) (p:=p) (by omega)
     have hcC:=(zi8 (b-2)).1
     have hcM:=(zjb (b-2)).1
     obtain⟨o2,n2,l2,p2,k1,k2,k3,k4⟩:=hG (b-2) (by omega) V (gD D (a-1)).f p1 (by omega) (zwR D hD (a-1) hlt) (by omega)
     rw[show((b-2:Nat):Int)=zaf ((b:Int)-2) by rw[wr (by omega) (by omega)];omega] at k1
     refine⟨11,0,[[.int o,.int n,.sl 3 l],[.int o2,.int n2,.sl 3 l2]],p2,zbk (zad hgo (zat (zdH (by omega) _) (zad hA (zbA hw hlt (zad (by rw[beq_iff_eq];exact hto) (zat hc (zad rfl (zaF g1 (zbA hw hlt (zaF k1 (zae (zaw _ _ _) rfl))))))))))),by omega,zak (by omega) (by omega) (by simp) (fun x hx=>?_),?_⟩
     ·simp only[List.mem_cons,List.not_mem_nil,or_false] at hx
      rcases hx with rfl|rfl
      ·exact g3
      ·exact k3
     ·rw[zaJ,zaJ,zaG,zcm,zcm]
      simp
      omega
   ·exact EG.same hnext (Nat.le_refl _) (Nat.le_refl _) fun o n kids q h=>zbk (zad hgo (zat (zdH (by omega) _) (zad hA (zbA hw hlt (zaa (by rw[beq_eq_false_iff_ne];exact hto) h)))))
theorem zhG {b:Nat} (hb:3≤b) (hb2:b≤1000) (hG:∀b',b'<b→Gen ns D R b') {V:List Int} (hV:V.length+3*b≤1000000) {t:Int} (ht:0≤t∧t≤4) {p:Nat} (hp:p+100*b+60≤800000):EG ns p (100*b-39) (40*b-20) (zas (Qr ns p) [pgC D R,.cell (.sl 1 (zab V)),.cell (.int t),.cell (.int (b:Int))]):=by
 obtain⟨y,hy,h0⟩:=zbq hns (p:=p) (by omega) (m:=4) (by omega)
 by_cases hy0:y=0
 ·subst hy0
  exact EG.same (zqV hns hD hR hb hb2 hG hV ht (c0:=0) (c1:=0) (c2:=[]) D.length 1 (by omega) (by omega) (p+1) (by omega)) (by omega) (Nat.le_refl _) fun o n kids q h=>zdh (zam h0 (zad rfl h))
 have hne:(((y:Nat):Int)==0)=false:=by rw[beq_eq_false_iff_ne];omega
 have hm:t∈([0,1,2,3,4]:List Int):=by
  rcases(by omega:t=0∨t=1∨t=2∨t=3∨t=4) with rfl|rfl|rfl|rfl|rfl <;> simp
 obtain⟨gl,gc⟩:=zsH D hD t hm;have hdv:=ziz hD
 have hb1:zaf ((b:Int)-1)=((b-1:Nat):Int):=by rw[wr (by omega) (by omega)];omega
 by_cases hz:0<(zbz D t).length
 ·obtain⟨x,hx,h1⟩:=zbq hns (p:=p+1) (by omega) (m:=(zbz D t).length) hz
  obtain⟨q1,q2,q3⟩:=gc _ (List.getElem_mem hx);obtain⟨kids,p',g1,g2,g3,g4,g5⟩:=zfC hns hD hR q2 q3 (B:=b-1) (by omega) (fun h0=>hG _ (by have:=Nat.div_le_self (b-1) (cf D (zbz D t)[x]).length;omega)) (V:=V) (by omega) (p:=p+1+1) (by omega)
  refine⟨6,(zbz D t)[x],kids,p',zdh (zam h0 (zaa hne (zaO (zdS hdv t) (zad (decide_eq_true (by rw[zac];omega)) ?_)))),by omega,zak (by omega) (by omega) (by omega) g3,by omega⟩
  rw[zac,hb1];exact zam h1 (zbo hx (zaO (zql hdv _) (zi0 g1 (zae (zaw _ _ _) rfl))))
 ·by_cases ht0:t>0
  ·obtain⟨o,n,l,p',g1,g2,g3,g4⟩:=zlp hns hD hR (V:=V) (by omega) ht (p:=p+1) (by omega)
   exact⟨o,n,l,p',zdh (zam h0 (zaa hne (zaO (zdS hdv t) (zaa (decide_eq_false (by rw[zac];omega)) (zad (decide_eq_true ht0) (zaF g1 rfl)))))),by omega,g3,by omega⟩
  ·obtain⟨x,hx,h1⟩:=zbq hns (p:=p+1) (by omega) (m:=3) (by omega)
   by_cases hx0:x=0
   ·subst hx0
    obtain⟨kids,p',g1,g2,g3,g4,g5⟩:=zfC hns hD hR (T:=[0]) (by simp) (fun u hu=>by simp at hu;omega) (B:=b-1) (by omega) (fun h0=>hG _ (by simp;omega)) (V:=V) (by omega) (p:=p+1+1) (by omega)
    refine⟨5,0,kids,p',zdh (zam h0 (zaa hne (zaO (zdS hdv t) (zaa (decide_eq_false (by rw[zac];omega)) (zaa (decide_eq_false ht0) (zam h1 (zad rfl ?_))))))),by omega,zak (by omega) (by omega) (by rw[g5];simp) g3,by omega⟩
    rw[hb1];exact zi0 g1 (zae (zaw _ _ _) rfl)
   ·obtain⟨op,hop,h2⟩:=zjU hns (p:=p+1+1) (by omega) (xs:=[1,2,3,4]) (by simp) (by simp)
    have hop4:1≤op∧op≤4:=by
     simp only[List.mem_cons,List.not_mem_nil,or_false] at hop;omega
    obtain⟨kids,p',g1,g2,g3,g4,g5⟩:=zfC hns hD hR (T:=[0,0]) (by simp) (fun u hu=>by simp at hu;omega) (B:=b-1) (by omega) (fun h0=>hG _ (by simp;omega)) (V:=V) (by omega) (p:=p+1+1+1) (by omega)
    refine⟨op,0,kids,p',zdh (zam h0 (zaa hne (zaO (zdS hdv t) (zaa (decide_eq_false (by rw[zac];omega)) (zaa (decide_eq_false ht0) (zam h1 (zaa (by rw[beq_eq_false_iff_ne];omega) (zam h2 ?_)))))))),by omega,zak (by omega) (by omega) (by rw[g5];simp) g3,by omega⟩
    rw[hb1];exact zi0 g1 (zae (zaw _ _ _) rfl)
theorem zg3:∀b:Nat,b≤1000→Gen ns D R b:=by
 intro b;induction b using Nat.strongRecOn with
 | ind b ih =>
 intro hb2 V t p hV ht hp;have hG:∀b',b'<b→Gen ns D R b':=fun b' h=>ih b' h (by omega)
 by_cases hb3:b<3
 ·exact EG.same (zlp hns hD hR (V:=V) (by omega) ht (p:=p) (by omega)) (by have:=zi8 b;omega) (by have:=zjb b;omega) fun o n kids q h=>zbn (zad (decide_eq_true (by omega)) (zaF h rfl))
 have hb3:3≤b:=by omega
 have hlt:decide ((b:Int)<3)=false:=decide_eq_false (by omega)
 rw[(zi8 b).2.1 hb3,(zjb b).2.1 hb3];have hc2:=zi8 (b / 2)
 have hm2:=zjb (b / 2)
 have hb1:zaf ((b:Int)-1)=((b-1:Nat):Int):=by rw[wr (by omega) (by omega)];omega
 obtain⟨x,hx,h1⟩:=zbq hns (p:=p) (by omega) (m:=12) (by omega)
 rcases(by omega:x=0∨x=1∨x=2∨x=3∨x=4∨x=5∨x=6∨x=7∨x=8∨x=9∨x=10∨x=11) with rfl|rfl|rfl|rfl|rfl|rfl|rfl|rfl|rfl|rfl|rfl|rfl
 ·exact EG.same (zlp hns hD hR (V:=V) (by omega) ht (p:=p+1) (by omega)) (by omega) (by omega) fun o n kids q h=>zbn (zaa hlt (zam h1 (zad rfl (zaF h rfl))))
 ·obtain⟨u,hu,h2⟩:=zrk (zfy hD) hR (V:=V) (by omega) hns (p:=p+1) (by omega)
  obtain⟨o,n,l,p1,g1,g2,g3,g4⟩:=hG (b / 2) (by omega) V u (p+1+1) (by omega) hu (by omega)
  obtain⟨o2,n2,l2,p2,k1,k2,k3,k4⟩:=hG (b / 2) (by omega) (V++[u]) t p1 (by rw[List.length_append];simp;omega) ht (by omega)
  refine⟨13,0,[[.int o,.int n,.sl 3 l],[.int o2,.int n2,.sl 3 l2]],p2,zbn (zaa hlt (zam h1 (zaa rfl (zad rfl (zad rfl (zam h2 (zo0 (n:=b / 2) (by omega) (by omega) (by omega) rfl (zaF g1 (zaO (zqC V [u] (by simp;omega)) (zo0 (n:=b / 2) (by omega) (by omega) (by omega) rfl (zaF k1 (zae (zaw _ _ _) rfl)))))))))))),by omega,zak (by omega) (by omega) (by simp) (fun x hx=>?_),?_⟩
  ·simp only[List.mem_cons,List.not_mem_nil,or_false] at hx
   rcases hx with rfl|rfl
   ·exact g3
   ·exact k3
  ·rw[zaJ,zaJ,zaG,zcm,zcm]
   simp
   omega
 ·obtain⟨u,hu,h2⟩:=zrk (zfy hD) hR (V:=V) (by omega) hns (p:=p+1) (by omega)
  obtain⟨o,n,l,p1,g1,g2,g3,g4⟩:=hG (b / 2) (by omega) V u (p+1+1) (by omega) hu (by omega)
  obtain⟨o2,n2,l2,p2,k1,k2,k3,k4⟩:=hG (b / 2) (by omega) (V++[u]) t p1 (by rw[List.length_append];simp;omega) ht (by omega)
  refine⟨13,0,[[.int o,.int n,.sl 3 l],[.int o2,.int n2,.sl 3 l2]],p2,zbn (zaa hlt (zam h1 (zaa rfl (zaa rfl (zad rfl (zam h2 (zo0 (n:=b / 2) (by omega) (by omega) (by omega) rfl (zaF g1 (zaO (zqC V [u] (by simp;omega)) (zo0 (n:=b / 2) (by omega) (by omega) (by omega) rfl (zaF k1 (zae (zaw _ _ _) rfl)))))))))))),by omega,zak (by omega) (by omega) (by simp) (fun x hx=>?_),?_⟩
  ·simp only[List.mem_cons,List.not_mem_nil,or_false] at hx
   rcases hx with rfl|rfl
   ·exact g3
   ·exact k3
  ·rw[zaJ,zaJ,zaG,zcm,zcm]
   simp
   omega
 ·obtain⟨kids,p',g1,g2,g3,g4,g5⟩:=zfC hns hD hR (T:=[0,t,t]) (by simp) (fun u hu=>by simp at hu;omega) (B:=b-1) (by omega) (fun h0=>hG _ (by simp;omega)) (V:=V) (by omega) (p:=p+1) (by omega)
  refine⟨7,0,kids,p',zbn (zaa hlt (zam h1 (zaa rfl (zaa rfl (zaa rfl (zad rfl ?_)))))),by omega,zak (by omega) (by omega) (by rw[g5];simp) g3,by omega⟩
  rw[hb1];exact zi0 g1 (zae (zaw _ _ _) rfl)
 ·exact EG.same (zlJ hns hD hR hb3 hb2 hG hV ht (p:=p+1) (by omega)) (by omega) (by omega) fun o n kids q h=>zbn (zaa hlt (zam h1 (zaa rfl (zaa rfl (zaa rfl (zaa rfl (zad rfl (zad rfl (zaF h rfl)))))))))
 ·exact EG.same (zlJ hns hD hR hb3 hb2 hG hV ht (p:=p+1) (by omega)) (by omega) (by omega) fun o n kids q h=>zbn (zaa hlt (zam h1 (zaa rfl (zaa rfl (zaa rfl (zaa rfl (zaa rfl (zad rfl (zad rfl (zaF h rfl))))))))))
 ·exact EG.same (zlJ hns hD hR hb3 hb2 hG hV ht (p:=p+1) (by omega)) (by omega) (by omega) fun o n kids q h=>zbn (zaa hlt (zam h1 (zaa rfl (zaa rfl (zaa rfl (zaa rfl (zaa rfl (zaa rfl (zad rfl (zaF h rfl))))))))))
 ·obtain⟨fs,h2,h3,h5⟩:=zpU (zfy hD) hR t
  by_cases hz:0<fs.length
  ·obtain⟨y,hy,h6⟩:=zbq hns (p:=p+1) (by omega) (m:=fs.length) hz
   obtain⟨k,hk,hfk⟩:=h5 _ (List.getElem_mem hy);obtain⟨s1,s2,s3⟩:=hR.small hk;have hk4:=hR.len
   obtain⟨kids,p',g1,g2,g3,g4,g5⟩:=zfC hns hD hR s1 (fun u hu=>by have:=s3 u hu;omega) (B:=b-1) (by omega) (fun h0=>hG _ (by have:=Nat.div_le_self (b-1) (gP R k).ps.length;omega)) (V:=V) (by omega) (p:=p+1+1) (by omega)
   refine⟨9,(k:Int),kids,p',zbn (zaa hlt (zam h1 (zaa rfl (zaa rfl (zaa rfl (zaa rfl (zaa rfl (zaa rfl (zaa rfl (zad rfl (zad rfl (zaO h2 (zad (decide_eq_true (by rw[zac];omega)) ?_))))))))))))),by omega,zak (by omega) (by omega) (by omega) g3,by omega⟩
   rw[zac,hb1];refine zam h6 (zbo hy ?_)
   rw[hfk];exact za7 rfl hk (zi0 g1 (zae (zaw _ _ _) rfl))
  ·exact EG.same (zhG hns hD hR hb3 hb2 hG hV ht (p:=p+1) (by omega)) (by omega) (by omega) fun o n kids q h=>zbn (zaa hlt (zam h1 (zaa rfl (zaa rfl (zaa rfl (zaa rfl (zaa rfl (zaa rfl (zaa rfl (zad rfl (zad rfl (zaO h2 (zaa (decide_eq_false (by rw[zac];omega)) (zaF h rfl))))))))))))))
 ·obtain⟨fs,h2,h3,h5⟩:=zpU (zfy hD) hR t
  by_cases hz:0<fs.length
  ·obtain⟨y,hy,h6⟩:=zbq hns (p:=p+1) (by omega) (m:=fs.length) hz
   obtain⟨k,hk,hfk⟩:=h5 _ (List.getElem_mem hy);obtain⟨s1,s2,s3⟩:=hR.small hk;have hk4:=hR.len
   obtain⟨kids,p',g1,g2,g3,g4,g5⟩:=zfC hns hD hR s1 (fun u hu=>by have:=s3 u hu;omega) (B:=b-1) (by omega) (fun h0=>hG _ (by have:=Nat.div_le_self (b-1) (gP R k).ps.length;omega)) (V:=V) (by omega) (p:=p+1+1) (by omega)
   refine⟨9,(k:Int),kids,p',zbn (zaa hlt (zam h1 (zaa rfl (zaa rfl (zaa rfl (zaa rfl (zaa rfl (zaa rfl (zaa rfl (zaa rfl (zad rfl (zaO h2 (zad (decide_eq_true (by rw[zac];omega)) ?_))))))))))))),by omega,zak (by omega) (by omega) (by omega) g3,by omega⟩
   rw[zac,hb1];refine zam h6 (zbo hy ?_)
   rw[hfk];exact za7 rfl hk (zi0 g1 (zae (zaw _ _ _) rfl))
  ·exact EG.same (zhG hns hD hR hb3 hb2 hG hV ht (p:=p+1) (by omega)) (by omega) (by omega) fun o n kids q h=>zbn (zaa hlt (zam h1 (zaa rfl (zaa rfl (zaa rfl (zaa rfl (zaa rfl (zaa rfl (zaa rfl (zaa rfl (zad rfl (zaO h2 (zaa (decide_eq_false (by rw[zac];omega)) (zaF h rfl))))))))))))))
 ·exact EG.same (zhG hns hD hR hb3 hb2 hG hV ht (p:=p+1) (by omega)) (by omega) (by omega) fun o n kids q h=>zbn (zaa hlt (zam h1 (zaa rfl (zaa rfl (zaa rfl (zaa rfl (zaa rfl (zaa rfl (zaa rfl (zaa rfl (zaa rfl (zaF h rfl))))))))))))
 ·exact EG.same (zhG hns hD hR hb3 hb2 hG hV ht (p:=p+1) (by omega)) (by omega) (by omega) fun o n kids q h=>zbn (zaa hlt (zam h1 (zaa rfl (zaa rfl (zaa rfl (zaa rfl (zaa rfl (zaa rfl (zaa rfl (zaa rfl (zaa rfl (zaF h rfl))))))))))))
 ·exact EG.same (zhG hns hD hR hb3 hb2 hG hV ht (p:=p+1) (by omega)) (by omega) (by omega) fun o n kids q h=>zbn (zaa hlt (zam h1 (zaa rfl (zaa rfl (zaa rfl (zaa rfl (zaa rfl (zaa rfl (zaa rfl (zaa rfl (zaa rfl (zaF h rfl))))))))))))
end
end
set_option linter.unusedSectionVars false
section
open Go
theorem zm6 {o1 n1 o2 n2:Int}{l1 l2:List (List AC)} (h1:Fit .expr [.int o1,.int n1,.sl 3 l1]) (h2:Fit .expr [.int o2,.int n2,.sl 3 l2]):zcA [[.int o1,.int n1,.sl 3 l1],[.int o2,.int n2,.sl 3 l2]]:=fun x hx=>by
 simp only[List.mem_cons,List.not_mem_nil,or_false] at hx;rcases hx with rfl|rfl
 ·exact h1
 ·exact h2
theorem zmX {o1 n1 o2 n2 o3 n3:Int}{l1 l2 l3:List (List AC)} (h1:Fit .expr [.int o1,.int n1,.sl 3 l1]) (h2:Fit .expr [.int o2,.int n2,.sl 3 l2]) (h3:Fit .expr [.int o3,.int n3,.sl 3 l3]):zcA [[.int o1,.int n1,.sl 3 l1],[.int o2,.int n2,.sl 3 l2],[.int o3,.int n3,.sl 3 l3]]:=fun x hx=>by
 simp only[List.mem_cons,List.not_mem_nil,or_false] at hx;rcases hx with rfl|rfl|rfl
 ·exact h1
 ·exact h2
 ·exact h3
theorem rs2 (o1 n1 o2 n2:Int) (l1 l2:List (List AC)):rsS [[AC.int o1,.int n1,.sl 3 l1],[AC.int o2,.int n2,.sl 3 l2]]=(l1.length+rsS l1)+(l2.length+rsS l2):=by
 rw[zaJ,zaJ,zaG,zcm,zcm];omega
theorem rs3 (o1 n1 o2 n2 o3 n3:Int) (l1 l2 l3:List (List AC)):rsS [[AC.int o1,.int n1,.sl 3 l1],[AC.int o2,.int n2,.sl 3 l2],[AC.int o3,.int n3,.sl 3 l3]]=(l1.length+rsS l1)+(l2.length+rsS l2)+(l3.length+rsS l3):=by
 rw[zaJ,zaJ,zaJ,zaG,zcm,zcm,zcm];omega
theorem zbZ {n:Int} (h:-1000≤n∧n≤1000):Fit .expr [.int 12,.int n,.sl 3 []]:=zak (by omega) (by omega) (by simp) (fun b hb=>by cases hb)
theorem zmc {n:Int} (h:-1000≤n∧n≤1000):Fit .expr [.int 0,.int n,.sl 3 []]:=zak (by omega) (by omega) (by simp) (fun b hb=>by cases hb)
section
variable {ns:List Nat} (hns:ns.length≤2000) {D:List DM} (hD:D∈zb9) {R:List PM} (hR:GR R)
include hns hD hR
theorem zsu {V:List Int}{t:Int} (ht:0≤t∧t≤4) {M:Nat}{c1 c2:Int}{c3:List (List AC)}:∀b:Nat,b≤1000→V.length+3*b≤1000000→40*b+4≤M→∀(o n:Int) (l:List (List AC)),Fit .expr [.int o,.int n,.sl 3 l]→1+l.length+rsS l≤M→∀p:Nat,p+200*b+200≤800000 →
  EG ns p (200*b+16) M (zeP (zab V) t (b:Int) (zah D) (zaC R) c1 c2 c3 o n l (Qr ns p)):=by
 intro b;induction b using Nat.strongRecOn with
 | ind b ih =>
 intro hb hV hM o n l hf hs p hp;have hn:=zm7 hf
 by_cases h0:zjl [.int o,.int n,.sl 3 l]<0
 ·by_cases h2:2<b
  ·have hc:=(zi8 (b / 2)).1
   have hm:=(zjb (b / 2)).1
   obtain⟨o2,n2,l2,p2,g1,g2,g3,g4⟩:=zg3 hns hD hR (b / 2) (by omega) V t p (by omega) ht (by omega)
   exact EG.same (ih (b / 2) (by omega) (by omega) (by omega) (by omega) o2 n2 l2 g3 (by omega) p2 (by omega)) (by omega) (by omega) fun o n kids q h=>zeV (zal hn (zad (decide_eq_true h0) (zad (decide_eq_true (by omega)) (zo0 (n:=b / 2) (by omega) (by omega) (by omega) rfl (zaF g1 h)))))
  ·exact⟨o,n,l,p,zeV (zal hn (zad (decide_eq_true h0) (zaa (decide_eq_false (by omega)) rfl))),by omega,hf,hs⟩
 ·exact⟨o,n,l,p,zeV (zal hn (zaa (decide_eq_false h0) rfl)),by omega,hf,hs⟩
theorem znz {V:List Int} (hV:V.length≤1000) {t:Int} (ht:0≤t∧t≤4) {b:Nat} (hb:b≤20) {p:Nat} (hp:p+10000≤800000):EG ns p 6100 804 (zhn (Qr ns p) [pgC D R,.cell (.sl 1 (zab V)),.cell (.int t),.cell (.int (b:Int))]):=by
 have hc:=(zi8 b).1
 have hm:=(zjb b).1
 obtain⟨o2,n2,l2,p2,g1,g2,g3,g4⟩:=zg3 hns hD hR b (by omega) V t p (by omega) ht (by omega)
 exact EG.same (zsu hns hD hR (V:=V) ht (M:=804) (c1:=0) (c2:=0) (c3:=[]) b (by omega) (by omega) (by omega) o2 n2 l2 g3 (by omega) p2 (by omega)) (by omega) (by omega) fun o n kids q h=>zoG (zaF g1 h)
theorem zsm {c1 c2:Int}{c3:List (List AC)}:∀m:Nat,m≤10→∀(o n:Int) (l:List (List AC)),Fit .expr [.int o,.int n,.sl 3 l]→∀p:Nat,p+4*m+10≤800000→EG ns p (4*m) (1+l.length+rsS l+2*m) (zeN c1 c2 c3 o n l (m:Int) (Qr ns p)):=by
 intro m;induction m with
 | zero=>intro _ o n l hf p hp;exact⟨o,n,l,p,zin (zaa rfl rfl),by omega,hf,by omega⟩
 | succ m ih =>
  intro hm o n l hf p hp;obtain⟨x,hx,h1⟩:=zrw hns (p:=p) (by omega)
  have hr:=rs2 0 x o n [] l
  have hnil:=zaG
  have hnx:=ih (by omega) 6 1 [[.int 0,.int x,.sl 3 []],[.int o,.int n,.sl 3 l]] (zak (by omega) (by omega) (by simp) (zm6 (zmc hx) hf)) (p+4) (by omega)
  rw[show((m:Nat):Int)=zaf (((m+1:Nat):Int)-1) by rw[wr (by omega) (by omega)];omega] at hnx
  refine EG.same hnx (by omega) (by rw[hr];simp;omega) fun o n kids q h=>zin (zad (decide_eq_true (by omega)) (zam h1 (zae (zcp _) (zae (zaw _ _ _) h))))
theorem zvQ {t:Int}{p:Nat} (hp:p+100≤800000):EG ns p 40 40 (zho (Qr ns p) [.cell (.int t)]):=by
 have hnil:=zaG
 by_cases ht:t=3
 ·obtain⟨x,hx,h1⟩:=zbq hns (p:=p) (by omega) (m:=9) (by omega)
  obtain⟨y,hy,h2⟩:=zbq hns (p:=p+1) (by omega) (m:=9) (by omega)
  have hleaf:Fit .expr [.int 6,.int 2,.sl 3 []]:=zak (by omega) (by omega) (by simp) (fun b hb=>by cases hb)
  have h3:Fit .expr [.int 6,.int 3,.sl 3 [[.int 6,.int 2,.sl 3 []],[.int 0,.int (x:Int),.sl 3 []],[.int 6,.int 2,.sl 3 []]]]:=zak (by omega) (by omega) (by simp) (zmX hleaf (zmc (by omega)) hleaf)
  refine⟨6,3,_,p+1+1,zj0 (zae (zaw _ _ _) (zad (by rw[beq_iff_eq];exact ht) (zae (zaw _ _ _) (zam h1 (zae (zcp _) (zae (zaw _ _ _) (zam h2 (zae (zcp _) (zae (zaw _ _ _) rfl))))))))),by omega,zak (by omega) (by omega) (by simp) (zmX h3 (zmc (by omega)) hleaf),?_⟩
  rw[rs3,rs3];simp
  omega
 ·obtain⟨x,hx,h1⟩:=zbq hns (p:=p) (by omega) (m:=3) (by omega)
  have h:=zsm hns hD hR (c1:=0) (c2:=0) (c3:=[]) (1+x) (by omega) 6 0 [] (zak (by omega) (by omega) (by simp) (fun b hb=>by cases hb)) (p+1) (by omega)
  rw[show(((1+x:Nat)):Int)=zaf (1+(x:Int)) by rw[wr (by omega) (by omega)];omega] at h
  exact EG.same h (by omega) (by simp;omega) fun o n kids q h=>zj0 (zae (zaw _ _ _) (zaa (by rw[beq_eq_false_iff_ne];exact ht) (zam h1 h)))
theorem zun {p:Nat} (hp:p+10000≤800000):EG ns p 2000 900 (ziK (Qr ns p) [pgC D R]):=by
 obtain⟨t,ht,h1⟩:=zjU hns (p:=p) (by omega) (xs:=[1,1,3]) (by simp) (by simp)
 have hc:=(zi8 16).1
 have hm:=(zjb 16).1
 obtain⟨o,n,l,p1,g1,g2,g3,g4⟩:=zg3 hns hD hR 16 (by omega) [t] 0 (p+1) (by simp) (by omega) (by omega)
 obtain⟨x,hx,h2⟩:=zbq hns (p:=p1) (by omega) (m:=3) (by omega)
 obtain⟨o2,n2,l2,p2,k1,k2,k3,k4⟩:=zvQ hns hD hR (t:=t) (p:=p1+1) (by omega)
 have hnil:=zaG
 by_cases hx0:x=0
 ·subst hx0
  refine⟨13,0,_,p2,zji (zam h1 (zaF g1 (zam h2 (zad rfl (zae (zaw _ _ _) (zaF k1 (zae (zaw _ _ _) rfl))))))),by omega,zak (by omega) (by omega) (by simp) (zm6 k3 (zak (by omega) (by omega) (by simp) (fun b hb=>by simp only[List.mem_singleton] at hb;rw[hb];exact g3))),?_⟩
  rw[rs2,zaJ,zaG,zcm];simp
  omega
 ·refine⟨13,0,_,p2,zji (zam h1 (zaF g1 (zam h2 (zaa (by rw[beq_eq_false_iff_ne];omega) (zaF k1 (zae (zaw _ _ _) rfl)))))),by omega,zak (by omega) (by omega) (by simp) (zm6 k3 g3),?_⟩
  rw[rs2];simp
  omega
set_option maxRecDepth 8000 in
theorem zq3 {f:Nat} (hf:f<R.length) {c1 c2:Int}{c3:List (List AC)}:∀m k:Nat,k+m=(gP R f).ps.length→∀(acc:List (List AC)) (p:Nat),zcA acc→acc.length≤k+1→acc.length+rsS acc≤4*k+10→p+16*m+2000≤800000 →
  EG ns p (16*m+800) 400 (zen (f:Int) (zah D) (zaC R) c1 c2 c3 (zab (gP R f).ps) acc (k:Int) (Qr ns p)):=by
 obtain⟨s1,s2,s3⟩:=hR.small hf;have h4:=hR.len
 have hnil:=zaG
 intro m;induction m with
 | zero =>
  intro k hk acc p ha hl hs hp;have hend:decide ((k:Int)<(((zab (gP R f).ps).length:Nat):Int))=false:=decide_eq_false (by rw[zac];omega)
  have hA:Fit .expr [.int 9,.int (f:Int),.sl 3 acc]:=zak (by omega) (by omega) (by omega) ha
  have hcmp:Fit .expr [.int 4,.int 0,.sl 3 [[.int 0,.int 0,.sl 3 []],[.int 12,.int 0,.sl 3 []]]]:=zak (by omega) (by omega) (by simp) (zm6 (zmc (by omega)) (zbZ (by omega)))
  have hc3:=(zi8 3).2.1 (by omega)
  have hm3:=(zjb 3).2.1 (by omega)
  have hc4:=(zi8 4).2.1 (by omega)
  have hm4:=(zjb 4).2.1 (by omega)
  by_cases hr:(gP R f).r=1
  ·obtain⟨o,n,l,p1,g1,g2,g3,g4⟩:=zg3 hns hD hR 3 (by omega) (gP R f).ps 0 p (by omega) (by omega) (by omega)
   obtain⟨o2,n2,l2,p2,k1,k2,k3,k4⟩:=zg3 hns hD hR 4 (by omega) (gP R f).ps (gP R f).r p1 (by omega) (by omega) (by omega)
   have hcon:Fit .expr [.int 6,.int 1,.sl 3 [[.int o,.int n,.sl 3 l],[.int 9,.int (f:Int),.sl 3 acc]]]:=zak (by omega) (by omega) (by simp) (zm6 g3 hA)
   refine⟨7,0,_,p2,zeu (zaa hend (zae (zaw _ _ _) (za7 rfl hf (zad (by rw[beq_iff_eq];exact hr) (zaF g1 (zae (zaw _ _ _) (zae (zcp _) (zae (zaP _) (zae (zaw _ _ _) (za7 rfl hf (zaF k1 (zae (zaw _ _ _) rfl)))))))))))),by omega,zak (by omega) (by omega) (by simp) (zmX hcmp hcon k3),?_⟩
   rw[rs3,rs2,rs2];simp
   omega
  ·obtain⟨o2,n2,l2,p2,k1,k2,k3,k4⟩:=zg3 hns hD hR 4 (by omega) (gP R f).ps (gP R f).r p (by omega) (by omega) (by omega)
   refine⟨7,0,_,p2,zeu (zaa hend (zae (zaw _ _ _) (za7 rfl hf (zaa (by rw[beq_eq_false_iff_ne];exact hr) (zae (zcp _) (zae (zaP _) (zae (zaw _ _ _) (za7 rfl hf (zaF k1 (zae (zaw _ _ _) rfl)))))))))),by omega,zak (by omega) (by omega) (by simp) (zmX hcmp hA k3),?_⟩
   rw[rs3,rs2];simp
   omega
 | succ m ih =>
  intro k hk acc p ha hl hs hp;have hlt:k<(gP R f).ps.length:=by omega
  have ht:=s3 _ (List.getElem_mem hlt)
  obtain⟨o,n,l,p1,g1,g2,g3,g4⟩:=zlp hns hD hR (V:=(gP R f).ps) (by omega) (t:=(gP R f).ps[k]) (by omega) (p:=p) (by omega)
  have hsz:=zec (kids:=acc) (o:=o) (n:=n) (l:=l)
  have hnx:=ih (k+1) (by omega) (acc++[[.int o,.int n,.sl 3 l]]) p1 (ze3 ha g3) (by simp;omega) (by omega) (by omega)
  rw[←wrk (by unfold za9;omega)] at hnx
  exact EG.same hnx (by omega) (by omega) fun o n kids q h=>zeu (zad (decide_eq_true (by rw[zac];omega)) (zbo hlt (zaF g1 (zcL (by simp;omega) h))))
set_option maxRecDepth 8000 in
theorem zuC {f:Nat} (hf:f<R.length) (hps:0<(gP R f).ps.length) {p:Nat} (hp:p+3000≤800000):EG ns p 900 400 (ziV (Qr ns p) [pgC D R,.cell (.int (f:Int))]):=by
 obtain⟨s1,s2,s3⟩:=hR.small hf;have hnil:=zaG
 have h:=zq3 hns hD hR hf (c1:=0) (c2:=0) (c3:=[]) ((gP R f).ps.length-1) 1 (by omega) [[.int 2,.int 0,.sl 3 [[.int 12,.int 0,.sl 3 []],[.int 0,.int 1,.sl 3 []]]]] p (fun b hb=>by
  simp only[List.mem_singleton] at hb;rw[hb];exact zak (by omega) (by omega) (by simp) (zm6 (zbZ (by omega)) (zmc (by omega)))) (by simp) (by rw[zaJ,zaG,zcm,rs2];simp[zaG]) (by omega)
 exact EG.same h (by omega) (by omega) fun o n kids q h=>zns (za7 rfl hf (zae (zaP _) (zae (zcp _) (zae (zaw _ _ _) h))))
theorem zqL {f:Nat} (hf:f<R.length) (hps:0<(gP R f).ps.length) {c1 c2:Int}{c3:List (List AC)}:∀m k:Nat,k+m=(gP R f).ps.length→∀(a1 a2:List (List AC)),zcA a1→zcA a2→a1.length≤k→a2.length≤k→rsS a1=0→rsS a2=0→∀p:Nat,p+3000≤800000 →
  EG ns p 1300 700 (zef (f:Int) (zah D) (zaC R) c1 c2 c3 (zab (gP R f).ps) (((gP R f).ps.length:Nat):Int) a1 a2 (k:Int) (Qr ns p)):=by
 obtain⟨s1,s2,s3⟩:=hR.small hf;have h4:=hR.len
 have hnil:=zaG
 have hc4:=(zi8 4).2.1 (by omega)
 have hm4:=(zjb 4).2.1 (by omega)
 intro m;induction m with
 | zero =>
  intro k hk a1 a2 q1 q2 q3 q4 q5 q6 p hp;have hend:decide ((k:Int)<(((gP R f).ps.length:Nat):Int))=false:=decide_eq_false (by omega)
  have hA:Fit .expr [.int 9,.int (f:Int),.sl 3 a1]:=zak (by omega) (by omega) (by omega) q1
  have hB:Fit .expr [.int 9,.int (f:Int),.sl 3 a2]:=zak (by omega) (by omega) (by omega) q2
  have hext:=zqC (gP R f).ps [3,0,3] (by simp;omega)
  have hw:zaf ((((gP R f).ps.length:Nat):Int)+2)=(((gP R f).ps.length+2:Nat):Int):=by rw[wr (by omega) (by omega)];omega
  obtain⟨o,n,l,p1,g1,g2,g3,g4⟩:=zg3 hns hD hR 4 (by omega) ((gP R f).ps++[3,0,3]) 0 p (by rw[List.length_append];simp;omega) (by omega) (by omega)
  have hr1:Fit .expr [.int 1,.int 0,.sl 3 [[.int o,.int n,.sl 3 l],[.int 9,.int (f:Int),.sl 3 a2]]]:=zak (by omega) (by omega) (by simp) (zm6 g3 hB)
  have hr2:Fit .expr [.int 1,.int 0,.sl 3 [[.int 9,.int (f:Int),.sl 3 a1],[.int 1,.int 0,.sl 3 [[.int o,.int n,.sl 3 l],[.int 9,.int (f:Int),.sl 3 a2]]]]]:=zak (by omega) (by omega) (by simp) (zm6 hA hr1)
  by_cases hr:(gP R f).r=3
  ·obtain⟨o3,n3,l3,p3,j1,j2,j3,j4⟩:=zg3 hns hD hR 4 (by omega) ((gP R f).ps++[3,0,3]) 0 p1 (by rw[List.length_append];simp;omega) (by omega) (by omega)
   obtain⟨o2,n2,l2,p2,k1,k2,k3,k4⟩:=zg3 hns hD hR 4 (by omega) (gP R f).ps (gP R f).r p3 (by omega) (by omega) (by omega)
   have hcon:Fit .expr [.int 6,.int 3,.sl 3 [[.int 9,.int (f:Int),.sl 3 a1],[.int o3,.int n3,.sl 3 l3],[.int 12,.int (((gP R f).ps.length+2:Nat):Int),.sl 3 []]]]:=zak (by omega) (by omega) (by simp) (zmX hA j3 (zbZ (by omega)))
   refine⟨8,3,[[.int 12,.int 0,.sl 3 []],[.int o2,.int n2,.sl 3 l2],[.int 6,.int 3,.sl 3 [[.int 9,.int (f:Int),.sl 3 a1],[.int o3,.int n3,.sl 3 l3],[.int 12,.int (((gP R f).ps.length+2:Nat):Int),.sl 3 []]]]],p2,zev (zaa hend (zae (zaw _ _ _) (zae (zaw _ _ _) (zaO hext (zaF g1 (zae (zaw _ _ _) (zae (zaw _ _ _) (za7 rfl hf (zad (by rw[beq_iff_eq];exact hr) (zaO hext (zaF j1 ?_))))))))))),by omega,zak (by omega) (by omega) (by simp) (zmX (zbZ (by omega)) k3 hcon),?_⟩
   ·rw[hw]
    exact zae (zaP _) (zae (zaw _ _ _) (zae (zaP _) (za7 rfl hf (zaF k1 (zae (zaw _ _ _) rfl)))))
   ·rw[rs3,rs3]
    simp
    omega
  ·obtain⟨o2,n2,l2,p2,k1,k2,k3,k4⟩:=zg3 hns hD hR 4 (by omega) (gP R f).ps (gP R f).r p1 (by omega) (by omega) (by omega)
   refine⟨8,3,_,p2,zev (zaa hend (zae (zaw _ _ _) (zae (zaw _ _ _) (zaO hext (zaF g1 (zae (zaw _ _ _) (zae (zaw _ _ _) (za7 rfl hf (zaa (by rw[beq_eq_false_iff_ne];exact hr) (zae (zaP _) (za7 rfl hf (zaF k1 (zae (zaw _ _ _) rfl))))))))))))),by omega,zak (by omega) (by omega) (by simp) (zmX (zbZ (by omega)) k3 hr2),?_⟩
   rw[rs3,rs2,rs2];simp
   omega
 | succ m ih =>
  intro k hk a1 a2 q1 q2 q3 q4 q5 q6 p hp;have hfv:Fit .expr [.int 12,.int (k:Int),.sl 3 []]:=zbZ (by omega)
  have hz1:=zec (kids:=a1) (o:=12) (n:=(k:Int)) (l:=[])
  have hz2:=zec (kids:=a2) (o:=12) (n:=(k:Int)) (l:=[])
  have e1:rsS (a1++[[AC.int 12,.int (k:Int),.sl 3 []]])=0:=by rw[zlP,zaJ,zaG,zcm,q5];simp[zaG]
  have e2:rsS (a2++[[AC.int 12,.int (k:Int),.sl 3 []]])=0:=by rw[zlP,zaJ,zaG,zcm,q6];simp[zaG]
  have hnx:=ih (k+1) (by omega) (a1++[[.int 12,.int (k:Int),.sl 3 []]]) (a2++[[.int 12,.int (k:Int),.sl 3 []]]) (ze3 q1 hfv) (ze3 q2 hfv) (by simp;omega) (by simp;omega) e1 e2 p hp
  rw[←wrk (by unfold za9;omega)] at hnx
  exact EG.same hnx (by omega) (by omega) fun o n kids q h=>zev (zad (decide_eq_true (by omega)) (zae (zaP _) (zcL (by simp;omega) (zae (zaP _) (zcL (by simp;omega) h)))))
theorem zud {f:Nat} (hf:f<R.length) (hps:0<(gP R f).ps.length) {p:Nat} (hp:p+3000≤800000):EG ns p 1300 700 (ziM (Qr ns p) [pgC D R,.cell (.int (f:Int))]):=by
 obtain⟨s1,s2,s3⟩:=hR.small hf;have hw:zaf ((((gP R f).ps.length:Nat):Int)+2)=(((gP R f).ps.length+2:Nat):Int):=by rw[wr (by omega) (by omega)];omega
 have hk:∀n:Int,-1000≤n∧n≤1000→zcA [[.int 12,.int n,.sl 3 []]]:=fun n hn b hb=>by
  simp only[List.mem_singleton] at hb;rw[hb];exact zbZ hn
 have hr:∀n:Int,rsS [[AC.int 12,.int n,.sl 3 []]]=0:=fun n=>by rw[zaJ,zaG,zcm];simp[zaG]
 have h:=zqL hns hD hR hf hps (c1:=0) (c2:=0) (c3:=[]) ((gP R f).ps.length-1) 1 (by omega) [[.int 12,.int (((gP R f).ps.length:Nat):Int),.sl 3 []]] [[.int 12,.int (((gP R f).ps.length+2:Nat):Int),.sl 3 []]] (hk _ (by omega)) (hk _ (by omega)) (by simp) (by simp) (hr _) (hr _) p hp
 refine EG.same h (by omega) (by omega) fun o n kids q h=>zm3 (za7 rfl hf ?_)
 rw[zac,hw];exact zae (zaP _) (zae (zaP _) h)
end
end
end Go.Proofs.Ytcpcagdialnbeaa
