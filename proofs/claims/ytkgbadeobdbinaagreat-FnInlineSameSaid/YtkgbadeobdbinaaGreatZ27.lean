/- Generic texts and models for the proofs of this seat: part 27. -/
import Derived.Test.YtkgbadeobdbinaaGreatZ26
set_option linter.unusedVariables false
set_option linter.unusedSimpArgs false
namespace Go.Proofs.YtkgbadeobdbinaaGreat
section
open Go Go.RowKit
section
variable {D:List DM}{R:List PM} (hv:CP D R)
include hv
theorem zFz {V:List Int}{x:List AC}{t:Int} (h:HT D R V x t):(∀u∈V,0≤u∧u≤D.length)→0≤t∧t≤D.length:=by
 induction h with
 | var V n kids hk h=>exact fun hV=>hV _ (zaE (by omega) 0)
 | bind V kids t0 t hl h0 h1 h2 i1 i2 =>
  intro hV;have:=i1 hV
  refine i2 fun u hu=>?_
  rcases List.mem_append.1 hu with hu|hu
  ·exact hV u hu
  ·simp only[List.mem_singleton] at hu;omega
 | ifz V kids t hl h0 h1 h2 i0 i1 i2=>exact i1
 | mtch V kids j n t hn hj hc hl h0 hs i0 is =>
  intro hV;refine is 0 hc fun u hu=>?_
  rcases List.mem_append.1 hu with hu|hu
  ·exact hV u hu
  ·exact(hv.dv.c j hj _ (zaE hc [])).2 u hu
 | op V o n kids T t h12 h13 h7 h8 hk ht h0 ih =>
  intro _;rcases zyG hv o n (tyL T kids.length) with h|h <;> omega
theorem zGt {V:List Int}{x:List AC}{t:Int} (h:HT D R V x t):∀s,Fit .expr x→cS x<s→s≤31→∀G M:List Int,G++M=V→V.length+3*s≤1048576→iTy D R G M x=rI t:=by
 induction h with
 | var V n kids hk h =>
  intro s hf hs h31 G M hV hl;obtain⟨_,hn,_,_⟩:=zd3 hf;subst hV;have hGM:G.length+M.length≤1048576:=by rw[List.length_append] at hl;omega
  have g:=zqE G M (by omega) (by omega) hn
  rw[show tv (G++M) n=(G++M).getD n.toNat 0 by unfold tv;rw[if_pos h]] at g
  exact zbB (zac rfl (zaa (decide_eq_false (by omega)) (zar g rfl)))
 | bind V kids t0 t hl h0 h1 h2 i1 i2 =>
  intro s hf hs h31 G M hV hb;obtain⟨s,rfl⟩:∃j,s=j+1:=⟨s-1,by omega⟩
  obtain⟨_,_,_,hk⟩:=zd3 hf;subst hV;have hGM:G.length+M.length≤1048576:=by rw[List.length_append] at hb;omega
  obtain⟨o0,n0,k0,e0,f0⟩:=zcE hk (show 0<kids.length by omega)
  obtain⟨o1,n1,k1,e1,f1⟩:=zcE hk (show 1<kids.length by omega)
  have l0:=zaO (show 0<kids.length by omega) (o:=13) (n:=0)
  have l1:=zaO (show 1<kids.length by omega) (o:=13) (n:=0)
  rw[e0] at l0 i1;rw[e1] at l1 i2;have g0:=i1 s f0 (by omega) (by omega) G M rfl (by omega)
  have g1:=i2 s f1 (by omega) (by omega) G (M++[t0]) (by rw[List.append_assoc]) (by rw[List.length_append,List.length_singleton];omega)
  exact zbB (zaa rfl (zac rfl (zar (zc8 (zaa (nef rfl) (zaa (nef (by omega)) (zeD (by omega) e0 (zar g0 (zaa (decide_eq_false (by omega)) (zsB (zrN G M [t0] (by simp;omega)) (zbu (k:=1) (by omega) e1 (zar g1 rfl))))))))) rfl)))
 | ifz V kids t hl h0 h1 h2 i0 i1 i2 =>
  intro s hf hs h31 G M hV hb;obtain⟨s,rfl⟩:∃j,s=j+1:=⟨s-1,by omega⟩
  obtain⟨_,_,_,hk⟩:=zd3 hf;obtain⟨o0,n0,k0,e0,f0⟩:=zcE hk (show 0<kids.length by omega)
  obtain⟨o1,n1,k1,e1,f1⟩:=zcE hk (show 1<kids.length by omega)
  obtain⟨o2,n2,k2,e2,f2⟩:=zcE hk (show 2<kids.length by omega)
  have l0:=zaO (show 0<kids.length by omega) (o:=7) (n:=0)
  have l1:=zaO (show 1<kids.length by omega) (o:=7) (n:=0)
  have l2:=zaO (show 2<kids.length by omega) (o:=7) (n:=0)
  rw[e0] at l0 i0;rw[e1] at l1 i1;rw[e2] at l2 i2;have g0:=i0 s f0 (by omega) (by omega) G M hV (by omega)
  have g1:=i1 s f1 (by omega) (by omega) G M hV (by omega)
  have g2:=i2 s f2 (by omega) (by omega) G M hV (by omega)
  have hi:zhX [.agg [.sl 3 (zaf D),.sl 5 (zak R)],.agg [.sl 1 (zad G),.sl 1 (zad M)],.agg [.int 7,.int 0,.sl 3 kids]]=rI t :=
   ze5 (zaa (nef rfl) (zaa (nef (by omega)) (zbu (k:=1) (by omega) e1 (zar g1 (zeD (by omega) e0 (zar g0 (zaa rfl (zbu (k:=2) (by omega) e2 (zar g2 (zaa (nef rfl) rfl))))))))))
  exact zbB (zaa rfl (zaa rfl (zac rfl (zar hi rfl))))
 | mtch V kids j n t hn hj hc hl h0 hs' i0 is =>
  intro s hf hs h31 G M hV hb;obtain⟨s,rfl⟩:∃j,s=j+1:=⟨s-1,by omega⟩
  obtain⟨_,_,hml,hk⟩:=zd3 hf;have hcs:=zbv 8 n kids
  have hl4:=hv.dv.len
  have hc3:=hv.dv.cs j hj
  have hGM:G.length+M.length≤1048576:=by rw[←hV,List.length_append] at hb;omega
  have hbk:∀k,k<kids.length→∃o n ks,kids.getD k []=[.int o,.int n,.sl 3 ks]:=fun k hlt=>by
   obtain⟨o',n',ks,e,_⟩:=zcE hk hlt;exact⟨o',n',ks,e⟩
  obtain⟨o0,n0,k0,e0,f0⟩:=zcE hk (show 0<kids.length by omega)
  obtain⟨o1,n1,k1,e1,f1⟩:=zcE hk (show 1<kids.length by omega)
  have l0:=zaO (show 0<kids.length by omega) (o:=8) (n:=n)
  rw[e0] at l0 i0;have g0:=i0 s f0 (by omega) (by omega) G M hV (by omega)
  have h3:∀k,k<(gD D j).cs.length→((gD D j).cs.getD k []).length≤3:=fun k hk=>(hv.dv.c j hj _ (zaE hk [])).1
  have gs:∀k,k<(gD D j).cs.length→iTy D R G (M++(gD D j).cs.getD k []) (kids.getD (1+k) [])=rI t:=fun k hkc=>by
   have l1:=zaO (show 1+k<kids.length by omega) (o:=8) (n:=n)
   have:=h3 k hkc
   exact is k hkc s (hk _ (zaE (by omega) [])) (by omega) (by omega) G _ (by rw[←hV,List.append_assoc]) (by rw[List.length_append];omega)
  have s0:=gs 0 hc
  rw[show 1+0=1 from rfl,e1] at s0;have li:=zv6 (D:=D) (R:=R) G M (by omega) 8 n kids (gD D j).cs (fun _=>t) (by omega) (by omega) h3 hbk gs t ((gD D j).cs.length-1) 1 (by omega)
  have hct:∀m k,chk (fun _=>t) t m k=t:=by
   intro m;induction m with
   | zero=>intro k;rfl
   | succ m ih=>intro k;unfold chk;rw[if_pos rfl];exact ih _
  rw[hct] at li;have hd:zxt D n=true:=by
   unfold zxt;rw[decide_eq_true (by omega),isTy_iff.2 (by omega),show n.toNat-1=j by omega,decide_eq_true hc]
   rfl
  have w:zae (n-1)=(j:Int):=by rw[wr (by omega) (by omega)];omega
  have wl:zae (1+((((gD D j).cs.length:Nat)):Int))=((1+(gD D j).cs.length:Nat):Int):=by rw[wr (by omega) (by omega)];omega
  have:=h3 0 hc
  refine zbB (zaa rfl (zaa rfl (zaa rfl (zac rfl (zar (zfs (zan (zs6 (by omega) n) ?_)) rfl)))))
  rw[hd];refine zaa rfl (za5 (k:=j) w hj ?_)
  rw[zaK,wl];exact zaa (nef (by omega)) (zeD (by omega) e0 (zar g0 (zaa (nef rfl) (zhP (k:=0) rfl hc (zsB (zrN G M _ (by omega)) (zbu (k:=1) (by omega) e1 (zar s0 li)))))))
 | op V o n kids T t h12 h13 h7 h8 hk' ht h0 ih =>
  intro s hf hs h31 G M hV hb;obtain⟨s,rfl⟩:∃j,s=j+1:=⟨s-1,by omega⟩
  obtain⟨_,_,hml,hk⟩:=zd3 hf;have hcs:=zbv o n kids
  have hbk:∀k,k<kids.length→∃o n ks,kids.getD k []=[.int o,.int n,.sl 3 ks]:=fun k hlt=>by
   obtain⟨o',n',ks,e,_⟩:=zcE hk hlt;exact⟨o',n',ks,e⟩
  have hTi:∀k,k<kids.length→∀o n ks,kids.getD k []=[.int o,.int n,.sl 3 ks]→iTy D R G M [.int o,.int n,.sl 3 ks]=rI (T k):=fun k hlt o' n' ks e=>by
   have l1:=zaO hlt (o:=o) (n:=n)
   have hfk:=hk _ (zaE hlt [])
   have:=ih k hlt s hfk (by omega) (by omega) G M hV (by omega)
   rw[e] at this;exact this
  rw[←ht];exact zbB (zaa (eqf h12) (zaa (eqf h13) (zaa (eqf h7) (zaa (eqf h8) (zav (zuk G M kids (by omega) T hbk hTi) (zar (zqN hv o n _ (by rw[zdc];exact hml)) rfl))))))
end
end
section
open Go Go.RowKit
def zlY (R R':List PM):Prop:=R'.length=R.length∧∀k,(gP R' k).ps=(gP R k).ps∧(gP R' k).r=(gP R k).r
section
variable {D:List DM}{R R':List PM}
theorem zy0 (h:zlY R R') (o n:Int) (T:List Int):zmp D R' o n T=zmp D R o n T:=by
 unfold zmp;simp only[h.1,(h.2 _).1,(h.2 _).2]
theorem zEO (h:zlY R R') {V:List Int}{x:List AC}{t:Int} (ht:HT D R V x t):HT D R' V x t:=by
 induction ht with
 | var V n kids hk h'=>exact .var V n kids hk h'
 | bind V kids t0 t hl h0 h1 h2 i1 i2=>exact .bind V kids t0 t hl h0 i1 i2
 | ifz V kids t hl h0 h1 h2 i0 i1 i2=>exact .ifz V kids t hl i0 i1 i2
 | mtch V kids j n t hn hj hc hl h0 hs i0 is=>exact .mtch V kids j n t hn hj hc hl i0 is
 | op V o n kids T t h12 h13 h7 h8 hk ht h0 ih=>exact .op V o n kids T t h12 h13 h7 h8 ih (by rw[zy0 h];exact ht) h0
theorem zyy {α:Type} [Inhabited α] {l:List α}{p:α→Bool}:l.all p=(List.range l.length).all fun k=>p (l.getD k default):=by
 rw[Bool.eq_iff_iff,List.all_eq_true,List.all_eq_true];constructor
 ·intro h k hk
  rw[List.mem_range] at hk;exact h _ (by simp[List.getD,hk])
 ·intro h x hx
  obtain⟨k,hk,rfl⟩:=List.getElem_of_mem hx;have:=h k (by simpa using hk)
  simpa [List.getD,hk] using this
theorem zzs (h:zlY R R'):zhi D R'=zhi D R:=by
 unfold zhi;have e:R'.all (zow D)=R.all (zow D):=by
  rw[zyy (l:=R'),zyy (l:=R),h.1]
  congr 1
  funext k
  show zow D (gP R' k)=zow D (gP R k)
  unfold zow;rw[(h.2 k).1,(h.2 k).2]
 rw[h.1,e,(h.2 0).1,(h.2 0).2]
theorem zwL (hi:PIn D R) (hs:zhi D R=true) (hv:CP D R) {V:List Int} (hV:∀u∈V,0≤u∧u≤D.length) (hl:V.length≤100) {x:List AC}{t:Int} (hf:Fit .expr x) (hc:cS x≤29) (h:HT D R V x t) :
  zil [.agg [.sl 3 (zaf D),.sl 5 (zak R)],.cell (.sl 1 (zad V)),.agg x]=rI t:=by
 have ha:V.all (zed D)=true:=by
  rw[List.all_eq_true];exact fun t ht=>isTy_iff.2 (hV t ht)
 have g:=zGt hv h 31 hf (by omega) (by omega) V [] (by simp) (by omega)
 obtain⟨o,n,kids,rfl⟩:=znl hf;refine zmR (zan (zgE D R hi.d hi.r hi.dl) ?_)
 rw[hs];refine zaa rfl (zan (zlK D _ (by unfold zaI;omega)) ?_)
 rw[ha];refine zaa rfl (zar (zqm hf) ?_)
 rw[zmN,decide_eq_true hc];exact zaa rfl (zar g rfl)
theorem zFa (hi:PIn D R) (hs:zhi D R=true) (hv:CP D R) (h:∀k,k<R.length→cS (zaH (gP R k))≤29∧HT D R (gP R k).ps (zaH (gP R k)) (gP R k).r):za6 [.agg [.sl 3 (zaf D),.sl 5 (zak R)]]=rB true:=by
 have hR:=hv.rl
 refine zeT (zan (zgE D R hi.d hi.r hi.dl) ?_)
 rw[hs];refine zaa rfl ?_
 have key:∀m k:Nat,k+m=R.length→zcj (zaf D) (zak R) (zak R) (((zak R).length:Nat):Int) (k:Int)=rB true:=by
  intro m;induction m with
  | zero=>intro k hk;exact zcu (zaa (decide_eq_false (by rw[zaA];omega)) rfl)
  | succ m ih =>
   intro k hk;have hlt:k<R.length:=by omega
   have hx:=hi.r _ (zf2 hlt)
   have hps:=hv.ps k hlt
   obtain⟨hc,hT⟩:=h k hlt;refine zcu (zac (decide_eq_true (by rw[zaA];omega)) (zaB (k:=k) rfl hlt (zar (zwL hi hs hv hps.2 (by omega) hx.b hc hT) (zaa (nef rfl) ?_))))
   rw[wrk (by unfold zaI;omega)]
   exact ih (k+1) (by omega)
 exact key R.length 0 (by omega)
end
end
section
open Go Go.RowKit
theorem zuh {D:List DM}{R:List PM}{V:List Int}{x:List AC}{t:Int} (h:HT D R V x t):∀(A B W:List Int),V=A++B→∀s,cS x<s→HT D R (A++(W++B)) (shr (A.length:Int) (W.length:Int) s x) t:=by
 induction h with
 | var V n kids hk h =>
  intro A B W hV s hs;obtain⟨s,rfl⟩:∃j,s=j+1:=⟨s-1,by omega⟩
  subst hV;rw[List.length_append] at h;rw[zeh];have hlen:(A++(W++B)).length=A.length+W.length+B.length:=by simp;omega
  by_cases hc:(A.length:Int)≤n
  ·have e:(A++B).getD n.toNat 0=(A++(W++B)).getD (n+W.length).toNat 0:=by
    simp only[List.getD];rw[List.getElem?_append_right (by omega),List.getElem?_append_right (by omega),List.getElem?_append_right (by omega),show(n+W.length).toNat-A.length-W.length=n.toNat-A.length by omega]
   rw[show shF (A.length:Int) (W.length:Int) 12 n=n+W.length by unfold shF;rw[if_pos ⟨rfl,hc⟩],e]
   exact .var _ _ _ (by rw[List.length_map];exact hk) (by rw[hlen];omega)
  ·have e:(A++B).getD n.toNat 0=(A++(W++B)).getD n.toNat 0:=by
    simp only[List.getD];rw[List.getElem?_append_left (by omega),List.getElem?_append_left (by omega)]
   rw[show shF (A.length:Int) (W.length:Int) 12 n=n by unfold shF;rw[if_neg (fun h=>hc h.2)],e]
   exact .var _ _ _ (by rw[List.length_map];exact hk) (by rw[hlen];omega)
 | bind V kids t0 t hl h0 h1 h2 i1 i2 =>
  intro A B W hV s hs;obtain⟨s,rfl⟩:∃j,s=j+1:=⟨s-1,by omega⟩
  subst hV;rw[zeh,show shF (A.length:Int) (W.length:Int) 13 0=0 by unfold shF;rw[if_neg (fun h=>absurd h.1 (by decide))]]
  have l0:=zaO (show 0<kids.length by omega) (o:=13) (n:=0)
  have l1:=zaO (show 1<kids.length by omega) (o:=13) (n:=0)
  have g1:=i1 A B W rfl s (by omega)
  have g2:=i2 A (B++[t0]) W (by rw[List.append_assoc]) s (by omega)
  refine .bind _ _ t0 _ (by rw[List.length_map];exact hl) h0 ?_ ?_
  ·rw[zfF (by omega)];exact g1
  ·rw[zfF (by omega),List.append_assoc,List.append_assoc];exact g2
 | ifz V kids t hl h0 h1 h2 i0 i1 i2 =>
  intro A B W hV s hs;obtain⟨s,rfl⟩:∃j,s=j+1:=⟨s-1,by omega⟩
  rw[zeh,show shF (A.length:Int) (W.length:Int) 7 0=0 by unfold shF;rw[if_neg (fun h=>absurd h.1 (by decide))]]
  have l0:=zaO (show 0<kids.length by omega) (o:=7) (n:=0)
  have l1:=zaO (show 1<kids.length by omega) (o:=7) (n:=0)
  have l2:=zaO (show 2<kids.length by omega) (o:=7) (n:=0)
  have g0:=i0 A B W hV s (by omega)
  have g1:=i1 A B W hV s (by omega)
  have g2:=i2 A B W hV s (by omega)
  exact .ifz _ _ _ (by rw[List.length_map];exact hl) (by rw[zfF (by omega)];exact g0) (by rw[zfF (by omega)];exact g1) (by rw[zfF (by omega)];exact g2)
 | mtch V kids j n t hn hj hc hl h0 hs' i0 is =>
  intro A B W hV s hs;obtain⟨s,rfl⟩:∃j,s=j+1:=⟨s-1,by omega⟩
  rw[zeh,show shF (A.length:Int) (W.length:Int) 8 n=n by unfold shF;rw[if_neg (fun h=>absurd h.1 (by decide))]]
  have l0:=zaO (show 0<kids.length by omega) (o:=8) (n:=n)
  have g0:=i0 A B W hV s (by omega)
  refine .mtch _ _ j n _ hn hj hc (by rw[List.length_map];exact hl) (by rw[zfF (by omega)];exact g0) fun k hkc=>?_
  have l1:=zaO (show 1+k<kids.length by omega) (o:=8) (n:=n)
  have g1:=is k hkc A (B++(gD D j).cs.getD k []) W (by rw[hV,List.append_assoc]) s (by omega)
  rw[zfF (by omega),List.append_assoc,List.append_assoc]
  exact g1
 | op V o n kids T t h12 h13 h7 h8 hk' ht h0 ih =>
  intro A B W hV s hs;obtain⟨s,rfl⟩:∃j,s=j+1:=⟨s-1,by omega⟩
  rw[zeh,show shF (A.length:Int) (W.length:Int) o n=n by unfold shF;rw[if_neg (fun h=>h12 h.1)]]
  refine .op _ _ _ _ T _ h12 h13 h7 h8 (fun k hkl=>?_) (by rw[List.length_map];exact ht) h0
  rw[List.length_map] at hkl;have l1:=zaO hkl (o:=o) (n:=n)
  rw[zfF hkl];exact ih k hkl A B W hV s (by omega)
def zyW:List AC→Int
 | [.int o,.int _,.sl 3 _]=>o
 | _=>-1
def zt6:List AC→Int
 | [.int _,.int n,.sl 3 _]=>n
 | _=>-1
def zxQ:List AC→List (List AC)
 | [.int _,.int _,.sl 3 kids]=>kids
 | _=>[]
theorem zfC {D:List DM}{R:List PM}{V:List Int}{x:List AC}{t:Int} (h:HT D R V x t):x=[.int (zyW x),.int (zt6 x),.sl 3 (zxQ x)]:=by cases h <;> rfl
def ltK (n:Int):Nat→List (List AC)→List AC→List AC
 | _,[],b=>b
 | k,x::xs,b=>[.int 13,.int 0,.sl 3 [shr n (k:Int) 100 x,ltK n (k+1) xs b]]
theorem zyH {D:List DM}{R:List PM}{V:List Int}{x:List AC}{t:Int} (h:HT D R V x t) (a b:Int):∀s,cS x<s→cS (shr a b s x)=cS x:=by
 induction h with
 | var V n kids hk h =>
  intro s hs;obtain⟨s,rfl⟩:∃j,s=j+1:=⟨s-1,by omega⟩
  rw[zeh,zbv,zbv,List.length_eq_zero_iff.1 hk];rfl
 | bind V kids t0 t hl h0 h1 h2 i1 i2 =>
  intro s hs;obtain⟨s,rfl⟩:∃j,s=j+1:=⟨s-1,by omega⟩
  rw[zeh,zbv,zbv,List.length_map,zo6 fun c hc=>?_]
  obtain⟨k,hkl,rfl⟩:=List.getElem_of_mem hc;rw[show kids[k]=kids.getD k [] by simp[List.getD,hkl]]
  have l:=zaO hkl (o:=13) (n:=0)
  rcases(by omega:k=0∨k=1) with rfl|rfl
  ·exact i1 s (by omega)
  ·exact i2 s (by omega)
 | ifz V kids t hl h0 h1 h2 i0 i1 i2 =>
  intro s hs;obtain⟨s,rfl⟩:∃j,s=j+1:=⟨s-1,by omega⟩
  rw[zeh,zbv,zbv,List.length_map,zo6 fun c hc=>?_]
  obtain⟨k,hkl,rfl⟩:=List.getElem_of_mem hc;rw[show kids[k]=kids.getD k [] by simp[List.getD,hkl]]
  have l:=zaO hkl (o:=7) (n:=0)
  rcases(by omega:k=0∨k=1∨k=2) with rfl|rfl|rfl
  ·exact i0 s (by omega)
  ·exact i1 s (by omega)
  ·exact i2 s (by omega)
 | mtch V kids j n t hn hj hc hl h0 hs' i0 is =>
  intro s hs;obtain⟨s,rfl⟩:∃j,s=j+1:=⟨s-1,by omega⟩
  rw[zeh,zbv,zbv,List.length_map,zo6 fun c hc=>?_]
  obtain⟨k,hkl,rfl⟩:=List.getElem_of_mem hc;rw[show kids[k]=kids.getD k [] by simp[List.getD,hkl]]
  have l:=zaO hkl (o:=8) (n:=n)
  rcases k with _|k
  ·exact i0 s (by omega)
  ·have:=is k (by omega) s
   rw[Nat.add_comm 1 k] at this;exact this (by omega)
 | op V o n kids T t h12 h13 h7 h8 hk' ht h0 ih =>
  intro s hs;obtain⟨s,rfl⟩:∃j,s=j+1:=⟨s-1,by omega⟩
  rw[zeh,zbv,zbv,List.length_map,zo6 fun c hc=>?_]
  obtain⟨k,hkl,rfl⟩:=List.getElem_of_mem hc;rw[show kids[k]=kids.getD k [] by simp[List.getD,hkl]]
  have l:=zaO hkl (o:=o) (n:=n)
  exact ih k hkl s (by omega)
def zxn (n:Int):Int:=if n>999 then 999 else if n < -999 then -999 else n
def zG2 (o a b:Int):Int:=if o=1 then zxn (a+b) else if o=2 then zxn (a-b) else if o=3 then zxn (a*b) else if o=4∧a<b then 1 else 0
def zGY (D:List DM) (n o m:Int) (kids:List (List AC)):List AC :=
 if(o=1∨o=2∨o=3∨o=4)∧zyW (kids.getD 0 [])=0∧zyW (kids.getD 1 [])=0 then[.int 0,.int (zG2 o (zt6 (kids.getD 0 [])) (zt6 (kids.getD 1 []))),.sl 3 []]
 else if o=7∧zyW (kids.getD 0 [])=0 then(if zt6 (kids.getD 0 [])≠0 then kids.getD 1 [] else kids.getD 2 [])
 else if o=8∧zyW (kids.getD 0 [])=6 then ltK n 0 (zxQ (kids.getD 0 [])) (kids.getD (1+(zt6 (kids.getD 0 [])-((zbG (D.take (m-1).toNat):Nat):Int))).toNat [])
 else[.int o,.int m,.sl 3 kids]
def zcl (D:List DM) (o m:Int) (k:Nat):Nat :=
 if o=13∧k=1 then 1 else if o=8∧0<k then((gD D (m-1).toNat).cs.getD (k-1) []).length else 0
def fd (D:List DM):Nat→Nat→List AC→List AC
 | s+1,n,[.int o,.int m,.sl 3 kids]=>zGY D (n:Int) o m ((List.range kids.length).map fun k=>fd D s (n+zcl D o m k) (kids.getD k []))
 | _,_,r=>r
theorem zd1 {f:Nat→List AC}{m k:Nat} (h:k<m):((List.range m).map f).getD k []=f k:=by simp[List.getD,h]
end
section
open Go Go.RowKit
theorem zsY (kids:List (List AC)):(List.range kids.length).map (fun k=>kids.getD k [])=kids:=by
 apply List.ext_getElem
 ·simp
 ·intro i h1 h2
  simp[List.getD,h2]
section
variable {D:List DM}{R:List PM}
end
end
section
open Go
def Qr (ns:List Nat) (p:Nat):List AC:=[.sl 1 (ns.map fun(u:Nat)=>[.bool true,.int (u:Int)]),.int (p:Int)]
section
variable {ρ:Type}{r:ρ}
theorem zam {x:Option (AV×List AC)}{n:Int}{q:List AC} (h:x=some (.v (.cell (.int n)),q)) {K:List AC→Fn (Option ρ) (za1 [(false,[.int 0])])} (h2:(K q:Int→Option ρ) n=some r):zdU x false [(false,[.int 0])] K=some r:=by rw[h];exact h2
theorem zaM {x:Option (AV×List AC)}{o n:Int}{l:List (List AC)}{q:List AC} (h:x=some (.v (.agg [.int o,.int n,.sl 3 l]),q)) {K:List AC→Fn (Option ρ) (za1 [(true,[.int 0,.int 0,.sl 3 []])])} (h2:(K q:Int→Int→List (List AC)→Option ρ) o n l=some r):zdU x false [(true,[.int 0,.int 0,.sl 3 []])] K=some r:=by rw[h];exact h2
theorem zk5 {x:Option (AV×List AC)}{k:Nat}{l:List (List AC)}{q:List AC} (h:x=some (.v (.cell (.sl k l)),q)) {K:List AC→Fn (Option ρ) (za1 [(false,[.sl k []])])} (h2:(K q:List (List AC)→Option ρ) l=some r):zdU x false [(false,[.sl k []])] K=some r:=by
 rw[h];exact zav rfl h2
theorem zsQ {a b:Int}{n:Nat} (ha:0≤a) (hb:0<b) (hle:a≤9223372036854775807) (h:a / b=(n:Int)) {K:Int→Option ρ} (h2:K (n:Int)=some r):zrS a b K=some r:=by
 unfold zrS;rw[show(b==0)=false by rw[beq_eq_false_iff_ne];omega,Int.tdiv_eq_ediv_of_nonneg ha,h]
 have:a / b≤a:=Int.ediv_le_self _ ha
 rw[wr (by omega) (by omega)]
 exact h2
end
theorem zbJ {ns:List Nat} (hns:ns.length≤2000) {p:Nat} (hp:p≤1000000) {m:Nat} (hm:1≤m):∃x:Nat,x<m∧zah (Qr ns p) [.cell (.int (m:Int))]=some (.v (.cell (.int (x:Int))),Qr ns (p+1)):=by
 have hrun:zoS (Qr ns p) [.cell (.int (m:Int))]=some (.v (.cell (.int (zkR ns p m))),Qr ns (p+1)):=by
  unfold Qr zoS;simp only[zm5,Option.bind_some];rw[if_pos ⟨by omega,by omega,hns⟩]
  simp
 have hrange:∃x:Nat,x<m∧zkR ns p m=(x:Int):=by
  unfold zkR;split
  ·exact⟨0,by omega,rfl⟩
  ·split
   ·have h1:=Int.emod_nonneg ((ns.getD p 0:Nat):Int) (show(m:Int)≠0 by omega)
    have h2:=Int.emod_lt_of_pos ((ns.getD p 0:Nat):Int) (show(0:Int)<m by omega)
    exact⟨(((ns.getD p 0:Nat):Int) % m).toNat,by omega,by omega⟩
   ·generalize bits .xor .i64 _ _=z
    have h1:=Int.emod_nonneg z (show(m:Int)≠0 by omega)
    have h2:=Int.emod_lt_of_pos z (show(0:Int)<m by omega)
    exact⟨(z % m).toNat,by omega,by omega⟩
 obtain⟨x,hx,e⟩:=hrange;rw[e] at hrun;exact⟨x,hx,zGT (by kernel_rfl) (by kernel_rfl:zgA 79=some zyk) hrun⟩
theorem zml {ns:List Nat} (hns:ns.length≤2000) {p:Nat} (hp:p≤1000000) {xs:List Int} (hx:xs≠[]) (hl:xs.length≤1000000):∃x∈xs,za7 (Qr ns p) [.cell (.sl 1 (zad xs))]=some (.v (.cell (.int x)),Qr ns (p+1)):=by
 have hpos:=List.length_pos_iff.2 hx
 obtain⟨k,hk,h⟩:=zbJ hns hp (m:=xs.length) hpos;refine⟨xs[k],List.getElem_mem hk,zn7 ?_⟩
 rw[zab];exact zam h (za9 hk rfl)
theorem zay (o n:Int) (l:List (List AC)):zai [.cell (.int o),.cell (.int n),.cell (.sl 3 l)]=some (.v (.agg [.int o,.int n,.sl 3 l])):=zvE rfl
theorem zcJ (n:Int):zbE [.cell (.int n)]=some (.v (.agg [.int 0,.int n,.sl 3 []])):=zrh rfl
theorem zaW (n:Int):zap [.cell (.int n)]=some (.v (.agg [.int 12,.int n,.sl 3 []])):=zpA rfl
theorem zbW (l:List (List AC)):zfE [.cell (.sl 1 l)]=some (.v (.agg [.sl 1 l])):=zwU rfl
theorem zuI {ns:List Nat} (hns:ns.length≤2000) {p:Nat} (hp:p+4≤1000000):∃x:Int,(-1000≤x∧x≤1000)∧zgX (Qr ns p) []=some (.v (.cell (.int x)),Qr ns (p+4)):=by
 obtain⟨a,ha,h1⟩:=zbJ hns (p:=p) (by omega) (m:=6) (by omega)
 obtain⟨b,hb,h2⟩:=zbJ hns (p:=p+1) (by omega) (m:=6) (by omega)
 obtain⟨c,hc,h3⟩:=zbJ hns (p:=p+1+1) (by omega) (m:=40) (by omega)
 obtain⟨x,hx,h4⟩:=zml hns (p:=p+1+1+1) (by omega) (xs:=[(a:Int),(b:Int),0,1,2,-1,3,(c:Int),999,-998]) (by simp) (by simp)
 refine⟨x,?_,zq1 (zam h1 (zam h2 (zam h3 (zam h4 rfl))))⟩
 simp only[List.mem_cons,List.not_mem_nil,or_false] at hx;omega
theorem znx (xs:List Int) (n:Int) (hx:xs.length≤1048576):zfg [.cell (.sl 1 (zad xs)),.cell (.int n)]=rB (xs.contains n):=by
 have key:∀m k:Nat,k+m=xs.length→zgx (zad xs) n (k:Int)=some (.v (.cell (.bool ((xs.drop k).contains n)))):=by
  intro m;induction m with
  | zero =>
   intro k hk;rw[List.drop_eq_nil_of_le (by omega)]
   exact zfT (zaa (decide_eq_false (by rw[zab];omega)) rfl)
  | succ m ih =>
   intro k hk;have hlt:k<xs.length:=by omega
   have hnext:=ih (k+1) (by omega)
   rw[←wrk (by unfold zaI;omega)] at hnext
   rw[List.drop_eq_getElem_cons hlt,List.contains_cons];refine zfT (zac (decide_eq_true (by rw[zab];omega)) (za9 hlt ?_))
   rcases e:(xs[k]==n) with _|_
   ·rw[show(n==xs[k])=false by rw[beq_eq_false_iff_ne] at e ⊢;exact fun h=>e h.symm,Bool.false_or]
    exact zaa rfl hnext
   ·rw[show(n==xs[k])=true by rw[beq_iff_eq] at e ⊢;exact e.symm,Bool.true_or]
    exact zac rfl rfl
 exact zoD (key xs.length 0 (by omega))
def zbL (D:List DM) (t:Int):List Int:=if 1≤t∧t≤D.length then(List.range (gD D (t.toNat-1)).cs.length).map fun i=>(((zbG (D.take (t.toNat-1))+i:Nat)):Int) else[]
theorem zes {D:List DM} (hv:DV D) (t:Int):zck [.cell (.sl 3 (zaf D)),.cell (.int t)]=rL (zbL D t):=by
 have h4:=hv.len
 refine zmK (zan (zdF _ _ _) ?_)
 rw[zaU];unfold zbL;by_cases h:1≤t∧t≤(D.length:Int)
 rotate_left
 ·rw[if_neg h,show(decide (1≤t)&&decide (t≤(D.length:Int)))=false by rw[←Bool.decide_and];exact decide_eq_false h]
  exact zac rfl rfl
 rw[if_pos h,show(decide (1≤t)&&decide (t≤(D.length:Int)))=true by rw[←Bool.decide_and];exact decide_eq_true h]
 refine zaa rfl ?_
 have hk:t.toNat-1<D.length:=by omega
 have h3:=hv.cs _ hk
 have hsum:=zh0 hv.cs (t.toNat-1) (by omega)
 have key:∀m i:Nat,i+m=(gD D (t.toNat-1)).cs.length→zeJ (zaf D) t (zad ((List.range i).map fun i=>(((zbG (D.take (t.toNat-1))+i:Nat)):Int))) (i:Int)=rL ((List.range (gD D (t.toNat-1)).cs.length).map fun i=>(((zbG (D.take (t.toNat-1))+i:Nat)):Int)):=by
  intro m;induction m with
  | zero =>
   intro i hi;refine zeA (za5 (k:=t.toNat-1) (by rw[wr (by omega) (by omega)];omega) hk ?_)
   rw[zaK];exact zaa (decide_eq_false (by omega)) (by rw[show i=(gD D (t.toNat-1)).cs.length by omega])
  | succ m ih =>
   intro i hi;refine zeA (za5 (k:=t.toNat-1) (by rw[wr (by omega) (by omega)];omega) hk ?_)
   rw[zaK];refine zac (decide_eq_true (by omega)) ?_
   rw[show zae (t-1)=((t.toNat-1:Nat):Int) by rw[wr (by omega) (by omega)];omega]
   refine zar (zlU hv (by omega)) (zbs (by rw[zab];simp;omega) ?_)
   have hn:=ih (i+1) (by omega)
   rw[List.range_succ,List.map_append] at hn;rw[wrk (by unfold zaI;omega)]
   rw[show zad ((List.range i).map fun i=>(((zbG (D.take (t.toNat-1))+i:Nat)):Int))++[[AC.int (zae (((zbG (D.take (t.toNat-1)):Nat):Int)+(i:Int)))]]=zad ((List.range i).map (fun i=>(((zbG (D.take (t.toNat-1))+i:Nat)):Int))++[i].map (fun i=>(((zbG (D.take (t.toNat-1))+i:Nat)):Int))) by
    rw[wr (by omega) (by omega)]
    simp[zad]]
   exact hn
 exact key (gD D (t.toNat-1)).cs.length 0 (by omega)
end
section
open Go
def zk8:List DM:=[⟨0,0,[[],[0,1]]⟩,⟨0,0,[]⟩,⟨0,0,[[],[3,0,3]]⟩]
def zdO:List (List DM):=[zk8++[⟨0,0,[[1,3]]⟩],zk8++[⟨1,0,[]⟩],zk8++[⟨0,0,[[1,1,0],[0],[3]]⟩],zk8++[⟨0,1,[]⟩],zk8]
theorem zxA:∀D∈zdO,zfJ D=true:=by decide
theorem zkH {D:List DM} (h:D∈zdO):DV D:=zFB (zxA D h)
theorem zg0 {D:List DM} (h:D∈zdO):D.length≤4:=(zkH h).len
theorem zqM {ns:List Nat} (hns:ns.length≤2000) {p:Nat} (hp:p≤1000000):∃D∈zdO,zj6 (Qr ns p) []=some (.v (.cell (.sl 3 (zaf D))),Qr ns (p+1)):=by
 obtain⟨x,hx,h1⟩:=zbJ hns hp (m:=5) (by omega)
 rcases(by omega:x=0∨x=1∨x=2∨x=3∨x=4) with rfl|rfl|rfl|rfl|rfl
 ·exact⟨zk8++[⟨0,0,[[1,3]]⟩],by simp[zdO],zc7 (zaZ (zbW _) (zaZ (zbW _) (zaZ (zbW _) (zaZ (zbW _) (zaZ (zbW _) (zaZ (zbW _) (zaZ (zbW _) (zaZ (zbW _) (zam h1 (zac rfl (zsr (k:=0) (by decide) rfl (zbs (by decide) rfl))))))))))))⟩
 ·exact⟨zk8++[⟨1,0,[]⟩],by simp[zdO],zc7 (zaZ (zbW _) (zaZ (zbW _) (zaZ (zbW _) (zaZ (zbW _) (zaZ (zbW _) (zaZ (zbW _) (zaZ (zbW _) (zaZ (zbW _) (zam h1 (zac rfl (zsr (k:=1) (by decide) rfl (zbs (by decide) rfl))))))))))))⟩
 ·exact⟨zk8++[⟨0,0,[[1,1,0],[0],[3]]⟩],by simp[zdO],zc7 (zaZ (zbW _) (zaZ (zbW _) (zaZ (zbW _) (zaZ (zbW _) (zaZ (zbW _) (zaZ (zbW _) (zaZ (zbW _) (zaZ (zbW _) (zam h1 (zac rfl (zsr (k:=2) (by decide) rfl (zbs (by decide) rfl))))))))))))⟩
 ·exact⟨zk8++[⟨0,1,[]⟩],by simp[zdO],zc7 (zaZ (zbW _) (zaZ (zbW _) (zaZ (zbW _) (zaZ (zbW _) (zaZ (zbW _) (zaZ (zbW _) (zaZ (zbW _) (zaZ (zbW _) (zam h1 (zac rfl (zsr (k:=3) (by decide) rfl (zbs (by decide) rfl))))))))))))⟩
 ·exact⟨zk8,by simp[zdO],zc7 (zaZ (zbW _) (zaZ (zbW _) (zaZ (zbW _) (zaZ (zbW _) (zaZ (zbW _) (zaZ (zbW _) (zaZ (zbW _) (zaZ (zbW _) (zam h1 (zaa rfl rfl))))))))))⟩
def sigL:List (List Int×Int):=[([],0),([1],0),([1,1],1),([1],1),([1,0],1),([2,1],1),([1,1],0),([3],0),([0],1),([0,1],1),([3,0],3),([3],1),([1,3,0],0),([0],0),([0,0],0),([1,0],0)]
structure GR (R:List PM):Prop where
 len:R.length≤4
 sg:∀x∈R,(x.ps,x.r)∈sigL
theorem zt0:∀s∈sigL,s.1.length≤3∧(0≤s.2∧s.2≤3)∧∀t∈s.1,0≤t∧t≤3:=by decide
theorem GR.at {R:List PM} (h:GR R) {k:Nat} (hk:k<R.length):((gP R k).ps,(gP R k).r)∈sigL:=h.sg _ (zf2 hk)
theorem GR.small {R:List PM} (h:GR R) {k:Nat} (hk:k<R.length):(gP R k).ps.length≤3∧(0≤(gP R k).r∧(gP R k).r≤3)∧∀t∈(gP R k).ps,0≤t∧t≤3:=zt0 _ (h.at hk)
abbrev pgC (D:List DM) (R:List PM):SV:=.agg [.sl 3 (zaf D),.sl 5 (zak R)]
def zGE (D:List DM) (R:List PM) (t:Int) (fs:List Int):Prop:=∀f∈fs,∃k,k<R.length∧f=(k:Int)∧0<(gP R k).ps.length∧zh4 ((gP R k).ps.getD ((gP R k).ps.length-1) 0) (gP R k).r D 0=t
theorem zss (xs:List Int) (x:Int):zad xs++[[AC.int x]]=zad (xs++[x]):=by simp[zad]
theorem zok {D:List DM} (hD:D.length≤4) {R:List PM} (hR:GR R) (t:Int):∃fs,zfz [pgC D R,.cell (.int t)]=rL fs∧fs.length≤4∧zGE D R t fs:=by
 have h4:=hR.len
 have key:∀m k:Nat,k+m=R.length→∀acc:List Int,acc.length≤k→zGE D R t acc→∃fs,zcL t (zaf D) (zak R) (zad acc) (k:Int)=rL fs∧fs.length≤4∧zGE D R t fs:=by
  intro m;induction m with
  | zero =>
   intro k hk acc hl ha;exact⟨acc,zdu (zaa (decide_eq_false (by rw[zaA];omega)) rfl),by omega,ha⟩
  | succ m ih =>
   intro k hk acc hl ha;have hlt:k<R.length:=by omega
   have h3:=(hR.small hlt).1
   have hw:zae ((k:Int)+1)=((k+1:Nat):Int):=wrk (by unfold zaI;omega)
   by_cases hz:0<(gP R k).ps.length
   ·by_cases he:zh4 ((gP R k).ps.getD ((gP R k).ps.length-1) 0) (gP R k).r D 0=t
    ·obtain⟨fs,h1,h2,h5⟩:=ih (k+1) (by omega) (acc++[(k:Int)]) (by simp;omega) (fun f hf=>by
      rcases List.mem_append.1 hf with hf|hf
      ·exact ha f hf
      ·simp only[List.mem_singleton] at hf
       exact⟨k,hlt,hf,hz,he⟩)
     refine⟨fs,zdu (zac (decide_eq_true (by rw[zaA];omega)) (zaB rfl hlt (zac (decide_eq_true (by rw[zab];omega)) (zaB rfl hlt ?_)))),h2,h5⟩
     rw[zab,show zae ((((gP R k).ps.length:Nat):Int)-1)=(((gP R k).ps.length-1:Nat):Int) by rw[wr (by omega) (by omega)];omega]
     refine za9 (by omega) (zaB rfl hlt (zar (zvP D (by omega) _ _) ?_))
     rw[List.getD,List.getElem?_eq_getElem (by omega),Option.getD_some] at he
     refine zac (by rw[he];simp) (zbs (by rw[zab];simp;omega) ?_)
     rw[zss,hw];exact h1
    ·obtain⟨fs,h1,h2,h5⟩:=ih (k+1) (by omega) acc (by omega) ha
     refine⟨fs,zdu (zac (decide_eq_true (by rw[zaA];omega)) (zaB rfl hlt (zac (decide_eq_true (by rw[zab];omega)) (zaB rfl hlt ?_)))),h2,h5⟩
     rw[zab,show zae ((((gP R k).ps.length:Nat):Int)-1)=(((gP R k).ps.length-1:Nat):Int) by rw[wr (by omega) (by omega)];omega]
     refine za9 (by omega) (zaB rfl hlt (zar (zvP D (by omega) _ _) ?_))
     rw[List.getD,List.getElem?_eq_getElem (by omega),Option.getD_some] at he
     refine zaa (by rw[beq_eq_false_iff_ne];exact he) ?_
     rw[hw];exact h1
   ·obtain⟨fs,h1,h2,h5⟩:=ih (k+1) (by omega) acc (by omega) ha
    refine⟨fs,zdu (zac (decide_eq_true (by rw[zaA];omega)) (zaB rfl hlt (zaa (decide_eq_false (by rw[zab];omega)) ?_))),h2,h5⟩
    rw[hw];exact h1
 obtain⟨fs,h1,h2,h3⟩:=key R.length 0 (by omega) [] (by simp) (fun f hf=>by cases hf)
 exact⟨fs,zpx h1,h2,h3⟩
theorem zng {D:List DM} (hD:D.length≤4) {R:List PM} (hR:GR R) {V:List Int} (hV:V.length≤1048576) (t:Int):∃b,zff [pgC D R,.cell (.sl 1 (zad V)),.cell (.int t)]=rB b:=by
 rcases ha:zoi D t with _|_
 ·exact⟨true,ziV (zan (zee (by omega) t) (zac (by rw[ha];rfl) rfl))⟩
 ·obtain⟨fs,h1,h2,h3⟩:=zok hD hR t
  by_cases hz:0<fs.length
  ·exact⟨true,ziV (zan (zee (by omega) t) (zaa (by rw[ha];rfl) (zav h1 (zac (decide_eq_true (by rw[zab];omega)) rfl))))⟩
  ·exact⟨V.contains t,ziV (zan (zee (by omega) t) (zaa (by rw[ha];rfl) (zav h1 (zaa (decide_eq_false (by rw[zab];omega)) (zan (znx V t hV) rfl)))))⟩
theorem zuS {V:List Int} (hV:V.length≤1048576) (t:Int):∃fs,ziI [.cell (.sl 1 (zad V)),.cell (.int t)]=rL fs∧fs.length≤V.length∧∀f∈fs,0≤f∧f≤1048576:=by
 have key:∀m k:Nat,k+m=V.length→∀acc:List Int,acc.length≤k→(∀f∈acc,0≤f∧f≤1048576)→∃fs,zcY (zad V) t (zad acc) (k:Int)=rL fs∧fs.length≤V.length∧∀f∈fs,0≤f∧f≤1048576:=by
  intro m;induction m with
  | zero =>
   intro k hk acc hl ha;exact⟨acc,zei (zaa (decide_eq_false (by rw[zab];omega)) rfl),by omega,ha⟩
  | succ m ih =>
   intro k hk acc hl ha;have hlt:k<V.length:=by omega
   have hw:zae ((k:Int)+1)=((k+1:Nat):Int):=wrk (by unfold zaI;omega)
   rcases he:(V[k]==t) with _|_
   ·obtain⟨fs,h1,h2,h5⟩:=ih (k+1) (by omega) acc (by omega) ha
    refine⟨fs,zei (zac (decide_eq_true (by rw[zab];omega)) (za9 hlt (zaa he ?_))),h2,h5⟩
    rw[hw];exact h1
   ·obtain⟨fs,h1,h2,h5⟩:=ih (k+1) (by omega) (acc++[(k:Int)]) (by simp;omega) (fun f hf=>by
     rcases List.mem_append.1 hf with hf|hf
     ·exact ha f hf
     ·simp only[List.mem_singleton] at hf
      omega)
    refine⟨fs,zei (zac (decide_eq_true (by rw[zab];omega)) (za9 hlt (zac he (zbs (by rw[zab];simp;omega) ?_)))),h2,h5⟩
    rw[zss,hw];exact h1
 obtain⟨fs,h1,h2,h3⟩:=key V.length 0 (by omega) [] (by simp) (fun f hf=>by cases hf)
 exact⟨fs,zn4 h1,h2,h3⟩
theorem ztZ {D:List DM} (hD:D.length≤4) {R:List PM} (hR:GR R) {V:List Int} (hV:V.length≤1048576) {ns:List Nat} (hns:ns.length≤2000) {p:Nat} (hp:p≤1000000) :
  ∃t:Int,(0≤t∧t≤4)∧zjt (Qr ns p) [pgC D R,.cell (.sl 1 (zad V))]=some (.v (.cell (.int t)),Qr ns (p+1)):=by
 obtain⟨x,hx,h1⟩:=zml hns hp (xs:=[1,1,3,0,2,4,3]) (by simp) (by simp)
 have hx4:0≤x∧x≤4:=by
  simp only[List.mem_cons,List.not_mem_nil,or_false] at hx;omega
 by_cases hl:x>(((zaf D).length:Nat):Int)
 ·exact⟨1,by omega,zi1 (zam h1 (zac (decide_eq_true hl) rfl))⟩
 ·obtain⟨b,hb⟩:=zng hD hR hV x
  rcases b with _|_
  ·exact⟨1,by omega,zi1 (zam h1 (zaa (decide_eq_false hl) (zan hb (zac rfl rfl))))⟩
  ·exact⟨x,hx4,zi1 (zam h1 (zaa (decide_eq_false hl) (zan hb (zaa rfl rfl))))⟩
def zEz (R:List PM) (fs:List Int):Prop:=∀f∈fs,∃k,k<R.length∧f=(k:Int)
theorem zrY {D:List DM} (hD:D.length≤4) {R:List PM} (hR:GR R) (t:Int):∃fs,zbm [pgC D R,.cell (.int t)]=rL fs∧fs.length≤4∧zEz R fs:=by
 have h4:=hR.len
 have key:∀m k:Nat,k+m=R.length→∀acc:List Int,acc.length≤k→zEz R acc→∃fs,zdy t (zaf D) (zak R) (zad acc) (k:Int)=rL fs∧fs.length≤4∧zEz R fs:=by
  intro m;induction m with
  | zero =>
   intro k hk acc hl ha;exact⟨acc,zfk (zaa (decide_eq_false (by rw[zaA];omega)) rfl),by omega,ha⟩
  | succ m ih =>
   intro k hk acc hl ha;have hlt:k<R.length:=by omega
   have h3:=(hR.small hlt).1
   have hw:zae ((k:Int)+1)=((k+1:Nat):Int):=wrk (by unfold zaI;omega)
   have inner:∀n i:Nat,i+n=(gP R k).ps.length→∀b:Bool,∃fs,zdE t (zaf D) (zak R) (zad acc) (k:Int) b (i:Int)=rL fs∧fs.length≤4∧zEz R fs:=by
    intro n;induction n with
    | zero =>
     intro i hi b;cases b with
     | false =>
      obtain⟨fs,h1,h2,h5⟩:=ih (k+1) (by omega) acc (by omega) ha
      refine⟨fs,zds (zaB rfl hlt (zaa (decide_eq_false (by rw[zab];omega)) (zaa rfl ?_))),h2,h5⟩
      rw[hw];exact h1
     | true =>
      obtain⟨fs,h1,h2,h5⟩:=ih (k+1) (by omega) (acc++[(k:Int)]) (by simp;omega) (fun f hf=>by
       rcases List.mem_append.1 hf with hf|hf
       ·exact ha f hf
       ·simp only[List.mem_singleton] at hf
        exact⟨k,hlt,hf⟩)
      refine⟨fs,zds (zaB rfl hlt (zaa (decide_eq_false (by rw[zab];omega)) (zac rfl (zbs (by rw[zab];simp;omega) ?_)))),h2,h5⟩
      rw[zss,hw];exact h1
    | succ n ihn =>
     intro i hi b;have hil:i<(gP R k).ps.length:=by omega
     have hwi:zae ((i:Int)+1)=((i+1:Nat):Int):=wrk (by unfold zaI;omega)
     cases b with
     | false =>
      obtain⟨fs,h1,h2,h5⟩:=ihn (i+1) (by omega) false
      refine⟨fs,zds (zaB rfl hlt (zac (decide_eq_true (by rw[zab];omega)) (zaa rfl ?_))),h2,h5⟩
      rw[hwi];exact h1
     | true =>
      obtain⟨c,hc⟩:=zng hD hR (V:=[]) (by simp) (gP R k).ps[i]
      obtain⟨fs,h1,h2,h5⟩:=ihn (i+1) (by omega) c
      refine⟨fs,zds (zaB rfl hlt (zac (decide_eq_true (by rw[zab];omega)) (zac rfl (zaB rfl hlt (za9 hil (zan hc ?_)))))),h2,h5⟩
      rw[hwi];exact h1
   obtain⟨fs,h1,h2,h5⟩:=inner (gP R k).ps.length 0 (by omega) ((gP R k).r==t)
   exact⟨fs,zfk (zac (decide_eq_true (by rw[zaA];omega)) (zaB rfl hlt h1)),h2,h5⟩
 rcases Nat.lt_or_ge R.length 1 with h0|h0
 ·exact⟨[],zly (zfk (zaa (decide_eq_false (by rw[zaA];omega)) rfl)),by simp,fun f hf=>by cases hf⟩
 ·obtain⟨fs,h1,h2,h3⟩:=key (R.length-1) 1 (by omega) [] (by simp) (fun f hf=>by cases hf)
  exact⟨fs,zly h1,h2,h3⟩
end
end Go.Proofs.YtkgbadeobdbinaaGreat
