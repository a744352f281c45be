/- Generic texts and models for the proofs of this seat: part 38. -/
import Derived.Test.YtkgbadeobdbinaaGreatY37
set_option linter.unusedVariables false
set_option linter.unusedSimpArgs false
namespace Go.Proofs.YtkgbadeobdbinaaGreat
section
open Go Go.RowKit
section
variable {D:List DM}{R:List PM} (hv:CP D R)
include hv
theorem zE4 {V:List Int}{x:List AC}{t:Int} (h:HT D R V x t):(∀u∈V,0≤u∧u≤D.length)→0≤t∧t≤D.length:=by
 induction h with
 | var V n kids hk h=>exact fun hV=>hV _ (zaE (by omega) 0)
 | bind V kids t0 t hl h0 h1 h2 i1 i2 =>
  intro hV;have:=i1 hV
  refine i2 fun u hu=>?_
  rcases List.mem_append.1 hu with hu|hu
  ·exact hV u hu
  ·simp only[List.mem_singleton] at hu;omega
 | ifz V kids t hl h0 h1 h2 i0 i1 i2=>exact i1
 | mtch V kids j n t hn hj hc hl h0 hs i0 is =>
  intro hV;refine is 0 hc fun u hu=>?_
  rcases List.mem_append.1 hu with hu|hu
  ·exact hV u hu
  ·exact(hv.dv.c j hj _ (zaE hc [])).2 u hu
 | op V o n kids T t h12 h13 h7 h8 hk ht h0 ih =>
  intro _;rcases zxY hv o n (tyL T kids.length) with h|h <;> omega
theorem zFB {V:List Int}{x:List AC}{t:Int} (h:HT D R V x t):∀s,Fit .expr x→cS x<s→s≤31→∀G M:List Int,G++M=V→V.length+3*s≤1048576→iTy D R G M x=rI t:=by
 induction h with
 | var V n kids hk h =>
  intro s hf hs h31 G M hV hl;obtain⟨_,hn,_,_⟩:=zeh hf;subst hV;have hGM:G.length+M.length≤1048576:=by rw[List.length_append] at hl;omega
  have g:=zqo G M (by omega) (by omega) hn
  rw[show tv (G++M) n=(G++M).getD n.toNat 0 by unfold tv;rw[if_pos h]] at g
  exact zbD (zab rfl (zaa (decide_eq_false (by omega)) (zan g rfl)))
 | bind V kids t0 t hl h0 h1 h2 i1 i2 =>
  intro s hf hs h31 G M hV hb;obtain⟨s,rfl⟩:∃j,s=j+1:=⟨s-1,by omega⟩
  obtain⟨_,_,_,hk⟩:=zeh hf;subst hV;have hGM:G.length+M.length≤1048576:=by rw[List.length_append] at hb;omega
  obtain⟨o0,n0,k0,e0,f0⟩:=zc5 hk (show 0<kids.length by omega)
  obtain⟨o1,n1,k1,e1,f1⟩:=zc5 hk (show 1<kids.length by omega)
  have l0:=zaV (show 0<kids.length by omega) (o:=13) (n:=0)
  have l1:=zaV (show 1<kids.length by omega) (o:=13) (n:=0)
  rw[e0] at l0 i1;rw[e1] at l1 i2;have g0:=i1 s f0 (by omega) (by omega) G M rfl (by omega)
  have g1:=i2 s f1 (by omega) (by omega) G (M++[t0]) (by rw[List.append_assoc]) (by rw[List.length_append,List.length_singleton];omega)
  exact zbD (zaa rfl (zab rfl (zan (zdc (zaa (nef rfl) (zaa (nef (by omega)) (zaq (by omega) e0 (zan g0 (zaa (decide_eq_false (by omega)) (zsF (zsq G M [t0] (by simp;omega)) (zaB (k:=1) (by omega) e1 (zan g1 rfl))))))))) rfl)))
 | ifz V kids t hl h0 h1 h2 i0 i1 i2 =>
  intro s hf hs h31 G M hV hb;obtain⟨s,rfl⟩:∃j,s=j+1:=⟨s-1,by omega⟩
  obtain⟨_,_,_,hk⟩:=zeh hf;obtain⟨o0,n0,k0,e0,f0⟩:=zc5 hk (show 0<kids.length by omega)
  obtain⟨o1,n1,k1,e1,f1⟩:=zc5 hk (show 1<kids.length by omega)
  obtain⟨o2,n2,k2,e2,f2⟩:=zc5 hk (show 2<kids.length by omega)
  have l0:=zaV (show 0<kids.length by omega) (o:=7) (n:=0)
  have l1:=zaV (show 1<kids.length by omega) (o:=7) (n:=0)
  have l2:=zaV (show 2<kids.length by omega) (o:=7) (n:=0)
  rw[e0] at l0 i0;rw[e1] at l1 i1;rw[e2] at l2 i2;have g0:=i0 s f0 (by omega) (by omega) G M hV (by omega)
  have g1:=i1 s f1 (by omega) (by omega) G M hV (by omega)
  have g2:=i2 s f2 (by omega) (by omega) G M hV (by omega)
  have hi:zhs [.agg [.sl 3 (zag D),.sl 5 (zao R)],.agg [.sl 1 (zae G),.sl 1 (zae M)],.agg [.int 7,.int 0,.sl 3 kids]]=rI t :=
   zeU (zaa (nef rfl) (zaa (nef (by omega)) (zaB (k:=1) (by omega) e1 (zan g1 (zaq (by omega) e0 (zan g0 (zaa rfl (zaB (k:=2) (by omega) e2 (zan g2 (zaa (nef rfl) rfl))))))))))
  exact zbD (zaa rfl (zaa rfl (zab rfl (zan hi rfl))))
 | mtch V kids j n t hn hj hc hl h0 hs' i0 is =>
  intro s hf hs h31 G M hV hb;obtain⟨s,rfl⟩:∃j,s=j+1:=⟨s-1,by omega⟩
  obtain⟨_,_,hml,hk⟩:=zeh hf;have hcs:=zbq 8 n kids
  have hl4:=hv.dv.len
  have hc3:=hv.dv.cs j hj
  have hGM:G.length+M.length≤1048576:=by rw[←hV,List.length_append] at hb;omega
  have hbk:∀k,k<kids.length→∃o n ks,kids.getD k []=[.int o,.int n,.sl 3 ks]:=fun k hlt=>by
   obtain⟨o',n',ks,e,_⟩:=zc5 hk hlt;exact⟨o',n',ks,e⟩
  obtain⟨o0,n0,k0,e0,f0⟩:=zc5 hk (show 0<kids.length by omega)
  obtain⟨o1,n1,k1,e1,f1⟩:=zc5 hk (show 1<kids.length by omega)
  have l0:=zaV (show 0<kids.length by omega) (o:=8) (n:=n)
  rw[e0] at l0 i0;have g0:=i0 s f0 (by omega) (by omega) G M hV (by omega)
  have h3:∀k,k<(gD D j).cs.length→((gD D j).cs.getD k []).length≤3:=fun k hk=>(hv.dv.c j hj _ (zaE hk [])).1
  have gs:∀k,k<(gD D j).cs.length→iTy D R G (M++(gD D j).cs.getD k []) (kids.getD (1+k) [])=rI t:=fun k hkc=>by
   have l1:=zaV (show 1+k<kids.length by omega) (o:=8) (n:=n)
   have:=h3 k hkc
   exact is k hkc s (hk _ (zaE (by omega) [])) (by omega) (by omega) G _ (by rw[←hV,List.append_assoc]) (by rw[List.length_append];omega)
  have s0:=gs 0 hc
  rw[show 1+0=1 from rfl,e1] at s0;have li:=zwJ (D:=D) (R:=R) G M (by omega) 8 n kids (gD D j).cs (fun _=>t) (by omega) (by omega) h3 hbk gs t ((gD D j).cs.length-1) 1 (by omega)
  have hct:∀m k,chk (fun _=>t) t m k=t:=by
   intro m;induction m with
   | zero=>intro k;rfl
   | succ m ih=>intro k;unfold chk;rw[if_pos rfl];exact ih _
  rw[hct] at li;have hd:zxq D n=true:=by
   unfold zxq;rw[decide_eq_true (by omega),isTy_iff.2 (by omega),show n.toNat-1=j by omega,decide_eq_true hc]
   rfl
  have w:zad (n-1)=(j:Int):=by rw[wr (by omega) (by omega)];omega
  have wl:zad (1+((((gD D j).cs.length:Nat)):Int))=((1+(gD D j).cs.length:Nat):Int):=by rw[wr (by omega) (by omega)];omega
  have:=h3 0 hc
  refine zbD (zaa rfl (zaa rfl (zaa rfl (zab rfl (zan (zfo (zas (zr8 (by omega) n) ?_)) rfl)))))
  rw[hd];refine zaa rfl (zba (k:=j) w hj ?_)
  rw[zaL,wl];exact zaa (nef (by omega)) (zaq (by omega) e0 (zan g0 (zaa (nef rfl) (zg2 (k:=0) rfl hc (zsF (zsq G M _ (by omega)) (zaB (k:=1) (by omega) e1 (zan s0 li)))))))
 | op V o n kids T t h12 h13 h7 h8 hk' ht h0 ih =>
  intro s hf hs h31 G M hV hb;obtain⟨s,rfl⟩:∃j,s=j+1:=⟨s-1,by omega⟩
  obtain⟨_,_,hml,hk⟩:=zeh hf;have hcs:=zbq o n kids
  have hbk:∀k,k<kids.length→∃o n ks,kids.getD k []=[.int o,.int n,.sl 3 ks]:=fun k hlt=>by
   obtain⟨o',n',ks,e,_⟩:=zc5 hk hlt;exact⟨o',n',ks,e⟩
  have hTi:∀k,k<kids.length→∀o n ks,kids.getD k []=[.int o,.int n,.sl 3 ks]→iTy D R G M [.int o,.int n,.sl 3 ks]=rI (T k):=fun k hlt o' n' ks e=>by
   have l1:=zaV hlt (o:=o) (n:=n)
   have hfk:=hk _ (zaE hlt [])
   have:=ih k hlt s hfk (by omega) (by omega) G M hV (by omega)
   rw[e] at this;exact this
  rw[←ht];exact zbD (zaa (eqf h12) (zaa (eqf h13) (zaa (eqf h7) (zaa (eqf h8) (zay (zub G M kids (by omega) T hbk hTi) (zan (zqg hv o n _ (by rw[zcI];exact hml)) rfl))))))
end
end
section
open Go Go.RowKit
def zna (R R':List PM):Prop:=R'.length=R.length∧∀k,(gP R' k).ps=(gP R k).ps∧(gP R' k).r=(gP R k).r
section
variable {D:List DM}{R R':List PM}
theorem zyQ (h:zna R R') (o n:Int) (T:List Int):zj7 D R' o n T=zj7 D R o n T:=by
 unfold zj7;simp only[h.1,(h.2 _).1,(h.2 _).2]
theorem zDe (h:zna R R') {V:List Int}{x:List AC}{t:Int} (ht:HT D R V x t):HT D R' V x t:=by
 induction ht with
 | var V n kids hk h'=>exact .var V n kids hk h'
 | bind V kids t0 t hl h0 h1 h2 i1 i2=>exact .bind V kids t0 t hl h0 i1 i2
 | ifz V kids t hl h0 h1 h2 i0 i1 i2=>exact .ifz V kids t hl i0 i1 i2
 | mtch V kids j n t hn hj hc hl h0 hs i0 is=>exact .mtch V kids j n t hn hj hc hl i0 is
 | op V o n kids T t h12 h13 h7 h8 hk ht h0 ih=>exact .op V o n kids T t h12 h13 h7 h8 ih (by rw[zyQ h];exact ht) h0
theorem zxS {α:Type} [Inhabited α] {l:List α}{p:α→Bool}:l.all p=(List.range l.length).all fun k=>p (l.getD k default):=by
 rw[Bool.eq_iff_iff,List.all_eq_true,List.all_eq_true];constructor
 ·intro h k hk
  rw[List.mem_range] at hk;exact h _ (by simp[List.getD,hk])
 ·intro h x hx
  obtain⟨k,hk,rfl⟩:=List.getElem_of_mem hx;have:=h k (by simpa using hk)
  simpa [List.getD,hk] using this
theorem ztX (h:zna R R'):ziI D R'=ziI D R:=by
 unfold ziI;have e:R'.all (zom D)=R.all (zom D):=by
  rw[zxS (l:=R'),zxS (l:=R),h.1]
  congr 1
  funext k
  show zom D (gP R' k)=zom D (gP R k)
  unfold zom;rw[(h.2 k).1,(h.2 k).2]
 rw[h.1,e,(h.2 0).1,(h.2 0).2]
theorem zwq (hi:PIn D R) (hs:ziI D R=true) (hv:CP D R) {V:List Int} (hV:∀u∈V,0≤u∧u≤D.length) (hl:V.length≤100) {x:List AC}{t:Int} (hf:Fit .expr x) (hc:cS x≤29) (h:HT D R V x t) :
  zhR [.agg [.sl 3 (zag D),.sl 5 (zao R)],.cell (.sl 1 (zae V)),.agg x]=rI t:=by
 have ha:V.all (zeb D)=true:=by
  rw[List.all_eq_true];exact fun t ht=>isTy_iff.2 (hV t ht)
 have g:=zFB hv h 31 hf (by omega) (by omega) V [] (by simp) (by omega)
 obtain⟨o,n,kids,rfl⟩:=zmY hf;refine zmF (zas (zgj D R hi.d hi.r hi.dl) ?_)
 rw[hs];refine zaa rfl (zas (zlz D _ (by unfold zaS;omega)) ?_)
 rw[ha];refine zaa rfl (zan (zpx hf) ?_)
 rw[zmr,decide_eq_true hc];exact zaa rfl (zan g rfl)
theorem zC3 (hi:PIn D R) (hs:ziI D R=true) (hv:CP D R) (h:∀k,k<R.length→cS (zbf (gP R k))≤29∧HT D R (gP R k).ps (zbf (gP R k)) (gP R k).r):zby [.agg [.sl 3 (zag D),.sl 5 (zao R)]]=rB true:=by
 have hR:=hv.rl
 refine zeI (zas (zgj D R hi.d hi.r hi.dl) ?_)
 rw[hs];refine zaa rfl ?_
 have key:∀m k:Nat,k+m=R.length→zco (zag D) (zao R) (zao R) (((zao R).length:Nat):Int) (k:Int)=rB true:=by
  intro m;induction m with
  | zero=>intro k hk;exact zcw (zaa (decide_eq_false (by rw[za1];omega)) rfl)
  | succ m ih =>
   intro k hk;have hlt:k<R.length:=by omega
   have hx:=hi.r _ (zhj hlt)
   have hps:=hv.ps k hlt
   obtain⟨hc,hT⟩:=h k hlt;refine zcw (zab (decide_eq_true (by rw[za1];omega)) (zaQ (k:=k) rfl hlt (zan (zwq hi hs hv hps.2 (by omega) hx.b hc hT) (zaa (nef rfl) ?_))))
   rw[wrk (by unfold zaS;omega)]
   exact ih (k+1) (by omega)
 exact key R.length 0 (by omega)
end
end
section
open Go Go.RowKit
theorem zzb {D:List DM}{R:List PM}{V:List Int}{x:List AC}{t:Int} (h:HT D R V x t):∀(A B W:List Int),V=A++B→∀s,cS x<s→HT D R (A++(W++B)) (shr (A.length:Int) (W.length:Int) s x) t:=by
 induction h with
 | var V n kids hk h =>
  intro A B W hV s hs;obtain⟨s,rfl⟩:∃j,s=j+1:=⟨s-1,by omega⟩
  subst hV;rw[List.length_append] at h;rw[zek];have hlen:(A++(W++B)).length=A.length+W.length+B.length:=by simp;omega
  by_cases hc:(A.length:Int)≤n
  ·have e:(A++B).getD n.toNat 0=(A++(W++B)).getD (n+W.length).toNat 0:=by
    simp only[List.getD];rw[List.getElem?_append_right (by omega),List.getElem?_append_right (by omega),List.getElem?_append_right (by omega),show(n+W.length).toNat-A.length-W.length=n.toNat-A.length by omega]
   rw[show shF (A.length:Int) (W.length:Int) 12 n=n+W.length by unfold shF;rw[if_pos ⟨rfl,hc⟩],e]
   exact .var _ _ _ (by rw[List.length_map];exact hk) (by rw[hlen];omega)
  ·have e:(A++B).getD n.toNat 0=(A++(W++B)).getD n.toNat 0:=by
    simp only[List.getD];rw[List.getElem?_append_left (by omega),List.getElem?_append_left (by omega)]
   rw[show shF (A.length:Int) (W.length:Int) 12 n=n by unfold shF;rw[if_neg (fun h=>hc h.2)],e]
   exact .var _ _ _ (by rw[List.length_map];exact hk) (by rw[hlen];omega)
 | bind V kids t0 t hl h0 h1 h2 i1 i2 =>
  intro A B W hV s hs;obtain⟨s,rfl⟩:∃j,s=j+1:=⟨s-1,by omega⟩
  subst hV;rw[zek,show shF (A.length:Int) (W.length:Int) 13 0=0 by unfold shF;rw[if_neg (fun h=>absurd h.1 (by decide))]]
  have l0:=zaV (show 0<kids.length by omega) (o:=13) (n:=0)
  have l1:=zaV (show 1<kids.length by omega) (o:=13) (n:=0)
  have g1:=i1 A B W rfl s (by omega)
  have g2:=i2 A (B++[t0]) W (by rw[List.append_assoc]) s (by omega)
  refine .bind _ _ t0 _ (by rw[List.length_map];exact hl) h0 ?_ ?_
  ·rw[zeM (by omega)];exact g1
  ·rw[zeM (by omega),List.append_assoc,List.append_assoc];exact g2
 | ifz V kids t hl h0 h1 h2 i0 i1 i2 =>
  intro A B W hV s hs;obtain⟨s,rfl⟩:∃j,s=j+1:=⟨s-1,by omega⟩
  rw[zek,show shF (A.length:Int) (W.length:Int) 7 0=0 by unfold shF;rw[if_neg (fun h=>absurd h.1 (by decide))]]
  have l0:=zaV (show 0<kids.length by omega) (o:=7) (n:=0)
  have l1:=zaV (show 1<kids.length by omega) (o:=7) (n:=0)
  have l2:=zaV (show 2<kids.length by omega) (o:=7) (n:=0)
  have g0:=i0 A B W hV s (by omega)
  have g1:=i1 A B W hV s (by omega)
  have g2:=i2 A B W hV s (by omega)
  exact .ifz _ _ _ (by rw[List.length_map];exact hl) (by rw[zeM (by omega)];exact g0) (by rw[zeM (by omega)];exact g1) (by rw[zeM (by omega)];exact g2)
 | mtch V kids j n t hn hj hc hl h0 hs' i0 is =>
  intro A B W hV s hs;obtain⟨s,rfl⟩:∃j,s=j+1:=⟨s-1,by omega⟩
  rw[zek,show shF (A.length:Int) (W.length:Int) 8 n=n by unfold shF;rw[if_neg (fun h=>absurd h.1 (by decide))]]
  have l0:=zaV (show 0<kids.length by omega) (o:=8) (n:=n)
  have g0:=i0 A B W hV s (by omega)
  refine .mtch _ _ j n _ hn hj hc (by rw[List.length_map];exact hl) (by rw[zeM (by omega)];exact g0) fun k hkc=>?_
  have l1:=zaV (show 1+k<kids.length by omega) (o:=8) (n:=n)
  have g1:=is k hkc A (B++(gD D j).cs.getD k []) W (by rw[hV,List.append_assoc]) s (by omega)
  rw[zeM (by omega),List.append_assoc,List.append_assoc]
  exact g1
 | op V o n kids T t h12 h13 h7 h8 hk' ht h0 ih =>
  intro A B W hV s hs;obtain⟨s,rfl⟩:∃j,s=j+1:=⟨s-1,by omega⟩
  rw[zek,show shF (A.length:Int) (W.length:Int) o n=n by unfold shF;rw[if_neg (fun h=>h12 h.1)]]
  refine .op _ _ _ _ T _ h12 h13 h7 h8 (fun k hkl=>?_) (by rw[List.length_map];exact ht) h0
  rw[List.length_map] at hkl;have l1:=zaV hkl (o:=o) (n:=n)
  rw[zeM hkl];exact ih k hkl A B W hV s (by omega)
def zit:List AC→Int
 | [.int o,.int _,.sl 3 _]=>o
 | _=>-1
def zcu:List AC→Int
 | [.int _,.int n,.sl 3 _]=>n
 | _=>-1
def zbY:List AC→List (List AC)
 | [.int _,.int _,.sl 3 kids]=>kids
 | _=>[]
theorem zhC {D:List DM}{R:List PM}{V:List Int}{x:List AC}{t:Int} (h:HT D R V x t):x=[.int (zit x),.int (zcu x),.sl 3 (zbY x)]:=by cases h <;> rfl
def ltK (n:Int):Nat→List (List AC)→List AC→List AC
 | _,[],b=>b
 | k,x::xs,b=>[.int 13,.int 0,.sl 3 [shr n (k:Int) 100 x,ltK n (k+1) xs b]]
theorem zBA {D:List DM}{R:List PM}{V:List Int} (hV0:∀u∈V,0≤u) {b:List AC}{t:Int}:∀(xs:List (List AC)) (W ts:List Int),(∀u∈ts,0≤u)→ts.length=xs.length→(∀i,i<xs.length→HT D R V (xs.getD i []) (ts.getD i 0)∧cS (xs.getD i [])<100) →
  HT D R (V++(W++ts)) b t→HT D R (V++W) (ltK (V.length:Int) W.length xs b) t
 | [],W,ts,_,hl,_,hb=>by
  have:ts=[]:=List.length_eq_zero_iff.1 hl
  subst this;rw[List.append_nil] at hb;exact hb
 | x::xs,W,ts,hp,hl,hx,hb=>by
  match ts,hl with
  | t0::ts,hl =>
  obtain⟨h0,hc⟩:=hx 0 (by simp)
  have h0:HT D R V x t0:=h0
  have hc:cS x<100:=hc
  have g0:=zzb h0 V [] W (by simp) 100 hc
  rw[List.append_nil] at g0;have ih:=zBA hV0 (b:=b) (t:=t) xs (W++[t0]) ts (fun u hu=>hp u (List.mem_cons_of_mem _ hu)) (by simpa using hl) (fun i hi=>by
   have:=hx (i+1) (by simpa using hi)
   simpa using this) (by rw[List.append_assoc,List.singleton_append];exact hb)
  rw[←List.append_assoc,List.length_append,List.length_singleton] at ih;exact .bind _ _ t0 _ rfl (hp t0 List.mem_cons_self) g0 ih
theorem zD6 {D:List DM}{R:List PM}{V:List Int}{x:List AC}{t:Int} (h:HT D R V x t) (a b:Int):∀s,cS x<s→cS (shr a b s x)=cS x:=by
 induction h with
 | var V n kids hk h =>
  intro s hs;obtain⟨s,rfl⟩:∃j,s=j+1:=⟨s-1,by omega⟩
  rw[zek,zbq,zbq,List.length_eq_zero_iff.1 hk];rfl
 | bind V kids t0 t hl h0 h1 h2 i1 i2 =>
  intro s hs;obtain⟨s,rfl⟩:∃j,s=j+1:=⟨s-1,by omega⟩
  rw[zek,zbq,zbq,List.length_map,zn5 fun c hc=>?_]
  obtain⟨k,hkl,rfl⟩:=List.getElem_of_mem hc;rw[show kids[k]=kids.getD k [] by simp[List.getD,hkl]]
  have l:=zaV hkl (o:=13) (n:=0)
  rcases(by omega:k=0∨k=1) with rfl|rfl
  ·exact i1 s (by omega)
  ·exact i2 s (by omega)
 | ifz V kids t hl h0 h1 h2 i0 i1 i2 =>
  intro s hs;obtain⟨s,rfl⟩:∃j,s=j+1:=⟨s-1,by omega⟩
  rw[zek,zbq,zbq,List.length_map,zn5 fun c hc=>?_]
  obtain⟨k,hkl,rfl⟩:=List.getElem_of_mem hc;rw[show kids[k]=kids.getD k [] by simp[List.getD,hkl]]
  have l:=zaV hkl (o:=7) (n:=0)
  rcases(by omega:k=0∨k=1∨k=2) with rfl|rfl|rfl
  ·exact i0 s (by omega)
  ·exact i1 s (by omega)
  ·exact i2 s (by omega)
 | mtch V kids j n t hn hj hc hl h0 hs' i0 is =>
  intro s hs;obtain⟨s,rfl⟩:∃j,s=j+1:=⟨s-1,by omega⟩
  rw[zek,zbq,zbq,List.length_map,zn5 fun c hc=>?_]
  obtain⟨k,hkl,rfl⟩:=List.getElem_of_mem hc;rw[show kids[k]=kids.getD k [] by simp[List.getD,hkl]]
  have l:=zaV hkl (o:=8) (n:=n)
  rcases k with _|k
  ·exact i0 s (by omega)
  ·have:=is k (by omega) s
   rw[Nat.add_comm 1 k] at this;exact this (by omega)
 | op V o n kids T t h12 h13 h7 h8 hk' ht h0 ih =>
  intro s hs;obtain⟨s,rfl⟩:∃j,s=j+1:=⟨s-1,by omega⟩
  rw[zek,zbq,zbq,List.length_map,zn5 fun c hc=>?_]
  obtain⟨k,hkl,rfl⟩:=List.getElem_of_mem hc;rw[show kids[k]=kids.getD k [] by simp[List.getD,hkl]]
  have l:=zaV hkl (o:=o) (n:=n)
  exact ih k hkl s (by omega)
theorem zAb {D:List DM}{R:List PM}{V:List Int} (n:Int) (b:List AC):∀(xs:List (List AC)) (k:Nat),(∀x∈xs,∃t,HT D R V x t∧cS x<100)→cS (ltK n k xs b)=2*xs.length+rsS xs+cS b
 | [],k,_=>by simp[ltK,zaR]
 | x::xs,k,h=>by
  obtain⟨t,hx,hc⟩:=h x List.mem_cons_self;have ih:=zAb n b xs (k+1) fun y hy=>h y (List.mem_cons_of_mem _ hy)
  rw[ltK,zbq,za6,za6,zaR,zD6 hx n _ 100 hc,ih,za6];simp only[List.length_cons,List.length_nil];omega
def zlj (n:Int):Int:=if n>999 then 999 else if n < -999 then -999 else n
def zmk (o a b:Int):Int:=if o=1 then zlj (a+b) else if o=2 then zlj (a-b) else if o=3 then zlj (a*b) else if o=4∧a<b then 1 else 0
theorem zzR (o a b:Int):-999≤zmk o a b∧zmk o a b≤999:=by
 have hc:∀n,-999≤zlj n∧zlj n≤999:=fun n=>by unfold zlj;split <;> (try split) <;> omega
 unfold zmk;split
 ·exact hc _
 split
 ·exact hc _
 split
 ·exact hc _
 split <;> omega
def zds (D:List DM) (n o m:Int) (kids:List (List AC)):List AC :=
 if(o=1∨o=2∨o=3∨o=4)∧zit (kids.getD 0 [])=0∧zit (kids.getD 1 [])=0 then[.int 0,.int (zmk o (zcu (kids.getD 0 [])) (zcu (kids.getD 1 []))),.sl 3 []]
 else if o=7∧zit (kids.getD 0 [])=0 then(if zcu (kids.getD 0 [])≠0 then kids.getD 1 [] else kids.getD 2 [])
 else if o=8∧zit (kids.getD 0 [])=6 then ltK n 0 (zbY (kids.getD 0 [])) (kids.getD (1+(zcu (kids.getD 0 [])-((zbs (D.take (m-1).toNat):Nat):Int))).toNat [])
 else[.int o,.int m,.sl 3 kids]
def zck (D:List DM) (o m:Int) (k:Nat):Nat :=
 if o=13∧k=1 then 1 else if o=8∧0<k then((gD D (m-1).toNat).cs.getD (k-1) []).length else 0
def fd (D:List DM):Nat→Nat→List AC→List AC
 | s+1,n,[.int o,.int m,.sl 3 kids]=>zds D (n:Int) o m ((List.range kids.length).map fun k=>fd D s (n+zck D o m k) (kids.getD k []))
 | _,_,r=>r
theorem zpZ (D:List DM) (s n:Nat) (o m:Int) (kids:List (List AC)):fd D (s+1) n [.int o,.int m,.sl 3 kids]=zds D (n:Int) o m ((List.range kids.length).map fun k=>fd D s (n+zck D o m k) (kids.getD k [])):=rfl
theorem za8 {f:Nat→List AC}{m k:Nat} (h:k<m):((List.range m).map f).getD k []=f k:=by simp[List.getD,h]
end
section
open Go Go.RowKit
def zuV (o:Int) (kids:List (List AC)):Prop:=((o=1∨o=2∨o=3∨o=4)∧zit (kids.getD 0 [])=0∧zit (kids.getD 1 [])=0)∨(o=7∧zit (kids.getD 0 [])=0)∨(o=8∧zit (kids.getD 0 [])=6)
inductive Nrm:List AC→Prop
 | node (o m:Int) (kids:List (List AC)) (h:¬zuV o kids) (hk:∀k,k<kids.length→Nrm (kids.getD k [])):Nrm [.int o,.int m,.sl 3 kids]
theorem zcE (D:List DM) (n o m:Int) (kids:List (List AC)) (h:¬zuV o kids):zds D n o m kids=[.int o,.int m,.sl 3 kids]:=by
 unfold zuV at h;unfold zds;rw[if_neg (fun h'=>h (.inl h')),if_neg (fun h'=>h (.inr (.inl h'))),if_neg (fun h'=>h (.inr (.inr h')))]
theorem zEk {x:List AC} (h:Nrm x) (a b:Int) (s:Nat):zit (shr a b s x)=zit x:=by
 cases h;cases s <;> rfl
theorem zD2 {x:List AC} (h:Nrm x) (a b:Int):∀s,Nrm (shr a b s x):=by
 induction h with
 | node o m kids h hk ih =>
  intro s;cases s with
  | zero=>exact .node o m kids h hk
  | succ s =>
   rw[zek];have hop:∀k,zit ((kids.map (shr a b s)).getD k [])=zit (kids.getD k []):=fun k=>by
    by_cases hl:k<kids.length
    ·rw[zeM hl];exact zEk (hk k hl) a b s
    ·simp[List.getD,List.getElem?_eq_none (show kids.length≤k by omega)]
   refine .node _ _ _ ?_ (fun k hl=>?_)
   ·unfold zuV at h ⊢
    rw[hop,hop];exact h
   ·rw[List.length_map] at hl
    rw[zeM hl];exact ih k hl s
theorem zz9 (n:Int) {b:List AC} (hb:Nrm b):∀(xs:List (List AC)) (k:Nat),(∀x∈xs,Nrm x)→Nrm (ltK n k xs b)
 | [],_,_=>hb
 | x::xs,k,h=>by
  refine .node _ _ _ (fun hr=>?_) (fun j hj=>?_)
  ·rcases hr with ⟨h,_⟩|⟨h,_⟩|⟨h,_⟩ <;> omega
  ·have hj:j<2:=hj
   rcases(by omega:j=0∨j=1) with rfl|rfl
   ·exact zD2 (h x List.mem_cons_self) _ _ _
   ·exact zz9 n hb xs (k+1) fun y hy=>h y (List.mem_cons_of_mem _ hy)
theorem zjF (kids:List (List AC)):(List.range kids.length).map (fun k=>kids.getD k [])=kids:=by
 apply List.ext_getElem
 ·simp
 ·intro i h1 h2
  simp[List.getD,h2]
theorem zn8 {f g:Nat→List AC}:∀l:List Nat,(∀k∈l,cS (f k)≤2*cS (g k))→rsS (l.map f)≤2*rsS (l.map g)
 | [],_=>by simp[zaR]
 | k::l,h=>by
  have h1:=h k List.mem_cons_self
  have h2:=zn8 l fun j hj=>h j (List.mem_cons_of_mem _ hj)
  rw[List.map_cons,List.map_cons,za6,za6];omega
section
variable {D:List DM}{R:List PM}
theorem zB6 {V:List Int}{x:List AC}{t:Int} (h:HT D R V x t) (h12:zit x≠12) (h13:zit x≠13) (h7:zit x≠7) (h8:zit x≠8):∃T:Nat→Int,(∀k,k<(zbY x).length→HT D R V ((zbY x).getD k []) (T k))∧zj7 D R (zit x) (zcu x) (tyL T (zbY x).length)=t∧0≤t:=by
 cases h with
 | var n kids hk h=>exact absurd rfl h12
 | bind kids t0 hl h0 h1 h2=>exact absurd rfl h13
 | ifz kids hl h0 h1 h2=>exact absurd rfl h7
 | mtch kids j n hn hj hc hl h0 hs=>exact absurd rfl h8
 | op V o n kids T t h12 h13 h7 h8 hk ht h0=>exact⟨T,hk,ht,h0⟩
theorem zzw {x:List AC} (h:Nrm x):∀y∈zbY x,Nrm y:=by
 cases h with
 | node o m kids h hk =>
  intro y hy;have hy:y∈kids:=hy
  obtain⟨k,hl,rfl⟩:=List.getElem_of_mem hy;have:=hk k hl
  rwa [show kids.getD k []=kids[k] by simp[List.getD,hl]] at this
theorem zvq {V:List Int}{x:List AC}{t:Int} (h:HT D R V x t):cS x=(zbY x).length+rsS (zbY x):=by
 rw[zhC h,zbq];rfl
theorem zEx (V:List Int) {n:Int} (h:-999≤n∧n≤999):HT D R V [.int 0,.int n,.sl 3 []] 0 :=
 .op V 0 n [] (fun _=>0) 0 (by decide) (by decide) (by decide) (by decide) (fun k hk=>by cases hk) (by simp[zj7,tyL,h]) (by omega)
theorem zDp (n:Int):Nrm [.int 0,.int n,.sl 3 []]:=.node _ _ _ (fun hr=>by rcases hr with ⟨h,_⟩|⟨h,_⟩|⟨h,_⟩ <;> omega) (fun k hk=>by cases hk)
theorem zlJ (hv:CP D R) {V:List Int}{x:List AC}{t:Int} (h:HT D R V x t):(∀u∈V,0≤u∧u≤D.length)→∀s,cS x<s→cS x≤29→HT D R V (fd D s V.length x) t∧cS (fd D s V.length x)≤2*cS x∧Nrm (fd D s V.length x):=by
 induction h with
 | var V n kids hk h =>
  intro hV s hs hc;obtain⟨s,rfl⟩:∃j,s=j+1:=⟨s-1,by omega⟩
  have hk0:=List.length_eq_zero_iff.1 hk
  subst hk0;have hr:¬zuV 12 []:=fun hr=>by rcases hr with ⟨h,_⟩|⟨h,_⟩|⟨h,_⟩ <;> omega
  rw[zpZ,show((List.range ([]:List (List AC)).length).map fun k=>fd D s (V.length+zck D 12 n k) (([]:List (List AC)).getD k []))=[] from rfl,zcE D _ _ _ _ hr]
  exact⟨.var V n [] rfl h,by omega,.node _ _ _ hr (fun k hk=>by cases hk)⟩
 | bind V kids t0 t hl h0 h1 h2 i1 i2 =>
  intro hV s hs hc;obtain⟨s,rfl⟩:∃j,s=j+1:=⟨s-1,by omega⟩
  have hcs:=zbq 13 0 kids
  have l0:=zaV (show 0<kids.length by omega) (o:=13) (n:=0)
  have l1:=zaV (show 1<kids.length by omega) (o:=13) (n:=0)
  have ht0:=zE4 hv h1 hV
  obtain⟨a1,a2,a3⟩:=i1 hV s (by omega) (by omega)
  obtain⟨b1,b2,b3⟩:=i2 (fun u hu=>by
   rcases List.mem_append.1 hu with hu|hu
   ·exact hV u hu
   ·simp only[List.mem_singleton] at hu;omega) s (by omega) (by omega)
  rw[List.length_append,List.length_singleton] at b1 b2 b3;have hr:¬zuV 13 ((List.range kids.length).map fun k=>fd D s (V.length+zck D 13 0 k) (kids.getD k [])):=fun hr=>by rcases hr with ⟨h,_⟩|⟨h,_⟩|⟨h,_⟩ <;> omega
  rw[zpZ,zcE D _ _ _ _ hr];have hg:∀k,k<kids.length→cS (fd D s (V.length+zck D 13 0 k) (kids.getD k []))≤2*cS (kids.getD k [])∧Nrm (fd D s (V.length+zck D 13 0 k) (kids.getD k [])):=fun k hk=>by
   rcases(by omega:k=0∨k=1) with rfl|rfl
   ·exact⟨a2,a3⟩
   ·exact⟨b2,b3⟩
  refine⟨.bind _ _ t0 _ (by simp[hl]) h0 ?_ ?_,?_,.node _ _ _ hr (fun k hk=>?_)⟩
  ·rw[za8 (by omega)];exact a1
  ·rw[za8 (by omega)];exact b1
  ·have hz:=zn8 (f:=fun k=>fd D s (V.length+zck D 13 0 k) (kids.getD k [])) (g:=fun k=>kids.getD k []) (List.range kids.length) (fun k hk=>(hg k (List.mem_range.1 hk)).1)
   rw[zjF] at hz;rw[zbq,hcs,List.length_map,List.length_range];omega
  ·rw[List.length_map,List.length_range] at hk
   rw[za8 hk];exact(hg k hk).2
 | ifz V kids t hl h0 h1 h2 i0 i1 i2 =>
  intro hV s hs hc;obtain⟨s,rfl⟩:∃j,s=j+1:=⟨s-1,by omega⟩
  have hcs:=zbq 7 0 kids
  have l0:=zaV (show 0<kids.length by omega) (o:=7) (n:=0)
  have l1:=zaV (show 1<kids.length by omega) (o:=7) (n:=0)
  have l2:=zaV (show 2<kids.length by omega) (o:=7) (n:=0)
  obtain⟨a1,a2,a3⟩:=i0 hV s (by omega) (by omega)
  obtain⟨b1,b2,b3⟩:=i1 hV s (by omega) (by omega)
  obtain⟨c1,c2,c3⟩:=i2 hV s (by omega) (by omega)
  rw[zpZ];have e0:∀k,zck D 7 0 k=0:=fun k=>by unfold zck;rw[if_neg (fun h=>absurd h.1 (by decide)),if_neg (fun h=>absurd h.1 (by decide))]
  simp only[e0,Nat.add_zero];have hg:∀k,k<kids.length→cS (fd D s V.length (kids.getD k []))≤2*cS (kids.getD k [])∧Nrm (fd D s V.length (kids.getD k [])):=fun k hk=>by
   rcases(by omega:k=0∨k=1∨k=2) with rfl|rfl|rfl
   ·exact⟨a2,a3⟩
   ·exact⟨b2,b3⟩
   ·exact⟨c2,c3⟩
  by_cases hq:zit (fd D s V.length (kids.getD 0 []))=0
  ·have e:zds D (V.length:Int) 7 0 ((List.range kids.length).map fun k=>fd D s V.length (kids.getD k []))=if zcu (fd D s V.length (kids.getD 0 []))≠0 then fd D s V.length (kids.getD 1 []) else fd D s V.length (kids.getD 2 []):=by
    unfold zds;rw[if_neg (fun h=>by omega),if_pos ⟨rfl,by rw[za8 (by omega)];exact hq⟩,za8 (by omega),za8 (by omega),za8 (by omega)]
   rw[e];split
   ·exact⟨b1,by omega,b3⟩
   ·exact⟨c1,by omega,c3⟩
  ·have hr:¬zuV 7 ((List.range kids.length).map fun k=>fd D s V.length (kids.getD k [])):=fun hr=>by
    rcases hr with ⟨h,_⟩|⟨_,h⟩|⟨h,_⟩
    ·omega
    ·rw[za8 (by omega)] at h;exact hq h
    ·omega
   rw[zcE D _ _ _ _ hr];refine⟨.ifz _ _ _ (by simp[hl]) (by rw[za8 (by omega)];exact a1) (by rw[za8 (by omega)];exact b1) (by rw[za8 (by omega)];exact c1),?_,.node _ _ _ hr (fun k hk=>?_)⟩
   ·have hz:=zn8 (f:=fun k=>fd D s V.length (kids.getD k [])) (g:=fun k=>kids.getD k []) (List.range kids.length) (fun k hk=>(hg k (List.mem_range.1 hk)).1)
    rw[zjF] at hz;rw[zbq,hcs,List.length_map,List.length_range];omega
   ·rw[List.length_map,List.length_range] at hk
    rw[za8 hk];exact(hg k hk).2
 | mtch V kids j n t hn hj hcp hl h0 hs' i0 is =>
  intro hV s hs hc;obtain⟨s,rfl⟩:∃j,s=j+1:=⟨s-1,by omega⟩
  have hcs:=zbq 8 n kids
  have l0:=zaV (show 0<kids.length by omega) (o:=8) (n:=n)
  obtain⟨a1,a2,a3⟩:=i0 hV s (by omega) (by omega)
  have hnj:(n-1).toNat=j:=by omega
  have e0:zck D 8 n 0=0:=rfl
  have e1:∀i,zck D 8 n (1+i)=((gD D j).cs.getD i []).length:=fun i=>by
   unfold zck;rw[if_neg (fun h=>absurd h.1 (by decide)),if_pos ⟨rfl,by omega⟩,hnj,Nat.add_sub_cancel_left]
  have br:∀i,i<(gD D j).cs.length→HT D R (V++(gD D j).cs.getD i []) (fd D s (V.length+zck D 8 n (1+i)) (kids.getD (1+i) [])) t∧cS (fd D s (V.length+zck D 8 n (1+i)) (kids.getD (1+i) []))≤2*cS (kids.getD (1+i) [])∧Nrm (fd D s (V.length+zck D 8 n (1+i)) (kids.getD (1+i) [])):=fun i hi=>by
   have li:=zaV (show 1+i<kids.length by omega) (o:=8) (n:=n)
   have:=is i hi (fun u hu=>by
    rcases List.mem_append.1 hu with hu|hu
    ·exact hV u hu
    ·exact(hv.dv.c j hj _ (zaE hi [])).2 u hu) s (by omega) (by omega)
   rw[List.length_append] at this;rw[e1];exact this
  have hg:∀k,k<kids.length→cS (fd D s (V.length+zck D 8 n k) (kids.getD k []))≤2*cS (kids.getD k [])∧Nrm (fd D s (V.length+zck D 8 n k) (kids.getD k [])):=fun k hk=>by
   rcases k with _|k
   ·exact⟨a2,a3⟩
   ·have:=(br k (by omega)).2
    rw[Nat.add_comm 1 k] at this;exact this
  rw[zpZ];by_cases hq:zit (fd D s V.length (kids.getD 0 []))=6
  ·obtain⟨T,hT,hres,_⟩:=zB6 a1 (by omega) (by omega) (by omega) (by omega)
   rw[hq] at hres;have hres:(if zf5 D (zcu (fd D s V.length (kids.getD 0 [])))<0 then -1 else if tyL T (zbY (fd D s V.length (kids.getD 0 []))).length=fld D (zcu (fd D s V.length (kids.getD 0 []))) then zf5 D (zcu (fd D s V.length (kids.getD 0 []))) else -1)=n:=hres
   obtain⟨hct,hfl⟩:zf5 D (zcu (fd D s V.length (kids.getD 0 [])))=n∧tyL T (zbY (fd D s V.length (kids.getD 0 []))).length=fld D (zcu (fd D s V.length (kids.getD 0 []))):=by
    split at hres
    ·omega
    ·split at hres
     ·rename_i h;exact⟨hres,h⟩
     ·omega
   have hcS0:=zvq a1
   have hN0:=zzw a3
   generalize hk0:fd D s V.length (kids.getD 0 [])=k0 at *
   rcases zd0 (D:=D) (zcu k0) with hm1|⟨j',i,hj',he,hci,hi,hf⟩
   ·omega
   have hjj:j'=j:=by omega
   subst hjj;have hbr:=br i hi
   have h3:=(hv.dv.c j' hj _ (zaE hi [])).1
   have hidx:(1+(zcu k0-((zbs (D.take (n-1).toNat):Nat):Int))).toNat=1+i:=by rw[hnj];omega
   have hlen:(zbY k0).length=((gD D j').cs.getD i []).length:=by
    rw[←hf,←hfl,zcI]
   have e:zds D (V.length:Int) 8 n ((List.range kids.length).map fun k=>fd D s (V.length+zck D 8 n k) (kids.getD k []))=ltK (V.length:Int) 0 (zbY k0) (fd D s (V.length+zck D 8 n (1+i)) (kids.getD (1+i) [])):=by
    unfold zds;have g0:((List.range kids.length).map fun k=>fd D s (V.length+zck D 8 n k) (kids.getD k [])).getD 0 []=k0:=by rw[za8 (by omega),e0,Nat.add_zero,hk0]
    rw[if_neg (fun h=>by omega),if_neg (fun h=>by omega),g0,if_pos ⟨rfl,hq⟩,hidx,za8 (by omega)]
   rw[e];have hxs:∀i',i'<(zbY k0).length→HT D R V ((zbY k0).getD i' []) ((fld D (zcu k0)).getD i' 0)∧cS ((zbY k0).getD i' [])<100:=fun i' hi'=>by
    refine⟨?_,?_⟩
    ·rw[←hfl,zm4 T hi'];exact hT i' hi'
    ·have:=zgi (zaE hi' [])
     omega
   refine⟨?_,?_,zz9 _ hbr.2.2 _ _ hN0⟩
   ·have:=zBA (D:=D) (R:=R) (V:=V) (fun u hu=>(hV u hu).1) (b:=fd D s (V.length+zck D 8 n (1+i)) (kids.getD (1+i) [])) (t:=t) (zbY k0) [] (fld D (zcu k0)) (fun u hu=>by
     rw[hf] at hu;exact((hv.dv.c j' hj _ (zaE hi [])).2 u hu).1) (by rw[hf,hlen]) hxs (by rw[List.nil_append,hf];exact hbr.1)
    rw[List.append_nil] at this;exact this
   ·rw[zAb (D:=D) (R:=R) (V:=V) _ _ _ _ (fun x hx=>by
     obtain⟨i',hi',rfl⟩:=List.getElem_of_mem hx;have:=hxs i' hi'
     rw[show(zbY k0).getD i' []=(zbY k0)[i'] by simp[List.getD,hi']] at this
     exact⟨_,this⟩)]
    have d0:=zvF (rs:=kids) (k:=0) (by omega)
    rw[List.drop_zero] at d0;have d1:cS (kids.getD (1+i) [])≤rsS (kids.drop 1):=by
     refine zgi ?_
     have hl':i<(kids.drop 1).length:=by rw[List.length_drop];omega
     have:(kids.drop 1).getD i []=kids.getD (1+i) []:=by simp[List.getD,List.getElem?_drop,Nat.add_comm]
     rw[←this];exact zaE hl' []
    have:=hbr.2.1
    have d0':rsS kids=cS (kids.getD 0 [])+rsS (kids.drop 1):=d0
    omega
  ·have hr:¬zuV 8 ((List.range kids.length).map fun k=>fd D s (V.length+zck D 8 n k) (kids.getD k [])):=fun hr=>by
    rcases hr with ⟨h,_⟩|⟨h,_⟩|⟨_,h⟩
    ·omega
    ·omega
    ·rw[za8 (by omega),e0,Nat.add_zero] at h;exact hq h
   rw[zcE D _ _ _ _ hr];refine⟨.mtch _ _ j n _ hn hj hcp (by simp[hl]) (by rw[za8 (by omega)];exact a1) (fun k hk=>by rw[za8 (by omega)];exact(br k hk).1),?_,.node _ _ _ hr (fun k hk=>?_)⟩
   ·have hz:=zn8 (f:=fun k=>fd D s (V.length+zck D 8 n k) (kids.getD k [])) (g:=fun k=>kids.getD k []) (List.range kids.length) (fun k hk=>(hg k (List.mem_range.1 hk)).1)
    rw[zjF] at hz;rw[zbq,hcs,List.length_map,List.length_range];omega
   ·rw[List.length_map,List.length_range] at hk
    rw[za8 hk];exact(hg k hk).2
 | op V o n kids T t h12 h13 h7 h8 hk' ht h0 ih =>
  intro hV s hs hc;obtain⟨s,rfl⟩:∃j,s=j+1:=⟨s-1,by omega⟩
  have hcs:=zbq o n kids
  have e0:∀k,zck D o n k=0:=fun k=>by unfold zck;rw[if_neg (fun h=>h13 h.1),if_neg (fun h=>h8 h.1)]
  rw[zpZ];simp only[e0,Nat.add_zero];have hg:∀k,k<kids.length→HT D R V (fd D s V.length (kids.getD k [])) (T k)∧cS (fd D s V.length (kids.getD k []))≤2*cS (kids.getD k [])∧Nrm (fd D s V.length (kids.getD k [])):=fun k hk=>by
   have l:=zaV hk (o:=o) (n:=n)
   exact ih k hk hV s (by omega) (by omega)
  by_cases hq:zuV o ((List.range kids.length).map fun k=>fd D s V.length (kids.getD k []))
  ·rcases hq with hq|⟨hq,_⟩|⟨hq,_⟩
   ·have e:zds D (V.length:Int) o n ((List.range kids.length).map fun k=>fd D s V.length (kids.getD k []))=[.int 0,.int (zmk o (zcu (((List.range kids.length).map fun k=>fd D s V.length (kids.getD k [])).getD 0 [])) (zcu (((List.range kids.length).map fun k=>fd D s V.length (kids.getD k [])).getD 1 []))),.sl 3 []]:=by
     unfold zds;rw[if_pos hq]
    rw[e];have ht0:t=0:=by
     unfold zj7 at ht;rw[if_neg (by omega),if_pos hq.1] at ht
     split at ht <;> omega
    rw[ht0];refine⟨zEx V (zzR _ _ _),?_,zDp _⟩
    rw[zbq,zaR];simp
   ·exact absurd hq h7
   ·exact absurd hq h8
  ·rw[zcE D _ _ _ _ hq]
   refine⟨.op _ _ _ _ T _ h12 h13 h7 h8 (fun k hk=>?_) (by rw[List.length_map,List.length_range];exact ht) h0,?_,.node _ _ _ hq (fun k hk=>?_)⟩
   ·rw[List.length_map,List.length_range] at hk
    rw[za8 hk];exact(hg k hk).1
   ·have hz:=zn8 (f:=fun k=>fd D s V.length (kids.getD k [])) (g:=fun k=>kids.getD k []) (List.range kids.length) (fun k hk=>(hg k (List.mem_range.1 hk)).2.1)
    rw[zjF] at hz;rw[zbq,hcs,List.length_map,List.length_range];omega
   ·rw[List.length_map,List.length_range] at hk
    rw[za8 hk];exact(hg k hk).2.2
theorem zGA {x:List AC} (h:Nrm x):∀s n,cS x<s→fd D s n x=x:=by
 induction h with
 | node o m kids h hk ih =>
  intro s n hs;obtain⟨s,rfl⟩:∃j,s=j+1:=⟨s-1,by omega⟩
  rw[zpZ];have e:((List.range kids.length).map fun k=>fd D s (n+zck D o m k) (kids.getD k []))=kids:=by
   refine Eq.trans (List.map_congr_left fun k hk'=>?_) (zjF kids)
   have hl:=List.mem_range.1 hk'
   have l:=zaV hl (o:=o) (n:=m)
   exact ih k hl s _ (by omega)
  rw[e];exact zcE D _ _ _ _ h
end
end
end Go.Proofs.YtkgbadeobdbinaaGreat
