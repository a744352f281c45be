/- Generic texts and models for the proofs of this seat: part 39. -/
import Derived.Test.YtkgbadeobdbinaaGreatY38
set_option linter.unusedVariables false
set_option linter.unusedSimpArgs false
namespace Go.Proofs.YtkgbadeobdbinaaGreat
section
open Go Go.RowKit
def znn:Nat→List AC→Bool
 | s+1,[.int o,.int n,.sl 3 kids]=>(!(o==12)||(decide (0≤n)&&decide (n≤100000)))&&kids.all (znn s)
 | _,_=>true
theorem zk9 (s:Nat) (o n:Int) (kids:List (List AC)):znn (s+1) [.int o,.int n,.sl 3 kids]=((!(o==12)||(decide (0≤n)&&decide (n≤100000)))&&kids.all (znn s)):=rfl
theorem ztt {s:Nat}{o n:Int}{kids:List (List AC)} (h:znn (s+1) [.int o,.int n,.sl 3 kids]=true):(o=12→0≤n∧n≤100000)∧∀c∈kids,znn s c=true:=by
 rw[zk9,Bool.and_eq_true,List.all_eq_true] at h;refine⟨fun ho=>?_,h.2⟩
 have h1:=h.1
 subst ho
 simpa using h1
theorem zw6 {a b:Int} (hb:0≤b∧b≤99):∀s row,Fit .expr row→cS row<s→cS row≤100000→znn s row=true→zeV [.agg row,.cell (.int a),.cell (.int b)]=some (.v (.agg (shr a b s row))) :=
 zxa (P:=fun s row=>cS row≤100000→znn s row=true→zeV [.agg row,.cell (.int a),.cell (.int b)]=some (.v (.agg (shr a b s row)))) fun s o n kids hf hk hc hv=>by
  rw[zbq] at hc;obtain⟨ho,hn,hl,hkf⟩:=zeh hf;obtain⟨h1,h2⟩:=ztt hv;have key:∀N:Int,∀m k:Nat,k+m=kids.length→zdb a b 0 0 [] o N ((kids.take k).map (shr a b s)) kids ((kids.length:Nat):Int) (k:Int)=some (.v (.agg [.int o,.int N,.sl 3 (kids.map (shr a b s))])):=by
   intro N m;induction m with
   | zero =>
    intro k hkm;rw[List.take_of_length_le (by omega)]
    exact zjD (zaa (decide_eq_false (by omega)) rfl)
   | succ m ih =>
    intro k hkm;have hlt:k<kids.length:=by omega
    obtain⟨o',n',ks,e,_⟩:=zc5 hkf hlt;obtain⟨g1,g2,g3⟩:=hk _ (zaE hlt []);have hle:=zgi (zaE hlt [])
    have g4:=g3 (by omega) (h2 _ (zaE hlt []))
    have e2:kids[k]=kids.getD k []:=by simp[List.getD,hlt]
    have hn:=ih (k+1) (by omega)
    rw[List.take_succ_eq_append_getElem hlt,List.map_append,e2,e] at hn;rw[e] at g4 g2;obtain⟨s',rfl⟩:∃j,s=j+1:=⟨s-1,by omega⟩
    rw[zek] at g4;simp only[List.map_cons,List.map_nil,zek] at hn;refine zjD (zab (decide_eq_true (by omega)) (zaB hlt e (zaf g4 (zbu (by simp;omega) ?_))))
    rw[wrk (by unfold zaS at *;omega)]
    exact hn
  rw[zek];have k0:=fun N=>key N kids.length 0 (by omega)
  simp only[List.take_zero,List.map_nil] at k0;by_cases h12:o=12
  ·by_cases h:a≤n
   ·have hn':=h1 h12
    refine ziw (zab (eqt h12) (zab (decide_eq_true h) ?_))
    rw[wr (by omega) (by omega),show shF a b o n=n+b by unfold shF;rw[if_pos ⟨h12,h⟩]]
    exact k0 _
   ·refine ziw (zab (eqt h12) (zaa (decide_eq_false h) ?_))
    rw[show shF a b o n=n by unfold shF;rw[if_neg (fun x=>h x.2)]]
    exact k0 _
  ·refine ziw (zaa (eqf h12) ?_)
   rw[show shF a b o n=n by unfold shF;rw[if_neg (fun x=>h12 x.1)]]
   exact k0 _
theorem zCa {a b:Int} (hb:0≤b∧b≤99):∀s row,Fit .expr row→cS row<s→cS row≤100000→znn s row=true→zg7 [.agg row,.cell (.int a),.cell (.int b)]=some (.v (.agg (shr a b s row))) :=
 zxa (P:=fun s row=>cS row≤100000→znn s row=true→zg7 [.agg row,.cell (.int a),.cell (.int b)]=some (.v (.agg (shr a b s row)))) fun s o n kids hf hk hc hv=>by
  rw[zbq] at hc;obtain⟨ho,hn,hl,hkf⟩:=zeh hf;obtain⟨h1,h2⟩:=ztt hv;have key:∀m k:Nat,k+m=kids.length→zfb kids a b ((kids.take k).map (shr a b s)) (k:Int)=some (.v (.cell (.sl 3 (kids.map (shr a b s))))):=by
   intro m;induction m with
   | zero =>
    intro k hkm;rw[List.take_of_length_le (by omega)]
    exact ziB (zaa (decide_eq_false (by omega)) rfl)
   | succ m ih =>
    intro k hkm;have hlt:k<kids.length:=by omega
    obtain⟨o',n',ks,e,_⟩:=zc5 hkf hlt;obtain⟨g1,g2,g3⟩:=hk _ (zaE hlt []);have hle:=zgi (zaE hlt [])
    have g4:=g3 (by omega) (h2 _ (zaE hlt []))
    have e2:kids[k]=kids.getD k []:=by simp[List.getD,hlt]
    have hn:=ih (k+1) (by omega)
    rw[List.take_succ_eq_append_getElem hlt,List.map_append,e2,e] at hn;rw[e] at g4 g2;obtain⟨s',rfl⟩:∃j,s=j+1:=⟨s-1,by omega⟩
    rw[zek] at g4;simp only[List.map_cons,List.map_nil,zek] at hn;refine ziB (zab (decide_eq_true (by omega)) (zaB hlt e (zaf g4 (zbu (by simp;omega) ?_))))
    rw[wrk (by unfold zaS at *;omega)]
    exact hn
  have k0:=key kids.length 0 (by omega)
  simp only[List.take_zero,List.map_nil] at k0;have all:zfu [.cell (.sl 3 kids),.cell (.int a),.cell (.int b)]=some (.v (.cell (.sl 3 (kids.map (shr a b s))))):=zpA k0
  rw[zek];by_cases h12:o=12
  ·by_cases h:a≤n
   ·have hn':=h1 h12
    refine zkD (zab (eqt h12) (zab (decide_eq_true h) (zay all ?_)))
    rw[wr (by omega) (by omega),show shF a b o n=n+b by unfold shF;rw[if_pos ⟨h12,h⟩]]
   ·refine zkD (zab (eqt h12) (zaa (decide_eq_false h) (zay all ?_)))
    rw[show shF a b o n=n by unfold shF;rw[if_neg (fun x=>h x.2)]]
  ·refine zkD (zaa (eqf h12) (zay all ?_))
   rw[show shF a b o n=n by unfold shF;rw[if_neg (fun x=>h12 x.1)]]
section
variable {D:List DM}{R:List PM} (hv:CP D R)
include hv
theorem zBK {V:List Int}{x:List AC}{t:Int} (h:HT D R V x t):∀s,Fit .expr x→cS x<s→V.length+3*s≤100000→znn s x=true:=by
 induction h with
 | var V n kids hk h =>
  intro s hf hs hl;obtain⟨s,rfl⟩:∃j,s=j+1:=⟨s-1,by omega⟩
  rw[zk9,List.length_eq_zero_iff.1 hk];simp
  omega
 | bind V kids t0 t hl h0 h1 h2 i1 i2 =>
  intro s hf hs hb;obtain⟨s,rfl⟩:∃j,s=j+1:=⟨s-1,by omega⟩
  obtain⟨_,_,_,hk⟩:=zeh hf;rw[zk9,show(!((13:Int)==12))=true from rfl,Bool.true_or,Bool.true_and,List.all_eq_true];intro c hc;obtain⟨k,hkl,rfl⟩:=List.getElem_of_mem hc;rw[show kids[k]=kids.getD k [] by simp[List.getD,hkl]]
  have hlt:=zaV hkl (o:=13) (n:=0)
  have hfk:=hk _ (zaE hkl [])
  rcases(by omega:k=0∨k=1) with rfl|rfl
  ·exact i1 s hfk (by omega) (by omega)
  ·exact i2 s hfk (by omega) (by rw[List.length_append,List.length_singleton];omega)
 | ifz V kids t hl h0 h1 h2 i0 i1 i2 =>
  intro s hf hs hb;obtain⟨s,rfl⟩:∃j,s=j+1:=⟨s-1,by omega⟩
  obtain⟨_,_,_,hk⟩:=zeh hf;rw[zk9,show(!((7:Int)==12))=true from rfl,Bool.true_or,Bool.true_and,List.all_eq_true];intro c hc;obtain⟨k,hkl,rfl⟩:=List.getElem_of_mem hc;rw[show kids[k]=kids.getD k [] by simp[List.getD,hkl]]
  have hlt:=zaV hkl (o:=7) (n:=0)
  have hfk:=hk _ (zaE hkl [])
  rcases(by omega:k=0∨k=1∨k=2) with rfl|rfl|rfl
  ·exact i0 s hfk (by omega) (by omega)
  ·exact i1 s hfk (by omega) (by omega)
  ·exact i2 s hfk (by omega) (by omega)
 | mtch V kids j n t hn hj hc hl h0 hs' i0 is =>
  intro s hf hs hb;obtain⟨s,rfl⟩:∃j,s=j+1:=⟨s-1,by omega⟩
  obtain⟨_,_,_,hk⟩:=zeh hf;rw[zk9,show(!((8:Int)==12))=true from rfl,Bool.true_or,Bool.true_and,List.all_eq_true];intro c hc;obtain⟨k,hkl,rfl⟩:=List.getElem_of_mem hc;rw[show kids[k]=kids.getD k [] by simp[List.getD,hkl]]
  have hlt:=zaV hkl (o:=8) (n:=n)
  have hfk:=hk _ (zaE hkl [])
  rcases k with _|k
  ·exact i0 s hfk (by omega) (by omega)
  ·have h3:=(hv.dv.c j hj _ (zaE (show k<(gD D j).cs.length by omega) [])).1
   have:=is k (by omega) s
   rw[Nat.add_comm 1 k] at this;exact this hfk (by omega) (by rw[List.length_append];omega)
 | op V o n kids T t h12 h13 h7 h8 hk' ht h0 ih =>
  intro s hf hs hb;obtain⟨s,rfl⟩:∃j,s=j+1:=⟨s-1,by omega⟩
  obtain⟨_,_,_,hk⟩:=zeh hf;rw[zk9,eqf h12,Bool.not_false,Bool.true_or,Bool.true_and,List.all_eq_true];intro c hc;obtain⟨k,hkl,rfl⟩:=List.getElem_of_mem hc;rw[show kids[k]=kids.getD k [] by simp[List.getD,hkl]]
  have hlt:=zaV hkl (o:=o) (n:=n)
  exact ih k hkl s (hk _ (zaE hkl [])) (by omega) (by omega)
theorem zwV {n:Int} (h:¬zf5 D n<0):0≤n∧n≤1000:=by
 rcases zd0 (D:=D) n with h0|⟨j,i,hj,he,hc,hi,hf⟩
 ·omega
 have h1:=zfK hv.dv.cs j (by omega)
 have h2:=hv.dv.cs j hj
 have h3:=hv.dv.len
 omega
theorem zw0 {V:List Int}{x:List AC}{t:Int} (h:HT D R V x t):V.length+3*cS x≤100000→Fit .expr x:=by
 induction h with
 | var V n kids hk h =>
  intro hl;refine zak (by omega) (by omega) (by omega) (fun c hc=>?_)
  rw[List.length_eq_zero_iff.1 hk] at hc;cases hc
 | bind V kids t0 t hl h0 h1 h2 i1 i2 =>
  intro hb;have l0:=zaV (show 0<kids.length by omega) (o:=13) (n:=0)
  have l1:=zaV (show 1<kids.length by omega) (o:=13) (n:=0)
  have g1:=i1 (by omega)
  have g2:=i2 (by rw[List.length_append,List.length_singleton];omega)
  refine zak (by omega) (by omega) (by omega) (fun c hc=>?_)
  obtain⟨k,hkl,rfl⟩:=List.getElem_of_mem hc;rw[show kids[k]=kids.getD k [] by simp[List.getD,hkl]]
  rcases(by omega:k=0∨k=1) with rfl|rfl
  ·exact g1
  ·exact g2
 | ifz V kids t hl h0 h1 h2 i0 i1 i2 =>
  intro hb;have l0:=zaV (show 0<kids.length by omega) (o:=7) (n:=0)
  have l1:=zaV (show 1<kids.length by omega) (o:=7) (n:=0)
  have l2:=zaV (show 2<kids.length by omega) (o:=7) (n:=0)
  have g0:=i0 (by omega)
  have g1:=i1 (by omega)
  have g2:=i2 (by omega)
  refine zak (by omega) (by omega) (by omega) (fun c hc=>?_)
  obtain⟨k,hkl,rfl⟩:=List.getElem_of_mem hc;rw[show kids[k]=kids.getD k [] by simp[List.getD,hkl]]
  rcases(by omega:k=0∨k=1∨k=2) with rfl|rfl|rfl
  ·exact g0
  ·exact g1
  ·exact g2
 | mtch V kids j n t hn hj hc hl h0 hs' i0 is =>
  intro hb;have hcs:=zbq 8 n kids
  have hl4:=hv.dv.len
  have l0:=zaV (show 0<kids.length by omega) (o:=8) (n:=n)
  have g0:=i0 (by omega)
  refine zak (by omega) (by omega) (by omega) (fun c hc=>?_)
  obtain⟨k,hkl,rfl⟩:=List.getElem_of_mem hc;rw[show kids[k]=kids.getD k [] by simp[List.getD,hkl]]
  rcases k with _|k
  ·exact g0
  ·have h3:=(hv.dv.c j hj _ (zaE (show k<(gD D j).cs.length by omega) [])).1
   have l1:=zaV (show k+1<kids.length by omega) (o:=8) (n:=n)
   have:=is k (by omega)
   rw[Nat.add_comm 1 k] at this;exact this (by rw[List.length_append];omega)
 | op V o n kids T t h12 h13 h7 h8 hk' ht h0 ih =>
  intro hb;have hcs:=zbq o n kids
  have hR:=hv.rl
  obtain⟨ho,hn⟩:(0≤o∧o≤11)∧(-1000≤n∧n≤1000):=by
   subst ht;unfold zj7 at h0;split at h0
   ·split at h0
    ·omega
    ·exact zeT h0
   split at h0
   ·split at h0
    ·omega
    ·exact zeT h0
   split at h0
   ·split at h0
    ·omega
    ·exact zeT h0
   split at h0
   ·split at h0
    ·exact zeT h0
    ·rename_i hc
     have:=zwV hv hc
     omega
   split at h0
   ·split at h0
    ·omega
    ·exact zeT h0
   split at h0
   ·split at h0
    ·omega
    ·exact zeT h0
   split at h0
   ·split at h0
    ·omega
    ·exact zeT h0
   ·exact zeT h0
  refine zak (by omega) (by omega) (by omega) (fun c hc=>?_)
  obtain⟨k,hkl,rfl⟩:=List.getElem_of_mem hc;rw[show kids[k]=kids.getD k [] by simp[List.getD,hkl]]
  have l1:=zaV hkl (o:=o) (n:=n)
  exact ih k hkl (by omega)
end
end
section
open Go Go.RowKit
theorem zpJ (n:Int) (k:Nat) (xs:List (List AC)) {b:List AC}{o m:Int}{ks:List (List AC)} (hb:b=[.int o,.int m,.sl 3 ks]):∃o' m' ks',ltK n k xs b=[.int o',.int m',.sl 3 ks']:=by
 cases xs with
 | nil=>exact⟨o,m,ks,hb⟩
 | cons x xs=>exact⟨_,_,_,rfl⟩
theorem zyF {x:List AC}{o m:Int}{ks:List (List AC)} (hx:x=[.int o,.int m,.sl 3 ks]) (a b:Int) (s:Nat):∃o' m' ks',shr a b s x=[.int o',.int m',.sl 3 ks']:=by
 subst hx;cases s <;> exact⟨_,_,_,rfl⟩
theorem ztS {xs:List (List AC)}{i:Nat} (h:i<xs.length):xs.drop i=xs.getD i []::xs.drop (i+1):=by
 rw[List.drop_eq_getElem_cons h];simp[List.getD,h]
section
variable {D:List DM}{R:List PM} (hv:CP D R)
include hv
def zyv (D:List DM) (R:List PM) (V:List Int) (xs:List (List AC)):Prop:=xs.length≤99∧∀x∈xs,∃t,HT D R V x t∧cS x<100
theorem zvU {V:List Int} (hl:V.length≤1000) {xs:List (List AC)} (h:zyv D R V xs) {i:Nat} (hi:i<xs.length) :
  ∃o m ks o' m' ks',xs.getD i []=[.int o,.int m,.sl 3 ks]∧shr (V.length:Int) (i:Int) 100 (xs.getD i [])=[.int o',.int m',.sl 3 ks'] ∧
   zeV [.agg [.int o,.int m,.sl 3 ks],.cell (.int (V.length:Int)),.cell (.int (i:Int))]=some (.v (.agg [.int o',.int m',.sl 3 ks'])) ∧
   zg7 [.agg [.int o,.int m,.sl 3 ks],.cell (.int (V.length:Int)),.cell (.int (i:Int))]=some (.v (.agg [.int o',.int m',.sl 3 ks'])):=by
 have h99:=h.1
 obtain⟨t,ht,hc⟩:=h.2 _ (zaE hi []);have hf:=zw0 hv ht (by omega)
 have hw:=zBK hv ht 100 hf hc (by omega)
 obtain⟨o,m,ks,e⟩:=zmY hf;obtain⟨o',m',ks',e'⟩:=zyF e (V.length:Int) (i:Int) 100;have g1:=zw6 (a:=(V.length:Int)) (b:=(i:Int)) (by omega) 100 _ hf hc (by omega) hw
 have g2:=zCa (a:=(V.length:Int)) (b:=(i:Int)) (by omega) 100 _ hf hc (by omega) hw
 rw[e'] at g1 g2;rw[e] at g1 g2;exact⟨o,m,ks,o',m',ks',e,e',g1,g2⟩
theorem zF4 {V:List Int} (hl:V.length≤1000) {xs:List (List AC)} (h:zyv D R V xs) {b:List AC}{o m:Int}{ks:List (List AC)} (hb:b=[.int o,.int m,.sl 3 ks]) :
  zc9 [.cell (.sl 3 xs),.agg [.int o,.int m,.sl 3 ks],.cell (.int (V.length:Int))]=some (.v (.agg (ltK (V.length:Int) 0 xs b))):=by
 have h99:=h.1
 have key:∀i:Nat,i≤xs.length→∀o' m' ks',ltK (V.length:Int) i (xs.drop i) b=[.int o',.int m',.sl 3 ks']→zdQ xs (V.length:Int) 0 0 [] o' m' ks' ((i:Int)-1)=some (.v (.agg (ltK (V.length:Int) 0 xs b))):=by
  intro i;induction i with
  | zero =>
   intro _ o' m' ks' e;rw[List.drop_zero] at e;rw[e];exact zgR (zaa (decide_eq_false (by omega)) rfl)
  | succ i ih =>
   intro hi o' m' ks' e;obtain⟨a1,a2,a3,c1,c2,c3,e1,e2,g1,_⟩:=zvU hv hl h (show i<xs.length by omega)
   rw[show(((i+1:Nat):Int)-1)=(i:Int) by omega]
   refine zgR (zab (decide_eq_true (by omega)) (zaB (by omega) e1 (zaf g1 ?_)))
   rw[wr (by omega) (by omega)]
   refine ih (by omega) _ _ _ ?_
   rw[ztS (show i<xs.length by omega),ltK,e,e2]
 refine znU ?_
 rw[wr (by omega) (by omega)]
 refine key xs.length (Nat.le_refl _) o m ks ?_
 rw[List.drop_length];exact hb
theorem zFx {V:List Int} (hl:V.length≤1000) {xs:List (List AC)} (h:zyv D R V xs) {b:List AC}{o m:Int}{ks:List (List AC)} (hb:b=[.int o,.int m,.sl 3 ks]) :
  zjb [.cell (.sl 3 xs),.agg [.int o,.int m,.sl 3 ks],.cell (.int (V.length:Int))]=some (.v (.agg (ltK (V.length:Int) 0 xs b))):=by
 have h99:=h.1
 have key:∀i:Nat,i≤xs.length→∀o' m' ks',ltK (V.length:Int) i (xs.drop i) b=[.int o',.int m',.sl 3 ks']→zi6 xs (V.length:Int) 0 0 [] o' m' ks' ((i:Int)-1)=some (.v (.agg (ltK (V.length:Int) 0 xs b))):=by
  intro i;induction i with
  | zero =>
   intro _ o' m' ks' e;rw[List.drop_zero] at e;rw[e];exact zlO (zaa (decide_eq_false (by omega)) rfl)
  | succ i ih =>
   intro hi o' m' ks' e;obtain⟨a1,a2,a3,c1,c2,c3,e1,e2,_,g1⟩:=zvU hv hl h (show i<xs.length by omega)
   rw[show(((i+1:Nat):Int)-1)=(i:Int) by omega]
   refine zlO (zab (decide_eq_true (by omega)) (zaB (by omega) e1 (zaf g1 ?_)))
   rw[wr (by omega) (by omega)]
   refine ih (by omega) _ _ _ ?_
   rw[ztS (show i<xs.length by omega),ltK,e,e2]
 refine zuv ?_
 rw[wr (by omega) (by omega)]
 refine key xs.length (Nat.le_refl _) o m ks ?_
 rw[List.drop_length];exact hb
end
theorem zxN {n:Int} (h:-999≤n∧n≤999):zkg [.cell (.int n)]=rB true:=by
 exact zrR (zab (decide_eq_true (by omega)) (by rw[decide_eq_true h.2]))
theorem zpD (n:Int):zgE [.cell (.int n)]=rI (zlj n):=by
 refine zqN ?_
 unfold zlj;by_cases h:n>999
 ·rw[if_pos h];exact zab (decide_eq_true h) rfl
 ·rw[if_neg h]
  refine zaa (decide_eq_false h) ?_
  by_cases h2:n < -999
  ·rw[if_pos h2];exact zab (decide_eq_true h2) rfl
  ·rw[if_neg h2];exact zaa (decide_eq_false h2) rfl
theorem zr3 (n:Int):V Tryz.prog lay sig.has ext 127 [.cell (.int n)]=rI (zlj n):=zHd (e:=.fn zmm) (by kernel_rfl) (by kernel_rfl) rfl
theorem ztE {a b:Int} (ha:-999≤a∧a≤999) (hb:-999≤b∧b≤999):-1000000≤a*b∧a*b≤1000000:=by
 have h:(a*b).natAbs≤999*999:=by
  rw[Int.natAbs_mul];exact Nat.mul_le_mul (by omega) (by omega)
 omega
theorem zul {o a b:Int} (ha:-999≤a∧a≤999) (hb:-999≤b∧b≤999):zjg [.cell (.int o),.cell (.int a),.cell (.int b)]=rI (zmk o a b):=by
 have hm:=ztE ha hb
 refine zuZ (zas (zxN ha) (zaa rfl (zas (zxN hb) (zaa rfl ?_))))
 unfold zmk;by_cases h1:o=1
 ·subst h1
  rw[if_pos rfl];refine zab rfl (zan (zpD _) ?_)
  rw[wr (by omega) (by omega)]
 rw[if_neg h1];refine zaa (eqf h1) ?_
 by_cases h2:o=2
 ·subst h2
  rw[if_pos rfl];refine zab rfl (zan (zpD _) ?_)
  rw[wr (by omega) (by omega)]
 rw[if_neg h2];refine zaa (eqf h2) ?_
 by_cases h3:o=3
 ·subst h3
  rw[if_pos rfl];refine zab rfl (zan (zpD _) ?_)
  rw[wr (by omega) (by omega)]
 rw[if_neg h3];refine zaa (eqf h3) ?_
 by_cases h4:o=4
 ·refine zab (eqt h4) ?_
  by_cases h:a<b
  ·rw[if_pos ⟨h4,h⟩];exact zab (decide_eq_true h) rfl
  ·rw[if_neg (fun x=>h x.2)];exact zaa (decide_eq_false h) rfl
 ·rw[if_neg (fun x=>h4 x.1)]
  exact zaa (eqf h4) rfl
theorem zuX {o a b:Int} (ha:-999≤a∧a≤999) (hb:-999≤b∧b≤999):zje [.cell (.int o),.cell (.int a),.cell (.int b)]=rI (zmk o a b):=by
 have hm:=ztE ha hb
 refine zu5 ?_
 unfold zmk;by_cases h1:o=1
 ·subst h1
  rw[if_pos rfl];refine zab rfl (zan (zr3 _) ?_)
  rw[wr (by omega) (by omega)]
 rw[if_neg h1];refine zaa (eqf h1) ?_
 by_cases h2:o=2
 ·subst h2
  rw[if_pos rfl];refine zab rfl (zan (zr3 _) ?_)
  rw[wr (by omega) (by omega)]
 rw[if_neg h2];refine zaa (eqf h2) ?_
 by_cases h3:o=3
 ·subst h3
  rw[if_pos rfl];refine zab rfl (zan (zr3 _) ?_)
  rw[wr (by omega) (by omega)]
 rw[if_neg h3];refine zaa (eqf h3) ?_
 by_cases h4:o=4
 ·refine zab (eqt h4) ?_
  by_cases h:a<b
  ·rw[if_pos ⟨h4,h⟩];exact zab (decide_eq_true h) rfl
  ·rw[if_neg (fun x=>h x.2)];exact zaa (decide_eq_false h) rfl
 ·rw[if_neg (fun x=>h4 x.1)]
  exact zaa (eqf h4) rfl
end
section
open Go Go.RowKit
structure FoK (D:List DM) (R:List PM) (V:List Int) (o m:Int) (l:List (List AC)):Prop where
 sh:∀k,k<l.length→∃o n ks,l.getD k []=[.int o,.int n,.sl 3 ks]
 two:o=1∨o=2∨o=3∨o=4→2≤l.length
 lit:o=1∨o=2∨o=3∨o=4→∀k,k<l.length→zit (l.getD k [])=0→-999≤zcu (l.getD k [])∧zcu (l.getD k [])≤999
 three:o=7→3≤l.length
 mt:o=8→∃j:Nat,m=(j:Int)+1∧j<D.length∧1≤l.length∧(zit (l.getD 0 [])=6→zyv D R V (zbY (l.getD 0 []))∧∃i:Nat,zcu (l.getD 0 [])=((zbs (D.take j)+i:Nat):Int)∧1+i<l.length)
section
variable {D:List DM}{R:List PM} (hv:CP D R)
include hv
theorem zC9 {V:List Int} (hl:V.length≤1000) {o m:Int}{l:List (List AC)} (hll:l.length≤1000) (h:FoK D R V o m l):zio [.cell (.sl 3 (zag D)),.agg [.int o,.int m,.sl 3 l],.cell (.int (V.length:Int))]=some (.v (.agg (zds D (V.length:Int) o m l))):=by
 by_cases h4:o=1∨o=2∨o=3∨o=4
 ·have l2:=h.two h4
  have z0:=h.lit h4 0 (by omega)
  have z1:=h.lit h4 1 (by omega)
  obtain⟨a0,b0,c0,e0⟩:=h.sh 0 (by omega)
  obtain⟨a1,b1,c1,e1⟩:=h.sh 1 (by omega)
  have z0:a0=0→-999≤b0∧b0≤999:=by rw[e0] at z0;exact z0
  have z1:a1=0→-999≤b1∧b1≤999:=by rw[e1] at z1;exact z1
  by_cases q0:a0=0
  ·by_cases q1:a1=0
   ·have hF:zds D (V.length:Int) o m l=[.int 0,.int (zmk o b0 b1),.sl 3 []]:=by
     unfold zds;rw[if_pos ⟨h4,by rw[e0];exact q0,by rw[e1];exact q1⟩,e0,e1]
     rfl
    rw[hF];rcases h4 with rfl|rfl|rfl|rfl
    ·exact zau (zab rfl (zab rfl (zaq (by omega) e0 (zab (eqt q0) (zaB (k:=1) (by omega) e1 (zab (eqt q1) (zaq (by omega) e0 (zaB (k:=1) (by omega) e1 (zan (zul (z0 q0) (z1 q1)) rfl)))))))))
    ·exact zau (zaa rfl (zab rfl (zab rfl (zaq (by omega) e0 (zab (eqt q0) (zaB (k:=1) (by omega) e1 (zab (eqt q1) (zaq (by omega) e0 (zaB (k:=1) (by omega) e1 (zan (zul (z0 q0) (z1 q1)) rfl))))))))))
    ·exact zau (zaa rfl (zaa rfl (zab rfl (zab rfl (zaq (by omega) e0 (zab (eqt q0) (zaB (k:=1) (by omega) e1 (zab (eqt q1) (zaq (by omega) e0 (zaB (k:=1) (by omega) e1 (zan (zul (z0 q0) (z1 q1)) rfl)))))))))))
    ·exact zau (zaa rfl (zaa rfl (zaa rfl (zab rfl (zaq (by omega) e0 (zab (eqt q0) (zaB (k:=1) (by omega) e1 (zab (eqt q1) (zaq (by omega) e0 (zaB (k:=1) (by omega) e1 (zan (zul (z0 q0) (z1 q1)) rfl)))))))))))
   ·rw[zcE D _ _ _ _ (fun hr=>by
     rcases hr with ⟨_,_,h⟩|⟨h,_⟩|⟨h,_⟩
     ·rw[e1] at h;exact q1 h
     ·omega
     ·omega)]
    rcases h4 with rfl|rfl|rfl|rfl
    ·exact zau (zab rfl (zab rfl (zaq (by omega) e0 (zab (eqt q0) (zaB (k:=1) (by omega) e1 (zaa (eqf q1) rfl))))))
    ·exact zau (zaa rfl (zab rfl (zab rfl (zaq (by omega) e0 (zab (eqt q0) (zaB (k:=1) (by omega) e1 (zaa (eqf q1) rfl)))))))
    ·exact zau (zaa rfl (zaa rfl (zab rfl (zab rfl (zaq (by omega) e0 (zab (eqt q0) (zaB (k:=1) (by omega) e1 (zaa (eqf q1) rfl))))))))
    ·exact zau (zaa rfl (zaa rfl (zaa rfl (zab rfl (zaq (by omega) e0 (zab (eqt q0) (zaB (k:=1) (by omega) e1 (zaa (eqf q1) rfl))))))))
  ·rw[zcE D _ _ _ _ (fun hr=>by
    rcases hr with ⟨_,h,_⟩|⟨h,_⟩|⟨h,_⟩
    ·rw[e0] at h;exact q0 h
    ·omega
    ·omega)]
   rcases h4 with rfl|rfl|rfl|rfl
   ·exact zau (zab rfl (zab rfl (zaq (by omega) e0 (zaa (eqf q0) rfl))))
   ·exact zau (zaa rfl (zab rfl (zab rfl (zaq (by omega) e0 (zaa (eqf q0) rfl)))))
   ·exact zau (zaa rfl (zaa rfl (zab rfl (zab rfl (zaq (by omega) e0 (zaa (eqf q0) rfl))))))
   ·exact zau (zaa rfl (zaa rfl (zaa rfl (zab rfl (zaq (by omega) e0 (zaa (eqf q0) rfl))))))
 by_cases h7:o=7
 ·subst h7
  have l3:=h.three rfl
  obtain⟨a0,b0,c0,e0⟩:=h.sh 0 (by omega)
  obtain⟨a1,b1,c1,e1⟩:=h.sh 1 (by omega)
  obtain⟨a2,b2,c2,e2⟩:=h.sh 2 (by omega)
  by_cases q0:a0=0
  ·have hF:zds D (V.length:Int) 7 m l=if b0≠0 then[.int a1,.int b1,.sl 3 c1] else[.int a2,.int b2,.sl 3 c2]:=by
    unfold zds;rw[if_neg (fun h=>h4 h.1),if_pos ⟨rfl,by rw[e0];exact q0⟩,e0,e1,e2]
    rfl
   rw[hF];by_cases qb:b0=0
   ·rw[if_neg (fun h=>h qb)]
    exact zau (zaa rfl (zaa rfl (zaa rfl (zaa rfl (zab rfl (zaq (by omega) e0 (zab (eqt q0) (zaf (zmc (zaq (by omega) e0 (zaa (nef qb) (zaB (k:=2) (by omega) e2 rfl)))) rfl))))))))
   ·rw[if_pos qb]
    exact zau (zaa rfl (zaa rfl (zaa rfl (zaa rfl (zab rfl (zaq (by omega) e0 (zab (eqt q0) (zaf (zmc (zaq (by omega) e0 (zab (by simp[qb]) (zaB (k:=1) (by omega) e1 rfl)))) rfl))))))))
  ·rw[zcE D _ _ _ _ (fun hr=>by
    rcases hr with ⟨h,_⟩|⟨_,h⟩|⟨h,_⟩
    ·exact h4 h
    ·rw[e0] at h;exact q0 h
    ·omega)]
   exact zau (zaa rfl (zaa rfl (zaa rfl (zaa rfl (zab rfl (zaq (by omega) e0 (zaa (eqf q0) rfl)))))))
 by_cases h8:o=8
 ·subst h8
  obtain⟨j,rfl,hj,l1,h6⟩:=h.mt rfl;have hD:=hv.dv.len
  have hsm:=zfK hv.dv.cs j (by omega)
  obtain⟨a0,b0,c0,e0⟩:=h.sh 0 (by omega)
  rw[e0] at h6;by_cases q6:a0=6
  ·obtain⟨hL,i,hi,hil⟩:=h6 q6
   have hL:zyv D R V c0:=hL
   have hi:b0=((zbs (D.take j)+i:Nat):Int):=hi
   obtain⟨a1,b1,c1,e1⟩:=h.sh (1+i) hil;obtain⟨x1,x2,x3,ex⟩:=zpJ (V.length:Int) 0 c0 e1;have hF:zds D (V.length:Int) 8 ((j:Int)+1) l=ltK (V.length:Int) 0 c0 (l.getD (1+i) []):=by
    unfold zds;rw[if_neg (fun h=>h4 h.1),if_neg (fun h=>h7 h.1),if_pos ⟨rfl,by rw[e0];exact q6⟩,e0]
    rw[show zbY [AC.int a0,AC.int b0,AC.sl 3 c0]=c0 from rfl,show zcu [AC.int a0,AC.int b0,AC.sl 3 c0]=b0 from rfl,show((j:Int)+1-1).toNat=j by omega,show(1+(b0-((zbs (D.take j):Nat):Int))).toNat=1+i by omega]
   have g:=zF4 hv hl hL e1
   rw[ex] at g;rw[hF,ex];have w:zad (zad (1+b0)-((zbs (D.take j):Nat):Int))=((1+i:Nat):Int):=by
    rw[wr (n:=1+b0) (by omega) (by omega),wr (by omega) (by omega)]
    omega
   refine zau (zaa rfl (zaa rfl (zaa rfl (zaa rfl (zaa rfl (zab rfl (zaq (by omega) e0 (zab (eqt q6) (zaq (by omega) e0 (zan (zsV hv.dv (k:=j) (by omega)) ?_))))))))))
   rw[w];exact zaB hil e1 (zaf g rfl)
  ·rw[zcE D _ _ _ _ (fun hr=>by
    rcases hr with ⟨h,_⟩|⟨h,_⟩|⟨_,h⟩
    ·exact h4 h
    ·exact h7 h
    ·rw[e0] at h;exact q6 h)]
   exact zau (zaa rfl (zaa rfl (zaa rfl (zaa rfl (zaa rfl (zab rfl (zaq (by omega) e0 (zaa (eqf q6) rfl))))))))
 rw[zcE D _ _ _ _ (fun hr=>by
  rcases hr with ⟨h,_⟩|⟨h,_⟩|⟨h,_⟩
  ·exact h4 h
  ·exact h7 h
  ·exact h8 h)]
 exact zau (zaa (eqf (by omega)) (zaa (eqf (by omega)) (zaa (eqf (by omega)) (zaa (eqf (by omega)) (zaa (eqf h7) (zaa (eqf h8) rfl))))))
theorem zDB {V:List Int} (hl:V.length≤1000) {o m:Int}{l:List (List AC)} (hll:l.length≤1000) (h:FoK D R V o m l):zkt [.agg [.sl 3 (zag D),.sl 5 (zao R)],.agg [.int o,.int m,.sl 3 l],.cell (.int (V.length:Int))]=some (.v (.agg (zds D (V.length:Int) o m l))):=by
 by_cases h4:o=1∨o=2∨o=3∨o=4
 ·have l2:=h.two h4
  have z0:=h.lit h4 0 (by omega)
  have z1:=h.lit h4 1 (by omega)
  obtain⟨a0,b0,c0,e0⟩:=h.sh 0 (by omega)
  obtain⟨a1,b1,c1,e1⟩:=h.sh 1 (by omega)
  have z0:a0=0→-999≤b0∧b0≤999:=by rw[e0] at z0;exact z0
  have z1:a1=0→-999≤b1∧b1≤999:=by rw[e1] at z1;exact z1
  by_cases q0:a0=0
  ·by_cases q1:a1=0
   ·have hF:zds D (V.length:Int) o m l=[.int 0,.int (zmk o b0 b1),.sl 3 []]:=by
     unfold zds;rw[if_pos ⟨h4,by rw[e0];exact q0,by rw[e1];exact q1⟩,e0,e1]
     rfl
    rw[hF];rcases h4 with rfl|rfl|rfl|rfl
    ·exact zaC (zab rfl (zab rfl (zaq (by omega) e0 (zab (eqt q0) (zaB (k:=1) (by omega) e1 (zab (eqt q1) (zaq (by omega) e0 (zaB (k:=1) (by omega) e1 (zan (zuX (z0 q0) (z1 q1)) rfl)))))))))
    ·exact zaC (zaa rfl (zab rfl (zab rfl (zaq (by omega) e0 (zab (eqt q0) (zaB (k:=1) (by omega) e1 (zab (eqt q1) (zaq (by omega) e0 (zaB (k:=1) (by omega) e1 (zan (zuX (z0 q0) (z1 q1)) rfl))))))))))
    ·exact zaC (zaa rfl (zaa rfl (zab rfl (zab rfl (zaq (by omega) e0 (zab (eqt q0) (zaB (k:=1) (by omega) e1 (zab (eqt q1) (zaq (by omega) e0 (zaB (k:=1) (by omega) e1 (zan (zuX (z0 q0) (z1 q1)) rfl)))))))))))
    ·exact zaC (zaa rfl (zaa rfl (zaa rfl (zab rfl (zaq (by omega) e0 (zab (eqt q0) (zaB (k:=1) (by omega) e1 (zab (eqt q1) (zaq (by omega) e0 (zaB (k:=1) (by omega) e1 (zan (zuX (z0 q0) (z1 q1)) rfl)))))))))))
   ·rw[zcE D _ _ _ _ (fun hr=>by
     rcases hr with ⟨_,_,h⟩|⟨h,_⟩|⟨h,_⟩
     ·rw[e1] at h;exact q1 h
     ·omega
     ·omega)]
    rcases h4 with rfl|rfl|rfl|rfl
    ·exact zaC (zab rfl (zab rfl (zaq (by omega) e0 (zab (eqt q0) (zaB (k:=1) (by omega) e1 (zaa (eqf q1) rfl))))))
    ·exact zaC (zaa rfl (zab rfl (zab rfl (zaq (by omega) e0 (zab (eqt q0) (zaB (k:=1) (by omega) e1 (zaa (eqf q1) rfl)))))))
    ·exact zaC (zaa rfl (zaa rfl (zab rfl (zab rfl (zaq (by omega) e0 (zab (eqt q0) (zaB (k:=1) (by omega) e1 (zaa (eqf q1) rfl))))))))
    ·exact zaC (zaa rfl (zaa rfl (zaa rfl (zab rfl (zaq (by omega) e0 (zab (eqt q0) (zaB (k:=1) (by omega) e1 (zaa (eqf q1) rfl))))))))
  ·rw[zcE D _ _ _ _ (fun hr=>by
    rcases hr with ⟨_,h,_⟩|⟨h,_⟩|⟨h,_⟩
    ·rw[e0] at h;exact q0 h
    ·omega
    ·omega)]
   rcases h4 with rfl|rfl|rfl|rfl
   ·exact zaC (zab rfl (zab rfl (zaq (by omega) e0 (zaa (eqf q0) rfl))))
   ·exact zaC (zaa rfl (zab rfl (zab rfl (zaq (by omega) e0 (zaa (eqf q0) rfl)))))
   ·exact zaC (zaa rfl (zaa rfl (zab rfl (zab rfl (zaq (by omega) e0 (zaa (eqf q0) rfl))))))
   ·exact zaC (zaa rfl (zaa rfl (zaa rfl (zab rfl (zaq (by omega) e0 (zaa (eqf q0) rfl))))))
 by_cases h7:o=7
 ·subst h7
  have l3:=h.three rfl
  obtain⟨a0,b0,c0,e0⟩:=h.sh 0 (by omega)
  obtain⟨a1,b1,c1,e1⟩:=h.sh 1 (by omega)
  obtain⟨a2,b2,c2,e2⟩:=h.sh 2 (by omega)
  by_cases q0:a0=0
  ·have hF:zds D (V.length:Int) 7 m l=if b0≠0 then[.int a1,.int b1,.sl 3 c1] else[.int a2,.int b2,.sl 3 c2]:=by
    unfold zds;rw[if_neg (fun h=>h4 h.1),if_pos ⟨rfl,by rw[e0];exact q0⟩,e0,e1,e2]
    rfl
   rw[hF];by_cases qb:b0=0
   ·rw[if_neg (fun h=>h qb)]
    exact zaC (zaa rfl (zaa rfl (zaa rfl (zaa rfl (zab rfl (zaq (by omega) e0 (zab (eqt q0) (zaq (by omega) e0 (zaa (nef qb) (zaq (by omega) e0 (zab (eqt q0) (zaB (k:=2) (by omega) e2 rfl))))))))))))
   ·rw[if_pos qb]
    exact zaC (zaa rfl (zaa rfl (zaa rfl (zaa rfl (zab rfl (zaq (by omega) e0 (zab (eqt q0) (zaq (by omega) e0 (zab (by simp[qb]) (zaB (k:=1) (by omega) e1 rfl))))))))))
  ·rw[zcE D _ _ _ _ (fun hr=>by
    rcases hr with ⟨h,_⟩|⟨_,h⟩|⟨h,_⟩
    ·exact h4 h
    ·rw[e0] at h;exact q0 h
    ·omega)]
   exact zaC (zaa rfl (zaa rfl (zaa rfl (zaa rfl (zab rfl (zaq (by omega) e0 (zaa (eqf q0) (zaq (by omega) e0 (zaa (eqf q0) rfl)))))))))
 by_cases h8:o=8
 ·subst h8
  obtain⟨j,rfl,hj,l1,h6⟩:=h.mt rfl;have hD:=hv.dv.len
  have hsm:=zfK hv.dv.cs j (by omega)
  obtain⟨a0,b0,c0,e0⟩:=h.sh 0 (by omega)
  rw[e0] at h6;by_cases q6:a0=6
  ·obtain⟨hL,i,hi,hil⟩:=h6 q6
   have hL:zyv D R V c0:=hL
   have hi:b0=((zbs (D.take j)+i:Nat):Int):=hi
   obtain⟨a1,b1,c1,e1⟩:=h.sh (1+i) hil;obtain⟨x1,x2,x3,ex⟩:=zpJ (V.length:Int) 0 c0 e1;have hF:zds D (V.length:Int) 8 ((j:Int)+1) l=ltK (V.length:Int) 0 c0 (l.getD (1+i) []):=by
    unfold zds;rw[if_neg (fun h=>h4 h.1),if_neg (fun h=>h7 h.1),if_pos ⟨rfl,by rw[e0];exact q6⟩,e0]
    rw[show zbY [AC.int a0,AC.int b0,AC.sl 3 c0]=c0 from rfl,show zcu [AC.int a0,AC.int b0,AC.sl 3 c0]=b0 from rfl,show((j:Int)+1-1).toNat=j by omega,show(1+(b0-((zbs (D.take j):Nat):Int))).toNat=1+i by omega]
   have g:=zFx hv hl hL e1
   rw[ex] at g;rw[hF,ex];have w:zad (zad (1+b0)-((zbs (D.take j):Nat):Int))=((1+i:Nat):Int):=by
    rw[wr (n:=1+b0) (by omega) (by omega),wr (by omega) (by omega)]
    omega
   have w2:zad ((j:Int)+1-1)=(j:Int):=by rw[wr (by omega) (by omega)];omega
   refine zaC (zaa rfl (zaa rfl (zaa rfl (zaa rfl (zaa rfl (zab rfl (zaq (by omega) e0 (zab (eqt q6) (zaq (by omega) e0 (zaq (by omega) e0 ?_))))))))))
   rw[w2];refine zan (zjz hv.dv (k:=j) (by omega)) ?_
   rw[w];exact zaB hil e1 (zaf g rfl)
  ·rw[zcE D _ _ _ _ (fun hr=>by
    rcases hr with ⟨h,_⟩|⟨h,_⟩|⟨_,h⟩
    ·exact h4 h
    ·exact h7 h
    ·rw[e0] at h;exact q6 h)]
   exact zaC (zaa rfl (zaa rfl (zaa rfl (zaa rfl (zaa rfl (zab rfl (zaq (by omega) e0 (zaa (eqf q6) rfl))))))))
 rw[zcE D _ _ _ _ (fun hr=>by
  rcases hr with ⟨h,_⟩|⟨h,_⟩|⟨h,_⟩
  ·exact h4 h
  ·exact h7 h
  ·exact h8 h)]
 exact zaC (zaa (eqf (by omega)) (zaa (eqf (by omega)) (zaa (eqf (by omega)) (zaa (eqf (by omega)) (zaa (eqf h7) (zaa (eqf h8) rfl))))))
end
end
section
open Go Go.RowKit
section
variable {D:List DM}{R:List PM} (hv:CP D R)
theorem zx0 (m:Int) (k:Nat) (h:k≠1):zck D 13 m k=0:=by
 unfold zck;rw[if_neg (fun x=>h x.2),if_neg (fun x=>absurd x.1 (by decide))]
theorem zxo {j k:Nat} (h:0<k):zck D 8 ((j:Int)+1) k=((gD D j).cs.getD (k-1) []).length:=by
 unfold zck;rw[if_neg (fun x=>absurd x.1 (by decide)),if_pos ⟨rfl,h⟩,show((j:Int)+1-1).toNat=j by omega]
theorem zu1 {o:Int} (m:Int) (k:Nat) (h13:o≠13) (h8:o≠8):zck D o m k=0:=by
 unfold zck;rw[if_neg (fun x=>h13 x.1),if_neg (fun x=>h8 x.1)]
def zEI (D:List DM) (o m:Int) (k:Nat):Prop:=(o=13→k<2)∧(o=8→0<k→∃j:Nat,m=(j:Int)+1∧j<D.length∧k-1<(gD D j).cs.length)
include hv
theorem zCF {o m:Int}{k:Nat} (hk:k≤1000) (h:zEI D o m k) (kids:List (List AC)):zlo [.cell (.sl 3 (zag D)),.agg [.int o,.int m,.sl 3 kids],.cell (.int (k:Int))]=rI ((zck D o m k:Nat):Int):=by
 have hD:=hv.dv.len
 by_cases h13:o=13
 ·subst h13
  by_cases k1:k=1
  ·subst k1;exact zd9 (zab rfl (zab rfl rfl))
  ·rw[zx0 m k k1]
   exact zd9 (zab rfl (zaa (eqf (by omega)) (zaa rfl rfl)))
 by_cases h8:o=8
 ·subst h8
  by_cases k0:k=0
  ·subst k0;exact zd9 (zaa rfl (zab rfl (zaa rfl rfl)))
  obtain⟨j,rfl,hj,hk'⟩:=h.2 rfl (by omega)
  have w1:zad ((j:Int)+1-1)=(j:Int):=by rw[wr (by omega) (by omega)];omega
  have w2:zad ((k:Int)-1)=((k-1:Nat):Int):=by rw[wr (by omega) (by omega)];omega
  refine zd9 (zaa rfl (zab rfl (zab (decide_eq_true (by omega)) (zba (k:=j) w1 hj (zg2 (k:=k-1) w2 hk' ?_)))))
  rw[zac,zxo (by omega)]
 rw[zu1 m k h13 h8];exact zd9 (zaa (eqf h13) (zaa (eqf h8) rfl))
theorem zCO {o m:Int}{k n:Nat} (hk:k≤1000) (hn:n≤100000) (h:zEI D o m k) (kids:List (List AC)):zlA [.agg [.sl 3 (zag D),.sl 5 (zao R)],.agg [.int o,.int m,.sl 3 kids],.cell (.int (k:Int)),.cell (.int (n:Int))]=rI ((n+zck D o m k:Nat):Int):=by
 have hD:=hv.dv.len
 by_cases k0:k=0
 ·subst k0
  have e:zck D o m 0=0:=by
   unfold zck;rw[if_neg (fun x=>absurd x.2 (by decide)),if_neg (fun x=>absurd x.2 (by decide))]
  rw[e];exact zfN (zab rfl rfl)
 by_cases h13:o=13
 ·subst h13
  have:=h.1 rfl
  obtain rfl:k=1:=by omega
  refine zfN (zaa rfl (zab rfl ?_))
  rw[wr (by omega) (by omega)]
  rfl
 by_cases h8:o=8
 ·subst h8
  obtain⟨j,rfl,hj,hk'⟩:=h.2 rfl (by omega)
  have w2:zad ((k:Int)-1)=((k-1:Nat):Int):=by rw[wr (by omega) (by omega)];omega
  have hc:=zrK hv.dv ((j:Int)+1)
  rw[if_pos (by omega),show((j:Int)+1).toNat-1=j by omega] at hc
  have hf:=zhX hv.dv ((zbs (D.take j)+(k-1):Nat):Int)
  obtain⟨g1,g2⟩:=zrN hj hk';rw[g1,g2,if_neg (by omega)] at hf
  have h3:=(hv.dv.c j hj _ (zaE hk' [])).1
  refine zfN (zaa (eqf (by omega)) (zaa rfl (zab rfl (zay hc (zjU (k:=k-1) w2 (by rw[zkC];exact hk') ?_)))))
  rw[zuM hk'];refine zay hf ?_
  rw[zac,wr (by omega) (by omega),zxo (by omega)]
  rfl
 rw[zu1 m k h13 h8];exact zfN (zaa (eqf (by omega)) (zaa (eqf h13) (zaa (eqf h8) rfl)))
structure FdK (D:List DM) (R:List PM) (V:List Int) (s:Nat) (o m:Int) (kids:List (List AC)) (k:Nat):Prop where
 bd:zEI D o m k
 sh:∃o' m' ks,kids.getD k []=[.int o',.int m',.sl 3 ks]
 sf:∃o' m' ks,fd D s (V.length+zck D o m k) (kids.getD k [])=[.int o',.int m',.sl 3 ks]
 i:zeQ [.cell (.sl 3 (zag D)),.agg (kids.getD k []),.cell (.int ((V.length+zck D o m k:Nat):Int))]=some (.v (.agg (fd D s (V.length+zck D o m k) (kids.getD k []))))
 s:zg1 [.agg [.sl 3 (zag D),.sl 5 (zao R)],.agg (kids.getD k []),.cell (.int ((V.length+zck D o m k:Nat):Int))]=some (.v (.agg (fd D s (V.length+zck D o m k) (kids.getD k []))))
theorem zkQ {V:List Int} (hl:V.length≤1000) {s:Nat}{o m:Int}{kids:List (List AC)} (hll:kids.length≤1000) (hk:∀k,k<kids.length→FdK D R V s o m kids k) (h:FoK D R V o m ((List.range kids.length).map fun k=>fd D s (V.length+zck D o m k) (kids.getD k []))) :
  zeQ [.cell (.sl 3 (zag D)),.agg [.int o,.int m,.sl 3 kids],.cell (.int (V.length:Int))]=some (.v (.agg (fd D (s+1) V.length [.int o,.int m,.sl 3 kids]))) ∧
  zg1 [.agg [.sl 3 (zag D),.sl 5 (zao R)],.agg [.int o,.int m,.sl 3 kids],.cell (.int (V.length:Int))]=some (.v (.agg (fd D (s+1) V.length [.int o,.int m,.sl 3 kids]))):=by
 have hD:=hv.dv.len
 have hb3:∀k,k<kids.length→zck D o m k≤3:=fun k hkl=>by
  have hbd:=(hk k hkl).bd
  unfold zck;split
  ·omega
  ·split
   ·rename_i h1 h2
    obtain⟨j,rfl,hj,hk'⟩:=hbd.2 h2.1 h2.2;rw[show((j:Int)+1-1).toNat=j by omega]
    exact(hv.dv.c j hj _ (zaE hk' [])).1
   ·omega
 generalize hF:(fun k=>fd D s (V.length+zck D o m k) (kids.getD k []))=F at *
 have hFk:∀k,fd D s (V.length+zck D o m k) (kids.getD k [])=F k:=fun k=>by rw[←hF]
 have fin:∃o' m' ks,zds D (V.length:Int) o m ((List.range kids.length).map F)=[.int o',.int m',.sl 3 ks]:=by
  unfold zds;split
  ·exact⟨_,_,_,rfl⟩
  split
  ·rename_i h7
   have h3:=h.three h7.1
   split
   ·exact h.sh 1 (by omega)
   ·exact h.sh 2 (by omega)
  split
  ·rename_i h8
   obtain⟨j,hm,hj,h1,h6⟩:=h.mt h8.1;obtain⟨_,i,hi,hil⟩:=h6 h8.2;have e:(1+(zcu (((List.range kids.length).map F).getD 0 [])-((zbs (D.take (m-1).toNat):Nat):Int))).toNat=1+i:=by
    rw[hm,show((j:Int)+1-1).toNat=j by omega,hi]
    omega
   rw[e];obtain⟨a1,b1,c1,e1⟩:=h.sh (1+i) hil;exact zpJ _ _ _ e1
  ·exact⟨_,_,_,rfl⟩
 have hlen:((List.range kids.length).map F).length=kids.length:=by simp
 obtain⟨p1,p2,p3,ep⟩:=fin;have tk:∀k,k<kids.length→(List.range (k+1)).map F=(List.range k).map F++[F k]:=fun k _=>by
  rw[List.range_succ,List.map_append,List.map_singleton]
 rw[zpZ,hF];constructor
 ·have fin:=zC9 hv hl (by rw[hlen];exact hll) h
  rw[ep] at fin ⊢;have key:∀q k:Nat,k+q=kids.length→zgy (zag D) (V.length:Int) o m kids 0 0 [] o m ((List.range k).map F) kids ((kids.length:Nat):Int) (k:Int)=some (.v (.agg [.int p1,.int p2,.sl 3 p3])):=by
   intro q;induction q with
   | zero =>
    intro k hkq;obtain rfl:k=kids.length:=by omega
    exact zkr (zaa (decide_eq_false (by omega)) (zaf fin rfl))
   | succ q ih =>
    intro k hkq;have hlt:k<kids.length:=by omega
    have g:=hk k hlt
    obtain⟨o',m',ks,e⟩:=g.sh;obtain⟨y1,y2,y3,ey⟩:=g.sf;have gi:=g.i
    rw[ey,e] at gi;have h3:=hb3 k hlt
    refine zkr (zab (decide_eq_true (by omega)) (zaB hlt e (zan (zCF hv (by omega) g.bd kids) ?_)))
    rw[wr (by omega) (by omega),show((V.length:Int)+((zck D o m k:Nat):Int))=((V.length+zck D o m k:Nat):Int) by omega]
    refine zaf gi (zbu (by simp;omega) ?_)
    rw[wrk (by unfold zaS;omega)]
    have hn:=ih (k+1) (by omega)
    rw[tk k hlt,←hFk k,ey] at hn;exact hn
  exact zrZ (key kids.length 0 (by omega))
 ·have fin:=zDB hv hl (by rw[hlen];exact hll) h
  rw[ep] at fin ⊢;have key:∀q k:Nat,k+q=kids.length→ziU (V.length:Int) (zag D) (zao R) o m kids 0 0 [] ((List.range k).map F) (k:Int)=some (.v (.agg [.int p1,.int p2,.sl 3 p3])):=by
   intro q;induction q with
   | zero =>
    intro k hkq;obtain rfl:k=kids.length:=by omega
    exact zlR (zaa (decide_eq_false (by omega)) (zaf fin rfl))
   | succ q ih =>
    intro k hkq;have hlt:k<kids.length:=by omega
    have g:=hk k hlt
    obtain⟨o',m',ks,e⟩:=g.sh;obtain⟨y1,y2,y3,ey⟩:=g.sf;have gi:=g.s
    rw[ey,e] at gi;refine zlR (zab (decide_eq_true (by omega)) (zaB hlt e (zan (zCO hv (by omega) (by omega) g.bd kids) (zaf gi (zbu (by simp;omega) ?_)))))
    rw[wrk (by unfold zaS;omega)]
    have hn:=ih (k+1) (by omega)
    rw[tk k hlt,←hFk k,ey] at hn;exact hn
  exact zu6 (key kids.length 0 (by omega))
end
end
end Go.Proofs.YtkgbadeobdbinaaGreat
