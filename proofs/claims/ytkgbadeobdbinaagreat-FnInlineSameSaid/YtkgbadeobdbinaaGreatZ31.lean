/- Generic texts and models for the proofs of this seat: part 31. -/
import Derived.Test.YtkgbadeobdbinaaGreatZ30
set_option linter.unusedVariables false
set_option linter.unusedSimpArgs false
namespace Go.Proofs.YtkgbadeobdbinaaGreat
section
open Go Go.RowKit
def zFs (x:PM) (y:List AC):PM:=⟨x.ps,x.r,zyW y,zt6 y,zxQ y⟩
def zc2 (R:List PM) (F:PM→List AC):List PM:=R.map fun x=>zFs x (F x)
theorem zuX {R:List PM}{F:PM→List AC}{k:Nat} (h:k<R.length):gP (zc2 R F) k=zFs (gP R k) (F (gP R k)):=by
 simp[gP,zc2,List.getD,h]
theorem zfw {R:List PM}{F:PM→List AC}:(zc2 R F).length=R.length:=by simp[zc2]
theorem znu {R:List PM}{F:PM→List AC}:zlY R (zc2 R F):=by
 refine⟨zfw,fun k=>?_⟩
 by_cases h:k<R.length
 ·rw[zuX h];exact⟨rfl,rfl⟩
 ·have h1:gP (zc2 R F) k=default:=by simp[gP,List.getD,List.getElem?_eq_none (show(zc2 R F).length≤k by rw[zfw];omega)]
  have h2:gP R k=default:=by simp[gP,List.getD,List.getElem?_eq_none (show R.length≤k by omega)]
  rw[h1,h2];exact⟨rfl,rfl⟩
section
variable {D:List DM}{R:List PM}
theorem zjC {F:PM→List AC}{k:Nat}{V:List Int}{t:Int} (h:k<R.length) (ht:HT D R V (F (gP R k)) t):zaH (gP (zc2 R F) k)=F (gP R k):=by
 rw[zuX h];exact(zfC ht).symm
structure TP (D:List DM) (R:List PM):Prop where
 cp:CP D R
 b:∀k,k<R.length→cS (zaH (gP R k))≤29∧HT D R (gP R k).ps (zaH (gP R k)) (gP R k).r
theorem zqp {R':List PM}{k:Nat} (h:k<R'.length):(R'.take (k+1)).map zaH=(R'.take k).map zaH++[zaH (gP R' k)]:=by
 rw[List.take_succ_eq_append_getElem h,zl7 h,List.map_append,List.map_singleton]
theorem zCh (h:TP D R) (hd:∀d∈D,DOk d) (hs:zhi D R=true):za6 [.agg [.sl 3 (zaf D),.sl 5 (zak R)]]=rB true:=by
 have hl:=h.cp.dv.len
 have hr:=h.cp.rl
 exact zFa ⟨hd,h.cp.rok,by unfold zaI;omega,by unfold zaI;omega⟩ hs h.cp h.b
theorem ztl (h:TP D R):zaJ [.agg [.sl 3 (zaf D),.sl 5 (zak R)],.agg [.sl 3 (zaf D),.sl 5 (zak R)]]=rB true :=
 zmC h.cp.dv h.cp.rl fun k hk=>⟨(h.cp.ps k hk).1,(h.cp.rok _ (zf2 hk)).b,by have:=(h.b k hk).1;omega⟩
end
end
section
open Go Go.RowKit
def ltW (n:Int):Nat→List (List AC)→List AC→List AC
 | _,[],b=>b
 | k,x::xs,b=>[.int 13,.int 0,.sl 3 [shr n (k:Int) 2000 x,ltW n (k+1) xs b]]
theorem zBW {D:List DM}{R:List PM}{V:List Int} (hV0:∀u∈V,0≤u) {b:List AC}{t:Int}:∀(xs:List (List AC)) (W ts:List Int),(∀u∈ts,0≤u)→ts.length=xs.length→(∀i,i<xs.length→HT D R V (xs.getD i []) (ts.getD i 0)∧cS (xs.getD i [])<2000) →
  HT D R (V++(W++ts)) b t→HT D R (V++W) (ltW (V.length:Int) W.length xs b) t
 | [],W,ts,_,hl,_,hb=>by
  have:ts=[]:=List.length_eq_zero_iff.1 hl
  subst this;rw[List.append_nil] at hb;exact hb
 | x::xs,W,ts,hp,hl,hx,hb=>by
  match ts,hl with
  | t0::ts,hl =>
  obtain⟨h0,hc⟩:=hx 0 (by simp)
  have h0:HT D R V x t0:=h0
  have hc:cS x<2000:=hc
  have g0:=zuh h0 V [] W (by simp) 2000 hc
  rw[List.append_nil] at g0;have ih:=zBW hV0 (b:=b) (t:=t) xs (W++[t0]) ts (fun u hu=>hp u (List.mem_cons_of_mem _ hu)) (by simpa using hl) (fun i hi=>by
   have:=hx (i+1) (by simpa using hi)
   simpa using this) (by rw[List.append_assoc,List.singleton_append];exact hb)
  rw[←List.append_assoc,List.length_append,List.length_singleton] at ih;exact .bind _ _ t0 _ rfl (hp t0 List.mem_cons_self) g0 ih
theorem zCB {D:List DM}{R:List PM}{V:List Int} (n:Int) (b:List AC):∀(xs:List (List AC)) (k:Nat),(∀x∈xs,∃t,HT D R V x t∧cS x<2000)→cS (ltW n k xs b)=2*xs.length+rsS xs+cS b
 | [],k,_=>by simp[ltW,zaQ]
 | x::xs,k,h=>by
  obtain⟨t,hx,hc⟩:=h x List.mem_cons_self;have ih:=zCB n b xs (k+1) fun y hy=>h y (List.mem_cons_of_mem _ hy)
  rw[ltW,zbv,za0,za0,zaQ,zyH hx n _ 2000 hc,ih,za0];simp only[List.length_cons,List.length_nil];omega
theorem zzn (n:Int) (k:Nat) (xs:List (List AC)) {b:List AC}{o m:Int}{ks:List (List AC)} (hb:b=[.int o,.int m,.sl 3 ks]):∃o' m' ks',ltW n k xs b=[.int o',.int m',.sl 3 ks']:=by
 cases xs with
 | nil=>exact⟨o,m,ks,hb⟩
 | cons x xs=>exact⟨_,_,_,rfl⟩
section
variable {D:List DM}{R:List PM} (hv:CP D R)
include hv
def zAF (D:List DM) (R:List PM) (V:List Int) (xs:List (List AC)):Prop:=xs.length≤99∧∀x∈xs,∃t,HT D R V x t∧cS x<2000
theorem zv3 {V:List Int} (hl:V.length≤1000) {xs:List (List AC)} (h:zAF D R V xs) {i:Nat} (hi:i<xs.length) :
  ∃o m ks o' m' ks',xs.getD i []=[.int o,.int m,.sl 3 ks]∧shr (V.length:Int) (i:Int) 2000 (xs.getD i [])=[.int o',.int m',.sl 3 ks'] ∧
   zda [.agg [.int o,.int m,.sl 3 ks],.cell (.int (V.length:Int)),.cell (.int (i:Int))]=some (.v (.agg [.int o',.int m',.sl 3 ks'])) ∧
   zeM [.agg [.int o,.int m,.sl 3 ks],.cell (.int (V.length:Int)),.cell (.int (i:Int))]=some (.v (.agg [.int o',.int m',.sl 3 ks'])):=by
 have h99:=h.1
 obtain⟨t,ht,hc⟩:=h.2 _ (zaE hi []);have hf:=zyd hv ht (by omega)
 have hw:=zv7 hv ht 2000 hf hc (by omega)
 obtain⟨o,m,ks,e⟩:=znl hf;obtain⟨o',m',ks',e'⟩:=zuj e (V.length:Int) (i:Int) 2000;have g1:=ztb (a:=(V.length:Int)) (b:=(i:Int)) (by omega) 2000 _ hf hc (by omega) hw
 have g2:=zwy (a:=(V.length:Int)) (b:=(i:Int)) (by omega) 2000 _ hf hc (by omega) hw
 rw[e'] at g1 g2;rw[e] at g1 g2;exact⟨o,m,ks,o',m',ks',e,e',g1,g2⟩
theorem zDW {V:List Int} (hl:V.length≤1000) {xs:List (List AC)} (h:zAF D R V xs) {b:List AC}{o m:Int}{ks:List (List AC)} (hb:b=[.int o,.int m,.sl 3 ks]) :
  zfV [.cell (.sl 3 xs),.agg [.int o,.int m,.sl 3 ks],.cell (.int (V.length:Int))]=some (.v (.agg (ltW (V.length:Int) 0 xs b))):=by
 have h99:=h.1
 have key:∀i:Nat,i≤xs.length→∀o' m' ks',ltW (V.length:Int) i (xs.drop i) b=[.int o',.int m',.sl 3 ks']→zdR xs (V.length:Int) 0 0 [] o' m' ks' ((i:Int)-1)=some (.v (.agg (ltW (V.length:Int) 0 xs b))):=by
  intro i;induction i with
  | zero =>
   intro _ o' m' ks' e;rw[List.drop_zero] at e;rw[e];exact zhe (zaa (decide_eq_false (by omega)) rfl)
  | succ i ih =>
   intro hi o' m' ks' e;obtain⟨a1,a2,a3,c1,c2,c3,e1,e2,g1,_⟩:=zv3 hv hl h (show i<xs.length by omega)
   rw[show(((i+1:Nat):Int)-1)=(i:Int) by omega]
   refine zhe (zac (decide_eq_true (by omega)) (zbu (by omega) e1 (zag g1 ?_)))
   rw[wr (by omega) (by omega)]
   refine ih (by omega) _ _ _ ?_
   rw[zur (show i<xs.length by omega),ltW,e,e2]
 refine znX ?_
 rw[wr (by omega) (by omega)]
 refine key xs.length (Nat.le_refl _) o m ks ?_
 rw[List.drop_length];exact hb
theorem zCT {V:List Int} (hl:V.length≤1000) {xs:List (List AC)} (h:zAF D R V xs) {b:List AC}{o m:Int}{ks:List (List AC)} (hb:b=[.int o,.int m,.sl 3 ks]) :
  zny [.cell (.sl 3 xs),.agg [.int o,.int m,.sl 3 ks],.cell (.int (V.length:Int))]=some (.v (.agg (ltW (V.length:Int) 0 xs b))):=by
 have h99:=h.1
 have key:∀i:Nat,i≤xs.length→∀o' m' ks',ltW (V.length:Int) i (xs.drop i) b=[.int o',.int m',.sl 3 ks']→zjw xs (V.length:Int) 0 0 [] o' m' ks' ((i:Int)-1)=some (.v (.agg (ltW (V.length:Int) 0 xs b))):=by
  intro i;induction i with
  | zero =>
   intro _ o' m' ks' e;rw[List.drop_zero] at e;rw[e];exact zmj (zaa (decide_eq_false (by omega)) rfl)
  | succ i ih =>
   intro hi o' m' ks' e;obtain⟨a1,a2,a3,c1,c2,c3,e1,e2,_,g1⟩:=zv3 hv hl h (show i<xs.length by omega)
   rw[show(((i+1:Nat):Int)-1)=(i:Int) by omega]
   refine zmj (zac (decide_eq_true (by omega)) (zbu (by omega) e1 (zag g1 ?_)))
   rw[wr (by omega) (by omega)]
   refine ih (by omega) _ _ _ ?_
   rw[zur (show i<xs.length by omega),ltW,e,e2]
 refine zvh ?_
 rw[wr (by omega) (by omega)]
 refine key xs.length (Nat.le_refl _) o m ks ?_
 rw[List.drop_length];exact hb
end
end
section
open Go
theorem zms {D:List DM}{R:List PM} (n:Int):zcf [.agg [.sl 3 (zaf D),.sl 5 (zak R)],.cell (.int n)]=rB (decide (0≤n∧n<R.length)):=zoa n
end
section
open Go
theorem zzP (xs:List Int) (n:Int) (hx:xs.length≤1048576):zmD [.cell (.sl 1 (zad xs)),.cell (.int n)]=rB (xs.contains n):=by
 have key:∀m k:Nat,k+m=xs.length→zgK n (zad xs) ((xs.length:Nat):Int) (k:Int)=rB ((xs.drop k).contains n):=by
  intro m;induction m with
  | zero =>
   intro k hk;rw[List.drop_eq_nil_of_le (by omega)]
   exact zkF (zaa (decide_eq_false (by omega)) rfl)
  | succ m ih =>
   intro k hk;have hlt:k<xs.length:=by omega
   have hnext:=ih (k+1) (by omega)
   rw[←wrk (by unfold zaI;omega)] at hnext
   rw[List.drop_eq_getElem_cons hlt,List.contains_cons];refine zkF (zac (decide_eq_true (by omega)) (za9 hlt ?_))
   rcases e:(xs[k]==n) with _|_
   ·rw[show(n==xs[k])=false by rw[beq_eq_false_iff_ne] at e ⊢;exact fun h=>e h.symm,Bool.false_or]
    exact zaa rfl hnext
   ·rw[show(n==xs[k])=true by rw[beq_iff_eq] at e ⊢;exact e.symm,Bool.true_or]
    exact zac rfl rfl
 refine zs8 ?_
 rw[zab];exact key xs.length 0 (by omega)
end
section
open Go
section
variable (C:Nat→Nat→Bool) (m:Nat)
def stI (A:Nat→Bool):Nat→Bool:=fun x=>A x||(List.range m).any fun i=>A i&&C i x
def itI (f:Nat):Nat→Nat→Bool
 | 0=>zn5 f
 | r+1=>stI C m (itI f r)
def gF:Nat→Nat→(Nat→Bool)→Nat→Bool
 | _,0,O=>O
 | i,j+1,O=>gF (i+1) j (if O i then orS O (C i) else O)
def itS (f:Nat):Nat→Nat→Bool
 | 0=>zn5 f
 | r+1=>gF C 0 m (itS f r)
inductive Rch (f:Nat):Nat→Prop
 | refl:Rch f f
 | step {i x:Nat} (h:Rch f i) (hi:i<m) (hx:x<m) (hc:C i x=true):Rch f x
def Cl (A:Nat→Bool):Prop:=∀i,i<m→A i=true→∀x,x<m→C i x=true→A x=true
variable {C m}
theorem stI_iff {A:Nat→Bool}{x:Nat}:stI C m A x=true↔A x=true∨∃i,i<m∧A i=true∧C i x=true:=by
 unfold stI;simp only[Bool.or_eq_true,List.any_eq_true,List.mem_range,Bool.and_eq_true]
theorem ztU {f:Nat}{A:Nat→Bool} (hC:Cl C m A) (hf:A f=true) {x:Nat} (h:Rch C m f x):A x=true:=by
 induction h with
 | refl=>exact hf
 | step _ hi hx hc ih=>exact hC _ hi ih _ hx hc
theorem zpu {f:Nat}:∀(r x:Nat),x<m→itI C m f r x=true→Rch C m f x
 | 0,x,_,h=>by
  simp only[itI,zn5,beq_iff_eq] at h;subst h;exact .refl
 | r+1,x,hx,h=>by
  rcases stI_iff.1 h with h|⟨i,hi,h1,h2⟩
  ·exact zpu r x hx h
  ·exact .step (zpu r i hi h1) hi hx h2
theorem zna (f:Nat):∀r,itI C m f r f=true
 | 0=>by simp[itI,zn5]
 | r+1=>stI_iff.2 (.inl (zna f r))
theorem zvj {p q:Nat→Bool}{l:List Nat} (h:∀x∈l,p x=true→q x=true) {y:Nat} (hy:y∈l) (h1:p y=false) (h2:q y=true):l.countP p+1≤l.countP q:=by
 induction l with
 | nil=>cases hy
 | cons a l ih =>
  have hm:l.countP p≤l.countP q:=List.countP_mono_left fun x hx=>h x (List.mem_cons_of_mem _ hx)
  rcases List.mem_cons.1 hy with rfl|hy
  ·rw[List.countP_cons_of_neg (by simp[h1]),List.countP_cons_of_pos h2]
   omega
  ·have:=ih (fun x hx=>h x (List.mem_cons_of_mem _ hx)) hy
   rcases hp:p a with _|_
   ·rw[List.countP_cons_of_neg (by simp[hp])]
    rcases hq:q a with _|_
    ·rw[List.countP_cons_of_neg (by simp[hq])];exact this
    ·rw[List.countP_cons_of_pos hq];omega
   ·rw[List.countP_cons_of_pos hp,List.countP_cons_of_pos (h a List.mem_cons_self hp)]
    omega
theorem zuD {f:Nat} (hf:f<m):∀r,Cl C m (itI C m f r)∨r+1≤(List.range m).countP (itI C m f r)
 | 0=>.inr (by
  have:0<(List.range m).countP (itI C m f 0):=List.countP_pos_iff.2 ⟨f,List.mem_range.2 hf,zna f 0⟩
  omega)
 | r+1=>by
  by_cases hc:Cl C m (itI C m f r)
  ·left
   intro i hi h x hx hcx;have back:∀y,y<m→itI C m f (r+1) y=true→itI C m f r y=true:=fun y hy h=>by
    rcases stI_iff.1 h with h|⟨k,hk,h1,h2⟩
    ·exact h
    ·exact hc k hk h1 y hy h2
   exact stI_iff.2 (.inl (hc i hi (back i hi h) x hx hcx))
  ·right
   have hle:=(zuD hf r).resolve_left hc
   obtain⟨i,hi⟩:=Classical.not_forall.1 hc;have h1:i<m:=Classical.byContradiction fun h=>hi fun h'=>absurd h' h
   have h2:itI C m f r i=true:=Classical.byContradiction fun h=>hi fun _ h'=>absurd h' h
   obtain⟨x,hx⟩:=Classical.not_forall.1 fun h=>hi fun _ _=>h
   have h3:x<m:=Classical.byContradiction fun h=>hx fun h'=>absurd h' h
   have h4:C i x=true:=Classical.byContradiction fun h=>hx fun _ h'=>absurd h' h
   have h5:¬itI C m f r x=true:=fun h=>hx fun _ _=>h
   have:=zvj (l:=List.range m) (p:=itI C m f r) (q:=itI C m f (r+1)) (fun z _ h=>stI_iff.2 (.inl h)) (List.mem_range.2 h3) (by simpa using h5) (stI_iff.2 (.inr ⟨i,h1,h2,h4⟩))
   omega
theorem zsH {f:Nat} (hf:f<m):Cl C m (itI C m f m):=by
 rcases zuD (C:=C) hf m with h|h
 ·exact h
 ·have:=List.countP_le_length (p:=itI C m f m) (l:=List.range m)
  rw[List.length_range] at this;omega
theorem zx3:∀(j i:Nat) (O:Nat→Bool) (x:Nat),O x=true→gF C i j O x=true
 | 0,_,_,_,h=>h
 | j+1,i,O,x,h=>by
  refine zx3 j (i+1) _ x ?_
  split
  ·simp[orS,h]
  ·exact h
theorem zA7:∀(j i:Nat) (O:Nat→Bool) (k x:Nat),i≤k→k<i+j→O k=true→C k x=true→gF C i j O x=true
 | 0,i,O,k,x,h1,h2,_,_=>by omega
 | j+1,i,O,k,x,h1,h2,hk,hx=>by
  unfold gF;by_cases e:k=i
  ·subst e
   rw[if_pos hk];exact zx3 j _ _ x (by simp[orS,hx])
  ·refine zA7 j (i+1) _ k x (by omega) (by omega) ?_ hx
   split
   ·simp[orS,hk]
   ·exact hk
theorem zxd {f:Nat}:∀(j i:Nat) (O:Nat→Bool),i+j=m→(∀x,x<m→O x=true→Rch C m f x)→∀x,x<m→gF C i j O x=true→Rch C m f x
 | 0,_,_,_,h,x,hx,hg=>h x hx hg
 | j+1,i,O,hij,h,x,hx,hg=>by
  refine zxd j (i+1) _ (by omega) (fun y hy ho=>?_) x hx hg
  split at ho
  ·rename_i hi
   simp only[orS,Bool.or_eq_true] at ho;rcases ho with ho|ho
   ·exact h y hy ho
   ·exact .step (h i (by omega) hi) (by omega) hy ho
  ·exact h y hy ho
theorem zt2 {f:Nat}:∀(r x:Nat),x<m→itS C m f r x=true→Rch C m f x
 | 0,x,_,h=>by
  simp only[itS,zn5,beq_iff_eq] at h;subst h;exact .refl
 | r+1,x,hx,h=>zxd m 0 _ (by omega) (fun y hy=>zt2 r y hy) x hx h
theorem zu5 {f:Nat}:∀(r x:Nat),itI C m f r x=true→itS C m f r x=true
 | 0,x,h=>h
 | r+1,x,h=>by
  rcases stI_iff.1 h with h|⟨i,hi,h1,h2⟩
  ·exact zx3 m 0 _ x (zu5 r x h)
  ·exact zA7 m 0 _ i x (by omega) (by omega) (zu5 r i h1) h2
theorem zHr {f:Nat} (hf:f<m):za8 (itS C m f m) 0 m=za8 (itI C m f m) 0 m:=zls fun x _ hx=>by
 rw[Bool.eq_iff_iff];exact⟨fun h=>ztU (zsH hf) (zna f m) (zt2 m x (by omega) h),zu5 m x⟩
end
theorem zC7 {a b:List Int} (h:a=b):rL a=rL b:=by rw[h]
theorem zsl (m:Nat):za8 (fun _=>false) 0 m=[]:=by
 unfold za8;rw[List.filter_eq_nil_iff.2 (by simp)]
 rfl
theorem zyF {m j:Nat} (hj:j<m):za8 (zn5 j) 0 m=[(j:Int)]:=by
 have:=zoH (fun _=>false) j m 0 (by omega) (by omega)
 rw[zsl] at this;exact this.symm.trans rfl |>.symm▸this.symm
theorem ztp {S:Nat→Bool}{m:Nat}{y:Int} (h:y∈za8 S 0 m):∃j:Nat,y=(j:Int)∧j<m∧S j=true:=by
 unfold za8 at h;obtain⟨i,hi,rfl⟩:=List.mem_map.1 h;obtain⟨h1,h2⟩:=List.mem_filter.1 hi;exact⟨i,rfl,by have:=List.mem_range'_1.1 h1;omega,h2⟩
theorem zHx {m:Nat}{P:Nat→(Nat→Bool)→Prop} (h:∀k,k<m→∃t,P k t):∃T:Nat→Nat→Bool,∀k,k<m→P k (T k) :=
 ⟨fun k=>open Classical in if hk:k<m then(h k hk).choose else fun _=>false,fun k hk=>by
  simp only[dif_pos hk];exact(h k hk).choose_spec⟩
def ztY (C:Nat→Nat→Bool):List Int→(Nat→Bool)→Nat→Bool
 | [],O=>O
 | f::fs,O=>ztY C fs (orS O (C f.toNat))
theorem zt9 {C:Nat→Nat→Bool}{x:Nat}:∀{xs:List Int}{O:Nat→Bool},ztY C xs O x=true↔O x=true∨∃f∈xs,C f.toNat x=true
 | [],O=>by simp[ztY]
 | f::fs,O=>by
  rw[ztY,zt9];simp only[orS,Bool.or_eq_true,List.mem_cons,or_assoc];constructor
  ·rintro(h|h|⟨g,hg,h⟩)
   ·exact .inl h
   ·exact .inr ⟨f,.inl rfl,h⟩
   ·exact .inr ⟨g,.inr hg,h⟩
  ·rintro(h|⟨g,rfl|hg,h⟩)
   ·exact .inl h
   ·exact .inr (.inl h)
   ·exact .inr (.inr ⟨g,hg,h⟩)
def zxy:List Int→(Nat→Bool)→Nat→Bool
 | [],O=>O
 | f::fs,O=>zxy fs (orS O (zn5 f.toNat))
theorem zxg {x:Nat}:∀{xs:List Int}{O:Nat→Bool},zxy xs O x=true↔O x=true∨∃f∈xs,x=f.toNat
 | [],O=>by simp[zxy]
 | f::fs,O=>by
  rw[zxy,zxg];simp only[orS,zn5,Bool.or_eq_true,List.mem_cons,or_assoc,beq_iff_eq];constructor
  ·rintro(h|h|⟨g,hg,h⟩)
   ·exact .inl h
   ·exact .inr ⟨f,.inl rfl,h⟩
   ·exact .inr ⟨g,.inr hg,h⟩
  ·rintro(h|⟨g,rfl|hg,h⟩)
   ·exact .inl h
   ·exact .inr (.inl h)
   ·exact .inr (.inr ⟨g,hg,h⟩)
section
variable {D:List DM}{R:List PM}
def zAf (R:List PM) (C:Nat→Nat→Bool):Prop:=∀k,k<R.length→∀A:Nat→Bool,zb2 [.cell (.sl 1 (zad (za8 A 0 R.length))),.agg (zaH (gP R k))]=rL (za8 (orS A (C k)) 0 R.length)∧zb1 [.agg (zaH (gP R k)),.cell (.sl 1 (zad (za8 A 0 R.length)))]=rL (za8 (orS A (C k)) 0 R.length)
theorem zwJ (C:Nat→Bool):orS (fun _=>false) C=C:=by funext i;simp[orS]
variable {C:Nat→Nat→Bool} (hN:zAf R C) (h4:R.length≤4)
include hN h4
omit h4 in
theorem zy4 {k:Nat} (hk:k<R.length):zb2 [.cell (.sl 1 []),.agg (zaH (gP R k))]=rL (za8 (C k) 0 R.length):=by
 have:=(hN k hk (fun _=>false)).1
 rw[zsl,zwJ] at this;exact this
omit h4 in
theorem zuH {k:Nat} (hk:k<R.length):zb1 [.agg (zaH (gP R k)),.cell (.sl 1 [])]=rL (za8 (C k) 0 R.length):=by
 have:=(hN k hk (fun _=>false)).2
 rw[zsl,zwJ] at this;exact this
theorem zDr (ds:List (List AC)) (A:Nat→Bool):zhn [.agg [.sl 3 ds,.sl 5 (zak R)],.cell (.sl 1 (zad (za8 A 0 R.length)))]=rL (za8 (stI C R.length A) 0 R.length):=by
 have hl:=zj8 A 0 R.length
 generalize hxs:za8 A 0 R.length=xs at hl
 have hx:∀y∈xs,∃j:Nat,y=(j:Int)∧j<R.length∧A j=true:=fun y hy=>ztp (by rw[hxs];exact hy)
 have key:∀j k:Nat,k+j=xs.length→∀O:Nat→Bool,zdt ds (zak R) (zad (za8 O 0 R.length)) (zad xs) ((xs.length:Nat):Int) (k:Int)=rL (za8 (ztY C (xs.drop k) O) 0 R.length):=by
  intro j;induction j with
  | zero =>
   intro k hk O;rw[List.drop_eq_nil_of_le (by omega)]
   exact zgV (zaa (decide_eq_false (by omega)) rfl)
  | succ j ih =>
   intro k hk O;have hlt:k<xs.length:=by omega
   obtain⟨i,e,hi,_⟩:=hx _ (List.getElem_mem hlt);rw[List.drop_eq_getElem_cons hlt,ztY];refine zgV (zac (decide_eq_true (by omega)) (za9 hlt (zaB (k:=i) e hi (zav (hN i hi O).1 ?_))))
   rw[wrk (by unfold zaI;omega),ih (k+1) (by omega),e,Int.toNat_natCast]
 refine znF ?_
 have:=key xs.length 0 (by omega) A
 rw[hxs] at this;rw[zab];refine this.trans ?_
 rw[List.drop_zero];refine zC7 (zls fun x _ hx'=>?_)
 rw[Bool.eq_iff_iff,zt9,stI_iff];constructor
 ·rintro(h|⟨f,hf,h⟩)
  ·exact .inl h
  ·obtain⟨i,rfl,hi,ha⟩:=hx f hf
   exact .inr ⟨i,hi,ha,by simpa using h⟩
 ·rintro(h|⟨i,hi,ha,h⟩)
  ·exact .inl h
  ·refine .inr ⟨(i:Int),?_,by simpa using h⟩
   rw[←hxs,←List.contains_iff_mem,zrz A hi];exact ha
theorem zzi (hi:PIn D R) (hval:za6 [.agg [.sl 3 (zaf D),.sl 5 (zak R)]]=rB true) {f:Nat} (hf:f<R.length):ze8 [.agg [.sl 3 (zaf D),.sl 5 (zak R)],.cell (.int (f:Int))]=rL (za8 (itI C R.length f R.length) 0 R.length):=by
 have key:∀j k:Nat,k+j=R.length→zdr (zaf D) (zak R) (zad (za8 (itI C R.length f k) 0 R.length)) (k:Int)=rL (za8 (itI C R.length f R.length) 0 R.length):=by
  intro j;induction j with
  | zero =>
   intro k hk;refine zg8 (zaa (decide_eq_false (by rw[zaA];omega)) ?_)
   rw[show k=R.length by omega]
  | succ j ih =>
   intro k hk;refine zg8 (zac (decide_eq_true (by rw[zaA];omega)) (zav (zDr hN h4 (zaf D) _) ?_))
   rw[wrk (by unfold zaI;omega)]
   exact ih (k+1) (by omega)
 refine znD (zan hval (zaa rfl (zan (zms _) (zaa (by rw[decide_eq_true (by omega)];rfl) ?_))))
 have:=key R.length 0 (by omega)
 rw[itI,zyF hf] at this;exact this
omit hN in
theorem zFP (ds:List (List AC)) (rd i:Int) (xs:List Int) (hx:∀y∈xs,∃j:Nat,y=(j:Int)∧j<R.length) (hl:xs.length≤1000):∀j k:Nat,k+j=xs.length→∀(O:Nat→Bool) (r:AV),zb3 ds (zak R) (zad (za8 (zxy (xs.drop k) O) 0 R.length)) rd (zae (i+1))=some r →
  zdp ds (zak R) (zad (za8 O 0 R.length)) rd i (zad xs) (k:Int)=some r:=by
 intro j;induction j with
 | zero =>
  intro k hk O r h;rw[List.drop_eq_nil_of_le (by omega)] at h
  exact zg1 (zaa (decide_eq_false (by rw[zab];omega)) h)
 | succ j ih =>
  intro k hk O r h;have hlt:k<xs.length:=by omega
  obtain⟨i',e,hi'⟩:=hx _ (List.getElem_mem hlt);rw[List.drop_eq_getElem_cons hlt,zxy,e,Int.toNat_natCast] at h;refine zg1 (zac (decide_eq_true (by rw[zab];omega)) (za9 hlt ?_))
  rw[e];refine zav (zFv hi' (by omega) O) ?_
  rw[wrk (by unfold zaI;omega)]
  exact ih (k+1) (by omega) _ r h
theorem zEi (ds:List (List AC)) (rd:Int):∀j i:Nat,i+j=R.length→∀(O:Nat→Bool) (r:AV),zcB ds (zak R) (zad (za8 (gF C i j O) 0 R.length)) (zae (rd+1))=some r→zb3 ds (zak R) (zad (za8 O 0 R.length)) rd (i:Int)=some r:=by
 intro j;induction j with
 | zero =>
  intro i hi O r h;exact zg2 (zaa (decide_eq_false (by rw[zaA];omega)) h)
 | succ j ih =>
  intro i hi O r h;have hlt:i<R.length:=by omega
  have hl:=zj8 O 0 R.length
  have nx:=ih (i+1) (by omega)
  have w:zae ((i:Int)+1)=((i+1:Nat):Int):=wrk (by unfold zaI;omega)
  refine zg2 (zac (decide_eq_true (by rw[zaA];omega)) (zan (zys _ _ (by omega)) ?_))
  rw[zrz O hlt];unfold gF at h;rcases ho:O i with _|_
  ·rw[ho] at h
   refine zaa rfl ?_
   rw[w];exact nx O r h
  ·rw[ho,if_pos rfl] at h
   refine zac rfl (zaB (k:=i) rfl hlt (zav (zuH hN hlt) ?_))
   have hl2:=zj8 (C i) 0 R.length
   refine zFP h4 ds rd (i:Int) (za8 (C i) 0 R.length) (fun y hy=>by obtain⟨k,e,hk,_⟩:=ztp hy;exact⟨k,e,hk⟩) (by omega) (za8 (C i) 0 R.length).length 0 (by omega) O r ?_
   rw[List.drop_zero,w];have e:za8 (zxy (za8 (C i) 0 R.length) O) 0 R.length=za8 (orS O (C i)) 0 R.length:=zls fun x _ hx=>by
    rw[Bool.eq_iff_iff,zxg];simp only[orS,Bool.or_eq_true];constructor
    ·rintro(h|⟨g,hg,h⟩)
     ·exact .inl h
     ·obtain⟨k,rfl,hk,hc⟩:=ztp hg
      rw[Int.toNat_natCast] at h;rw[h];exact .inr hc
    ·rintro(h|h)
     ·exact .inl h
     ·refine .inr ⟨(x:Int),?_,by simp⟩
      rw[←List.contains_iff_mem,zrz (C i) (by omega)]
      exact h
   rw[e];exact nx _ r h
theorem zzq (ds:List (List AC)) {f:Nat} (hf:f<R.length):zhz [.agg [.sl 3 ds,.sl 5 (zak R)],.cell (.int (f:Int))]=rL (za8 (itI C R.length f R.length) 0 R.length):=by
 have key:∀j k:Nat,k+j=R.length→zcB ds (zak R) (zad (za8 (itS C R.length f k) 0 R.length)) (k:Int)=rL (za8 (itS C R.length f R.length) 0 R.length):=by
  intro j;induction j with
  | zero =>
   intro k hk;refine zgn (zaa (decide_eq_false (by rw[zaA];omega)) ?_)
   rw[show k=R.length by omega]
  | succ j ih =>
   intro k hk;refine zgn (zac (decide_eq_true (by rw[zaA];omega)) (zEi hN h4 ds _ R.length 0 (by omega) _ _ ?_))
   rw[wrk (by unfold zaI;omega)]
   exact ih (k+1) (by omega)
 have:=key R.length 0 (by omega)
 rw[itS,zyF hf,zHr hf] at this;exact znB this
end
end
section
open Go Go.RowKit
end
section
open Go Go.RowKit
structure PV (D:List DM) (R:List PM) (C:Nat→Nat→Bool):Prop where
 hi:PIn D R
 vp:VP D R
 nm:zAf R C
 h1:za6 [.agg [.sl 3 (zaf D),.sl 5 (zak R)]]=rB true
 h2:zdg [.agg [.sl 3 (zaf D),.sl 5 (zak R)]]=rB true
theorem PV.r4 {D:List DM}{R:List PM}{C:Nat→Nat→Bool} (h:PV D R C):R.length≤4:=h.vp.cp.rl
section
variable {D:List DM}{R:List PM}{C:Nat→Nat→Bool}
theorem zrC {f:Nat} (h:f<R.length):zcf [.agg [.sl 3 (zaf D),.sl 5 (zak R)],.cell (.int (f:Int))]=rB true:=by
 rw[zms,decide_eq_true (by omega)]
variable (h:PV D R C)
include h
theorem zGN {f:Nat} (hf:f<R.length):zkl [.agg [.sl 3 (zaf D),.sl 5 (zak R)],.cell (.int (f:Int))]=rL (za8 (C f) 0 R.length) :=
 zo8 (zan h.h1 (zaa rfl (zan (zrC hf) (zaa rfl (zaB (k:=f) rfl hf (zav (zy4 h.nm hf) rfl))))))
theorem zFH {f:Nat} (hf:f<R.length):ze8 [.agg [.sl 3 (zaf D),.sl 5 (zak R)],.cell (.int (f:Int))]=rL (za8 (itI C R.length f R.length) 0 R.length) :=
 zzi h.nm h.r4 h.hi h.h1 hf
end
end
section
open Go Go.RowKit
inductive Mn (i:Nat):List AC→Prop
 | here (o n:Int) (kids:List (List AC)) (h:o=9∨o=10) (hn:n=(i:Int)):Mn i [.int o,.int n,.sl 3 kids]
 | kid (o n:Int) (kids:List (List AC)) (k:Nat) (hk:k<kids.length) (h:Mn i (kids.getD k [])):Mn i [.int o,.int n,.sl 3 kids]
theorem mn_iff {i:Nat}{o n:Int}{kids:List (List AC)}:Mn i [.int o,.int n,.sl 3 kids]↔((o=9∨o=10)∧n=(i:Int))∨∃k,k<kids.length∧Mn i (kids.getD k []):=by
 constructor
 ·intro h
  generalize hx:[AC.int o,AC.int n,AC.sl 3 kids]=x at h
  cases h with
  | here o' n' kids' h hn =>
   simp only[List.cons.injEq,AC.int.injEq,AC.sl.injEq,true_and,and_true] at hx;obtain⟨rfl,rfl,rfl⟩:=hx;exact .inl ⟨h,hn⟩
  | kid o' n' kids' k hk h =>
   simp only[List.cons.injEq,AC.int.injEq,AC.sl.injEq,true_and,and_true] at hx;obtain⟨rfl,rfl,rfl⟩:=hx;exact .inr ⟨k,hk,h⟩
 ·rintro(⟨h,hn⟩|⟨k,hk,h⟩)
  ·exact .here _ _ _ h hn
  ·exact .kid _ _ _ k hk h
theorem zuv {a b:Int}{s:Nat}{x:List AC} (hx:¬∃o n kids,x=[.int o,.int n,.sl 3 kids]):shr a b s x=x:=by
 unfold shr;split
 ·exact absurd ⟨_,_,_,rfl⟩ hx
 ·rfl
theorem zAh {i:Nat} (a b:Int):∀(s:Nat) (x:List AC),Mn i (shr a b s x)→Mn i x:=by
 intro s;induction s with
 | zero=>intro x h;exact h
 | succ s ih =>
  intro x h;by_cases hx:∃o n kids,x=[.int o,.int n,.sl 3 kids]
  ·obtain⟨o,n,kids,rfl⟩:=hx
   rw[zeh] at h;rcases mn_iff.1 h with ⟨ho,hn⟩|⟨k,hk,hm⟩
   ·rw[show shF a b o n=n by unfold shF;rw[if_neg (fun h=>by omega)]] at hn
    exact .here _ _ _ ho hn
   ·rw[List.length_map] at hk
    rw[zfF hk] at hm;exact .kid _ _ _ k hk (ih _ hm)
  ·rw[zuv hx] at h;exact h
theorem zxI {m:Nat} (hm:m≤1000):∀(s:Nat) (o n:Int) (kids:List (List AC)),Fit .expr [.int o,.int n,.sl 3 kids]→Nm m [.int o,.int n,.sl 3 kids]→cS [.int o,.int n,.sl 3 kids]<s→s≤31 →
  ∃C:Nat→Bool,(∀A:Nat→Bool,zb2 [.cell (.sl 1 (zad (za8 A 0 m))),.agg [.int o,.int n,.sl 3 kids]]=rL (za8 (orS A C) 0 m)∧zb1 [.agg [.int o,.int n,.sl 3 kids],.cell (.sl 1 (zad (za8 A 0 m)))]=rL (za8 (orS A C) 0 m))∧∀i,C i=true↔Mn i [.int o,.int n,.sl 3 kids]:=by
 intro s;induction s with
 | zero=>intro o n kids _ _ h;omega
 | succ s ihs =>
  intro o n kids hf hn hs hs31;obtain⟨_,_,hml,hk⟩:=zd3 hf;have hn':(o=9∨o=10→0≤n∧n<m)∧∀k,k<kids.length→Nm m (kids.getD k []):=by
   generalize hx:[AC.int o,AC.int n,AC.sl 3 kids]=x at hn
   cases hn with
   | node o' n' kids' h1 h2 =>
    simp only[List.cons.injEq,AC.int.injEq,AC.sl.injEq,true_and,and_true] at hx;obtain⟨rfl,rfl,rfl⟩:=hx;exact⟨h1,h2⟩
  have hcs:=zbv o n kids
  have kidC:∀k,k<kids.length→∃C:Nat→Bool,(∀A:Nat→Bool,zb2 [.cell (.sl 1 (zad (za8 A 0 m))),.agg (kids.getD k [])]=rL (za8 (orS A C) 0 m)∧zb1 [.agg (kids.getD k []),.cell (.sl 1 (zad (za8 A 0 m)))]=rL (za8 (orS A C) 0 m))∧∀i,C i=true↔Mn i (kids.getD k []):=fun k hlt=>by
   obtain⟨o',n',ks,e,hf'⟩:=zcE hk hlt;have h1:=zaO hlt (o:=o) (n:=n)
   have h2:=hn'.2 k hlt
   rw[e] at h1 h2 ⊢;exact ihs o' n' ks hf' h2 (by omega) (by omega)
  have rest:∀j k:Nat,k+j=kids.length→∃C:Nat→Bool,(∀A:Nat→Bool,zcv (zad (za8 A 0 m)) kids ((kids.length:Nat):Int) (k:Int)=rL (za8 (orS A C) 0 m)∧zcm (zad (za8 A 0 m)) o n kids (k:Int)=rL (za8 (orS A C) 0 m))∧∀i,C i=true↔∃p,k≤p∧p<kids.length∧Mn i (kids.getD p []):=by
   intro j;induction j with
   | zero =>
    intro k hkj;refine⟨fun _=>false,fun A=>?_,fun i=>⟨(fun h=>by cases h),(fun⟨p,h1,h2,_⟩=>by omega)⟩⟩
    rw[show orS A (fun _=>false)=A by funext i;simp[orS]]
    exact⟨zix (zaa (decide_eq_false (by omega)) rfl),zh8 (zaa (decide_eq_false (by omega)) rfl)⟩
   | succ j ih =>
    intro k hkj;have hlt:k<kids.length:=by omega
    obtain⟨C1,h1,m1⟩:=kidC k hlt;obtain⟨C2,h2,m2⟩:=ih (k+1) (by omega)
    obtain⟨o',n',ks,e,_⟩:=zcE hk hlt;refine⟨orS C1 C2,fun A=>?_,fun i=>?_⟩
    ·rw[show orS A (orS C1 C2)=orS (orS A C1) C2 by funext i;simp[orS,Bool.or_assoc]]
     have g1:=h1 A
     have g2:=h2 (orS A C1)
     rw[e] at g1;refine⟨zix (zac (decide_eq_true (by omega)) (zbu hlt e (zav g1.1 ?_))),zh8 (zac (decide_eq_true (by omega)) (zbu hlt e (zav g1.2 ?_)))⟩
     ·rw[wrk (by omega)];exact g2.1
     ·rw[wrk (by omega)];exact g2.2
    ·simp only[orS,Bool.or_eq_true,m1,m2]
     constructor
     ·rintro(h|⟨p,hp,hp2,h⟩)
      ·exact⟨k,Nat.le_refl _,hlt,h⟩
      ·exact⟨p,by omega,hp2,h⟩
     ·rintro⟨p,hp,hp2,h⟩
      by_cases hkp:p=k
      ·subst hkp;exact .inl h
      ·exact .inr ⟨p,by omega,hp2,h⟩
  obtain⟨C,hC,hM⟩:=rest kids.length 0 (by omega)
  have hM':∀i,C i=true↔∃p,p<kids.length∧Mn i (kids.getD p []):=fun i=>(hM i).trans ⟨fun⟨p,_,h1,h2⟩=>⟨p,h1,h2⟩,fun⟨p,h1,h2⟩=>⟨p,Nat.zero_le _,h1,h2⟩⟩
  by_cases h:o=9∨o=10
  ·have hr:=hn'.1 h
   obtain⟨j,rfl⟩:∃j:Nat,n=(j:Int):=⟨n.toNat,by omega⟩
   refine⟨orS (zn5 j) C,fun A=>?_,fun i=>?_⟩
   ·rw[show orS A (orS (zn5 j) C)=orS (orS A (zn5 j)) C by funext i;simp[orS,Bool.or_assoc]]
    have g:=hC (orS A (zn5 j))
    have gi:=zHn (show j<m by omega) hm A
    have gs:=zFv (show j<m by omega) hm A
    rcases h with rfl|rfl
    ·exact⟨zgp (zac rfl (zav gi g.1)),zgU (zac rfl (zav gs g.2))⟩
    ·exact⟨zgp (zaa rfl (zac rfl (zav gi g.1))),zgU (zaa rfl (zac rfl (zav gs g.2)))⟩
   ·rw[mn_iff]
    simp only[orS,zn5,Bool.or_eq_true,beq_iff_eq,hM'];constructor
    ·rintro(h'|h')
     ·exact .inl ⟨h,by omega⟩
     ·exact .inr h'
    ·rintro(⟨_,h'⟩|h')
     ·exact .inl (by omega)
     ·exact .inr h'
  ·refine⟨C,fun A=>?_,fun i=>?_⟩
   ·have g:=hC A
    have h9:o≠9:=fun h'=>h (.inl h')
    have h10:o≠10:=fun h'=>h (.inr h')
    exact⟨zgp (zaa (eqf h9) (zaa (eqf h10) g.1)),zgU (zaa (eqf h9) (zaa (eqf h10) g.2))⟩
   ·rw[mn_iff,hM']
    exact⟨fun h'=>.inr h',fun h'=>h'.resolve_left fun x=>h x.1⟩
section
variable {D:List DM}{R:List PM}
def zGr (R:List PM) (C:Nat→Nat→Bool):Prop:=zAf R C∧∀k,k<R.length→∀i,C k i=true↔Mn i (zaH (gP R k))
theorem zy2 (h:TP D R):∃C,zGr R C:=by
 have hR:=h.cp.rl
 obtain⟨C,hC⟩:=zHx (m:=R.length) (P:=fun k C=>(∀A:Nat→Bool,zb2 [.cell (.sl 1 (zad (za8 A 0 R.length))),.agg (zaH (gP R k))]=rL (za8 (orS A C) 0 R.length)∧zb1 [.agg (zaH (gP R k)),.cell (.sl 1 (zad (za8 A 0 R.length)))]=rL (za8 (orS A C) 0 R.length))∧∀i,C i=true↔Mn i (zaH (gP R k))) fun k hk=>by
  obtain⟨h1,h2⟩:=h.b k hk;exact zxI (by omega) 30 _ _ _ (h.cp.rok _ (zf2 hk)).b (HT.nm h.cp h2) (by show cS (zaH (gP R k))<30;omega) (by omega)
 exact⟨C,fun k hk=>(hC k hk).1,fun k hk=>(hC k hk).2⟩
end
end
end Go.Proofs.YtkgbadeobdbinaaGreat
