/- Generic texts and models for the proofs of this seat: part 25. -/
import Derived.Test.YtcpcagdialnbeaaY24
set_option linter.unusedVariables false
set_option linter.unusedSimpArgs false
namespace Go.Proofs.Ytcpcagdialnbeaa
section
open Go
structure DV (D:List DM):Prop where
 len:D.length≤4
 cs:∀k,k<D.length→(gD D k).cs.length≤3
 c:∀k,k<D.length→∀c∈(gD D k).cs,c.length≤3∧∀x∈c,0≤x∧x≤D.length
 arr:∀k,k<D.length→(gD D k).cs.length=0→(0≤(gD D k).f∧(gD D k).f≤D.length)∧(0≤(gD D k).t∧(gD D k).t≤D.length)
theorem isTy_iff {D:List DM}{t:Int}:zdk D t=true↔0≤t∧t≤D.length:=by simp[zdk]
theorem zAQ {D:List DM} (h:zeR D=true):DV D:=by
 simp only[zeR,Bool.and_eq_true,decide_eq_true_eq,List.all_eq_true,List.mem_range] at h;obtain⟨h1,h2⟩:=h;refine⟨h1,fun k hk=>?_,fun k hk c hc=>?_,fun k hk h0=>?_⟩
 ·have:=h2 k hk
  unfold zjV at this;split at this
  ·simp only[Bool.and_eq_true,decide_eq_true_eq] at this;exact this.1
  ·omega
 ·have:=h2 k hk
  unfold zjV at this;have hpos:0<(gD D k).cs.length:=List.length_pos_of_mem hc
  rw[if_pos hpos] at this;simp only[Bool.and_eq_true,List.all_eq_true,zi9,decide_eq_true_eq] at this;obtain⟨g1,g2⟩:=this.2.2.2 c hc;exact⟨g1,fun x hx=>isTy_iff.1 (g2 x hx)⟩
 ·have:=h2 k hk
  unfold zjV at this;rw[if_neg (by omega)] at this
  simp only[Bool.and_eq_true] at this;exact⟨isTy_iff.1 this.1,isTy_iff.1 this.2.1⟩
def zby:List DM→Nat
 | []=>0
 | d::ds=>d.cs.length+zby ds
theorem zs4 (a b:List DM):zby (a++b)=zby a+zby b:=by
 induction a with
 | nil=>simp[zby]
 | cons x a ih=>simp only[List.cons_append,zby,ih];omega
theorem zjd {D:List DM}{k:Nat} (h:k<D.length):zby (D.take (k+1))=zby (D.take k)+(gD D k).cs.length:=by
 rw[List.take_succ_eq_append_getElem h,zs4,zkx h];simp[zby]
theorem zhp {D:List DM} (h:∀k,k<D.length→(gD D k).cs.length≤3):∀k,k≤D.length→zby (D.take k)≤3*k
 | 0,_=>by simp[zby]
 | k+1,hk=>by
  rw[zjd (by omega)]
  have:=zhp h k (by omega)
  have:=h k (by omega)
  omega
theorem zyZ {D:List DM}{k j:Nat} (h:j<k) (hk:k≤D.length):gD (D.take k) j=gD D j:=by
 rw[←zkx (D:=D.take k) (by rw[List.length_take];omega),←zkx (D:=D) (by omega),List.getElem_take]
theorem zjD {D:List DM} (hv:DV D) {k:Nat} (hk:k≤D.length):zez [.cell (.sl 3 (zah D)),.cell (.int (k:Int))]=rI (zby (D.take k)):=by
 have h4:=hv.len
 have key:∀m j:Nat,j+m=k→zek (zah D) (k:Int) ((zby (D.take j):Nat):Int) (j:Int)=rI (zby (D.take k)):=by
  intro m;induction m with
  | zero=>intro j hj;exact zg1 (zaa (decide_eq_false (by omega)) (by rw[show j=k by omega]))
  | succ m ih =>
   intro j hj;have hlt:j<D.length:=by omega
   have h1:=zhp hv.cs j (by omega)
   have h2:=hv.cs j hlt
   refine zg1 (zad (decide_eq_true (by omega)) (zbA rfl hlt ?_))
   rw[zaX,wr (by omega) (by omega),wrk (by unfold za9;omega)]
   have:=ih (j+1) (by omega)
   rw[zjd hlt] at this
   change @Eq (Option AV) _ _
   simpa using this
 exact zm2 (key k 0 (by omega))
theorem zts {D:List DM} (h4:D.length≤4) (h3:∀k,k<D.length→(gD D k).cs.length≤3):zhP [.cell (.sl 3 (zah D))]=rI (zby D):=by
 have key:∀m j:Nat,j+m=D.length→zdR ((zby (D.take j):Nat):Int) (zah D) (((zah D).length:Nat):Int) (j:Int)=rI (zby D):=by
  intro m;induction m with
  | zero=>intro j hj;exact zgw (zaa (decide_eq_false (by rw[za8];omega)) (by rw[List.take_of_length_le (by omega)]))
  | succ m ih =>
   intro j hj;have hlt:j<D.length:=by omega
   have h1:=zhp h3 j (by omega)
   have h2:=h3 j hlt
   refine zgw (zad (decide_eq_true (by rw[za8];omega)) (zbA rfl hlt ?_))
   rw[zaX,wr (by omega) (by omega),wrk (by unfold za9;omega)]
   have:=ih (j+1) (by omega)
   rw[zjd hlt] at this
   change @Eq (Option AV) _ _
   simpa using this
 exact zmA (key D.length 0 (by omega))
theorem zus {D:List DM} (hv:DV D) {k:Nat} (hk:k≤D.length):ziI [.cell (.sl 3 (zah D)),.cell (.int ((k:Int)+1))]=rI (zby (D.take k)):=by
 have h4:=hv.len
 have w:zaf (((k:Int)+1)-1)=(k:Int):=by rw[wr (by omega) (by omega)];omega
 refine zm5 ?_
 rw[w];refine zuS (by omega) (by omega) (by rw[za8];omega) ?_
 rw[show(((zah D).drop (0:Int).toNat).take ((k:Int).toNat-(0:Int).toNat))=zah (D.take k) by simp[zpR]]
 exact zal (zts (by rw[List.length_take];omega) (fun j hj=>by rw[List.length_take] at hj;rw[zyZ (by omega) hk];exact hv.cs j (by omega))) rfl
def znq (c:Int):List DM→Nat→Nat→Int
 | [],_,_=>-1
 | d::ds,first,k=>if(first:Int)≤c∧c<(first:Int)+d.cs.length then((k+1:Nat):Int) else znq c ds (first+d.cs.length) (k+1)
def zhB (D:List DM) (c:Int):Int:=znq c D 0 0
theorem znO {D:List DM} (hv:DV D) (c:Int):zfH [.cell (.sl 3 (zah D)),.cell (.int c)]=rI (zhB D c):=by
 have h4:=hv.len
 have key:∀m k:Nat,k+m=D.length→zb5 c ((zby (D.take k):Nat):Int) (zah D) (((zah D).length:Nat):Int) (k:Int)=rI (znq c (D.drop k) (zby (D.take k)) k):=by
  intro m;induction m with
  | zero=>intro k hk;exact zgm (zaa (decide_eq_false (by rw[za8];omega)) (by rw[List.drop_eq_nil_of_le (by omega)];rfl))
  | succ m ih =>
   intro k hk;have hlt:k<D.length:=by omega
   have h1:=zhp hv.cs k (by omega)
   have h2:=hv.cs k hlt
   have nx:=ih (k+1) (by omega)
   rw[zjd hlt] at nx;rw[List.drop_eq_getElem_cons hlt,zkx hlt];unfold znq;refine zgm (zad (decide_eq_true (by rw[za8];omega)) (zbA rfl hlt ?_))
   rw[zaX,wr (n:=((zby (D.take k):Nat):Int)+((gD D k).cs.length:Nat)) (by omega) (by omega),wrk (by unfold za9;omega)]
   have nx':zb5 c (((zby (D.take k):Nat):Int)+(((gD D k).cs.length:Nat):Int)) (zah D) (((zah D).length:Nat):Int) ((k+1:Nat):Int)=rI (znq c (D.drop (k+1)) (zby (D.take k)+(gD D k).cs.length) (k+1)):=by simpa using nx
   by_cases g1:((zby (D.take k):Nat):Int)≤c
   ·refine zad (decide_eq_true g1) ?_
    by_cases g2:c<((zby (D.take k):Nat):Int)+((gD D k).cs.length:Nat)
    ·rw[if_pos ⟨g1,g2⟩]
     exact zad (decide_eq_true g2) rfl
    ·rw[if_neg (fun h=>g2 h.2)]
     exact zaa (decide_eq_false g2) nx'
   ·rw[if_neg (fun h=>g1 h.1)]
    exact zaa (decide_eq_false g1) nx'
 exact zml (key D.length 0 (by omega))
theorem znv {D:List DM} (hv:DV D) (c:Int):zfr [.cell (.sl 3 (zah D)),.cell (.int c)]=rI (zhB D c):=by
 have h4:=hv.len
 have key:∀m k:Nat,k+m=D.length→zeS (zah D) c (k:Int)=rI (znq c (D.drop k) (zby (D.take k)) k):=by
  intro m;induction m with
  | zero=>intro k hk;exact zie (zaa (decide_eq_false (by rw[za8];omega)) (by rw[List.drop_eq_nil_of_le (by omega)];rfl))
  | succ m ih =>
   intro k hk;have hlt:k<D.length:=by omega
   have h1:=zhp hv.cs k (by omega)
   have h2:=hv.cs k hlt
   have nx:=ih (k+1) (by omega)
   rw[zjd hlt] at nx;rw[List.drop_eq_getElem_cons hlt,zkx hlt];unfold znq;refine zie (zad (decide_eq_true (by rw[za8];omega)) (zal (zjD hv (by omega)) (zbA rfl hlt ?_)))
   rw[zaX,wr (n:=((zby (D.take k):Nat):Int)+((gD D k).cs.length:Nat)) (by omega) (by omega),wr (n:=((zby (D.take k):Nat):Int)+((gD D k).cs.length:Nat)-1) (by omega) (by omega),wrk (by unfold za9;omega)]
   refine zat (zeg _ _ _) ?_
   by_cases g1:((zby (D.take k):Nat):Int)≤c
   ·rw[decide_eq_true g1]
    by_cases g2:c<((zby (D.take k):Nat):Int)+((gD D k).cs.length:Nat)
    ·rw[if_pos ⟨g1,g2⟩,decide_eq_true (show c≤((zby (D.take k):Nat):Int)+((gD D k).cs.length:Nat)-1 by omega)]
     exact zad rfl rfl
    ·rw[if_neg (fun h=>g2 h.2),decide_eq_false (show ¬c≤((zby (D.take k):Nat):Int)+((gD D k).cs.length:Nat)-1 by omega)]
     exact zaa rfl nx
   ·rw[if_neg (fun h=>g1 h.1),decide_eq_false g1]
    exact zaa rfl nx
 exact zn7 (key D.length 0 (by omega))
theorem zru (c:Int):∀(ds:List DM) (first k:Nat),znq c ds first k=-1∨∃j,j<ds.length∧znq c ds first k=((k+j+1:Nat):Int)∧((first+zby (ds.take j):Nat):Int)≤c∧c<((first+zby (ds.take j):Nat):Int)+(gD ds j).cs.length
 | [],first,k=>.inl rfl
 | d::ds,first,k=>by
  unfold znq;split
  ·rename_i h
   exact .inr ⟨0,by simp,by simp,by simpa [zby] using h.1,by simpa [zby,gD] using h.2⟩
  ·rcases zru c ds (first+d.cs.length) (k+1) with h|⟨j,h1,h2,h3,h4⟩
   ·exact .inl h
   ·refine .inr ⟨j+1,by simpa using h1,by rw[h2];congr 1;omega,?_,?_⟩
    ·simp only[List.take_succ_cons,zby];omega
    ·simp only[List.take_succ_cons,zby]
     have:gD (d::ds) (j+1)=gD ds j:=by simp[gD]
     rw[this];omega
theorem zto:∀(ds:List DM) (first k j i:Nat),j<ds.length→i<(gD ds j).cs.length→znq ((first+zby (ds.take j)+i:Nat):Int) ds first k=((k+j+1:Nat):Int)
 | d::ds,first,k,0,i,_,hi=>by
  have hi':i<d.cs.length:=by simpa [gD] using hi
  unfold znq;rw[if_pos (by simp[zby];omega)]
  try simp
 | d::ds,first,k,j+1,i,hj,hi=>by
  have hi':i<(gD ds j).cs.length:=by simpa [gD] using hi
  unfold znq;rw[if_neg (by simp only[List.take_succ_cons,zby];omega)]
  have:=zto ds (first+d.cs.length) (k+1) j i (by simpa using hj) hi'
  rw[show first+zby ((d::ds).take (j+1))+i=first+d.cs.length+zby (ds.take j)+i by simp only[List.take_succ_cons,zby];omega]
  exact this.trans (congrArg (fun n:Nat=>((n:Nat):Int)) (by omega))
 | [],_,_,_,_,h,_=>by simp at h
def fld (D:List DM) (c:Int):List Int:=(gD D ((zhB D c).toNat-1)).cs.getD (c-((zby (D.take ((zhB D c).toNat-1)):Nat):Int)).toNat []
theorem zf5 {D:List DM} (c:Int):zhB D c=-1∨∃j i:Nat,j<D.length∧zhB D c=((j:Nat):Int)+1∧c=((zby (D.take j)+i:Nat):Int)∧i<(gD D j).cs.length∧fld D c=(gD D j).cs.getD i []:=by
 rcases zru c D 0 0 with h|⟨j,h1,h2,h3,h4⟩
 ·exact .inl h
 ·have e:zhB D c=((j:Nat):Int)+1:=by unfold zhB;rw[h2];omega
  refine .inr ⟨j,(c-((zby (D.take j):Nat):Int)).toNat,h1,e,by omega,by omega,?_⟩
  unfold fld;rw[e,show(((j:Nat):Int)+1).toNat-1=j by omega]
theorem zsW {D:List DM}{j i:Nat} (hj:j<D.length) (hi:i<(gD D j).cs.length):zhB D ((zby (D.take j)+i:Nat):Int)=((j:Nat):Int)+1∧fld D ((zby (D.take j)+i:Nat):Int)=(gD D j).cs.getD i []:=by
 have h:=zto D 0 0 j i hj hi
 rw[Nat.zero_add] at h;have e:zhB D ((zby (D.take j)+i:Nat):Int)=((j:Nat):Int)+1:=by unfold zhB;rw[h];omega
 refine⟨e,?_⟩
 unfold fld;rw[e,show(((j:Nat):Int)+1).toNat-1=j by omega,show(((zby (D.take j)+i:Nat):Int)-((zby (D.take j):Nat):Int)).toNat=i by omega]
theorem zqR {D:List DM} (hv:DV D) {c:Int} (h:1≤zhB D c):zfZ [.cell (.sl 3 (zah D)),.cell (.int c)]=rL (fld D c):=by
 have h4:=hv.len
 rcases zf5 (D:=D) c with h0|⟨j,i,hj,he,hc,hi,hf⟩
 ·omega
 have h1:=zhp hv.cs j (by omega)
 have h2:=hv.cs j hj
 refine zlb (zal (znO hv c) ?_)
 rw[he];refine zbA (k:=j) (by rw[wr (by omega) (by omega)];omega) hj (zal (zus hv (by omega)) (zko (k:=i) (by rw[hc,wr (by omega) (by omega)];omega) hi ?_))
 rw[hf]
theorem ziB {D:List DM} (hv:DV D) (c:Int):zaE [.cell (.sl 3 (zah D)),.cell (.int c)]=rL (if zhB D c<1 then[] else fld D c):=by
 have h4:=hv.len
 refine zmM (zal (znv hv c) ?_)
 rcases zf5 (D:=D) c with h0|⟨j,i,hj,he,hc,hi,hf⟩
 ·rw[h0]
  exact zad rfl rfl
 have h1:=zhp hv.cs j (by omega)
 have h2:=hv.cs j hj
 rw[he,if_neg (by omega)]
 refine zaa (decide_eq_false (by omega)) ?_
 have w:zaf (((j:Nat):Int)+1-1)=j:=by rw[wr (by omega) (by omega)];omega
 rw[w];refine zbA rfl hj (zal (zjD hv (by omega)) (zko (k:=i) (by rw[hc,wr (by omega) (by omega)];omega) hi ?_))
 rw[hf]
theorem zpO {D:List DM} (hl:D.length≤1000) (t:Int):zkF [.cell (.sl 3 (zah D)),.cell (.int t)]=rB (zur D t):=by
 refine zpf ?_
 unfold zur;by_cases h:0<t
 rotate_left
 ·rw[decide_eq_false h]
  exact zaa rfl rfl
 rw[decide_eq_true h];refine zad rfl (zat (zjc D t) ?_)
 rcases ht:zdk D t with _|_
 ·exact zaa rfl rfl
 have:=isTy_iff.1 ht
 refine zad rfl (zbA (k:=t.toNat-1) (by rw[wr (by omega) (by omega)];omega) (by omega) ?_)
 rw[zaX];by_cases hc:0<(gD D (t.toNat-1)).cs.length
 ·rw[decide_eq_true hc,decide_eq_true (by omega)];rfl
 ·rw[decide_eq_false hc,decide_eq_false (by omega)];rfl
theorem zvW {D:List DM} (hl:D.length≤1000) (t:Int):zjs [.cell (.sl 3 (zah D)),.cell (.int t)]=rB (zlu D t):=by
 refine zoy ?_
 unfold zlu;by_cases h:0<t
 rotate_left
 ·rw[decide_eq_false h]
  exact zaa rfl rfl
 rw[decide_eq_true h];refine zad rfl (zat (zjc D t) ?_)
 rcases ht:zdk D t with _|_
 ·exact zaa rfl rfl
 have:=isTy_iff.1 ht
 refine zad rfl (zbA (k:=t.toNat-1) (by rw[wr (by omega) (by omega)];omega) (by omega) ?_)
 rw[zaX];by_cases hc:(gD D (t.toNat-1)).cs.length=0
 ·rw[zr hc,hc];rfl
 ·rw[nz hc,show((gD D (t.toNat-1)).cs.length==0)=false by simpa using hc];rfl
theorem zdH {D:List DM} (hl:D.length≤1000) (t:Int):zea [.cell (.sl 3 (zah D)),.cell (.int t)]=rB (zlu D t):=by
 refine zoH (zat (zeg _ _ _) ?_)
 rw[za8];unfold zlu;by_cases h:0<t
 rotate_left
 ·rw[decide_eq_false h,decide_eq_false (show ¬(1:Int)≤t by omega)]
  exact zaa rfl rfl
 rw[decide_eq_true h,decide_eq_true (show(1:Int)≤t by omega)]
 rcases ht:zdk D t with _|_
 ·have:¬(t≤D.length):=fun hle=>by
   have:=isTy_iff.2 ⟨show 0≤t by omega,hle⟩
   rw[ht] at this;cases this
  rw[decide_eq_false this];exact zaa rfl rfl
 have:=isTy_iff.1 ht
 rw[decide_eq_true this.2];refine zad rfl (zbA (k:=t.toNat-1) (by rw[wr (by omega) (by omega)];omega) (by omega) ?_)
 rw[zaX];by_cases hc:(gD D (t.toNat-1)).cs.length=0
 ·rw[zr hc,hc];rfl
 ·rw[nz hc,show((gD D (t.toNat-1)).cs.length==0)=false by simpa using hc];rfl
def tv (V:List Int) (v:Int):Int:=if 0≤v∧v<V.length then V.getD v.toNat 0 else -1
theorem znX (G M:List Int) (hG:G.length≤68719476736) (hM:M.length≤68719476736) {v:Int} (hv:inI v):zhU [.agg [.sl 1 (zab G),.sl 1 (zab M)],.cell (.int v)]=rI (tv (G++M) v):=by
 refine zl8 ?_
 rw[zac,zac];obtain⟨v1,v2⟩:=hv;unfold tv;rw[List.length_append];by_cases h0:v<0
 ·rw[if_neg (by omega)]
  exact zad (decide_eq_true h0) rfl
 refine zaa (decide_eq_false h0) ?_
 by_cases h1:v<G.length
 ·rw[if_pos (by omega)]
  refine zad (decide_eq_true h1) (ziO (k:=v.toNat) (by omega) (by omega) ?_)
  change @Eq (Option AV) _ _
  simp[List.getD,List.getElem?_append_left (show v.toNat<G.length by omega)]
 refine zaa (decide_eq_false h1) ?_
 have w:zaf (v-G.length)=v-G.length:=wr (by omega) (by omega)
 rw[w];by_cases h2:v-G.length<M.length
 ·rw[if_pos (by omega)]
  refine zad (decide_eq_true h2) (ziO (k:=v.toNat-G.length) (by omega) (by omega) ?_)
  change @Eq (Option AV) _ _
  simp[List.getD,List.getElem?_append_right (show G.length≤v.toNat by omega)]
 ·rw[if_neg (by omega)]
  exact zaa (decide_eq_false h2) rfl
theorem zmi {xs:List Int}{k:Nat} (h:k<xs.length):zab (xs.take k)++[[.int xs[k]]]=zab (xs.take (k+1)):=by
 show zab (xs.take k)++zab [xs[k]]=_
 rw[zhm,←List.take_succ_eq_append_getElem h]
theorem zuc (xs:List Int) (hx:xs.length≤68719476736):ziH [.cell (.sl 1 (zab xs))]=rL xs:=by
 have key:∀m k:Nat,k+m=xs.length→zem (zab (xs.take k)) (zab xs) (((zab xs).length:Nat):Int) (k:Int)=rL xs:=by
  intro m;induction m with
  | zero=>intro k hk;exact zgW (zaa (decide_eq_false (by rw[zac];omega)) (by rw[List.take_of_length_le (by omega)]))
  | succ m ih =>
   intro k hk;have hlt:k<xs.length:=by omega
   refine zgW (zad (decide_eq_true (by rw[zac];omega)) (zbo hlt (zcL (by rw[zac,List.length_take];simp;omega) ?_)))
   rw[zmi hlt,wrk (by unfold za9;omega)]
   exact ih (k+1) (by omega)
 exact zmS (key xs.length 0 (by omega))
theorem zpp (xs:List Int) (hx:xs.length≤68719476736):ziS [.cell (.sl 1 (zab xs))]=rL xs :=
 zno (zcL (by rw[zac];simpa using hx) (by rw[List.nil_append]))
theorem zkH (xs ys:List Int) (hx:xs.length+ys.length≤68719476736):zbv [.cell (.sl 1 (zab xs)),.cell (.sl 1 (zab ys))]=rL (xs++ys) :=
 zpC (zaO (zpp xs (by omega)) (zcL (by rw[zac,zac];exact hx) (by rw[zhm])))
theorem zqE (G M xs:List Int) (hM:M.length+xs.length≤68719476736):zhr [.agg [.sl 1 (zab G),.sl 1 (zab M)],.cell (.sl 1 (zab xs))]=some (.v (.agg [.sl 1 (zab G),.sl 1 (zab (M++xs))])):=by
 have key:∀m k:Nat,k+m=xs.length→zhj (zab G) (zab M) [] [] (zab (M++xs.take k)) (zab xs) (((zab xs).length:Nat):Int) (k:Int)=some (.v (.agg [.sl 1 (zab G),.sl 1 (zab (M++xs))])):=by
  intro m;induction m with
  | zero=>intro k hk;exact zjT (zaa (decide_eq_false (by rw[zac];omega)) (by rw[List.take_of_length_le (by omega)]))
  | succ m ih =>
   intro k hk;have hlt:k<xs.length:=by omega
   refine zjT (zad (decide_eq_true (by rw[zac];omega)) (zbo hlt (zcL (by rw[zac,List.length_append,List.length_take];simp;omega) ?_)))
   rw[←zhm,List.append_assoc,zmi hlt,zhm,wrk (by unfold za9;omega)]
   exact ih (k+1) (by omega)
 refine zsc (zaO (zuc M (by omega)) ?_)
 have:=key xs.length 0 (by omega)
 rw[List.take_zero,List.append_nil] at this;exact this
theorem zih (xs ys:List Int) (hx:xs.length≤za9):zbc [.cell (.sl 1 (zab xs)),.cell (.sl 1 (zab ys))]=rB (decide (xs=ys)):=by
 refine znb ?_
 rw[zac,zac];by_cases hl:xs.length=ys.length
 rotate_left
 ·rw[decide_eq_false (fun h=>hl (by rw[h]))]
  exact zad (net (by omega)) rfl
 refine zaa (nef (by omega)) ?_
 have key:∀m k:Nat,k+m=xs.length→zeh (zab xs) (zab ys) ((xs.length:Nat):Int) (k:Int)=rB (decide (xs.drop k=ys.drop k)):=by
  intro m;induction m with
  | zero =>
   intro k hk;rw[List.drop_eq_nil_of_le (show xs.length≤k by omega),List.drop_eq_nil_of_le (show ys.length≤k by omega)]
   exact zg2 (zaa (decide_eq_false (by omega)) rfl)
  | succ m ih =>
   intro k hk;have h1:k<xs.length:=by omega
   have h2:k<ys.length:=by omega
   rw[List.drop_eq_getElem_cons h1,List.drop_eq_getElem_cons h2];refine zg2 (zad (decide_eq_true (by omega)) (zbo h1 (zbo h2 ?_)))
   by_cases he:xs[k]=ys[k]
   ·refine zaa (nef he) ?_
    rw[wrk (by omega),ih (k+1) (by omega)]
    change @Eq (Option AV) _ _
    simp only[List.cons.injEq,he,true_and]
   ·refine zad (net he) ?_
    rw[decide_eq_false (fun h=>he (List.cons.inj h).1)]
 exact key xs.length 0 (by omega)
theorem zcu (b:Bool) (t:Int):zaq [.cell (.bool b),.cell (.int t)]=rI (if b then t else -1):=by
 cases b
 ·exact zi6 (zaa rfl rfl)
 ·exact zi6 (zad rfl rfl)
end
section
open Go
structure PM where
 ps:List Int
 r:Int
 o:Int
 n:Int
 kids:List (List AC)
 deriving Inhabited
def pmC (x:PM):List AC:=[.sl 1 (zab x.ps),.int x.r,.int x.o,.int x.n,.sl 3 x.kids]
def zaC (R:List PM):List (List AC):=R.map pmC
structure POk (x:PM):Prop where
 ps:zde x.ps
 r:inI x.r
 b:Fit .expr [.int x.o,.int x.n,.sl 3 x.kids]
theorem zuR:∀{rs:List (List AC)},(∀d∈rs,Fit .func d)→∃R,rs=zaC R∧∀d∈R,POk d
 | [],_=>⟨[],rfl,fun c h=>by cases h⟩
 | d::ds,h=>by
  obtain⟨R,rfl,hR⟩:=zuR fun x hx=>h x (List.mem_cons_of_mem _ hx)
  have h0:=h d List.mem_cons_self
  generalize ht:Ty.func=t at h0
  cases h0 with
  | func ps r o n kids hp hr hb =>
   refine⟨⟨ps,r,o,n,kids⟩::R,rfl,fun x hx=>?_⟩
   rcases List.mem_cons.1 hx with rfl|hx
   ·exact⟨hp,hr,hb⟩
   ·exact hR x hx
  | _=>cases ht
theorem zcj (R:List PM):(zaC R).length=R.length:=by simp[zaC]
def gP (R:List PM) (k:Nat):PM:=R.getD k default
theorem zkf {R:List PM}{k:Nat} (h:k<R.length):gP R k∈R:=zaZ h _
theorem zwQ {R:List PM}{k:Nat} (h:k<R.length):R[k]=gP R k:=by simp[gP,List.getD,h]
theorem ztq {R:List PM}{k:Nat} (h:k<R.length):(zaC R).getD k []=[.sl 1 (zab (gP R k).ps),.int (gP R k).r,.int (gP R k).o,.int (gP R k).n,.sl 3 (gP R k).kids]:=by simp[zaC,List.getD,h,gP,pmC]
section
variable {ρ:Type}{r:ρ}
theorem za7 {R:List PM}{i:Int}{k:Nat} (hi:i=(k:Int)) (h:k<R.length) {K:Fn (Option ρ) [.sl 1 [],.int 0,.int 0,.int 0,.sl 3 []]}
  (h2:(K:List (List AC)→Int→Int→Int→List (List AC)→Option ρ) (zab (gP R k).ps) (gP R k).r (gP R k).o (gP R k).n (gP R k).kids=some r):zei (zaC R) i [.sl 1 [],.int 0,.int 0,.int 0,.sl 3 []] K=some r:=by
 subst hi;exact zsk (by rw[zcj];exact h) (ztq h) h2
end
def zsv (D:List DM) (x:PM):Bool:=decide (x.ps.length≤3)&&(x.ps.all (zdk D)&&zdk D x.r)
def zmq (D:List DM) (R:List PM):Bool:=zeR D&&(decide (1≤R.length)&&(decide (R.length≤4)&&(R.all (zsv D)&&(((gP R 0).ps.length==0)&&((gP R 0).r==0)))))
theorem zsI (D:List DM) (x:PM) (hx:POk x):ziR [.cell (.sl 3 (zah D)),.cell (.sl 1 (zab x.ps)),.cell (.int x.r)]=rB (zsv D x):=by
 refine zmR ?_
 rw[zac];unfold zsv;by_cases h:x.ps.length≤3
 ·rw[decide_eq_true h]
  refine zad (decide_eq_true (by omega)) (zat (zim D _ hx.ps.len) ?_)
  rcases x.ps.all (zdk D) with _|_
  ·exact zaa rfl rfl
  ·exact zad rfl (zat (zjc D _) rfl)
 ·rw[decide_eq_false h]
  exact zaa (decide_eq_false (by omega)) rfl
theorem zjM (D:List DM) (R:List PM) (hD:∀d∈D,DOk d) (hR:∀x∈R,POk x) (hl:D.length≤za9):zhy [.agg [.sl 3 (zah D),.sl 5 (zaC R)]]=rB (zmq D R):=by
 refine zlZ (zat (zsC D hD hl) ?_)
 unfold zmq;rcases zeR D with _|_
 ·exact zad rfl rfl
 refine zaa rfl ?_
 rw[zcj];by_cases h1:1≤R.length
 rotate_left
 ·rw[decide_eq_false h1]
  exact zad (decide_eq_true (by omega)) rfl
 rw[decide_eq_true h1];refine zaa (decide_eq_false (by omega)) ?_
 by_cases h4:R.length≤4
 rotate_left
 ·rw[decide_eq_false h4]
  exact zad (decide_eq_true (by omega)) rfl
 rw[decide_eq_true h4];refine zaa (decide_eq_false (by omega)) ?_
 have key:∀m k:Nat,k+m=R.length→zdZ (zah D) (zaC R) (zaC R) ((R.length:Nat):Int) (k:Int)=rB ((R.drop k).all (zsv D)&&(((gP R 0).ps.length==0)&&((gP R 0).r==0))):=by
  intro m;induction m with
  | zero =>
   intro k hk;rw[List.drop_eq_nil_of_le (by omega)]
   refine zgv (zaa (decide_eq_false (by omega)) (za7 (k:=0) rfl (by omega) ?_))
   rw[zac];by_cases h0:(gP R 0).ps.length=0
   ·exact zad (zr h0) (za7 (k:=0) rfl (by omega) (by rw[h0];rfl))
   ·refine zaa (nz h0) ?_
    rw[show((gP R 0).ps.length==0)=false by simpa using h0]
    rfl
  | succ m ih =>
   intro k hk;have hlt:k<R.length:=by omega
   rw[zh5 hlt,zwQ hlt];refine zgv (zad (decide_eq_true (by omega)) (za7 rfl hlt (zat (zsI D _ (hR _ (zkf hlt))) ?_)))
   rcases zsv D (gP R k) with _|_
   ·exact zad rfl rfl
   ·exact zaa rfl (by rw[wrk (by unfold za9;omega)];exact ih (k+1) (by omega))
 exact key R.length 0 (by omega)
theorem zr7 (D:List DM) (R:List PM) (hD:∀d∈D,DOk d) (hR:∀x∈R,POk x) (hl:D.length≤za9):zh0 [.agg [.sl 3 (zah D),.sl 5 (zaC R)]]=rB (zmq D R):=by
 refine zmt (zat (zsa D hD hl) ?_)
 unfold zmq;rcases zeR D with _|_
 ·exact zad rfl rfl
 refine zaa rfl (zat (zeg _ _ _) ?_)
 rw[zcj];by_cases h1:1≤R.length
 rotate_left
 ·rw[decide_eq_false h1,decide_eq_false (show ¬(1:Int)≤((R.length:Nat):Int) by omega)]
  exact zad rfl rfl
 rw[decide_eq_true h1,decide_eq_true (show(1:Int)≤((R.length:Nat):Int) by omega)]
 by_cases h4:R.length≤4
 rotate_left
 ·rw[decide_eq_false h4,decide_eq_false (show ¬((R.length:Nat):Int)≤4 by omega)]
  exact zad rfl rfl
 rw[decide_eq_true h4,decide_eq_true (show((R.length:Nat):Int)≤4 by omega)]
 refine zaa rfl ?_
 have key:∀m k:Nat,k+m=R.length→zdX (zah D) (zaC R) (k:Int)=rB ((R.drop k).all (zsv D)&&(((gP R 0).ps.length==0)&&((gP R 0).r==0))):=by
  intro m;induction m with
  | zero =>
   intro k hk;rw[List.drop_eq_nil_of_le (by omega)]
   refine zgc (zaa (decide_eq_false (by rw[zcj];omega)) (za7 (k:=0) rfl (by omega) ?_))
   rw[zac];by_cases h0:(gP R 0).ps.length=0
   ·exact zad (zr h0) (za7 (k:=0) rfl (by omega) (by rw[h0];rfl))
   ·refine zaa (nz h0) ?_
    rw[show((gP R 0).ps.length==0)=false by simpa using h0]
    rfl
  | succ m ih =>
   intro k hk;have hlt:k<R.length:=by omega
   have hx:=hR _ (zkf hlt)
   rw[zh5 hlt,zwQ hlt];refine zgc (zad (decide_eq_true (by rw[zcj];omega)) (za7 rfl hlt ?_))
   rw[zac];unfold zsv;by_cases h3:(gP R k).ps.length≤3
   rotate_left
   ·rw[decide_eq_false h3]
    exact zad (decide_eq_true (by omega)) rfl
   rw[decide_eq_true h3];refine zaa (decide_eq_false (by omega)) (zat (zlL D _ hx.ps.len) ?_)
   rcases(gP R k).ps.all (zdk D) with _|_
   ·exact zad rfl rfl
   refine zaa rfl (zat (zsF D _) ?_)
   rcases zdk D (gP R k).r with _|_
   ·exact zad rfl rfl
   ·exact zaa rfl (by rw[wrk (by unfold za9;omega)];exact ih (k+1) (by omega))
 exact key R.length 0 (by omega)
end
section
open Go
structure CP (D:List DM) (R:List PM):Prop where
 dv:DV D
 rl:R.length≤4
 rok:∀x∈R,POk x
 ps:∀k,k<R.length→(gP R k).ps.length≤3∧∀t∈(gP R k).ps,0≤t∧t≤D.length
 r:∀k,k<R.length→0≤(gP R k).r∧(gP R k).r≤D.length
theorem zCZ {D:List DM}{R:List PM} (hR:∀x∈R,POk x) (h:zmq D R=true):CP D R:=by
 simp only[zmq,Bool.and_eq_true,decide_eq_true_eq,List.all_eq_true] at h;obtain⟨h2,h3,h4,h5,h6⟩:=h;refine⟨zAQ h2,h4,hR,fun k hk=>?_,fun k hk=>?_⟩
 ·have:=h5 _ (zkf hk)
  simp only[zsv,Bool.and_eq_true,decide_eq_true_eq,List.all_eq_true] at this;exact⟨this.1,fun t ht=>isTy_iff.1 (this.2.1 t ht)⟩
 ·have:=h5 _ (zkf hk)
  simp only[zsv,Bool.and_eq_true,decide_eq_true_eq,List.all_eq_true] at this;exact isTy_iff.1 this.2.2
def zrU (ps:List Int):List Int:=ps.take (ps.length-1)
def zlK (D:List DM) (R:List PM) (o n:Int) (T:List Int):Int :=
 if o=0 then(if(-999≤n∧n≤999)∧T.length=0 then 0 else -1)
 else if o=1∨o=2∨o=3∨o=4 then(if n=0∧T=[0,0] then 0 else -1)
 else if o=5 then(if n=0∧T=[0] then 0 else -1)
 else if o=6 then(if zhB D n<0 then -1 else if T=fld D n then zhB D n else -1)
 else if o=9 then(if 0≤n∧n<R.length then(if T=(gP R n.toNat).ps then(gP R n.toNat).r else -1) else -1)
 else if o=10 then(if 0≤n∧n<R.length then(if(gP R n.toNat).ps.length=0 then -1 else if T=zrU (gP R n.toNat).ps then zgl ((gP R n.toNat).ps.getD ((gP R n.toNat).ps.length-1) 0) (gP R n.toNat).r D 0 else -1) else -1)
 else if o=11 then(if n=0 then(if T.length=2∧zlu D (T.getD 0 0)=true∧T.getD 1 0=(gD D ((T.getD 0 0).toNat-1)).f then(gD D ((T.getD 0 0).toNat-1)).t else -1) else -1)
 else -1
section
variable {D:List DM}{R:List PM} (hv:CP D R)
include hv
theorem zws {n:Int} (h:¬zhB D n<0):(fld D n).length≤3∧∀t∈fld D n,0≤t∧t≤D.length:=by
 rcases zf5 (D:=D) n with h0|⟨j,i,hj,he,hc,hi,hf⟩
 ·omega
 rw[hf];exact hv.dv.c j hj _ (zaZ hi [])
omit hv in
theorem zqp (n:Int):zhc [.agg [.sl 3 (zah D),.sl 5 (zaC R)],.cell (.int n)]=rB (decide (0≤n∧n<R.length)):=by
 refine zoa ?_
 rw[zcj];by_cases h:0≤n
 ·refine zad (decide_eq_true h) ?_
  simp[h] <;> rfl
 ·refine zaa (decide_eq_false h) ?_
  simp[h] <;> rfl
theorem zqz (n:Int) (T:List Int) (hT:T.length≤za9):zcr [.cell (.sl 3 (zah D)),.cell (.int n),.cell (.sl 1 (zab T))]=rI (if zhB D n<0 then -1 else if T=fld D n then zhB D n else -1):=by
 refine zk8 (zal (znO hv.dv n) ?_)
 by_cases h:zhB D n<0
 ·rw[if_pos h]
  exact zad (decide_eq_true h) rfl
 rw[if_neg h];refine zaa (decide_eq_false h) ?_
 have h1:1≤zhB D n:=by
  rcases zf5 (D:=D) n with h0|⟨j,i,hj,he,_⟩ <;> omega
 refine zaO (zqR hv.dv h1) (zat (zih T _ hT) (zal (zcu _ _) ?_))
 by_cases hq:T=fld D n <;> simp[hq] <;> rfl
omit hv in
theorem zod (n:Int) (T:List Int) (hT:T.length≤za9):zb7 [.agg [.sl 3 (zah D),.sl 5 (zaC R)],.cell (.int n),.cell (.sl 1 (zab T))]=rI (if 0≤n∧n<R.length then(if T=(gP R n.toNat).ps then(gP R n.toNat).r else -1) else -1):=by
 refine zkI (zat (zqp n) ?_)
 by_cases h:0≤n∧n<R.length
 ·rw[if_pos h,decide_eq_true h]
  refine zaa rfl (za7 (k:=n.toNat) (by omega) (by omega) (zat (zih T _ hT) (za7 (k:=n.toNat) (by omega) (by omega) (zal (zcu _ _) ?_))))
  by_cases hq:T=(gP R n.toNat).ps <;> simp[hq] <;> rfl
 ·rw[if_neg h,decide_eq_false h]
  exact zad rfl rfl
theorem zmU (n:Int) (T:List Int) (hT:T.length≤za9):zbU [.agg [.sl 3 (zah D),.sl 5 (zaC R)],.cell (.int n),.cell (.sl 1 (zab T))]=rI (if 0≤n∧n<R.length then(if(gP R n.toNat).ps.length=0 then -1 else if T=zrU (gP R n.toNat).ps then zgl ((gP R n.toNat).ps.getD ((gP R n.toNat).ps.length-1) 0) (gP R n.toNat).r D 0 else -1) else -1):=by
 have hl:=hv.dv.len
 refine zj1 (zat (zqp n) ?_)
 by_cases h:0≤n∧n<R.length
 rotate_left
 ·rw[if_neg h,decide_eq_false h]
  exact zad rfl rfl
 rw[if_pos h,decide_eq_true h];refine zaa rfl (za7 (k:=n.toNat) (by omega) (by omega) ?_)
 have hp:=(hv.ps n.toNat (by omega)).1
 rw[zac];by_cases h0:(gP R n.toNat).ps.length=0
 ·rw[if_pos h0]
  exact zad (zr h0) rfl
 rw[if_neg h0];refine zaa (nz h0) (za7 (k:=n.toNat) (by omega) (by omega) ?_)
 have w:zaf ((((zab (gP R n.toNat).ps).length:Nat):Int)-1)=(((gP R n.toNat).ps.length-1:Nat):Int):=by
  rw[zac,wr (by omega) (by omega)]
  omega
 rw[w];refine zuS (by omega) (by omega) (by rw[zac];omega) ?_
 rw[show((zab (gP R n.toNat).ps).drop (0:Int).toNat).take ((((gP R n.toNat).ps.length-1:Nat):Int).toNat-(0:Int).toNat)=zab (zrU (gP R n.toNat).ps) by simp[zrU,zo6]]
 refine zat (zih T _ hT) (ziO rfl (by omega) (za7 (k:=n.toNat) (by omega) (by omega) (zal (zuO D (by omega) _ _) (zal (zcu _ _) ?_))))
 by_cases hq:T=zrU (gP R n.toNat).ps <;> simp[hq] <;> rfl
theorem znm (T:List Int):zbX [.cell (.sl 3 (zah D)),.cell (.sl 1 (zab T))]=rI (if T.length=2∧zlu D (T.getD 0 0)=true∧T.getD 1 0=(gD D ((T.getD 0 0).toNat-1)).f then(gD D ((T.getD 0 0).toNat-1)).t else -1):=by
 have hl:=hv.dv.len
 refine zj5 ?_
 rw[zac];by_cases h2:T.length=2
 rotate_left
 ·rw[if_neg (fun h=>h2 h.1)]
  exact zad (net (by omega)) rfl
 refine zaa (nef (by omega)) (ziO (k:=0) rfl (by omega) (zat (zvW (by omega) _) ?_))
 rcases ha:zlu D (T.getD 0 0) with _|_
 ·rw[if_neg (fun h=>by cases h.2.1)]
  exact zad rfl rfl
 have hb:0<T.getD 0 0∧T.getD 0 0≤D.length:=by
  simp only[zlu,Bool.and_eq_true,decide_eq_true_eq] at ha;exact⟨ha.1,(isTy_iff.1 ha.2.1).2⟩
 refine zaa rfl (ziO (k:=0) rfl (by omega) (zbA (k:=(T.getD 0 0).toNat-1) (by rw[wr (by omega) (by omega)];omega) (by omega) (ziO (k:=1) rfl (by omega) (zal (zcu _ _) ?_))))
 by_cases hq:T.getD 1 0=(gD D ((T.getD 0 0).toNat-1)).f
 ·rw[if_pos (show T.length=2∧true=true∧T.getD 1 0=(gD D ((T.getD 0 0).toNat-1)).f from ⟨h2,rfl,hq⟩),eqt hq];rfl
 ·rw[if_neg (show ¬(T.length=2∧true=true∧T.getD 1 0=(gD D ((T.getD 0 0).toNat-1)).f) from fun h=>hq h.2.2),eqf hq];rfl
omit hv in
theorem zsD (T:List Int) (hT:T.length≤za9) (n:Int) {X:Option AV} (h:X=(bif (n==0) then
    zaz (zbc [.cell (.sl 1 (zab T)),.cell (.sl 1 [[.int 0],[.int 0]])]) false [(false,[.bool false])] fun b9 =>
    zaz (zaq [.cell (.bool b9),.cell (.int 0)]) false [(false,[.int 0])] fun n10 =>
    some (.v (.cell (.int n10)))
   else
    zaz (zaq [.cell (.bool false),.cell (.int 0)]) false [(false,[.int 0])] fun n11 =>
    some (.v (.cell (.int n11))))):X=rI (if n=0∧T=[0,0] then 0 else -1):=by
 rw[h];by_cases h0:n=0
 ·refine zad (eqt h0) (zat (zih T [0,0] hT) (zal (zcu _ _) ?_))
  by_cases hq:T=[0,0] <;> simp[hq,h0] <;> rfl
 ·refine zaa (eqf h0) (zal (zcu _ _) ?_)
  simp[h0] <;> rfl
theorem znW (o n:Int) (T:List Int) (hT:T.length≤za9):ziJ [.agg [.sl 3 (zah D),.sl 5 (zaC R)],.cell (.int o),.cell (.int n),.cell (.sl 1 (zab T))]=rI (zlK D R o n T):=by
 refine znK ?_
 unfold zlK;by_cases h0:o=0
 ·rw[if_pos h0]
  refine zad (eqt h0) ?_
  by_cases h1:-999≤n
  ·refine zad (decide_eq_true h1) ?_
   by_cases h2:n≤999
   ·refine zad (decide_eq_true h2) (zal (zcu _ _) ?_)
    rw[zac];by_cases h3:T.length=0
    ·rw[if_pos (show(-999≤n∧n≤999)∧T.length=0 from ⟨⟨h1,h2⟩,h3⟩),zr h3];rfl
    ·rw[if_neg (show ¬((-999≤n∧n≤999)∧T.length=0) from fun h=>h3 h.2),nz h3];rfl
   ·refine zaa (decide_eq_false h2) (zal (zcu _ _) ?_)
    rw[if_neg (show ¬((-999≤n∧n≤999)∧T.length=0) from fun h=>h2 h.1.2)];rfl
  ·refine zaa (decide_eq_false h1) (zal (zcu _ _) ?_)
   rw[if_neg (show ¬((-999≤n∧n≤999)∧T.length=0) from fun h=>h1 h.1.1)];rfl
 rw[if_neg h0];refine zaa (eqf h0) ?_
 by_cases h1:o=1
 ·subst h1
  rw[if_pos (.inl rfl)];exact zad rfl (zad rfl (zsD T hT n rfl))
 refine zaa (eqf h1) ?_
 by_cases h2:o=2
 ·subst h2
  rw[if_pos (.inr (.inl rfl))];exact zad rfl (zad rfl (zsD T hT n rfl))
 refine zaa (eqf h2) ?_
 by_cases h3:o=3
 ·subst h3
  rw[if_pos (.inr (.inr (.inl rfl)))];exact zad rfl (zad rfl (zsD T hT n rfl))
 refine zaa (eqf h3) ?_
 by_cases h4:o=4
 ·subst h4
  rw[if_pos (.inr (.inr (.inr rfl)))];exact zad rfl (zsD T hT n rfl)
 refine zaa (eqf h4) ?_
 rw[if_neg (fun h=>by rcases h with h|h|h|h <;> contradiction)]
 by_cases h5:o=5
 ·rw[if_pos h5]
  refine zad (eqt h5) ?_
  by_cases hn:n=0
  ·refine zad (eqt hn) (zat (zih T [0] hT) (zal (zcu _ _) ?_))
   by_cases hq:T=[0] <;> simp[hq,hn] <;> rfl
  ·refine zaa (eqf hn) (zal (zcu _ _) ?_)
   simp[hn] <;> rfl
 rw[if_neg h5];refine zaa (eqf h5) ?_
 by_cases h6:o=6
 ·rw[if_pos h6]
  exact zad (eqt h6) (zal (zqz hv n T hT) rfl)
 rw[if_neg h6];refine zaa (eqf h6) ?_
 by_cases h9:o=9
 ·rw[if_pos h9]
  exact zad (eqt h9) (zal (zod n T hT) rfl)
 rw[if_neg h9];refine zaa (eqf h9) ?_
 by_cases h10:o=10
 ·rw[if_pos h10]
  exact zad (eqt h10) (zal (zmU hv n T hT) rfl)
 rw[if_neg h10];refine zaa (eqf h10) ?_
 by_cases h11:o=11
 ·rw[if_pos h11]
  refine zad (eqt h11) ?_
  by_cases hn:n=0
  ·rw[if_pos hn]
   exact zaa (nef hn) (zal (znm hv T) rfl)
  ·rw[if_neg hn]
   exact zad (net hn) rfl
 rw[if_neg h11];exact zaa (eqf h11) rfl
end
end
section
open Go
def okT (D:List DM) (t:Int):Prop:=t=-1∨(0≤t∧t≤D.length)
theorem zuX (f t:Int):∀(D:List DM) (k:Nat),zgl f t D k=-1∨(0≤zgl f t D k∧zgl f t D k≤((k+D.length:Nat):Int))
 | [],_=>.inl rfl
 | d::ds,k=>by
  unfold zgl;split
  ·right;simp only[List.length_cons];omega
  ·have:=zuX f t ds (k+1)
   simp only[List.length_cons];omega
section
variable {D:List DM}{R:List PM}
theorem zyH (hv:CP D R) (o n:Int) (T:List Int):okT D (zlK D R o n T):=by
 unfold okT zlK;split
 ·split <;> omega
 split
 ·split <;> omega
 split
 ·split <;> omega
 split
 ·rcases zf5 (D:=D) n with h0|⟨j,i,hj,he,_⟩
  ·rw[h0];simp
  ·split
   ·omega
   ·split <;> omega
 split
 ·split
  ·have:=hv.r n.toNat (by omega)
   split <;> omega
  ·omega
 split
 ·split
  ·split
   ·omega
   ·split
    ·have:=zuX ((gP R n.toNat).ps.getD ((gP R n.toNat).ps.length-1) 0) (gP R n.toNat).r D 0
     rw[Nat.zero_add] at this;exact this
    ·omega
  ·omega
 split
 ·split
  ·split
   ·rename_i hc
    have hb:(0<T.getD 0 0∧T.getD 0 0≤D.length)∧(gD D ((T.getD 0 0).toNat-1)).cs.length=0:=by
     have hi:=hc.2.1
     simp only[zlu,Bool.and_eq_true,decide_eq_true_eq,beq_iff_eq] at hi;exact⟨⟨hi.1,(isTy_iff.1 hi.2.1).2⟩,hi.2.2⟩
    have:=(hv.dv.arr ((T.getD 0 0).toNat-1) (by omega) hb.2).2
    omega
   ·omega
  ·omega
 ·omega
end
theorem zp9 {ρ:Type}{r:ρ}{x:Option AV}{a0:List (List AC)}{a1:List (List AC)} (h:x=some (.v (.agg [.sl 1 a0,.sl 1 a1]))) {K:Fn (Option ρ) (zaW [(true,[.sl 1 [],.sl 1 []])])} (h2:(K:List (List AC)→List (List AC)→Option ρ) a0 a1=some r):zaz x false [(true,[.sl 1 [],.sl 1 []])] K=some r:=by rw[h];exact h2
def cL (D:List DM) (j:Nat):List Int:=(List.range (gD D j).cs.length).map fun i=>((zby (D.take j)+i:Nat):Int)
theorem zjE (D:List DM) (j:Nat):(cL D j).length=(gD D j).cs.length:=by simp[cL]
theorem zuh {D:List DM}{j k:Nat} (h:k<(gD D j).cs.length):(cL D j).getD k 0=((zby (D.take j)+k:Nat):Int):=by
 simp[cL,List.getD,h]
theorem ztB {D:List DM} (hv:DV D) (n:Int):zco [.cell (.sl 3 (zah D)),.cell (.int n)]=rL (if 1≤n∧n≤D.length then cL D (n.toNat-1) else[]):=by
 have hD:=hv.len
 refine zkh (zat (zeg _ _ _) ?_)
 rw[za8];by_cases h:1≤n∧n≤D.length
 rotate_left
 ·rw[if_neg h]
  refine zad ?_ rfl
  rw[Bool.not_eq_true',Bool.and_eq_false_iff,decide_eq_false_iff_not,decide_eq_false_iff_not];omega
 rw[if_pos h,decide_eq_true h.1,decide_eq_true h.2];refine zaa rfl ?_
 have hj:n.toNat-1<D.length:=by omega
 have w:zaf (n-1)=((n.toNat-1:Nat):Int):=by rw[wr (by omega) (by omega)];omega
 generalize n.toNat-1=j at hj w ⊢
 have hc:=hv.cs j hj
 have hs:=zhp hv.cs j (by omega)
 have key:∀m k:Nat,k+m=(gD D j).cs.length→zd1 (zah D) n (zab ((cL D j).take k)) (k:Int)=rL (cL D j):=by
  intro m;induction m with
  | zero =>
   intro k hk;refine zdO (zbA (k:=j) w hj (zaa (decide_eq_false (by rw[zaX];omega)) ?_))
   rw[List.take_of_length_le (by rw[zjE];omega)]
  | succ m ih =>
   intro k hk;refine zdO (zbA (k:=j) w hj (zad (decide_eq_true (by rw[zaX];omega)) ?_))
   rw[w];refine zal (zjD hv (k:=j) (by omega)) (zcL (by rw[zac,List.length_take,zjE];simp;omega) ?_)
   have hlt:k<(cL D j).length:=by rw[zjE];omega
   have e:=zmi hlt
   have e2:(cL D j)[k]=((zby (D.take j)+k:Nat):Int):=by
    have:=zuh (D:=D) (j:=j) (k:=k) (by omega)
    rw[←this];simp[List.getD,hlt]
   rw[e2] at e;rw[wr (n:=((zby (D.take j):Nat):Int)+(k:Int)) (by omega) (by omega),←Int.natCast_add,e,wrk (by unfold za9;omega)]
   exact ih (k+1) (by omega)
 exact key (gD D j).cs.length 0 (by omega)
def chk (T:Nat→Int) (t0:Int):Nat→Nat→Int
 | 0,_=>t0
 | m+1,k=>if T k=t0 then chk T t0 m (k+1) else -1
theorem zwl {D:List DM}{T:Nat→Int}{t0:Int} (h:okT D t0):∀m k,okT D (chk T t0 m k)
 | 0,_=>h
 | m+1,k=>by
  unfold chk;split
  ·exact zwl h m (k+1)
  ·exact .inl rfl
end
end Go.Proofs.Ytcpcagdialnbeaa
