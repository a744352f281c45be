/- Generic texts and models for the proofs of this seat: part 24. -/
import Derived.Test.YtkgbadeobdbinaaGreatY23
set_option linter.unusedVariables false
set_option linter.unusedSimpArgs false
namespace Go.Proofs.YtkgbadeobdbinaaGreat
section
open Go
structure DV (D:List DM):Prop where
 len:D.length≤4
 cs:∀k,k<D.length→(gD D k).cs.length≤3
 c:∀k,k<D.length→∀c∈(gD D k).cs,c.length≤3∧∀x∈c,0≤x∧x≤D.length
 arr:∀k,k<D.length→(gD D k).cs.length=0→(0≤(gD D k).f∧(gD D k).f≤D.length)∧(0≤(gD D k).t∧(gD D k).t≤D.length)
theorem isTy_iff {D:List DM}{t:Int}:zeb D t=true↔0≤t∧t≤D.length:=by simp[zeb]
theorem zEZ {D:List DM} (h:zfJ D=true):DV D:=by
 simp only[zfJ,Bool.and_eq_true,decide_eq_true_eq,List.all_eq_true,List.mem_range] at h;obtain⟨h1,h2⟩:=h;refine⟨h1,fun k hk=>?_,fun k hk c hc=>?_,fun k hk h0=>?_⟩
 ·have:=h2 k hk
  unfold zlN at this;split at this
  ·simp only[Bool.and_eq_true,decide_eq_true_eq] at this;exact this.1
  ·omega
 ·have:=h2 k hk
  unfold zlN at this;have hpos:0<(gD D k).cs.length:=List.length_pos_of_mem hc
  rw[if_pos hpos] at this;simp only[Bool.and_eq_true,List.all_eq_true,zk3,decide_eq_true_eq] at this;obtain⟨g1,g2⟩:=this.2.2.2 c hc;exact⟨g1,fun x hx=>isTy_iff.1 (g2 x hx)⟩
 ·have:=h2 k hk
  unfold zlN at this;rw[if_neg (by omega)] at this
  simp only[Bool.and_eq_true] at this;exact⟨isTy_iff.1 this.1,isTy_iff.1 this.2.1⟩
def zbs:List DM→Nat
 | []=>0
 | d::ds=>d.cs.length+zbs ds
theorem zwK (a b:List DM):zbs (a++b)=zbs a+zbs b:=by
 induction a with
 | nil=>simp[zbs]
 | cons x a ih=>simp only[List.cons_append,zbs,ih];omega
theorem zkR {D:List DM}{k:Nat} (h:k<D.length):zbs (D.take (k+1))=zbs (D.take k)+(gD D k).cs.length:=by
 rw[List.take_succ_eq_append_getElem h,zwK,zlE h];simp[zbs]
theorem zfK {D:List DM} (h:∀k,k<D.length→(gD D k).cs.length≤3):∀k,k≤D.length→zbs (D.take k)≤3*k
 | 0,_=>by simp[zbs]
 | k+1,hk=>by
  rw[zkR (by omega)]
  have:=zfK h k (by omega)
  have:=h k (by omega)
  omega
theorem zEB {D:List DM}{k j:Nat} (h:j<k) (hk:k≤D.length):gD (D.take k) j=gD D j:=by
 rw[←zlE (D:=D.take k) (by rw[List.length_take];omega),←zlE (D:=D) (by omega),List.getElem_take]
theorem zjz {D:List DM} (hv:DV D) {k:Nat} (hk:k≤D.length):zcj [.cell (.sl 3 (zag D)),.cell (.int (k:Int))]=rI (zbs (D.take k)):=by
 have h4:=hv.len
 have key:∀m j:Nat,j+m=k→ze9 (zag D) (k:Int) ((zbs (D.take j):Nat):Int) (j:Int)=rI (zbs (D.take k)):=by
  intro m;induction m with
  | zero=>intro j hj;exact ziJ (zaa (decide_eq_false (by omega)) (by rw[show j=k by omega]))
  | succ m ih =>
   intro j hj;have hlt:j<D.length:=by omega
   have h1:=zfK hv.cs j (by omega)
   have h2:=hv.cs j hlt
   refine ziJ (zab (decide_eq_true (by omega)) (zba rfl hlt ?_))
   rw[zaL,wr (by omega) (by omega),wrk (by unfold zaS;omega)]
   have:=ih (j+1) (by omega)
   rw[zkR hlt] at this
   change @Eq (Option AV) _ _
   simpa using this
 exact zpv (key k 0 (by omega))
theorem zwu {D:List DM} (h4:D.length≤4) (h3:∀k,k<D.length→(gD D k).cs.length≤3):zjE [.cell (.sl 3 (zag D))]=rI (zbs D):=by
 have key:∀m j:Nat,j+m=D.length→zeF ((zbs (D.take j):Nat):Int) (zag D) (((zag D).length:Nat):Int) (j:Int)=rI (zbs D):=by
  intro m;induction m with
  | zero=>intro j hj;exact zhU (zaa (decide_eq_false (by rw[zaY];omega)) (by rw[List.take_of_length_le (by omega)]))
  | succ m ih =>
   intro j hj;have hlt:j<D.length:=by omega
   have h1:=zfK h3 j (by omega)
   have h2:=h3 j hlt
   refine zhU (zab (decide_eq_true (by rw[zaY];omega)) (zba rfl hlt ?_))
   rw[zaL,wr (by omega) (by omega),wrk (by unfold zaS;omega)]
   have:=ih (j+1) (by omega)
   rw[zkR hlt] at this
   change @Eq (Option AV) _ _
   simpa using this
 exact zoi (key D.length 0 (by omega))
theorem zsV {D:List DM} (hv:DV D) {k:Nat} (hk:k≤D.length):zdo [.cell (.sl 3 (zag D)),.cell (.int ((k:Int)+1))]=rI (zbs (D.take k)):=by
 have h4:=hv.len
 have w:zad (((k:Int)+1)-1)=(k:Int):=by rw[wr (by omega) (by omega)];omega
 refine zpI ?_
 rw[w];refine zyb (by omega) (by omega) (by rw[zaY];omega) ?_
 rw[show(((zag D).drop (0:Int).toNat).take ((k:Int).toNat-(0:Int).toNat))=zag (D.take k) by simp[zs1]]
 exact zan (zwu (by rw[List.length_take];omega) (fun j hj=>by rw[List.length_take] at hj;rw[zEB (by omega) hk];exact hv.cs j (by omega))) rfl
def zpP (c:Int):List DM→Nat→Nat→Int
 | [],_,_=>-1
 | d::ds,first,k=>if(first:Int)≤c∧c<(first:Int)+d.cs.length then((k+1:Nat):Int) else zpP c ds (first+d.cs.length) (k+1)
def zf5 (D:List DM) (c:Int):Int:=zpP c D 0 0
theorem zqf {D:List DM} (hv:DV D) (c:Int):zgm [.cell (.sl 3 (zag D)),.cell (.int c)]=rI (zf5 D c):=by
 have h4:=hv.len
 have key:∀m k:Nat,k+m=D.length→zcx c ((zbs (D.take k):Nat):Int) (zag D) (((zag D).length:Nat):Int) (k:Int)=rI (zpP c (D.drop k) (zbs (D.take k)) k):=by
  intro m;induction m with
  | zero=>intro k hk;exact zh1 (zaa (decide_eq_false (by rw[zaY];omega)) (by rw[List.drop_eq_nil_of_le (by omega)];rfl))
  | succ m ih =>
   intro k hk;have hlt:k<D.length:=by omega
   have h1:=zfK hv.cs k (by omega)
   have h2:=hv.cs k hlt
   have nx:=ih (k+1) (by omega)
   rw[zkR hlt] at nx;rw[List.drop_eq_getElem_cons hlt,zlE hlt];unfold zpP;refine zh1 (zab (decide_eq_true (by rw[zaY];omega)) (zba rfl hlt ?_))
   rw[zaL,wr (n:=((zbs (D.take k):Nat):Int)+((gD D k).cs.length:Nat)) (by omega) (by omega),wrk (by unfold zaS;omega)]
   have nx':zcx c (((zbs (D.take k):Nat):Int)+(((gD D k).cs.length:Nat):Int)) (zag D) (((zag D).length:Nat):Int) ((k+1:Nat):Int)=rI (zpP c (D.drop (k+1)) (zbs (D.take k)+(gD D k).cs.length) (k+1)):=by simpa using nx
   by_cases g1:((zbs (D.take k):Nat):Int)≤c
   ·refine zab (decide_eq_true g1) ?_
    by_cases g2:c<((zbs (D.take k):Nat):Int)+((gD D k).cs.length:Nat)
    ·rw[if_pos ⟨g1,g2⟩]
     exact zab (decide_eq_true g2) rfl
    ·rw[if_neg (fun h=>g2 h.2)]
     exact zaa (decide_eq_false g2) nx'
   ·rw[if_neg (fun h=>g1 h.1)]
    exact zaa (decide_eq_false g1) nx'
 exact zoO (key D.length 0 (by omega))
theorem zpm {D:List DM} (hv:DV D) (c:Int):zgw [.cell (.sl 3 (zag D)),.cell (.int c)]=rI (zf5 D c):=by
 have h4:=hv.len
 have key:∀m k:Nat,k+m=D.length→zfH (zag D) c (k:Int)=rI (zpP c (D.drop k) (zbs (D.take k)) k):=by
  intro m;induction m with
  | zero=>intro k hk;exact zjT (zaa (decide_eq_false (by rw[zaY];omega)) (by rw[List.drop_eq_nil_of_le (by omega)];rfl))
  | succ m ih =>
   intro k hk;have hlt:k<D.length:=by omega
   have h1:=zfK hv.cs k (by omega)
   have h2:=hv.cs k hlt
   have nx:=ih (k+1) (by omega)
   rw[zkR hlt] at nx;rw[List.drop_eq_getElem_cons hlt,zlE hlt];unfold zpP;refine zjT (zab (decide_eq_true (by rw[zaY];omega)) (zan (zjz hv (by omega)) (zba rfl hlt ?_)))
   rw[zaL,wr (n:=((zbs (D.take k):Nat):Int)+((gD D k).cs.length:Nat)) (by omega) (by omega),wr (n:=((zbs (D.take k):Nat):Int)+((gD D k).cs.length:Nat)-1) (by omega) (by omega),wrk (by unfold zaS;omega)]
   refine zas (zfe _ _ _) ?_
   by_cases g1:((zbs (D.take k):Nat):Int)≤c
   ·rw[decide_eq_true g1]
    by_cases g2:c<((zbs (D.take k):Nat):Int)+((gD D k).cs.length:Nat)
    ·rw[if_pos ⟨g1,g2⟩,decide_eq_true (show c≤((zbs (D.take k):Nat):Int)+((gD D k).cs.length:Nat)-1 by omega)]
     exact zab rfl rfl
    ·rw[if_neg (fun h=>g2 h.2),decide_eq_false (show ¬c≤((zbs (D.take k):Nat):Int)+((gD D k).cs.length:Nat)-1 by omega)]
     exact zaa rfl nx
   ·rw[if_neg (fun h=>g1 h.1),decide_eq_false g1]
    exact zaa rfl nx
 exact zqT (key D.length 0 (by omega))
theorem zug (c:Int):∀(ds:List DM) (first k:Nat),zpP c ds first k=-1∨∃j,j<ds.length∧zpP c ds first k=((k+j+1:Nat):Int)∧((first+zbs (ds.take j):Nat):Int)≤c∧c<((first+zbs (ds.take j):Nat):Int)+(gD ds j).cs.length
 | [],first,k=>.inl rfl
 | d::ds,first,k=>by
  unfold zpP;split
  ·rename_i h
   exact .inr ⟨0,by simp,by simp,by simpa [zbs] using h.1,by simpa [zbs,gD] using h.2⟩
  ·rcases zug c ds (first+d.cs.length) (k+1) with h|⟨j,h1,h2,h3,h4⟩
   ·exact .inl h
   ·refine .inr ⟨j+1,by simpa using h1,by rw[h2];congr 1;omega,?_,?_⟩
    ·simp only[List.take_succ_cons,zbs];omega
    ·simp only[List.take_succ_cons,zbs]
     have:gD (d::ds) (j+1)=gD ds j:=by simp[gD]
     rw[this];omega
theorem zwm:∀(ds:List DM) (first k j i:Nat),j<ds.length→i<(gD ds j).cs.length→zpP ((first+zbs (ds.take j)+i:Nat):Int) ds first k=((k+j+1:Nat):Int)
 | d::ds,first,k,0,i,_,hi=>by
  have hi':i<d.cs.length:=by simpa [gD] using hi
  unfold zpP;rw[if_pos (by simp[zbs];omega)]
  try simp
 | d::ds,first,k,j+1,i,hj,hi=>by
  have hi':i<(gD ds j).cs.length:=by simpa [gD] using hi
  unfold zpP;rw[if_neg (by simp only[List.take_succ_cons,zbs];omega)]
  have:=zwm ds (first+d.cs.length) (k+1) j i (by simpa using hj) hi'
  rw[show first+zbs ((d::ds).take (j+1))+i=first+d.cs.length+zbs (ds.take j)+i by simp only[List.take_succ_cons,zbs];omega]
  exact this.trans (congrArg (fun n:Nat=>((n:Nat):Int)) (by omega))
 | [],_,_,_,_,h,_=>by simp at h
def fld (D:List DM) (c:Int):List Int:=(gD D ((zf5 D c).toNat-1)).cs.getD (c-((zbs (D.take ((zf5 D c).toNat-1)):Nat):Int)).toNat []
theorem zd0 {D:List DM} (c:Int):zf5 D c=-1∨∃j i:Nat,j<D.length∧zf5 D c=((j:Nat):Int)+1∧c=((zbs (D.take j)+i:Nat):Int)∧i<(gD D j).cs.length∧fld D c=(gD D j).cs.getD i []:=by
 rcases zug c D 0 0 with h|⟨j,h1,h2,h3,h4⟩
 ·exact .inl h
 ·have e:zf5 D c=((j:Nat):Int)+1:=by unfold zf5;rw[h2];omega
  refine .inr ⟨j,(c-((zbs (D.take j):Nat):Int)).toNat,h1,e,by omega,by omega,?_⟩
  unfold fld;rw[e,show(((j:Nat):Int)+1).toNat-1=j by omega]
theorem zrN {D:List DM}{j i:Nat} (hj:j<D.length) (hi:i<(gD D j).cs.length):zf5 D ((zbs (D.take j)+i:Nat):Int)=((j:Nat):Int)+1∧fld D ((zbs (D.take j)+i:Nat):Int)=(gD D j).cs.getD i []:=by
 have h:=zwm D 0 0 j i hj hi
 rw[Nat.zero_add] at h;have e:zf5 D ((zbs (D.take j)+i:Nat):Int)=((j:Nat):Int)+1:=by unfold zf5;rw[h];omega
 refine⟨e,?_⟩
 unfold fld;rw[e,show(((j:Nat):Int)+1).toNat-1=j by omega,show(((zbs (D.take j)+i:Nat):Int)-((zbs (D.take j):Nat):Int)).toNat=i by omega]
theorem zto {D:List DM} (hv:DV D) {c:Int} (h:1≤zf5 D c):zg5 [.cell (.sl 3 (zag D)),.cell (.int c)]=rL (fld D c):=by
 have h4:=hv.len
 rcases zd0 (D:=D) c with h0|⟨j,i,hj,he,hc,hi,hf⟩
 ·omega
 have h1:=zfK hv.cs j (by omega)
 have h2:=hv.cs j hj
 refine zni (zan (zqf hv c) ?_)
 rw[he];refine zba (k:=j) (by rw[wr (by omega) (by omega)];omega) hj (zan (zsV hv (by omega)) (zg2 (k:=i) (by rw[hc,wr (by omega) (by omega)];omega) hi ?_))
 rw[hf]
theorem zhX {D:List DM} (hv:DV D) (c:Int):zaI [.cell (.sl 3 (zag D)),.cell (.int c)]=rL (if zf5 D c<1 then[] else fld D c):=by
 have h4:=hv.len
 refine zou (zan (zpm hv c) ?_)
 rcases zd0 (D:=D) c with h0|⟨j,i,hj,he,hc,hi,hf⟩
 ·rw[h0]
  exact zab rfl rfl
 have h1:=zfK hv.cs j (by omega)
 have h2:=hv.cs j hj
 rw[he,if_neg (by omega)]
 refine zaa (decide_eq_false (by omega)) ?_
 have w:zad (((j:Nat):Int)+1-1)=j:=by rw[wr (by omega) (by omega)];omega
 rw[w];refine zba rfl hj (zan (zjz hv (by omega)) (zg2 (k:=i) (by rw[hc,wr (by omega) (by omega)];omega) hi ?_))
 rw[hf]
theorem zr8 {D:List DM} (hl:D.length≤1000) (t:Int):zmt [.cell (.sl 3 (zag D)),.cell (.int t)]=rB (zxq D t):=by
 refine zrj ?_
 unfold zxq;by_cases h:0<t
 rotate_left
 ·rw[decide_eq_false h]
  exact zaa rfl rfl
 rw[decide_eq_true h];refine zab rfl (zas (zkZ D t) ?_)
 rcases ht:zeb D t with _|_
 ·exact zaa rfl rfl
 have:=isTy_iff.1 ht
 refine zab rfl (zba (k:=t.toNat-1) (by rw[wr (by omega) (by omega)];omega) (by omega) ?_)
 rw[zaL];by_cases hc:0<(gD D (t.toNat-1)).cs.length
 ·rw[decide_eq_true hc,decide_eq_true (by omega)];rfl
 ·rw[decide_eq_false hc,decide_eq_false (by omega)];rfl
theorem zzj {D:List DM} (hl:D.length≤1000) (t:Int):zlp [.cell (.sl 3 (zag D)),.cell (.int t)]=rB (znt D t):=by
 refine zqA ?_
 unfold znt;by_cases h:0<t
 rotate_left
 ·rw[decide_eq_false h]
  exact zaa rfl rfl
 rw[decide_eq_true h];refine zab rfl (zas (zkZ D t) ?_)
 rcases ht:zeb D t with _|_
 ·exact zaa rfl rfl
 have:=isTy_iff.1 ht
 refine zab rfl (zba (k:=t.toNat-1) (by rw[wr (by omega) (by omega)];omega) (by omega) ?_)
 rw[zaL];by_cases hc:(gD D (t.toNat-1)).cs.length=0
 ·rw[zr hc,hc];rfl
 ·rw[nz hc,show((gD D (t.toNat-1)).cs.length==0)=false by simpa using hc];rfl
theorem zeg {D:List DM} (hl:D.length≤1000) (t:Int):zfc [.cell (.sl 3 (zag D)),.cell (.int t)]=rB (znt D t):=by
 refine zqV (zas (zfe _ _ _) ?_)
 rw[zaY];unfold znt;by_cases h:0<t
 rotate_left
 ·rw[decide_eq_false h,decide_eq_false (show ¬(1:Int)≤t by omega)]
  exact zaa rfl rfl
 rw[decide_eq_true h,decide_eq_true (show(1:Int)≤t by omega)]
 rcases ht:zeb D t with _|_
 ·have:¬(t≤D.length):=fun hle=>by
   have:=isTy_iff.2 ⟨show 0≤t by omega,hle⟩
   rw[ht] at this;cases this
  rw[decide_eq_false this];exact zaa rfl rfl
 have:=isTy_iff.1 ht
 rw[decide_eq_true this.2];refine zab rfl (zba (k:=t.toNat-1) (by rw[wr (by omega) (by omega)];omega) (by omega) ?_)
 rw[zaL];by_cases hc:(gD D (t.toNat-1)).cs.length=0
 ·rw[zr hc,hc];rfl
 ·rw[nz hc,show((gD D (t.toNat-1)).cs.length==0)=false by simpa using hc];rfl
def tv (V:List Int) (v:Int):Int:=if 0≤v∧v<V.length then V.getD v.toNat 0 else -1
theorem zqo (G M:List Int) (hG:G.length≤68719476736) (hM:M.length≤68719476736) {v:Int} (hv:inI v):zjH [.agg [.sl 1 (zae G),.sl 1 (zae M)],.cell (.int v)]=rI (tv (G++M) v):=by
 refine zoy ?_
 rw[zac,zac];obtain⟨v1,v2⟩:=hv;unfold tv;rw[List.length_append];by_cases h0:v<0
 ·rw[if_neg (by omega)]
  exact zab (decide_eq_true h0) rfl
 refine zaa (decide_eq_false h0) ?_
 by_cases h1:v<G.length
 ·rw[if_pos (by omega)]
  refine zab (decide_eq_true h1) (zjU (k:=v.toNat) (by omega) (by omega) ?_)
  change @Eq (Option AV) _ _
  simp[List.getD,List.getElem?_append_left (show v.toNat<G.length by omega)]
 refine zaa (decide_eq_false h1) ?_
 have w:zad (v-G.length)=v-G.length:=wr (by omega) (by omega)
 rw[w];by_cases h2:v-G.length<M.length
 ·rw[if_pos (by omega)]
  refine zab (decide_eq_true h2) (zjU (k:=v.toNat-G.length) (by omega) (by omega) ?_)
  change @Eq (Option AV) _ _
  simp[List.getD,List.getElem?_append_right (show G.length≤v.toNat by omega)]
 ·rw[if_neg (by omega)]
  exact zaa (decide_eq_false h2) rfl
theorem zoI {xs:List Int}{k:Nat} (h:k<xs.length):zae (xs.take k)++[[.int xs[k]]]=zae (xs.take (k+1)):=by
 show zae (xs.take k)++zae [xs[k]]=_
 rw[ziY,←List.take_succ_eq_append_getElem h]
theorem znR (xs:List Int) (hx:xs.length≤68719476736):zft [.cell (.sl 1 (zae xs))]=rL xs:=by
 have key:∀m k:Nat,k+m=xs.length→ze5 (zae (xs.take k)) (zae xs) (((zae xs).length:Nat):Int) (k:Int)=rL xs:=by
  intro m;induction m with
  | zero=>intro k hk;exact ziD (zaa (decide_eq_false (by rw[zac];omega)) (by rw[List.take_of_length_le (by omega)]))
  | succ m ih =>
   intro k hk;have hlt:k<xs.length:=by omega
   refine ziD (zab (decide_eq_true (by rw[zac];omega)) (zbk hlt (zbu (by rw[zac,List.length_take];simp;omega) ?_)))
   rw[zoI hlt,wrk (by unfold zaS;omega)]
   exact ih (k+1) (by omega)
 exact zpH (key xs.length 0 (by omega))
theorem znw (xs:List Int) (hx:xs.length≤68719476736):zfw [.cell (.sl 1 (zae xs))]=rL xs :=
 zph (zbu (by rw[zac];simpa using hx) (by rw[List.nil_append]))
theorem zmf (xs ys:List Int) (hx:xs.length+ys.length≤68719476736):zbK [.cell (.sl 1 (zae xs)),.cell (.sl 1 (zae ys))]=rL (xs++ys) :=
 zrD (zay (znw xs (by omega)) (zbu (by rw[zac,zac];exact hx) (by rw[ziY])))
theorem zsq (G M xs:List Int) (hM:M.length+xs.length≤68719476736):zjd [.agg [.sl 1 (zae G),.sl 1 (zae M)],.cell (.sl 1 (zae xs))]=some (.v (.agg [.sl 1 (zae G),.sl 1 (zae (M++xs))])):=by
 have key:∀m k:Nat,k+m=xs.length→ziS (zae G) (zae M) [] [] (zae (M++xs.take k)) (zae xs) (((zae xs).length:Nat):Int) (k:Int)=some (.v (.agg [.sl 1 (zae G),.sl 1 (zae (M++xs))])):=by
  intro m;induction m with
  | zero=>intro k hk;exact zlP (zaa (decide_eq_false (by rw[zac];omega)) (by rw[List.take_of_length_le (by omega)]))
  | succ m ih =>
   intro k hk;have hlt:k<xs.length:=by omega
   refine zlP (zab (decide_eq_true (by rw[zac];omega)) (zbk hlt (zbu (by rw[zac,List.length_append,List.length_take];simp;omega) ?_)))
   rw[←ziY,List.append_assoc,zoI hlt,ziY,wrk (by unfold zaS;omega)]
   exact ih (k+1) (by omega)
 refine zuo (zay (znR M (by omega)) ?_)
 have:=key xs.length 0 (by omega)
 rw[List.take_zero,List.append_nil] at this;exact this
theorem zjN (xs ys:List Int) (hx:xs.length≤zaS):zbp [.cell (.sl 1 (zae xs)),.cell (.sl 1 (zae ys))]=rB (decide (xs=ys)):=by
 refine zpV ?_
 rw[zac,zac];by_cases hl:xs.length=ys.length
 rotate_left
 ·rw[decide_eq_false (fun h=>hl (by rw[h]))]
  exact zab (net (by omega)) rfl
 refine zaa (nef (by omega)) ?_
 have key:∀m k:Nat,k+m=xs.length→ze0 (zae xs) (zae ys) ((xs.length:Nat):Int) (k:Int)=rB (decide (xs.drop k=ys.drop k)):=by
  intro m;induction m with
  | zero =>
   intro k hk;rw[List.drop_eq_nil_of_le (show xs.length≤k by omega),List.drop_eq_nil_of_le (show ys.length≤k by omega)]
   exact ziG (zaa (decide_eq_false (by omega)) rfl)
  | succ m ih =>
   intro k hk;have h1:k<xs.length:=by omega
   have h2:k<ys.length:=by omega
   rw[List.drop_eq_getElem_cons h1,List.drop_eq_getElem_cons h2];refine ziG (zab (decide_eq_true (by omega)) (zbk h1 (zbk h2 ?_)))
   by_cases he:xs[k]=ys[k]
   ·refine zaa (nef he) ?_
    rw[wrk (by omega),ih (k+1) (by omega)]
    change @Eq (Option AV) _ _
    simp only[List.cons.injEq,he,true_and]
   ·refine zab (net he) ?_
    rw[decide_eq_false (fun h=>he (List.cons.inj h).1)]
 exact key xs.length 0 (by omega)
theorem zcV (b:Bool) (t:Int):zat [.cell (.bool b),.cell (.int t)]=rI (if b then t else -1):=by
 cases b
 ·exact zkP (zaa rfl rfl)
 ·exact zkP (zab rfl rfl)
end
section
open Go
structure PM where
 ps:List Int
 r:Int
 o:Int
 n:Int
 kids:List (List AC)
 deriving Inhabited
def pmC (x:PM):List AC:=[.sl 1 (zae x.ps),.int x.r,.int x.o,.int x.n,.sl 3 x.kids]
def zao (R:List PM):List (List AC):=R.map pmC
structure POk (x:PM):Prop where
 ps:zdK x.ps
 r:inI x.r
 b:Fit .expr [.int x.o,.int x.n,.sl 3 x.kids]
theorem zxO:∀{rs:List (List AC)},(∀d∈rs,Fit .func d)→∃R,rs=zao R∧∀d∈R,POk d
 | [],_=>⟨[],rfl,fun c h=>by cases h⟩
 | d::ds,h=>by
  obtain⟨R,rfl,hR⟩:=zxO fun x hx=>h x (List.mem_cons_of_mem _ hx)
  have h0:=h d List.mem_cons_self
  generalize ht:Ty.func=t at h0
  cases h0 with
  | func ps r o n kids hp hr hb =>
   refine⟨⟨ps,r,o,n,kids⟩::R,rfl,fun x hx=>?_⟩
   rcases List.mem_cons.1 hx with rfl|hx
   ·exact⟨hp,hr,hb⟩
   ·exact hR x hx
  | _=>cases ht
theorem za1 (R:List PM):(zao R).length=R.length:=by simp[zao]
def gP (R:List PM) (k:Nat):PM:=R.getD k default
theorem zhj {R:List PM}{k:Nat} (h:k<R.length):gP R k∈R:=zaE h _
theorem zlv {R:List PM}{k:Nat} (h:k<R.length):R[k]=gP R k:=by simp[gP,List.getD,h]
theorem zz0 {R:List PM}{k:Nat} (h:k<R.length):(zao R).getD k []=[.sl 1 (zae (gP R k).ps),.int (gP R k).r,.int (gP R k).o,.int (gP R k).n,.sl 3 (gP R k).kids]:=by simp[zao,List.getD,h,gP,pmC]
section
variable {ρ:Type}{r:ρ}
theorem zaQ {R:List PM}{i:Int}{k:Nat} (hi:i=(k:Int)) (h:k<R.length) {K:Fn (Option ρ) [.sl 1 [],.int 0,.int 0,.int 0,.sl 3 []]}
  (h2:(K:List (List AC)→Int→Int→Int→List (List AC)→Option ρ) (zae (gP R k).ps) (gP R k).r (gP R k).o (gP R k).n (gP R k).kids=some r):zeW (zao R) i [.sl 1 [],.int 0,.int 0,.int 0,.sl 3 []] K=some r:=by
 subst hi;exact zuF (by rw[za1];exact h) (zz0 h) h2
end
def zom (D:List DM) (x:PM):Bool:=decide (x.ps.length≤3)&&(x.ps.all (zeb D)&&zeb D x.r)
def ziI (D:List DM) (R:List PM):Bool:=zfJ D&&(decide (1≤R.length)&&(decide (R.length≤4)&&(R.all (zom D)&&(((gP R 0).ps.length==0)&&((gP R 0).r==0)))))
theorem zwv (D:List DM) (x:PM) (hx:POk x):zkw [.cell (.sl 3 (zag D)),.cell (.sl 1 (zae x.ps)),.cell (.int x.r)]=rB (zom D x):=by
 refine zo3 ?_
 rw[zac];unfold zom;by_cases h:x.ps.length≤3
 ·rw[decide_eq_true h]
  refine zab (decide_eq_true (by omega)) (zas (zlz D _ hx.ps.len) ?_)
  rcases x.ps.all (zeb D) with _|_
  ·exact zaa rfl rfl
  ·exact zab rfl (zas (zkZ D _) rfl)
 ·rw[decide_eq_false h]
  exact zaa (decide_eq_false (by omega)) rfl
theorem zgj (D:List DM) (R:List PM) (hD:∀d∈D,DOk d) (hR:∀x∈R,POk x) (hl:D.length≤zaS):zgz [.agg [.sl 3 (zag D),.sl 5 (zao R)]]=rB (ziI D R):=by
 refine zog (zas (zus D hD hl) ?_)
 unfold ziI;rcases zfJ D with _|_
 ·exact zab rfl rfl
 refine zaa rfl ?_
 rw[za1];by_cases h1:1≤R.length
 rotate_left
 ·rw[decide_eq_false h1]
  exact zab (decide_eq_true (by omega)) rfl
 rw[decide_eq_true h1];refine zaa (decide_eq_false (by omega)) ?_
 by_cases h4:R.length≤4
 rotate_left
 ·rw[decide_eq_false h4]
  exact zab (decide_eq_true (by omega)) rfl
 rw[decide_eq_true h4];refine zaa (decide_eq_false (by omega)) ?_
 have key:∀m k:Nat,k+m=R.length→zer (zag D) (zao R) (zao R) ((R.length:Nat):Int) (k:Int)=rB ((R.drop k).all (zom D)&&(((gP R 0).ps.length==0)&&((gP R 0).r==0))):=by
  intro m;induction m with
  | zero =>
   intro k hk;rw[List.drop_eq_nil_of_le (by omega)]
   refine zhQ (zaa (decide_eq_false (by omega)) (zaQ (k:=0) rfl (by omega) ?_))
   rw[zac];by_cases h0:(gP R 0).ps.length=0
   ·exact zab (zr h0) (zaQ (k:=0) rfl (by omega) (by rw[h0];rfl))
   ·refine zaa (nz h0) ?_
    rw[show((gP R 0).ps.length==0)=false by simpa using h0]
    rfl
  | succ m ih =>
   intro k hk;have hlt:k<R.length:=by omega
   rw[zju hlt,zlv hlt];refine zhQ (zab (decide_eq_true (by omega)) (zaQ rfl hlt (zas (zwv D _ (hR _ (zhj hlt))) ?_)))
   rcases zom D (gP R k) with _|_
   ·exact zab rfl rfl
   ·exact zaa rfl (by rw[wrk (by unfold zaS;omega)];exact ih (k+1) (by omega))
 exact key R.length 0 (by omega)
theorem zoX (D:List DM) (R:List PM) (hD:∀d∈D,DOk d) (hR:∀x∈R,POk x) (hl:D.length≤zaS):zjn [.agg [.sl 3 (zag D),.sl 5 (zao R)]]=rB (ziI D R):=by
 refine zoz (zas (zuw D hD hl) ?_)
 unfold ziI;rcases zfJ D with _|_
 ·exact zab rfl rfl
 refine zaa rfl (zas (zfe _ _ _) ?_)
 rw[za1];by_cases h1:1≤R.length
 rotate_left
 ·rw[decide_eq_false h1,decide_eq_false (show ¬(1:Int)≤((R.length:Nat):Int) by omega)]
  exact zab rfl rfl
 rw[decide_eq_true h1,decide_eq_true (show(1:Int)≤((R.length:Nat):Int) by omega)]
 by_cases h4:R.length≤4
 rotate_left
 ·rw[decide_eq_false h4,decide_eq_false (show ¬((R.length:Nat):Int)≤4 by omega)]
  exact zab rfl rfl
 rw[decide_eq_true h4,decide_eq_true (show((R.length:Nat):Int)≤4 by omega)]
 refine zaa rfl ?_
 have key:∀m k:Nat,k+m=R.length→zeq (zag D) (zao R) (k:Int)=rB ((R.drop k).all (zom D)&&(((gP R 0).ps.length==0)&&((gP R 0).r==0))):=by
  intro m;induction m with
  | zero =>
   intro k hk;rw[List.drop_eq_nil_of_le (by omega)]
   refine zhH (zaa (decide_eq_false (by rw[za1];omega)) (zaQ (k:=0) rfl (by omega) ?_))
   rw[zac];by_cases h0:(gP R 0).ps.length=0
   ·exact zab (zr h0) (zaQ (k:=0) rfl (by omega) (by rw[h0];rfl))
   ·refine zaa (nz h0) ?_
    rw[show((gP R 0).ps.length==0)=false by simpa using h0]
    rfl
  | succ m ih =>
   intro k hk;have hlt:k<R.length:=by omega
   have hx:=hR _ (zhj hlt)
   rw[zju hlt,zlv hlt];refine zhH (zab (decide_eq_true (by rw[za1];omega)) (zaQ rfl hlt ?_))
   rw[zac];unfold zom;by_cases h3:(gP R k).ps.length≤3
   rotate_left
   ·rw[decide_eq_false h3]
    exact zab (decide_eq_true (by omega)) rfl
   rw[decide_eq_true h3];refine zaa (decide_eq_false (by omega)) (zas (zrw D _ hx.ps.len) ?_)
   rcases(gP R k).ps.all (zeb D) with _|_
   ·exact zab rfl rfl
   refine zaa rfl (zas (zuy D _) ?_)
   rcases zeb D (gP R k).r with _|_
   ·exact zab rfl rfl
   ·exact zaa rfl (by rw[wrk (by unfold zaS;omega)];exact ih (k+1) (by omega))
 exact key R.length 0 (by omega)
end
section
open Go
structure CP (D:List DM) (R:List PM):Prop where
 dv:DV D
 rl:R.length≤4
 rok:∀x∈R,POk x
 ps:∀k,k<R.length→(gP R k).ps.length≤3∧∀t∈(gP R k).ps,0≤t∧t≤D.length
 r:∀k,k<R.length→0≤(gP R k).r∧(gP R k).r≤D.length
theorem zGs {D:List DM}{R:List PM} (hR:∀x∈R,POk x) (h:ziI D R=true):CP D R:=by
 simp only[ziI,Bool.and_eq_true,decide_eq_true_eq,List.all_eq_true] at h;obtain⟨h2,h3,h4,h5,h6⟩:=h;refine⟨zEZ h2,h4,hR,fun k hk=>?_,fun k hk=>?_⟩
 ·have:=h5 _ (zhj hk)
  simp only[zom,Bool.and_eq_true,decide_eq_true_eq,List.all_eq_true] at this;exact⟨this.1,fun t ht=>isTy_iff.1 (this.2.1 t ht)⟩
 ·have:=h5 _ (zhj hk)
  simp only[zom,Bool.and_eq_true,decide_eq_true_eq,List.all_eq_true] at this;exact isTy_iff.1 this.2.2
def zum (ps:List Int):List Int:=ps.take (ps.length-1)
def zj7 (D:List DM) (R:List PM) (o n:Int) (T:List Int):Int :=
 if o=0 then(if(-999≤n∧n≤999)∧T.length=0 then 0 else -1)
 else if o=1∨o=2∨o=3∨o=4 then(if n=0∧T=[0,0] then 0 else -1)
 else if o=5 then(if n=0∧T=[0] then 0 else -1)
 else if o=6 then(if zf5 D n<0 then -1 else if T=fld D n then zf5 D n else -1)
 else if o=9 then(if 0≤n∧n<R.length then(if T=(gP R n.toNat).ps then(gP R n.toNat).r else -1) else -1)
 else if o=10 then(if 0≤n∧n<R.length then(if(gP R n.toNat).ps.length=0 then -1 else if T=zum (gP R n.toNat).ps then zhG ((gP R n.toNat).ps.getD ((gP R n.toNat).ps.length-1) 0) (gP R n.toNat).r D 0 else -1) else -1)
 else if o=11 then(if n=0 then(if T.length=2∧znt D (T.getD 0 0)=true∧T.getD 1 0=(gD D ((T.getD 0 0).toNat-1)).f then(gD D ((T.getD 0 0).toNat-1)).t else -1) else -1)
 else -1
section
variable {D:List DM}{R:List PM} (hv:CP D R)
include hv
theorem zBN {n:Int} (h:¬zf5 D n<0):(fld D n).length≤3∧∀t∈fld D n,0≤t∧t≤D.length:=by
 rcases zd0 (D:=D) n with h0|⟨j,i,hj,he,hc,hi,hf⟩
 ·omega
 rw[hf];exact hv.dv.c j hj _ (zaE hi [])
omit hv in
theorem znF (n:Int):zdX [.agg [.sl 3 (zag D),.sl 5 (zao R)],.cell (.int n)]=rB (decide (0≤n∧n<R.length)):=by
 refine zqU ?_
 rw[za1];by_cases h:0≤n
 ·refine zab (decide_eq_true h) ?_
  simp[h] <;> rfl
 ·refine zaa (decide_eq_false h) ?_
  simp[h] <;> rfl
theorem zsM (n:Int) (T:List Int) (hT:T.length≤zaS):zcK [.cell (.sl 3 (zag D)),.cell (.int n),.cell (.sl 1 (zae T))]=rI (if zf5 D n<0 then -1 else if T=fld D n then zf5 D n else -1):=by
 refine zng (zan (zqf hv.dv n) ?_)
 by_cases h:zf5 D n<0
 ·rw[if_pos h]
  exact zab (decide_eq_true h) rfl
 rw[if_neg h];refine zaa (decide_eq_false h) ?_
 have h1:1≤zf5 D n:=by
  rcases zd0 (D:=D) n with h0|⟨j,i,hj,he,_⟩ <;> omega
 refine zay (zto hv.dv h1) (zas (zjN T _ hT) (zan (zcV _ _) ?_))
 by_cases hq:T=fld D n <;> simp[hq] <;> rfl
omit hv in
theorem zqy (n:Int) (T:List Int) (hT:T.length≤zaS):zcq [.agg [.sl 3 (zag D),.sl 5 (zao R)],.cell (.int n),.cell (.sl 1 (zae T))]=rI (if 0≤n∧n<R.length then(if T=(gP R n.toNat).ps then(gP R n.toNat).r else -1) else -1):=by
 refine zmu (zas (znF n) ?_)
 by_cases h:0≤n∧n<R.length
 ·rw[if_pos h,decide_eq_true h]
  refine zaa rfl (zaQ (k:=n.toNat) (by omega) (by omega) (zas (zjN T _ hT) (zaQ (k:=n.toNat) (by omega) (by omega) (zan (zcV _ _) ?_))))
  by_cases hq:T=(gP R n.toNat).ps <;> simp[hq] <;> rfl
 ·rw[if_neg h,decide_eq_false h]
  exact zab rfl rfl
theorem zo6 (n:Int) (T:List Int) (hT:T.length≤zaS):zcf [.agg [.sl 3 (zag D),.sl 5 (zao R)],.cell (.int n),.cell (.sl 1 (zae T))]=rI (if 0≤n∧n<R.length then(if(gP R n.toNat).ps.length=0 then -1 else if T=zum (gP R n.toNat).ps then zhG ((gP R n.toNat).ps.getD ((gP R n.toNat).ps.length-1) 0) (gP R n.toNat).r D 0 else -1) else -1):=by
 have hl:=hv.dv.len
 refine zl3 (zas (znF n) ?_)
 by_cases h:0≤n∧n<R.length
 rotate_left
 ·rw[if_neg h,decide_eq_false h]
  exact zab rfl rfl
 rw[if_pos h,decide_eq_true h];refine zaa rfl (zaQ (k:=n.toNat) (by omega) (by omega) ?_)
 have hp:=(hv.ps n.toNat (by omega)).1
 rw[zac];by_cases h0:(gP R n.toNat).ps.length=0
 ·rw[if_pos h0]
  exact zab (zr h0) rfl
 rw[if_neg h0];refine zaa (nz h0) (zaQ (k:=n.toNat) (by omega) (by omega) ?_)
 have w:zad ((((zae (gP R n.toNat).ps).length:Nat):Int)-1)=(((gP R n.toNat).ps.length-1:Nat):Int):=by
  rw[zac,wr (by omega) (by omega)]
  omega
 rw[w];refine zyb (by omega) (by omega) (by rw[zac];omega) ?_
 rw[show((zae (gP R n.toNat).ps).drop (0:Int).toNat).take ((((gP R n.toNat).ps.length-1:Nat):Int).toNat-(0:Int).toNat)=zae (zum (gP R n.toNat).ps) by simp[zum,zr4]]
 refine zas (zjN T _ hT) (zjU rfl (by omega) (zaQ (k:=n.toNat) (by omega) (by omega) (zan (zxT D (by omega) _ _) (zan (zcV _ _) ?_))))
 by_cases hq:T=zum (gP R n.toNat).ps <;> simp[hq] <;> rfl
theorem zpE (T:List Int):zcc [.cell (.sl 3 (zag D)),.cell (.sl 1 (zae T))]=rI (if T.length=2∧znt D (T.getD 0 0)=true∧T.getD 1 0=(gD D ((T.getD 0 0).toNat-1)).f then(gD D ((T.getD 0 0).toNat-1)).t else -1):=by
 have hl:=hv.dv.len
 refine zl4 ?_
 rw[zac];by_cases h2:T.length=2
 rotate_left
 ·rw[if_neg (fun h=>h2 h.1)]
  exact zab (net (by omega)) rfl
 refine zaa (nef (by omega)) (zjU (k:=0) rfl (by omega) (zas (zzj (by omega) _) ?_))
 rcases ha:znt D (T.getD 0 0) with _|_
 ·rw[if_neg (fun h=>by cases h.2.1)]
  exact zab rfl rfl
 have hb:0<T.getD 0 0∧T.getD 0 0≤D.length:=by
  simp only[znt,Bool.and_eq_true,decide_eq_true_eq] at ha;exact⟨ha.1,(isTy_iff.1 ha.2.1).2⟩
 refine zaa rfl (zjU (k:=0) rfl (by omega) (zba (k:=(T.getD 0 0).toNat-1) (by rw[wr (by omega) (by omega)];omega) (by omega) (zjU (k:=1) rfl (by omega) (zan (zcV _ _) ?_))))
 by_cases hq:T.getD 1 0=(gD D ((T.getD 0 0).toNat-1)).f
 ·rw[if_pos (show T.length=2∧true=true∧T.getD 1 0=(gD D ((T.getD 0 0).toNat-1)).f from ⟨h2,rfl,hq⟩),eqt hq];rfl
 ·rw[if_neg (show ¬(T.length=2∧true=true∧T.getD 1 0=(gD D ((T.getD 0 0).toNat-1)).f) from fun h=>hq h.2.2),eqf hq];rfl
omit hv in
theorem zvh (T:List Int) (hT:T.length≤zaS) (n:Int) {X:Option AV} (h:X=(bif (n==0) then
    zaM (zbp [.cell (.sl 1 (zae T)),.cell (.sl 1 [[.int 0],[.int 0]])]) false [(false,[.bool false])] fun b9 =>
    zaM (zat [.cell (.bool b9),.cell (.int 0)]) false [(false,[.int 0])] fun n10 =>
    some (.v (.cell (.int n10)))
   else
    zaM (zat [.cell (.bool false),.cell (.int 0)]) false [(false,[.int 0])] fun n11 =>
    some (.v (.cell (.int n11))))):X=rI (if n=0∧T=[0,0] then 0 else -1):=by
 rw[h];by_cases h0:n=0
 ·refine zab (eqt h0) (zas (zjN T [0,0] hT) (zan (zcV _ _) ?_))
  by_cases hq:T=[0,0] <;> simp[hq,h0] <;> rfl
 ·refine zaa (eqf h0) (zan (zcV _ _) ?_)
  simp[h0] <;> rfl
theorem zqg (o n:Int) (T:List Int) (hT:T.length≤zaS):zku [.agg [.sl 3 (zag D),.sl 5 (zao R)],.cell (.int o),.cell (.int n),.cell (.sl 1 (zae T))]=rI (zj7 D R o n T):=by
 refine zpl ?_
 unfold zj7;by_cases h0:o=0
 ·rw[if_pos h0]
  refine zab (eqt h0) ?_
  by_cases h1:-999≤n
  ·refine zab (decide_eq_true h1) ?_
   by_cases h2:n≤999
   ·refine zab (decide_eq_true h2) (zan (zcV _ _) ?_)
    rw[zac];by_cases h3:T.length=0
    ·rw[if_pos (show(-999≤n∧n≤999)∧T.length=0 from ⟨⟨h1,h2⟩,h3⟩),zr h3];rfl
    ·rw[if_neg (show ¬((-999≤n∧n≤999)∧T.length=0) from fun h=>h3 h.2),nz h3];rfl
   ·refine zaa (decide_eq_false h2) (zan (zcV _ _) ?_)
    rw[if_neg (show ¬((-999≤n∧n≤999)∧T.length=0) from fun h=>h2 h.1.2)];rfl
  ·refine zaa (decide_eq_false h1) (zan (zcV _ _) ?_)
   rw[if_neg (show ¬((-999≤n∧n≤999)∧T.length=0) from fun h=>h1 h.1.1)];rfl
 rw[if_neg h0];refine zaa (eqf h0) ?_
 by_cases h1:o=1
 ·subst h1
  rw[if_pos (.inl rfl)];exact zab rfl (zab rfl (zvh T hT n rfl))
 refine zaa (eqf h1) ?_
 by_cases h2:o=2
 ·subst h2
  rw[if_pos (.inr (.inl rfl))];exact zab rfl (zab rfl (zvh T hT n rfl))
 refine zaa (eqf h2) ?_
 by_cases h3:o=3
 ·subst h3
  rw[if_pos (.inr (.inr (.inl rfl)))];exact zab rfl (zab rfl (zvh T hT n rfl))
 refine zaa (eqf h3) ?_
 by_cases h4:o=4
 ·subst h4
  rw[if_pos (.inr (.inr (.inr rfl)))];exact zab rfl (zvh T hT n rfl)
 refine zaa (eqf h4) ?_
 rw[if_neg (fun h=>by rcases h with h|h|h|h <;> contradiction)]
 by_cases h5:o=5
 ·rw[if_pos h5]
  refine zab (eqt h5) ?_
  by_cases hn:n=0
  ·refine zab (eqt hn) (zas (zjN T [0] hT) (zan (zcV _ _) ?_))
   by_cases hq:T=[0] <;> simp[hq,hn] <;> rfl
  ·refine zaa (eqf hn) (zan (zcV _ _) ?_)
   simp[hn] <;> rfl
 rw[if_neg h5];refine zaa (eqf h5) ?_
 by_cases h6:o=6
 ·rw[if_pos h6]
  exact zab (eqt h6) (zan (zsM hv n T hT) rfl)
 rw[if_neg h6];refine zaa (eqf h6) ?_
 by_cases h9:o=9
 ·rw[if_pos h9]
  exact zab (eqt h9) (zan (zqy n T hT) rfl)
 rw[if_neg h9];refine zaa (eqf h9) ?_
 by_cases h10:o=10
 ·rw[if_pos h10]
  exact zab (eqt h10) (zan (zo6 hv n T hT) rfl)
 rw[if_neg h10];refine zaa (eqf h10) ?_
 by_cases h11:o=11
 ·rw[if_pos h11]
  refine zab (eqt h11) ?_
  by_cases hn:n=0
  ·rw[if_pos hn]
   exact zaa (nef hn) (zan (zpE hv T) rfl)
  ·rw[if_neg hn]
   exact zab (net hn) rfl
 rw[if_neg h11];exact zaa (eqf h11) rfl
end
end
section
open Go
def okT (D:List DM) (t:Int):Prop:=t=-1∨(0≤t∧t≤D.length)
theorem zxQ (f t:Int):∀(D:List DM) (k:Nat),zhG f t D k=-1∨(0≤zhG f t D k∧zhG f t D k≤((k+D.length:Nat):Int))
 | [],_=>.inl rfl
 | d::ds,k=>by
  unfold zhG;split
  ·right;simp only[List.length_cons];omega
  ·have:=zxQ f t ds (k+1)
   simp only[List.length_cons];omega
section
variable {D:List DM}{R:List PM}
theorem zxY (hv:CP D R) (o n:Int) (T:List Int):okT D (zj7 D R o n T):=by
 unfold okT zj7;split
 ·split <;> omega
 split
 ·split <;> omega
 split
 ·split <;> omega
 split
 ·rcases zd0 (D:=D) n with h0|⟨j,i,hj,he,_⟩
  ·rw[h0];simp
  ·split
   ·omega
   ·split <;> omega
 split
 ·split
  ·have:=hv.r n.toNat (by omega)
   split <;> omega
  ·omega
 split
 ·split
  ·split
   ·omega
   ·split
    ·have:=zxQ ((gP R n.toNat).ps.getD ((gP R n.toNat).ps.length-1) 0) (gP R n.toNat).r D 0
     rw[Nat.zero_add] at this;exact this
    ·omega
  ·omega
 split
 ·split
  ·split
   ·rename_i hc
    have hb:(0<T.getD 0 0∧T.getD 0 0≤D.length)∧(gD D ((T.getD 0 0).toNat-1)).cs.length=0:=by
     have hi:=hc.2.1
     simp only[znt,Bool.and_eq_true,decide_eq_true_eq,beq_iff_eq] at hi;exact⟨⟨hi.1,(isTy_iff.1 hi.2.1).2⟩,hi.2.2⟩
    have:=(hv.dv.arr ((T.getD 0 0).toNat-1) (by omega) hb.2).2
    omega
   ·omega
  ·omega
 ·omega
end
theorem zsF {ρ:Type}{r:ρ}{x:Option AV}{a0:List (List AC)}{a1:List (List AC)} (h:x=some (.v (.agg [.sl 1 a0,.sl 1 a1]))) {K:Fn (Option ρ) (za5 [(true,[.sl 1 [],.sl 1 []])])} (h2:(K:List (List AC)→List (List AC)→Option ρ) a0 a1=some r):zaM x false [(true,[.sl 1 [],.sl 1 []])] K=some r:=by rw[h];exact h2
def cL (D:List DM) (j:Nat):List Int:=(List.range (gD D j).cs.length).map fun i=>((zbs (D.take j)+i:Nat):Int)
theorem zkC (D:List DM) (j:Nat):(cL D j).length=(gD D j).cs.length:=by simp[cL]
theorem zuM {D:List DM}{j k:Nat} (h:k<(gD D j).cs.length):(cL D j).getD k 0=((zbs (D.take j)+k:Nat):Int):=by
 simp[cL,List.getD,h]
theorem zrK {D:List DM} (hv:DV D) (n:Int):zcl [.cell (.sl 3 (zag D)),.cell (.int n)]=rL (if 1≤n∧n≤D.length then cL D (n.toNat-1) else[]):=by
 have hD:=hv.len
 refine zma (zas (zfe _ _ _) ?_)
 rw[zaY];by_cases h:1≤n∧n≤D.length
 rotate_left
 ·rw[if_neg h]
  refine zab ?_ rfl
  rw[Bool.not_eq_true',Bool.and_eq_false_iff,decide_eq_false_iff_not,decide_eq_false_iff_not];omega
 rw[if_pos h,decide_eq_true h.1,decide_eq_true h.2];refine zaa rfl ?_
 have hj:n.toNat-1<D.length:=by omega
 have w:zad (n-1)=((n.toNat-1:Nat):Int):=by rw[wr (by omega) (by omega)];omega
 generalize n.toNat-1=j at hj w ⊢
 have hc:=hv.cs j hj
 have hs:=zfK hv.cs j (by omega)
 have key:∀m k:Nat,k+m=(gD D j).cs.length→zeL (zag D) n (zae ((cL D j).take k)) (k:Int)=rL (cL D j):=by
  intro m;induction m with
  | zero =>
   intro k hk;refine zeB (zba (k:=j) w hj (zaa (decide_eq_false (by rw[zaL];omega)) ?_))
   rw[List.take_of_length_le (by rw[zkC];omega)]
  | succ m ih =>
   intro k hk;refine zeB (zba (k:=j) w hj (zab (decide_eq_true (by rw[zaL];omega)) ?_))
   rw[w];refine zan (zjz hv (k:=j) (by omega)) (zbu (by rw[zac,List.length_take,zkC];simp;omega) ?_)
   have hlt:k<(cL D j).length:=by rw[zkC];omega
   have e:=zoI hlt
   have e2:(cL D j)[k]=((zbs (D.take j)+k:Nat):Int):=by
    have:=zuM (D:=D) (j:=j) (k:=k) (by omega)
    rw[←this];simp[List.getD,hlt]
   rw[e2] at e;rw[wr (n:=((zbs (D.take j):Nat):Int)+(k:Int)) (by omega) (by omega),←Int.natCast_add,e,wrk (by unfold zaS;omega)]
   exact ih (k+1) (by omega)
 exact key (gD D j).cs.length 0 (by omega)
def chk (T:Nat→Int) (t0:Int):Nat→Nat→Int
 | 0,_=>t0
 | m+1,k=>if T k=t0 then chk T t0 m (k+1) else -1
theorem zzU {D:List DM}{T:Nat→Int}{t0:Int} (h:okT D t0):∀m k,okT D (chk T t0 m k)
 | 0,_=>h
 | m+1,k=>by
  unfold chk;split
  ·exact zzU h m (k+1)
  ·exact .inl rfl
end
end Go.Proofs.YtkgbadeobdbinaaGreat
