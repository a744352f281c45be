/- Generic texts and models for the proofs of this seat: part 24. -/
import Derived.Test.YtkgbadeobdbinaaGreatZ23
set_option linter.unusedVariables false
set_option linter.unusedSimpArgs false
namespace Go.Proofs.YtkgbadeobdbinaaGreat
section
open Go
structure DV (D:List DM):Prop where
 len:D.length≤4
 cs:∀k,k<D.length→(gD D k).cs.length≤3
 c:∀k,k<D.length→∀c∈(gD D k).cs,c.length≤3∧∀x∈c,0≤x∧x≤D.length
 arr:∀k,k<D.length→(gD D k).cs.length=0→(0≤(gD D k).f∧(gD D k).f≤D.length)∧(0≤(gD D k).t∧(gD D k).t≤D.length)
theorem isTy_iff {D:List DM}{t:Int}:zed D t=true↔0≤t∧t≤D.length:=by simp[zed]
theorem zFB {D:List DM} (h:zfJ D=true):DV D:=by
 simp only[zfJ,Bool.and_eq_true,decide_eq_true_eq,List.all_eq_true,List.mem_range] at h;obtain⟨h1,h2⟩:=h;refine⟨h1,fun k hk=>?_,fun k hk c hc=>?_,fun k hk h0=>?_⟩
 ·have:=h2 k hk
  unfold zmo at this;split at this
  ·simp only[Bool.and_eq_true,decide_eq_true_eq] at this;exact this.1
  ·omega
 ·have:=h2 k hk
  unfold zmo at this;have hpos:0<(gD D k).cs.length:=List.length_pos_of_mem hc
  rw[if_pos hpos] at this;simp only[Bool.and_eq_true,List.all_eq_true,zlt,decide_eq_true_eq] at this;obtain⟨g1,g2⟩:=this.2.2.2 c hc;exact⟨g1,fun x hx=>isTy_iff.1 (g2 x hx)⟩
 ·have:=h2 k hk
  unfold zmo at this;rw[if_neg (by omega)] at this
  simp only[Bool.and_eq_true] at this;exact⟨isTy_iff.1 this.1,isTy_iff.1 this.2.1⟩
def zbG:List DM→Nat
 | []=>0
 | d::ds=>d.cs.length+zbG ds
theorem zwk (a b:List DM):zbG (a++b)=zbG a+zbG b:=by
 induction a with
 | nil=>simp[zbG]
 | cons x a ih=>simp only[List.cons_append,zbG,ih];omega
theorem zlr {D:List DM}{k:Nat} (h:k<D.length):zbG (D.take (k+1))=zbG (D.take k)+(gD D k).cs.length:=by
 rw[List.take_succ_eq_append_getElem h,zwk,zl3 h];simp[zbG]
theorem zh0 {D:List DM} (h:∀k,k<D.length→(gD D k).cs.length≤3):∀k,k≤D.length→zbG (D.take k)≤3*k
 | 0,_=>by simp[zbG]
 | k+1,hk=>by
  rw[zlr (by omega)]
  have:=zh0 h k (by omega)
  have:=h k (by omega)
  omega
theorem zFj {D:List DM}{k j:Nat} (h:j<k) (hk:k≤D.length):gD (D.take k) j=gD D j:=by
 rw[←zl3 (D:=D.take k) (by rw[List.length_take];omega),←zl3 (D:=D) (by omega),List.getElem_take]
theorem zlU {D:List DM} (hv:DV D) {k:Nat} (hk:k≤D.length):zfI [.cell (.sl 3 (zaf D)),.cell (.int (k:Int))]=rI (zbG (D.take k)):=by
 have h4:=hv.len
 have key:∀m j:Nat,j+m=k→ze9 (zaf D) (k:Int) ((zbG (D.take j):Nat):Int) (j:Int)=rI (zbG (D.take k)):=by
  intro m;induction m with
  | zero=>intro j hj;exact zi3 (zaa (decide_eq_false (by omega)) (by rw[show j=k by omega]))
  | succ m ih =>
   intro j hj;have hlt:j<D.length:=by omega
   have h1:=zh0 hv.cs j (by omega)
   have h2:=hv.cs j hlt
   refine zi3 (zac (decide_eq_true (by omega)) (za5 rfl hlt ?_))
   rw[zaK,wr (by omega) (by omega),wrk (by unfold zaI;omega)]
   have:=ih (j+1) (by omega)
   rw[zlr hlt] at this
   change @Eq (Option AV) _ _
   simpa using this
 exact zp3 (key k 0 (by omega))
theorem zwq {D:List DM} (h4:D.length≤4) (h3:∀k,k<D.length→(gD D k).cs.length≤3):zjY [.cell (.sl 3 (zaf D))]=rI (zbG D):=by
 have key:∀m j:Nat,j+m=D.length→zeF ((zbG (D.take j):Nat):Int) (zaf D) (((zaf D).length:Nat):Int) (j:Int)=rI (zbG D):=by
  intro m;induction m with
  | zero=>intro j hj;exact zia (zaa (decide_eq_false (by rw[zaU];omega)) (by rw[List.take_of_length_le (by omega)]))
  | succ m ih =>
   intro j hj;have hlt:j<D.length:=by omega
   have h1:=zh0 h3 j (by omega)
   have h2:=h3 j hlt
   refine zia (zac (decide_eq_true (by rw[zaU];omega)) (za5 rfl hlt ?_))
   rw[zaK,wr (by omega) (by omega),wrk (by unfold zaI;omega)]
   have:=ih (j+1) (by omega)
   rw[zlr hlt] at this
   change @Eq (Option AV) _ _
   simpa using this
 exact zoZ (key D.length 0 (by omega))
theorem zxo {D:List DM} (hv:DV D) {k:Nat} (hk:k≤D.length):zli [.cell (.sl 3 (zaf D)),.cell (.int ((k:Int)+1))]=rI (zbG (D.take k)):=by
 have h4:=hv.len
 have w:zae (((k:Int)+1)-1)=(k:Int):=by rw[wr (by omega) (by omega)];omega
 refine zpp ?_
 rw[w];refine zyS (by omega) (by omega) (by rw[zaU];omega) ?_
 rw[show(((zaf D).drop (0:Int).toNat).take ((k:Int).toNat-(0:Int).toNat))=zaf (D.take k) by simp[zsL]]
 exact zar (zwq (by rw[List.length_take];omega) (fun j hj=>by rw[List.length_take] at hj;rw[zFj (by omega) hk];exact hv.cs j (by omega))) rfl
def zpK (c:Int):List DM→Nat→Nat→Int
 | [],_,_=>-1
 | d::ds,first,k=>if(first:Int)≤c∧c<(first:Int)+d.cs.length then((k+1:Nat):Int) else zpK c ds (first+d.cs.length) (k+1)
def zjr (D:List DM) (c:Int):Int:=zpK c D 0 0
theorem zqz {D:List DM} (hv:DV D) (c:Int):zgt [.cell (.sl 3 (zaf D)),.cell (.int c)]=rI (zjr D c):=by
 have h4:=hv.len
 have key:∀m k:Nat,k+m=D.length→zcq c ((zbG (D.take k):Nat):Int) (zaf D) (((zaf D).length:Nat):Int) (k:Int)=rI (zpK c (D.drop k) (zbG (D.take k)) k):=by
  intro m;induction m with
  | zero=>intro k hk;exact ziv (zaa (decide_eq_false (by rw[zaU];omega)) (by rw[List.drop_eq_nil_of_le (by omega)];rfl))
  | succ m ih =>
   intro k hk;have hlt:k<D.length:=by omega
   have h1:=zh0 hv.cs k (by omega)
   have h2:=hv.cs k hlt
   have nx:=ih (k+1) (by omega)
   rw[zlr hlt] at nx;rw[List.drop_eq_getElem_cons hlt,zl3 hlt];unfold zpK;refine ziv (zac (decide_eq_true (by rw[zaU];omega)) (za5 rfl hlt ?_))
   rw[zaK,wr (n:=((zbG (D.take k):Nat):Int)+((gD D k).cs.length:Nat)) (by omega) (by omega),wrk (by unfold zaI;omega)]
   have nx':zcq c (((zbG (D.take k):Nat):Int)+(((gD D k).cs.length:Nat):Int)) (zaf D) (((zaf D).length:Nat):Int) ((k+1:Nat):Int)=rI (zpK c (D.drop (k+1)) (zbG (D.take k)+(gD D k).cs.length) (k+1)):=by simpa using nx
   by_cases g1:((zbG (D.take k):Nat):Int)≤c
   ·refine zac (decide_eq_true g1) ?_
    by_cases g2:c<((zbG (D.take k):Nat):Int)+((gD D k).cs.length:Nat)
    ·rw[if_pos ⟨g1,g2⟩]
     exact zac (decide_eq_true g2) rfl
    ·rw[if_neg (fun h=>g2 h.2)]
     exact zaa (decide_eq_false g2) nx'
   ·rw[if_neg (fun h=>g1 h.1)]
    exact zaa (decide_eq_false g1) nx'
 exact zoz (key D.length 0 (by omega))
theorem zpX {D:List DM} (hv:DV D) (c:Int):zgL [.cell (.sl 3 (zaf D)),.cell (.int c)]=rI (zjr D c):=by
 have h4:=hv.len
 have key:∀m k:Nat,k+m=D.length→zfR (zaf D) c (k:Int)=rI (zpK c (D.drop k) (zbG (D.take k)) k):=by
  intro m;induction m with
  | zero=>intro k hk;exact zkx (zaa (decide_eq_false (by rw[zaU];omega)) (by rw[List.drop_eq_nil_of_le (by omega)];rfl))
  | succ m ih =>
   intro k hk;have hlt:k<D.length:=by omega
   have h1:=zh0 hv.cs k (by omega)
   have h2:=hv.cs k hlt
   have nx:=ih (k+1) (by omega)
   rw[zlr hlt] at nx;rw[List.drop_eq_getElem_cons hlt,zl3 hlt];unfold zpK;refine zkx (zac (decide_eq_true (by rw[zaU];omega)) (zar (zlU hv (by omega)) (za5 rfl hlt ?_)))
   rw[zaK,wr (n:=((zbG (D.take k):Nat):Int)+((gD D k).cs.length:Nat)) (by omega) (by omega),wr (n:=((zbG (D.take k):Nat):Int)+((gD D k).cs.length:Nat)-1) (by omega) (by omega),wrk (by unfold zaI;omega)]
   refine zan (zdF _ _ _) ?_
   by_cases g1:((zbG (D.take k):Nat):Int)≤c
   ·rw[decide_eq_true g1]
    by_cases g2:c<((zbG (D.take k):Nat):Int)+((gD D k).cs.length:Nat)
    ·rw[if_pos ⟨g1,g2⟩,decide_eq_true (show c≤((zbG (D.take k):Nat):Int)+((gD D k).cs.length:Nat)-1 by omega)]
     exact zac rfl rfl
    ·rw[if_neg (fun h=>g2 h.2),decide_eq_false (show ¬c≤((zbG (D.take k):Nat):Int)+((gD D k).cs.length:Nat)-1 by omega)]
     exact zaa rfl nx
   ·rw[if_neg (fun h=>g1 h.1),decide_eq_false g1]
    exact zaa rfl nx
 exact zqO (key D.length 0 (by omega))
theorem zum (c:Int):∀(ds:List DM) (first k:Nat),zpK c ds first k=-1∨∃j,j<ds.length∧zpK c ds first k=((k+j+1:Nat):Int)∧((first+zbG (ds.take j):Nat):Int)≤c∧c<((first+zbG (ds.take j):Nat):Int)+(gD ds j).cs.length
 | [],first,k=>.inl rfl
 | d::ds,first,k=>by
  unfold zpK;split
  ·rename_i h
   exact .inr ⟨0,by simp,by simp,by simpa [zbG] using h.1,by simpa [zbG,gD] using h.2⟩
  ·rcases zum c ds (first+d.cs.length) (k+1) with h|⟨j,h1,h2,h3,h4⟩
   ·exact .inl h
   ·refine .inr ⟨j+1,by simpa using h1,by rw[h2];congr 1;omega,?_,?_⟩
    ·simp only[List.take_succ_cons,zbG];omega
    ·simp only[List.take_succ_cons,zbG]
     have:gD (d::ds) (j+1)=gD ds j:=by simp[gD]
     rw[this];omega
theorem zvX:∀(ds:List DM) (first k j i:Nat),j<ds.length→i<(gD ds j).cs.length→zpK ((first+zbG (ds.take j)+i:Nat):Int) ds first k=((k+j+1:Nat):Int)
 | d::ds,first,k,0,i,_,hi=>by
  have hi':i<d.cs.length:=by simpa [gD] using hi
  unfold zpK;rw[if_pos (by simp[zbG];omega)]
  try simp
 | d::ds,first,k,j+1,i,hj,hi=>by
  have hi':i<(gD ds j).cs.length:=by simpa [gD] using hi
  unfold zpK;rw[if_neg (by simp only[List.take_succ_cons,zbG];omega)]
  have:=zvX ds (first+d.cs.length) (k+1) j i (by simpa using hj) hi'
  rw[show first+zbG ((d::ds).take (j+1))+i=first+d.cs.length+zbG (ds.take j)+i by simp only[List.take_succ_cons,zbG];omega]
  exact this.trans (congrArg (fun n:Nat=>((n:Nat):Int)) (by omega))
 | [],_,_,_,_,h,_=>by simp at h
def fld (D:List DM) (c:Int):List Int:=(gD D ((zjr D c).toNat-1)).cs.getD (c-((zbG (D.take ((zjr D c).toNat-1)):Nat):Int)).toNat []
theorem zf1 {D:List DM} (c:Int):zjr D c=-1∨∃j i:Nat,j<D.length∧zjr D c=((j:Nat):Int)+1∧c=((zbG (D.take j)+i:Nat):Int)∧i<(gD D j).cs.length∧fld D c=(gD D j).cs.getD i []:=by
 rcases zum c D 0 0 with h|⟨j,h1,h2,h3,h4⟩
 ·exact .inl h
 ·have e:zjr D c=((j:Nat):Int)+1:=by unfold zjr;rw[h2];omega
  refine .inr ⟨j,(c-((zbG (D.take j):Nat):Int)).toNat,h1,e,by omega,by omega,?_⟩
  unfold fld;rw[e,show(((j:Nat):Int)+1).toNat-1=j by omega]
theorem zr7 {D:List DM}{j i:Nat} (hj:j<D.length) (hi:i<(gD D j).cs.length):zjr D ((zbG (D.take j)+i:Nat):Int)=((j:Nat):Int)+1∧fld D ((zbG (D.take j)+i:Nat):Int)=(gD D j).cs.getD i []:=by
 have h:=zvX D 0 0 j i hj hi
 rw[Nat.zero_add] at h;have e:zjr D ((zbG (D.take j)+i:Nat):Int)=((j:Nat):Int)+1:=by unfold zjr;rw[h];omega
 refine⟨e,?_⟩
 unfold fld;rw[e,show(((j:Nat):Int)+1).toNat-1=j by omega,show(((zbG (D.take j)+i:Nat):Int)-((zbG (D.take j):Nat):Int)).toNat=i by omega]
theorem zts {D:List DM} (hv:DV D) {c:Int} (h:1≤zjr D c):zht [.cell (.sl 3 (zaf D)),.cell (.int c)]=rL (fld D c):=by
 have h4:=hv.len
 rcases zf1 (D:=D) c with h0|⟨j,i,hj,he,hc,hi,hf⟩
 ·omega
 have h1:=zh0 hv.cs j (by omega)
 have h2:=hv.cs j hj
 refine znz (zar (zqz hv c) ?_)
 rw[he];refine za5 (k:=j) (by rw[wr (by omega) (by omega)];omega) hj (zar (zxo hv (by omega)) (zhP (k:=i) (by rw[hc,wr (by omega) (by omega)];omega) hi ?_))
 rw[hf]
theorem zh3 {D:List DM} (hv:DV D) (c:Int):zaF [.cell (.sl 3 (zaf D)),.cell (.int c)]=rL (if zjr D c<1 then[] else fld D c):=by
 have h4:=hv.len
 refine zos (zar (zpX hv c) ?_)
 rcases zf1 (D:=D) c with h0|⟨j,i,hj,he,hc,hi,hf⟩
 ·rw[h0]
  exact zac rfl rfl
 have h1:=zh0 hv.cs j (by omega)
 have h2:=hv.cs j hj
 rw[he,if_neg (by omega)]
 refine zaa (decide_eq_false (by omega)) ?_
 have w:zae (((j:Nat):Int)+1-1)=j:=by rw[wr (by omega) (by omega)];omega
 rw[w];refine za5 rfl hj (zar (zlU hv (by omega)) (zhP (k:=i) (by rw[hc,wr (by omega) (by omega)];omega) hi ?_))
 rw[hf]
theorem zs6 {D:List DM} (hl:D.length≤1000) (t:Int):zmP [.cell (.sl 3 (zaf D)),.cell (.int t)]=rB (zxt D t):=by
 refine zr8 ?_
 unfold zxt;by_cases h:0<t
 rotate_left
 ·rw[decide_eq_false h]
  exact zaa rfl rfl
 rw[decide_eq_true h];refine zac rfl (zan (zlm D t) ?_)
 rcases ht:zed D t with _|_
 ·exact zaa rfl rfl
 have:=isTy_iff.1 ht
 refine zac rfl (za5 (k:=t.toNat-1) (by rw[wr (by omega) (by omega)];omega) (by omega) ?_)
 rw[zaK];by_cases hc:0<(gD D (t.toNat-1)).cs.length
 ·rw[decide_eq_true hc,decide_eq_true (by omega)];rfl
 ·rw[decide_eq_false hc,decide_eq_false (by omega)];rfl
theorem zzx {D:List DM} (hl:D.length≤1000) (t:Int):zlT [.cell (.sl 3 (zaf D)),.cell (.int t)]=rB (zoi D t):=by
 refine zqV ?_
 unfold zoi;by_cases h:0<t
 rotate_left
 ·rw[decide_eq_false h]
  exact zaa rfl rfl
 rw[decide_eq_true h];refine zac rfl (zan (zlm D t) ?_)
 rcases ht:zed D t with _|_
 ·exact zaa rfl rfl
 have:=isTy_iff.1 ht
 refine zac rfl (za5 (k:=t.toNat-1) (by rw[wr (by omega) (by omega)];omega) (by omega) ?_)
 rw[zaK];by_cases hc:(gD D (t.toNat-1)).cs.length=0
 ·rw[zr hc,hc];rfl
 ·rw[nz hc,show((gD D (t.toNat-1)).cs.length==0)=false by simpa using hc];rfl
theorem zee {D:List DM} (hl:D.length≤1000) (t:Int):ze2 [.cell (.sl 3 (zaf D)),.cell (.int t)]=rB (zoi D t):=by
 refine zqQ (zan (zdF _ _ _) ?_)
 rw[zaU];unfold zoi;by_cases h:0<t
 rotate_left
 ·rw[decide_eq_false h,decide_eq_false (show ¬(1:Int)≤t by omega)]
  exact zaa rfl rfl
 rw[decide_eq_true h,decide_eq_true (show(1:Int)≤t by omega)]
 rcases ht:zed D t with _|_
 ·have:¬(t≤D.length):=fun hle=>by
   have:=isTy_iff.2 ⟨show 0≤t by omega,hle⟩
   rw[ht] at this;cases this
  rw[decide_eq_false this];exact zaa rfl rfl
 have:=isTy_iff.1 ht
 rw[decide_eq_true this.2];refine zac rfl (za5 (k:=t.toNat-1) (by rw[wr (by omega) (by omega)];omega) (by omega) ?_)
 rw[zaK];by_cases hc:(gD D (t.toNat-1)).cs.length=0
 ·rw[zr hc,hc];rfl
 ·rw[nz hc,show((gD D (t.toNat-1)).cs.length==0)=false by simpa using hc];rfl
def tv (V:List Int) (v:Int):Int:=if 0≤v∧v<V.length then V.getD v.toNat 0 else -1
theorem zqE (G M:List Int) (hG:G.length≤68719476736) (hM:M.length≤68719476736) {v:Int} (hv:inI v):zkf [.agg [.sl 1 (zad G),.sl 1 (zad M)],.cell (.int v)]=rI (tv (G++M) v):=by
 refine zot ?_
 rw[zab,zab];obtain⟨v1,v2⟩:=hv;unfold tv;rw[List.length_append];by_cases h0:v<0
 ·rw[if_neg (by omega)]
  exact zac (decide_eq_true h0) rfl
 refine zaa (decide_eq_false h0) ?_
 by_cases h1:v<G.length
 ·rw[if_pos (by omega)]
  refine zac (decide_eq_true h1) (zjV (k:=v.toNat) (by omega) (by omega) ?_)
  change @Eq (Option AV) _ _
  simp[List.getD,List.getElem?_append_left (show v.toNat<G.length by omega)]
 refine zaa (decide_eq_false h1) ?_
 have w:zae (v-G.length)=v-G.length:=wr (by omega) (by omega)
 rw[w];by_cases h2:v-G.length<M.length
 ·rw[if_pos (by omega)]
  refine zac (decide_eq_true h2) (zjV (k:=v.toNat-G.length) (by omega) (by omega) ?_)
  change @Eq (Option AV) _ _
  simp[List.getD,List.getElem?_append_right (show G.length≤v.toNat by omega)]
 ·rw[if_neg (by omega)]
  exact zaa (decide_eq_false h2) rfl
theorem zom {xs:List Int}{k:Nat} (h:k<xs.length):zad (xs.take k)++[[.int xs[k]]]=zad (xs.take (k+1)):=by
 show zad (xs.take k)++zad [xs[k]]=_
 rw[zjl,←List.take_succ_eq_append_getElem h]
theorem znU (xs:List Int) (hx:xs.length≤68719476736):zfA [.cell (.sl 1 (zad xs))]=rL xs:=by
 have key:∀m k:Nat,k+m=xs.length→zfe (zad (xs.take k)) (zad xs) (((zad xs).length:Nat):Int) (k:Int)=rL xs:=by
  intro m;induction m with
  | zero=>intro k hk;exact zi4 (zaa (decide_eq_false (by rw[zab];omega)) (by rw[List.take_of_length_le (by omega)]))
  | succ m ih =>
   intro k hk;have hlt:k<xs.length:=by omega
   refine zi4 (zac (decide_eq_true (by rw[zab];omega)) (za9 hlt (zbs (by rw[zab,List.length_take];simp;omega) ?_)))
   rw[zom hlt,wrk (by unfold zaI;omega)]
   exact ih (k+1) (by omega)
 exact zpF (key xs.length 0 (by omega))
theorem znQ (xs:List Int) (hx:xs.length≤68719476736):zfu [.cell (.sl 1 (zad xs))]=rL xs :=
 zpD (zbs (by rw[zab];simpa using hx) (by rw[List.nil_append]))
theorem zmM (xs ys:List Int) (hx:xs.length+ys.length≤68719476736):zbI [.cell (.sl 1 (zad xs)),.cell (.sl 1 (zad ys))]=rL (xs++ys) :=
 zr1 (zav (znQ xs (by omega)) (zbs (by rw[zab,zab];exact hx) (by rw[zjl])))
theorem zrN (G M xs:List Int) (hM:M.length+xs.length≤68719476736):zjB [.agg [.sl 1 (zad G),.sl 1 (zad M)],.cell (.sl 1 (zad xs))]=some (.v (.agg [.sl 1 (zad G),.sl 1 (zad (M++xs))])):=by
 have key:∀m k:Nat,k+m=xs.length→zjp (zad G) (zad M) [] [] (zad (M++xs.take k)) (zad xs) (((zad xs).length:Nat):Int) (k:Int)=some (.v (.agg [.sl 1 (zad G),.sl 1 (zad (M++xs))])):=by
  intro m;induction m with
  | zero=>intro k hk;exact zmm (zaa (decide_eq_false (by rw[zab];omega)) (by rw[List.take_of_length_le (by omega)]))
  | succ m ih =>
   intro k hk;have hlt:k<xs.length:=by omega
   refine zmm (zac (decide_eq_true (by rw[zab];omega)) (za9 hlt (zbs (by rw[zab,List.length_append,List.length_take];simp;omega) ?_)))
   rw[←zjl,List.append_assoc,zom hlt,zjl,wrk (by unfold zaI;omega)]
   exact ih (k+1) (by omega)
 refine zvy (zav (znU M (by omega)) ?_)
 have:=key xs.length 0 (by omega)
 rw[List.take_zero,List.append_nil] at this;exact this
theorem zj0 (xs ys:List Int) (hx:xs.length≤zaI):zbl [.cell (.sl 1 (zad xs)),.cell (.sl 1 (zad ys))]=rB (decide (xs=ys)):=by
 refine zqd ?_
 rw[zab,zab];by_cases hl:xs.length=ys.length
 rotate_left
 ·rw[decide_eq_false (fun h=>hl (by rw[h]))]
  exact zac (net (by omega)) rfl
 refine zaa (nef (by omega)) ?_
 have key:∀m k:Nat,k+m=xs.length→zfb (zad xs) (zad ys) ((xs.length:Nat):Int) (k:Int)=rB (decide (xs.drop k=ys.drop k)):=by
  intro m;induction m with
  | zero =>
   intro k hk;rw[List.drop_eq_nil_of_le (show xs.length≤k by omega),List.drop_eq_nil_of_le (show ys.length≤k by omega)]
   exact zi5 (zaa (decide_eq_false (by omega)) rfl)
  | succ m ih =>
   intro k hk;have h1:k<xs.length:=by omega
   have h2:k<ys.length:=by omega
   rw[List.drop_eq_getElem_cons h1,List.drop_eq_getElem_cons h2];refine zi5 (zac (decide_eq_true (by omega)) (za9 h1 (za9 h2 ?_)))
   by_cases he:xs[k]=ys[k]
   ·refine zaa (nef he) ?_
    rw[wrk (by omega),ih (k+1) (by omega)]
    change @Eq (Option AV) _ _
    simp only[List.cons.injEq,he,true_and]
   ·refine zac (net he) ?_
    rw[decide_eq_false (fun h=>he (List.cons.inj h).1)]
 exact key xs.length 0 (by omega)
theorem zc0 (b:Bool) (t:Int):zas [.cell (.bool b),.cell (.int t)]=rI (if b then t else -1):=by
 cases b
 ·exact zlB (zaa rfl rfl)
 ·exact zlB (zac rfl rfl)
end
section
open Go
structure PM where
 ps:List Int
 r:Int
 o:Int
 n:Int
 kids:List (List AC)
 deriving Inhabited
def pmC (x:PM):List AC:=[.sl 1 (zad x.ps),.int x.r,.int x.o,.int x.n,.sl 3 x.kids]
def zak (R:List PM):List (List AC):=R.map pmC
structure POk (x:PM):Prop where
 ps:zdv x.ps
 r:inI x.r
 b:Fit .expr [.int x.o,.int x.n,.sl 3 x.kids]
theorem zyR:∀{rs:List (List AC)},(∀d∈rs,Fit .func d)→∃R,rs=zak R∧∀d∈R,POk d
 | [],_=>⟨[],rfl,fun c h=>by cases h⟩
 | d::ds,h=>by
  obtain⟨R,rfl,hR⟩:=zyR fun x hx=>h x (List.mem_cons_of_mem _ hx)
  have h0:=h d List.mem_cons_self
  generalize ht:Ty.func=t at h0
  cases h0 with
  | func ps r o n kids hp hr hb =>
   refine⟨⟨ps,r,o,n,kids⟩::R,rfl,fun x hx=>?_⟩
   rcases List.mem_cons.1 hx with rfl|hx
   ·exact⟨hp,hr,hb⟩
   ·exact hR x hx
  | _=>cases ht
theorem zaA (R:List PM):(zak R).length=R.length:=by simp[zak]
def gP (R:List PM) (k:Nat):PM:=R.getD k default
theorem zf2 {R:List PM}{k:Nat} (h:k<R.length):gP R k∈R:=zaE h _
theorem zl7 {R:List PM}{k:Nat} (h:k<R.length):R[k]=gP R k:=by simp[gP,List.getD,h]
theorem zBZ {R:List PM}{k:Nat} (h:k<R.length):(zak R).getD k []=[.sl 1 (zad (gP R k).ps),.int (gP R k).r,.int (gP R k).o,.int (gP R k).n,.sl 3 (gP R k).kids]:=by simp[zak,List.getD,h,gP,pmC]
section
variable {ρ:Type}{r:ρ}
theorem zaB {R:List PM}{i:Int}{k:Nat} (hi:i=(k:Int)) (h:k<R.length) {K:Fn (Option ρ) [.sl 1 [],.int 0,.int 0,.int 0,.sl 3 []]}
  (h2:(K:List (List AC)→Int→Int→Int→List (List AC)→Option ρ) (zad (gP R k).ps) (gP R k).r (gP R k).o (gP R k).n (gP R k).kids=some r):zdM (zak R) i [.sl 1 [],.int 0,.int 0,.int 0,.sl 3 []] K=some r:=by
 subst hi;exact zvv (by rw[zaA];exact h) (zBZ h) h2
end
def zow (D:List DM) (x:PM):Bool:=decide (x.ps.length≤3)&&(x.ps.all (zed D)&&zed D x.r)
def zhi (D:List DM) (R:List PM):Bool:=zfJ D&&(decide (1≤R.length)&&(decide (R.length≤4)&&(R.all (zow D)&&(((gP R 0).ps.length==0)&&((gP R 0).r==0)))))
theorem zxh (D:List DM) (x:PM) (hx:POk x):zkY [.cell (.sl 3 (zaf D)),.cell (.sl 1 (zad x.ps)),.cell (.int x.r)]=rB (zow D x):=by
 refine zqc ?_
 rw[zab];unfold zow;by_cases h:x.ps.length≤3
 ·rw[decide_eq_true h]
  refine zac (decide_eq_true (by omega)) (zan (zlK D _ hx.ps.len) ?_)
  rcases x.ps.all (zed D) with _|_
  ·exact zaa rfl rfl
  ·exact zac rfl (zan (zlm D _) rfl)
 ·rw[decide_eq_false h]
  exact zaa (decide_eq_false (by omega)) rfl
theorem zgE (D:List DM) (R:List PM) (hD:∀d∈D,DOk d) (hR:∀x∈R,POk x) (hl:D.length≤zaI):zg4 [.agg [.sl 3 (zaf D),.sl 5 (zak R)]]=rB (zhi D R):=by
 refine zoT (zan (zvu D hD hl) ?_)
 unfold zhi;rcases zfJ D with _|_
 ·exact zac rfl rfl
 refine zaa rfl ?_
 rw[zaA];by_cases h1:1≤R.length
 rotate_left
 ·rw[decide_eq_false h1]
  exact zac (decide_eq_true (by omega)) rfl
 rw[decide_eq_true h1];refine zaa (decide_eq_false (by omega)) ?_
 by_cases h4:R.length≤4
 rotate_left
 ·rw[decide_eq_false h4]
  exact zac (decide_eq_true (by omega)) rfl
 rw[decide_eq_true h4];refine zaa (decide_eq_false (by omega)) ?_
 have key:∀m k:Nat,k+m=R.length→zek (zaf D) (zak R) (zak R) ((R.length:Nat):Int) (k:Int)=rB ((R.drop k).all (zow D)&&(((gP R 0).ps.length==0)&&((gP R 0).r==0))):=by
  intro m;induction m with
  | zero =>
   intro k hk;rw[List.drop_eq_nil_of_le (by omega)]
   refine ziu (zaa (decide_eq_false (by omega)) (zaB (k:=0) rfl (by omega) ?_))
   rw[zab];by_cases h0:(gP R 0).ps.length=0
   ·exact zac (zr h0) (zaB (k:=0) rfl (by omega) (by rw[h0];rfl))
   ·refine zaa (nz h0) ?_
    rw[show((gP R 0).ps.length==0)=false by simpa using h0]
    rfl
  | succ m ih =>
   intro k hk;have hlt:k<R.length:=by omega
   rw[zjN hlt,zl7 hlt];refine ziu (zac (decide_eq_true (by omega)) (zaB rfl hlt (zan (zxh D _ (hR _ (zf2 hlt))) ?_)))
   rcases zow D (gP R k) with _|_
   ·exact zac rfl rfl
   ·exact zaa rfl (by rw[wrk (by unfold zaI;omega)];exact ih (k+1) (by omega))
 exact key R.length 0 (by omega)
theorem zoG (D:List DM) (R:List PM) (hD:∀d∈D,DOk d) (hR:∀x∈R,POk x) (hl:D.length≤zaI):zjL [.agg [.sl 3 (zaf D),.sl 5 (zak R)]]=rB (zhi D R):=by
 refine zpf (zan (zuZ D hD hl) ?_)
 unfold zhi;rcases zfJ D with _|_
 ·exact zac rfl rfl
 refine zaa rfl (zan (zdF _ _ _) ?_)
 rw[zaA];by_cases h1:1≤R.length
 rotate_left
 ·rw[decide_eq_false h1,decide_eq_false (show ¬(1:Int)≤((R.length:Nat):Int) by omega)]
  exact zac rfl rfl
 rw[decide_eq_true h1,decide_eq_true (show(1:Int)≤((R.length:Nat):Int) by omega)]
 by_cases h4:R.length≤4
 rotate_left
 ·rw[decide_eq_false h4,decide_eq_false (show ¬((R.length:Nat):Int)≤4 by omega)]
  exact zac rfl rfl
 rw[decide_eq_true h4,decide_eq_true (show((R.length:Nat):Int)≤4 by omega)]
 refine zaa rfl ?_
 have key:∀m k:Nat,k+m=R.length→zev (zaf D) (zak R) (k:Int)=rB ((R.drop k).all (zow D)&&(((gP R 0).ps.length==0)&&((gP R 0).r==0))):=by
  intro m;induction m with
  | zero =>
   intro k hk;rw[List.drop_eq_nil_of_le (by omega)]
   refine zh7 (zaa (decide_eq_false (by rw[zaA];omega)) (zaB (k:=0) rfl (by omega) ?_))
   rw[zab];by_cases h0:(gP R 0).ps.length=0
   ·exact zac (zr h0) (zaB (k:=0) rfl (by omega) (by rw[h0];rfl))
   ·refine zaa (nz h0) ?_
    rw[show((gP R 0).ps.length==0)=false by simpa using h0]
    rfl
  | succ m ih =>
   intro k hk;have hlt:k<R.length:=by omega
   have hx:=hR _ (zf2 hlt)
   rw[zjN hlt,zl7 hlt];refine zh7 (zac (decide_eq_true (by rw[zaA];omega)) (zaB rfl hlt ?_))
   rw[zab];unfold zow;by_cases h3:(gP R k).ps.length≤3
   rotate_left
   ·rw[decide_eq_false h3]
    exact zac (decide_eq_true (by omega)) rfl
   rw[decide_eq_true h3];refine zaa (decide_eq_false (by omega)) (zan (zrZ D _ hx.ps.len) ?_)
   rcases(gP R k).ps.all (zed D) with _|_
   ·exact zac rfl rfl
   refine zaa rfl (zan (zu1 D _) ?_)
   rcases zed D (gP R k).r with _|_
   ·exact zac rfl rfl
   ·exact zaa rfl (by rw[wrk (by unfold zaI;omega)];exact ih (k+1) (by omega))
 exact key R.length 0 (by omega)
end
section
open Go
structure CP (D:List DM) (R:List PM):Prop where
 dv:DV D
 rl:R.length≤4
 rok:∀x∈R,POk x
 ps:∀k,k<R.length→(gP R k).ps.length≤3∧∀t∈(gP R k).ps,0≤t∧t≤D.length
 r:∀k,k<R.length→0≤(gP R k).r∧(gP R k).r≤D.length
theorem zHH {D:List DM}{R:List PM} (hR:∀x∈R,POk x) (h:zhi D R=true):CP D R:=by
 simp only[zhi,Bool.and_eq_true,decide_eq_true_eq,List.all_eq_true] at h;obtain⟨h2,h3,h4,h5,h6⟩:=h;refine⟨zFB h2,h4,hR,fun k hk=>?_,fun k hk=>?_⟩
 ·have:=h5 _ (zf2 hk)
  simp only[zow,Bool.and_eq_true,decide_eq_true_eq,List.all_eq_true] at this;exact⟨this.1,fun t ht=>isTy_iff.1 (this.2.1 t ht)⟩
 ·have:=h5 _ (zf2 hk)
  simp only[zow,Bool.and_eq_true,decide_eq_true_eq,List.all_eq_true] at this;exact isTy_iff.1 this.2.2
def zvr (ps:List Int):List Int:=ps.take (ps.length-1)
def zmp (D:List DM) (R:List PM) (o n:Int) (T:List Int):Int :=
 if o=0 then(if(-999≤n∧n≤999)∧T.length=0 then 0 else -1)
 else if o=1∨o=2∨o=3∨o=4 then(if n=0∧T=[0,0] then 0 else -1)
 else if o=5 then(if n=0∧T=[0] then 0 else -1)
 else if o=6 then(if zjr D n<0 then -1 else if T=fld D n then zjr D n else -1)
 else if o=9 then(if 0≤n∧n<R.length then(if T=(gP R n.toNat).ps then(gP R n.toNat).r else -1) else -1)
 else if o=10 then(if 0≤n∧n<R.length then(if(gP R n.toNat).ps.length=0 then -1 else if T=zvr (gP R n.toNat).ps then zh4 ((gP R n.toNat).ps.getD ((gP R n.toNat).ps.length-1) 0) (gP R n.toNat).r D 0 else -1) else -1)
 else if o=11 then(if n=0 then(if T.length=2∧zoi D (T.getD 0 0)=true∧T.getD 1 0=(gD D ((T.getD 0 0).toNat-1)).f then(gD D ((T.getD 0 0).toNat-1)).t else -1) else -1)
 else -1
section
variable {D:List DM}{R:List PM} (hv:CP D R)
include hv
theorem zCG {n:Int} (h:¬zjr D n<0):(fld D n).length≤3∧∀t∈fld D n,0≤t∧t≤D.length:=by
 rcases zf1 (D:=D) n with h0|⟨j,i,hj,he,hc,hi,hf⟩
 ·omega
 rw[hf];exact hv.dv.c j hj _ (zaE hi [])
omit hv in
theorem zoa (n:Int):zcf [.agg [.sl 3 (zaf D),.sl 5 (zak R)],.cell (.int n)]=rB (decide (0≤n∧n<R.length)):=by
 refine zri ?_
 rw[zaA];by_cases h:0≤n
 ·refine zac (decide_eq_true h) ?_
  simp[h] <;> rfl
 ·refine zaa (decide_eq_false h) ?_
  simp[h] <;> rfl
theorem zs3 (n:Int) (T:List Int) (hT:T.length≤zaI):zcK [.cell (.sl 3 (zaf D)),.cell (.int n),.cell (.sl 1 (zad T))]=rI (if zjr D n<0 then -1 else if T=fld D n then zjr D n else -1):=by
 refine znC (zar (zqz hv.dv n) ?_)
 by_cases h:zjr D n<0
 ·rw[if_pos h]
  exact zac (decide_eq_true h) rfl
 rw[if_neg h];refine zaa (decide_eq_false h) ?_
 have h1:1≤zjr D n:=by
  rcases zf1 (D:=D) n with h0|⟨j,i,hj,he,_⟩ <;> omega
 refine zav (zts hv.dv h1) (zan (zj0 T _ hT) (zar (zc0 _ _) ?_))
 by_cases hq:T=fld D n <;> simp[hq] <;> rfl
omit hv in
theorem zqZ (n:Int) (T:List Int) (hT:T.length≤zaI):zcr [.agg [.sl 3 (zaf D),.sl 5 (zak R)],.cell (.int n),.cell (.sl 1 (zad T))]=rI (if 0≤n∧n<R.length then(if T=(gP R n.toNat).ps then(gP R n.toNat).r else -1) else -1):=by
 refine zmA (zan (zoa n) ?_)
 by_cases h:0≤n∧n<R.length
 ·rw[if_pos h,decide_eq_true h]
  refine zaa rfl (zaB (k:=n.toNat) (by omega) (by omega) (zan (zj0 T _ hT) (zaB (k:=n.toNat) (by omega) (by omega) (zar (zc0 _ _) ?_))))
  by_cases hq:T=(gP R n.toNat).ps <;> simp[hq] <;> rfl
 ·rw[if_neg h,decide_eq_false h]
  exact zac rfl rfl
theorem zqi (n:Int) (T:List Int) (hT:T.length≤zaI):zcd [.agg [.sl 3 (zaf D),.sl 5 (zak R)],.cell (.int n),.cell (.sl 1 (zad T))]=rI (if 0≤n∧n<R.length then(if(gP R n.toNat).ps.length=0 then -1 else if T=zvr (gP R n.toNat).ps then zh4 ((gP R n.toNat).ps.getD ((gP R n.toNat).ps.length-1) 0) (gP R n.toNat).r D 0 else -1) else -1):=by
 have hl:=hv.dv.len
 refine zmr (zan (zoa n) ?_)
 by_cases h:0≤n∧n<R.length
 rotate_left
 ·rw[if_neg h,decide_eq_false h]
  exact zac rfl rfl
 rw[if_pos h,decide_eq_true h];refine zaa rfl (zaB (k:=n.toNat) (by omega) (by omega) ?_)
 have hp:=(hv.ps n.toNat (by omega)).1
 rw[zab];by_cases h0:(gP R n.toNat).ps.length=0
 ·rw[if_pos h0]
  exact zac (zr h0) rfl
 rw[if_neg h0];refine zaa (nz h0) (zaB (k:=n.toNat) (by omega) (by omega) ?_)
 have w:zae ((((zad (gP R n.toNat).ps).length:Nat):Int)-1)=(((gP R n.toNat).ps.length-1:Nat):Int):=by
  rw[zab,wr (by omega) (by omega)]
  omega
 rw[w];refine zyS (by omega) (by omega) (by rw[zab];omega) ?_
 rw[show((zad (gP R n.toNat).ps).drop (0:Int).toNat).take ((((gP R n.toNat).ps.length-1:Nat):Int).toNat-(0:Int).toNat)=zad (zvr (gP R n.toNat).ps) by simp[zvr,zrU]]
 refine zan (zj0 T _ hT) (zjV rfl (by omega) (zaB (k:=n.toNat) (by omega) (by omega) (zar (zyQ D (by omega) _ _) (zar (zc0 _ _) ?_))))
 by_cases hq:T=zvr (gP R n.toNat).ps <;> simp[hq] <;> rfl
theorem zpl (T:List Int):zb8 [.cell (.sl 3 (zaf D)),.cell (.sl 1 (zad T))]=rI (if T.length=2∧zoi D (T.getD 0 0)=true∧T.getD 1 0=(gD D ((T.getD 0 0).toNat-1)).f then(gD D ((T.getD 0 0).toNat-1)).t else -1):=by
 have hl:=hv.dv.len
 refine zmq ?_
 rw[zab];by_cases h2:T.length=2
 rotate_left
 ·rw[if_neg (fun h=>h2 h.1)]
  exact zac (net (by omega)) rfl
 refine zaa (nef (by omega)) (zjV (k:=0) rfl (by omega) (zan (zzx (by omega) _) ?_))
 rcases ha:zoi D (T.getD 0 0) with _|_
 ·rw[if_neg (fun h=>by cases h.2.1)]
  exact zac rfl rfl
 have hb:0<T.getD 0 0∧T.getD 0 0≤D.length:=by
  simp only[zoi,Bool.and_eq_true,decide_eq_true_eq] at ha;exact⟨ha.1,(isTy_iff.1 ha.2.1).2⟩
 refine zaa rfl (zjV (k:=0) rfl (by omega) (za5 (k:=(T.getD 0 0).toNat-1) (by rw[wr (by omega) (by omega)];omega) (by omega) (zjV (k:=1) rfl (by omega) (zar (zc0 _ _) ?_))))
 by_cases hq:T.getD 1 0=(gD D ((T.getD 0 0).toNat-1)).f
 ·rw[if_pos (show T.length=2∧true=true∧T.getD 1 0=(gD D ((T.getD 0 0).toNat-1)).f from ⟨h2,rfl,hq⟩),eqt hq];rfl
 ·rw[if_neg (show ¬(T.length=2∧true=true∧T.getD 1 0=(gD D ((T.getD 0 0).toNat-1)).f) from fun h=>hq h.2.2),eqf hq];rfl
omit hv in
theorem zvw (T:List Int) (hT:T.length≤zaI) (n:Int) {X:Option AV} (h:X=(bif (n==0) then
    zaC (zbl [.cell (.sl 1 (zad T)),.cell (.sl 1 [[.int 0],[.int 0]])]) false [(false,[.bool false])] fun b9 =>
    zaC (zas [.cell (.bool b9),.cell (.int 0)]) false [(false,[.int 0])] fun n10 =>
    some (.v (.cell (.int n10)))
   else
    zaC (zas [.cell (.bool false),.cell (.int 0)]) false [(false,[.int 0])] fun n11 =>
    some (.v (.cell (.int n11))))):X=rI (if n=0∧T=[0,0] then 0 else -1):=by
 rw[h];by_cases h0:n=0
 ·refine zac (eqt h0) (zan (zj0 T [0,0] hT) (zar (zc0 _ _) ?_))
  by_cases hq:T=[0,0] <;> simp[hq,h0] <;> rfl
 ·refine zaa (eqf h0) (zar (zc0 _ _) ?_)
  simp[h0] <;> rfl
theorem zqN (o n:Int) (T:List Int) (hT:T.length≤zaI):zk6 [.agg [.sl 3 (zaf D),.sl 5 (zak R)],.cell (.int o),.cell (.int n),.cell (.sl 1 (zad T))]=rI (zmp D R o n T):=by
 refine zpU ?_
 unfold zmp;by_cases h0:o=0
 ·rw[if_pos h0]
  refine zac (eqt h0) ?_
  by_cases h1:-999≤n
  ·refine zac (decide_eq_true h1) ?_
   by_cases h2:n≤999
   ·refine zac (decide_eq_true h2) (zar (zc0 _ _) ?_)
    rw[zab];by_cases h3:T.length=0
    ·rw[if_pos (show(-999≤n∧n≤999)∧T.length=0 from ⟨⟨h1,h2⟩,h3⟩),zr h3];rfl
    ·rw[if_neg (show ¬((-999≤n∧n≤999)∧T.length=0) from fun h=>h3 h.2),nz h3];rfl
   ·refine zaa (decide_eq_false h2) (zar (zc0 _ _) ?_)
    rw[if_neg (show ¬((-999≤n∧n≤999)∧T.length=0) from fun h=>h2 h.1.2)];rfl
  ·refine zaa (decide_eq_false h1) (zar (zc0 _ _) ?_)
   rw[if_neg (show ¬((-999≤n∧n≤999)∧T.length=0) from fun h=>h1 h.1.1)];rfl
 rw[if_neg h0];refine zaa (eqf h0) ?_
 by_cases h1:o=1
 ·subst h1
  rw[if_pos (.inl rfl)];exact zac rfl (zac rfl (zvw T hT n rfl))
 refine zaa (eqf h1) ?_
 by_cases h2:o=2
 ·subst h2
  rw[if_pos (.inr (.inl rfl))];exact zac rfl (zac rfl (zvw T hT n rfl))
 refine zaa (eqf h2) ?_
 by_cases h3:o=3
 ·subst h3
  rw[if_pos (.inr (.inr (.inl rfl)))];exact zac rfl (zac rfl (zvw T hT n rfl))
 refine zaa (eqf h3) ?_
 by_cases h4:o=4
 ·subst h4
  rw[if_pos (.inr (.inr (.inr rfl)))];exact zac rfl (zvw T hT n rfl)
 refine zaa (eqf h4) ?_
 rw[if_neg (fun h=>by rcases h with h|h|h|h <;> contradiction)]
 by_cases h5:o=5
 ·rw[if_pos h5]
  refine zac (eqt h5) ?_
  by_cases hn:n=0
  ·refine zac (eqt hn) (zan (zj0 T [0] hT) (zar (zc0 _ _) ?_))
   by_cases hq:T=[0] <;> simp[hq,hn] <;> rfl
  ·refine zaa (eqf hn) (zar (zc0 _ _) ?_)
   simp[hn] <;> rfl
 rw[if_neg h5];refine zaa (eqf h5) ?_
 by_cases h6:o=6
 ·rw[if_pos h6]
  exact zac (eqt h6) (zar (zs3 hv n T hT) rfl)
 rw[if_neg h6];refine zaa (eqf h6) ?_
 by_cases h9:o=9
 ·rw[if_pos h9]
  exact zac (eqt h9) (zar (zqZ n T hT) rfl)
 rw[if_neg h9];refine zaa (eqf h9) ?_
 by_cases h10:o=10
 ·rw[if_pos h10]
  exact zac (eqt h10) (zar (zqi hv n T hT) rfl)
 rw[if_neg h10];refine zaa (eqf h10) ?_
 by_cases h11:o=11
 ·rw[if_pos h11]
  refine zac (eqt h11) ?_
  by_cases hn:n=0
  ·rw[if_pos hn]
   exact zaa (nef hn) (zar (zpl hv T) rfl)
  ·rw[if_neg hn]
   exact zac (net hn) rfl
 rw[if_neg h11];exact zaa (eqf h11) rfl
end
end
section
open Go
def okT (D:List DM) (t:Int):Prop:=t=-1∨(0≤t∧t≤D.length)
theorem zyu (f t:Int):∀(D:List DM) (k:Nat),zh4 f t D k=-1∨(0≤zh4 f t D k∧zh4 f t D k≤((k+D.length:Nat):Int))
 | [],_=>.inl rfl
 | d::ds,k=>by
  unfold zh4;split
  ·right;simp only[List.length_cons];omega
  ·have:=zyu f t ds (k+1)
   simp only[List.length_cons];omega
section
variable {D:List DM}{R:List PM}
theorem zyG (hv:CP D R) (o n:Int) (T:List Int):okT D (zmp D R o n T):=by
 unfold okT zmp;split
 ·split <;> omega
 split
 ·split <;> omega
 split
 ·split <;> omega
 split
 ·rcases zf1 (D:=D) n with h0|⟨j,i,hj,he,_⟩
  ·rw[h0];simp
  ·split
   ·omega
   ·split <;> omega
 split
 ·split
  ·have:=hv.r n.toNat (by omega)
   split <;> omega
  ·omega
 split
 ·split
  ·split
   ·omega
   ·split
    ·have:=zyu ((gP R n.toNat).ps.getD ((gP R n.toNat).ps.length-1) 0) (gP R n.toNat).r D 0
     rw[Nat.zero_add] at this;exact this
    ·omega
  ·omega
 split
 ·split
  ·split
   ·rename_i hc
    have hb:(0<T.getD 0 0∧T.getD 0 0≤D.length)∧(gD D ((T.getD 0 0).toNat-1)).cs.length=0:=by
     have hi:=hc.2.1
     simp only[zoi,Bool.and_eq_true,decide_eq_true_eq,beq_iff_eq] at hi;exact⟨⟨hi.1,(isTy_iff.1 hi.2.1).2⟩,hi.2.2⟩
    have:=(hv.dv.arr ((T.getD 0 0).toNat-1) (by omega) hb.2).2
    omega
   ·omega
  ·omega
 ·omega
end
theorem zsB {ρ:Type}{r:ρ}{x:Option AV}{a0:List (List AC)}{a1:List (List AC)} (h:x=some (.v (.agg [.sl 1 a0,.sl 1 a1]))) {K:Fn (Option ρ) (za1 [(true,[.sl 1 [],.sl 1 []])])} (h2:(K:List (List AC)→List (List AC)→Option ρ) a0 a1=some r):zaC x false [(true,[.sl 1 [],.sl 1 []])] K=some r:=by rw[h];exact h2
def cL (D:List DM) (j:Nat):List Int:=(List.range (gD D j).cs.length).map fun i=>((zbG (D.take j)+i:Nat):Int)
theorem zla (D:List DM) (j:Nat):(cL D j).length=(gD D j).cs.length:=by simp[cL]
theorem zuJ {D:List DM}{j k:Nat} (h:k<(gD D j).cs.length):(cL D j).getD k 0=((zbG (D.take j)+k:Nat):Int):=by
 simp[cL,List.getD,h]
theorem zsO {D:List DM} (hv:DV D) (n:Int):zck [.cell (.sl 3 (zaf D)),.cell (.int n)]=rL (if 1≤n∧n≤D.length then cL D (n.toNat-1) else[]):=by
 have hD:=hv.len
 refine zmK (zan (zdF _ _ _) ?_)
 rw[zaU];by_cases h:1≤n∧n≤D.length
 rotate_left
 ·rw[if_neg h]
  refine zac ?_ rfl
  rw[Bool.not_eq_true',Bool.and_eq_false_iff,decide_eq_false_iff_not,decide_eq_false_iff_not];omega
 rw[if_pos h,decide_eq_true h.1,decide_eq_true h.2];refine zaa rfl ?_
 have hj:n.toNat-1<D.length:=by omega
 have w:zae (n-1)=((n.toNat-1:Nat):Int):=by rw[wr (by omega) (by omega)];omega
 generalize n.toNat-1=j at hj w ⊢
 have hc:=hv.cs j hj
 have hs:=zh0 hv.cs j (by omega)
 have key:∀m k:Nat,k+m=(gD D j).cs.length→zeJ (zaf D) n (zad ((cL D j).take k)) (k:Int)=rL (cL D j):=by
  intro m;induction m with
  | zero =>
   intro k hk;refine zeA (za5 (k:=j) w hj (zaa (decide_eq_false (by rw[zaK];omega)) ?_))
   rw[List.take_of_length_le (by rw[zla];omega)]
  | succ m ih =>
   intro k hk;refine zeA (za5 (k:=j) w hj (zac (decide_eq_true (by rw[zaK];omega)) ?_))
   rw[w];refine zar (zlU hv (k:=j) (by omega)) (zbs (by rw[zab,List.length_take,zla];simp;omega) ?_)
   have hlt:k<(cL D j).length:=by rw[zla];omega
   have e:=zom hlt
   have e2:(cL D j)[k]=((zbG (D.take j)+k:Nat):Int):=by
    have:=zuJ (D:=D) (j:=j) (k:=k) (by omega)
    rw[←this];simp[List.getD,hlt]
   rw[e2] at e;rw[wr (n:=((zbG (D.take j):Nat):Int)+(k:Int)) (by omega) (by omega),←Int.natCast_add,e,wrk (by unfold zaI;omega)]
   exact ih (k+1) (by omega)
 exact key (gD D j).cs.length 0 (by omega)
def chk (T:Nat→Int) (t0:Int):Nat→Nat→Int
 | 0,_=>t0
 | m+1,k=>if T k=t0 then chk T t0 m (k+1) else -1
theorem zBp {D:List DM}{T:Nat→Int}{t0:Int} (h:okT D t0):∀m k,okT D (chk T t0 m k)
 | 0,_=>h
 | m+1,k=>by
  unfold chk;split
  ·exact zBp h m (k+1)
  ·exact .inl rfl
end
end Go.Proofs.YtkgbadeobdbinaaGreat
