/- Generic texts and models for the proofs of this seat: part 40. -/
import Derived.Test.YtkgbadeobdbinaaGreatY39
set_option linter.unusedVariables false
set_option linter.unusedSimpArgs false
namespace Go.Proofs.YtkgbadeobdbinaaGreat
section
open Go Go.RowKit
section
variable {D:List DM}{R:List PM}
theorem zGk {V:List Int}{x:List AC}{t:Int} (h:HT D R V x t) (h0:zit x=0):-999≤zcu x∧zcu x≤999:=by
 obtain⟨T,hT,hres,ht⟩:=zB6 h (by omega) (by omega) (by omega) (by omega)
 rw[h0] at hres;unfold zj7 at hres;rw[if_pos rfl] at hres;split at hres <;> omega
theorem zFG {V:List Int}{x:List AC}{j:Nat} (h:HT D R V x ((j:Int)+1)) (h6:zit x=6):∃i:Nat,zcu x=((zbs (D.take j)+i:Nat):Int)∧i<(gD D j).cs.length∧(zbY x).length=((gD D j).cs.getD i []).length∧∀y∈zbY x,∃t,HT D R V y t:=by
 obtain⟨T,hT,hres,_⟩:=zB6 h (by omega) (by omega) (by omega) (by omega)
 rw[h6] at hres;have hres:(if zf5 D (zcu x)<0 then -1 else if tyL T (zbY x).length=fld D (zcu x) then zf5 D (zcu x) else -1)=(j:Int)+1:=hres
 obtain⟨hct,hfl⟩:zf5 D (zcu x)=(j:Int)+1∧tyL T (zbY x).length=fld D (zcu x):=by
  split at hres
  ·omega
  ·split at hres
   ·rename_i h;exact⟨hres,h⟩
   ·omega
 rcases zd0 (D:=D) (zcu x) with hm1|⟨j',i,hj',he,hci,hi,hf⟩
 ·omega
 have hjj:j'=j:=by omega
 subst hjj;refine⟨i,hci,hi,by rw[←hf,←hfl,zcI],fun y hy=>?_⟩
 obtain⟨k,hkl,rfl⟩:=List.getElem_of_mem hy;have:=hT k hkl
 rw[show(zbY x).getD k []=(zbY x)[k] by simp[List.getD,hkl]] at this
 exact⟨_,this⟩
theorem FdK.of {V W:List Int}{s:Nat}{o m:Int}{kids:List (List AC)}{k:Nat}{t:Int} (hbd:zEI D o m k) (hW:W.length=V.length+zck D o m k) (hk:HT D R W (kids.getD k []) t) (hf:HT D R W (fd D s W.length (kids.getD k [])) t)
  (hi:zeQ [.cell (.sl 3 (zag D)),.agg (kids.getD k []),.cell (.int (W.length:Int))]=some (.v (.agg (fd D s W.length (kids.getD k []))))∧zg1 [.agg [.sl 3 (zag D),.sl 5 (zao R)],.agg (kids.getD k []),.cell (.int (W.length:Int))]=some (.v (.agg (fd D s W.length (kids.getD k []))))):FdK D R V s o m kids k:=by
 rw[hW] at hf hi;exact⟨hbd,⟨_,_,_,zhC hk⟩,⟨_,_,_,zhC hf⟩,hi.1,hi.2⟩
theorem zyl {V:List Int}{s:Nat}{o m:Int}{kids:List (List AC)} (h:∀k,k<kids.length→FdK D R V s o m kids k):∀k,k<((List.range kids.length).map fun k=>fd D s (V.length+zck D o m k) (kids.getD k [])).length→∃o' n ks,((List.range kids.length).map fun k=>fd D s (V.length+zck D o m k) (kids.getD k [])).getD k []=[.int o',.int n,.sl 3 ks]:=fun k hk=>by
 rw[List.length_map,List.length_range] at hk;rw[za8 hk];exact(h k hk).sf
theorem ztB (hv:CP D R) {V:List Int}{x:List AC}{t:Int} (h:HT D R V x t):(∀u∈V,0≤u∧u≤D.length)→∀s,cS x<s→cS x≤29→V.length+3*cS x≤1000 →
  zeQ [.cell (.sl 3 (zag D)),.agg x,.cell (.int (V.length:Int))]=some (.v (.agg (fd D s V.length x)))∧zg1 [.agg [.sl 3 (zag D),.sl 5 (zao R)],.agg x,.cell (.int (V.length:Int))]=some (.v (.agg (fd D s V.length x))):=by
 induction h with
 | var V n kids hk h =>
  intro hV s hs hc hb;obtain⟨s,rfl⟩:∃j,s=j+1:=⟨s-1,by omega⟩
  have hk0:=List.length_eq_zero_iff.1 hk
  subst hk0;exact zkQ hv (by omega) (by simp) (fun k hk=>by cases hk) ⟨(fun k hk=>by cases hk),(fun h=>by omega),(fun h=>by omega),(fun h=>by omega),(fun h=>by omega)⟩
 | bind V kids t0 t hl h0 h1 h2 i1 i2 =>
  intro hV s hs hc hb;obtain⟨s,rfl⟩:∃j,s=j+1:=⟨s-1,by omega⟩
  have l0:=zaV (show 0<kids.length by omega) (o:=13) (n:=0)
  have l1:=zaV (show 1<kids.length by omega) (o:=13) (n:=0)
  have ht0:=zE4 hv h1 hV
  have hV2:∀u∈V++[t0],0≤u∧u≤D.length:=fun u hu=>by
   rcases List.mem_append.1 hu with hu|hu
   ·exact hV u hu
   ·simp only[List.mem_singleton] at hu;omega
  have a1:=(zlJ hv h1 hV s (by omega) (by omega)).1
  have b1:=(zlJ hv h2 hV2 s (by omega) (by omega)).1
  have g1:=i1 hV s (by omega) (by omega) (by omega)
  have g2:=i2 hV2 s (by omega) (by omega) (by rw[List.length_append,List.length_singleton];omega)
  have hfk:∀k,k<kids.length→FdK D R V s 13 0 kids k:=fun k hk=>by
   rcases(by omega:k=0∨k=1) with rfl|rfl
   ·exact FdK.of ⟨fun _=>by omega,fun h=>by omega⟩ (by rw[zx0 _ _ (by omega)];omega) h1 a1 g1
   ·exact FdK.of ⟨fun _=>by omega,fun h=>by omega⟩ (by rw[List.length_append,List.length_singleton];rfl) h2 b1 g2
  exact zkQ hv (by omega) (by omega) hfk ⟨zyl hfk,fun h=>by omega,fun h=>by omega,fun h=>by omega,fun h=>by omega⟩
 | ifz V kids t hl h0 h1 h2 i0 i1 i2 =>
  intro hV s hs hc hb;obtain⟨s,rfl⟩:∃j,s=j+1:=⟨s-1,by omega⟩
  have l0:=zaV (show 0<kids.length by omega) (o:=7) (n:=0)
  have l1:=zaV (show 1<kids.length by omega) (o:=7) (n:=0)
  have l2:=zaV (show 2<kids.length by omega) (o:=7) (n:=0)
  have e0:∀k,V.length=V.length+zck D 7 0 k:=fun k=>by rw[zu1 _ _ (by omega) (by omega)];omega
  have hfk:∀k,k<kids.length→FdK D R V s 7 0 kids k:=fun k hk=>by
   rcases(by omega:k=0∨k=1∨k=2) with rfl|rfl|rfl
   ·exact FdK.of ⟨fun h=>by omega,fun h=>by omega⟩ (e0 _) h0 (zlJ hv h0 hV s (by omega) (by omega)).1 (i0 hV s (by omega) (by omega) (by omega))
   ·exact FdK.of ⟨fun h=>by omega,fun h=>by omega⟩ (e0 _) h1 (zlJ hv h1 hV s (by omega) (by omega)).1 (i1 hV s (by omega) (by omega) (by omega))
   ·exact FdK.of ⟨fun h=>by omega,fun h=>by omega⟩ (e0 _) h2 (zlJ hv h2 hV s (by omega) (by omega)).1 (i2 hV s (by omega) (by omega) (by omega))
  exact zkQ hv (by omega) (by omega) hfk ⟨zyl hfk,fun h=>by omega,fun h=>by omega,fun _=>by simp[hl],fun h=>by omega⟩
 | mtch V kids j n t hn hj hcp hl h0 hs' i0 is =>
  intro hV s hs hc hb;obtain⟨s,rfl⟩:∃j,s=j+1:=⟨s-1,by omega⟩
  subst hn;have h3c:=hv.dv.cs j hj
  have l0:=zaV (show 0<kids.length by omega) (o:=8) (n:=(j:Int)+1)
  have q0:=zlJ hv h0 hV s (by omega) (by omega)
  have e0:zck D 8 ((j:Int)+1) 0=0:=rfl
  have hfk:∀k,k<kids.length→FdK D R V s 8 ((j:Int)+1) kids k:=fun k hk=>by
   rcases k with _|k
   ·exact FdK.of ⟨fun h=>by omega,fun _ h=>absurd h (by decide)⟩ (by rw[e0];omega) h0 q0.1 (i0 hV s (by omega) (by omega) (by omega))
   ·have hkc:k<(gD D j).cs.length:=by omega
    have h3:=(hv.dv.c j hj _ (zaE hkc [])).1
    have l1:=zaV hk (o:=8) (n:=(j:Int)+1)
    have hV2:∀u∈V++(gD D j).cs.getD k [],0≤u∧u≤D.length:=fun u hu=>by
     rcases List.mem_append.1 hu with hu|hu
     ·exact hV u hu
     ·exact(hv.dv.c j hj _ (zaE hkc [])).2 u hu
    have ht:=hs' k hkc
    have gi:=is k hkc hV2 s
    rw[Nat.add_comm 1 k] at ht gi;exact FdK.of ⟨fun h=>by omega,fun _ _=>⟨j,rfl,hj,by omega⟩⟩ (by rw[zxo (by omega),List.length_append,Nat.add_sub_cancel]) ht (zlJ hv ht hV2 s (by omega) (by omega)).1 (gi (by omega) (by omega) (by rw[List.length_append];omega))
  refine zkQ hv (by omega) (by omega) hfk ⟨zyl hfk,fun h=>by omega,fun h=>by omega,fun h=>by omega,fun _=>⟨j,rfl,hj,by rw[List.length_map,List.length_range];omega,fun h6=>?_⟩⟩
  rw[za8 (by omega),e0,Nat.add_zero] at h6 ⊢
  obtain⟨i,g1,g2,g3,g4⟩:=zFG q0.1 h6;have h3:=(hv.dv.c j hj _ (zaE g2 [])).1
  have hp:=zvq q0.1
  refine⟨⟨by omega,fun y hy=>?_⟩,i,g1,by rw[List.length_map,List.length_range];omega⟩
  obtain⟨t',ht'⟩:=g4 y hy;have:=zgi hy
  exact⟨t',ht',by omega⟩
 | op V o n kids T t h12 h13 h7 h8 hk' ht h0 ih =>
  intro hV s hs hc hb;obtain⟨s,rfl⟩:∃j,s=j+1:=⟨s-1,by omega⟩
  have hcs:=zbq o n kids
  have e0:∀k,zck D o n k=0:=fun k=>zu1 _ _ h13 h8
  have hft:∀k,k<kids.length→HT D R V (fd D s V.length (kids.getD k [])) (T k):=fun k hk=>by
   have l:=zaV hk (o:=o) (n:=n)
   exact(zlJ hv (hk' k hk) hV s (by omega) (by omega)).1
  have hfk:∀k,k<kids.length→FdK D R V s o n kids k:=fun k hk=>by
   have l:=zaV hk (o:=o) (n:=n)
   exact FdK.of ⟨fun h=>absurd h h13,fun h=>absurd h h8⟩ (by rw[e0];omega) (hk' k hk) (hft k hk) (ih k hk hV s (by omega) (by omega) (by omega))
  refine zkQ hv (by omega) (by omega) hfk ⟨zyl hfk,fun h4=>?_,fun h4 k hk=>?_,fun h=>absurd h h7,fun h=>absurd h h8⟩
  ·unfold zj7 at ht
   rw[if_neg (by omega),if_pos h4] at ht
   rw[List.length_map,List.length_range];split at ht
   ·rename_i hc
    have:=congrArg List.length hc.2
    rw[zcI] at this;simp at this
    omega
   ·omega
  ·rw[List.length_map,List.length_range] at hk
   rw[za8 hk,e0,Nat.add_zero];exact fun h=>zGk (hft k hk) h
end
end
section
open Go Go.RowKit
theorem zdU {ρ:Type}{r:ρ}{x:Option AV}{a0 a1:List (List AC)}{b:Bool} (h:x=some (.tup [.agg [.sl 3 a0,.sl 5 a1],.cell (.bool b)])) {K:Fn (Option ρ) (za5 [(true,[.sl 3 [],.sl 5 []]),(false,[.bool false])])} (h2:(K:List (List AC)→List (List AC)→Bool→Option ρ) a0 a1 b=some r):zaM x true [(true,[.sl 3 [],.sl 5 []]),(false,[.bool false])] K=some r:=by rw[h];exact h2
theorem zrA {cs:List (List Int)}{i:Nat} (h:i<cs.length):zb1 (cs.take (i+1))=zb1 (cs.take i)++[[.sl 1 (zae (cs.getD i []))]]:=by
 rw[List.take_succ_eq_append_getElem h,show cs[i]=cs.getD i [] by simp[List.getD,h]]
 simp[zb1,zDm]
theorem zsp {D:List DM}{k:Nat} (h:k<D.length):zag (D.take (k+1))=zag (D.take k)++[[.int (gD D k).f,.int (gD D k).t,.sl 1 (zb1 (gD D k).cs)]]:=by
 rw[List.take_succ_eq_append_getElem h,zlE h];simp[zag,zli]
theorem ztU {R:List PM}{k:Nat} (h:k<R.length):zao (R.take (k+1))=zao (R.take k)++[[.sl 1 (zae (gP R k).ps),.int (gP R k).r,.int (gP R k).o,.int (gP R k).n,.sl 3 (gP R k).kids]]:=by
 rw[List.take_succ_eq_append_getElem h,zlv h];simp[zao,pmC]
section
variable {D:List DM}{R:List PM}
theorem zwD (hv:DV D):zj1 [.cell (.sl 3 (zag D))]=some (.v (.cell (.sl 3 (zag D)))):=by
 have hD:=hv.len
 have key:∀q k:Nat,k+q=D.length→zem (zag (D.take k)) (zag D) (((zag D).length:Nat):Int) (k:Int)=some (.v (.cell (.sl 3 (zag D)))):=by
  intro q;induction q with
  | zero =>
   intro k hk;refine zh2 (zaa (decide_eq_false (by rw[zaY];omega)) ?_)
   rw[List.take_of_length_le (by omega)]
  | succ q ih =>
   intro k hk;have hlt:k<D.length:=by omega
   have h3:=hv.cs k hlt
   have hn:=ih (k+1) (by omega)
   rw[zsp hlt] at hn;have inner:∀p i:Nat,i+p=(gD D k).cs.length→zeG (zag (D.take k)) (gD D k).f (gD D k).t (zb1 ((gD D k).cs.take i)) (zag D) (((zag D).length:Nat):Int) (k:Int) (zb1 (gD D k).cs) (((zb1 (gD D k).cs).length:Nat):Int) (i:Int)=some (.v (.cell (.sl 3 (zag D)))):=by
    intro p;induction p with
    | zero =>
     intro i hi;refine zhZ (zaa (decide_eq_false (by rw[zaL];omega)) (zbu (by simp[zag];omega) ?_))
     rw[show(gD D k).cs.take i=(gD D k).cs from List.take_of_length_le (by omega),wrk (by unfold zaS;omega)]
     exact hn
    | succ p ih2 =>
     intro i hi;have hlti:i<(gD D k).cs.length:=by omega
     have hc3:=(hv.c k hlt _ (zaE hlti [])).1
     have hn2:=ih2 (i+1) (by omega)
     rw[zrA hlti] at hn2;refine zhZ (zab (decide_eq_true (by rw[zaL];omega)) (zg2 (k:=i) rfl hlti (zay (znR _ (by omega)) (zbu (by simp[zb1];omega) ?_))))
     rw[wrk (by unfold zaS;omega)]
     exact hn2
   exact zh2 (zab (decide_eq_true (by rw[zaY];omega)) (zba (k:=k) rfl hlt (inner (gD D k).cs.length 0 (by omega))))
 exact zn3 (key D.length 0 (by omega))
theorem zvY (hv:DV D):zj8 [.cell (.sl 3 (zag D))]=some (.v (.cell (.sl 3 (zag D)))):=by
 have hD:=hv.len
 have key:∀q k:Nat,k+q=D.length→zev (zag D) (zag (D.take k)) (k:Int)=some (.v (.cell (.sl 3 (zag D)))):=by
  intro q;induction q with
  | zero =>
   intro k hk;refine zhO (zaa (decide_eq_false (by rw[zaY];omega)) ?_)
   rw[List.take_of_length_le (by omega)]
  | succ q ih =>
   intro k hk;have hlt:k<D.length:=by omega
   have h3:=hv.cs k hlt
   have hn:=ih (k+1) (by omega)
   rw[zsp hlt] at hn;have inner:∀p i:Nat,i+p=(gD D k).cs.length→zeu (zag D) (zag (D.take k)) (k:Int) (zb1 ((gD D k).cs.take i)) (i:Int)=some (.v (.cell (.sl 3 (zag D)))):=by
    intro p;induction p with
    | zero =>
     intro i hi;refine zhW (zba (k:=k) rfl hlt (zaa (decide_eq_false (by rw[zaL];omega)) (zba (k:=k) rfl hlt (zba (k:=k) rfl hlt (zbu (by simp[zag];omega) ?_)))))
     rw[show(gD D k).cs.take i=(gD D k).cs from List.take_of_length_le (by omega),wrk (by unfold zaS;omega)]
     exact hn
    | succ p ih2 =>
     intro i hi;have hlti:i<(gD D k).cs.length:=by omega
     have hc3:=(hv.c k hlt _ (zaE hlti [])).1
     have hn2:=ih2 (i+1) (by omega)
     rw[zrA hlti] at hn2;refine zhW (zba (k:=k) rfl hlt (zab (decide_eq_true (by rw[zaL];omega)) (zba (k:=k) rfl hlt (zg2 (k:=i) rfl hlti (zay (znw _ (by omega)) (zbu (by simp[zb1];omega) ?_))))))
     rw[wrk (by unfold zaS;omega)]
     exact hn2
   exact zhO (zab (decide_eq_true (by rw[zaY];omega)) (inner (gD D k).cs.length 0 (by omega)))
 exact zob (key D.length 0 (by omega))
def okB (R:List PM):Bool:=R.all fun x=>decide (cS (zbf x)≤29)
def wbR (D:List DM) (R:List PM) (b:Bool):AV:=bif b then .tup [.agg [.sl 3 (zag D),.sl 5 (zao R)],.cell (.bool true)] else .tup [.agg [.sl 3 [],.sl 5 []],.cell (.bool false)]
theorem okB_iff:okB R=true↔∀k,k<R.length→cS (zbf (gP R k))≤29:=by
 unfold okB;rw[List.all_eq_true];constructor
 ·intro h k hk
  have:=h _ (zhj hk)
  simpa using this
 ·intro h x hx
  obtain⟨k,hk,rfl⟩:=List.getElem_of_mem hx;rw[zlv hk]
  simpa using h k hk
structure Wbs (D:List DM) (R R':List PM):Prop where
 cp:CP D R
 sg:zna R R'
 fit:∀k,k<R.length→Fit .expr (zbf (gP R' k))∧cS (zbf (gP R' k))≤20000
theorem zmZ {R':List PM}{k:Nat} (h:k<R'.length):(R'.map zbf).getD k []=[.int (gP R' k).o,.int (gP R' k).n,.sl 3 (gP R' k).kids]:=by
 simp[List.getD,h,gP,zbf]
theorem zwz {R':List PM}{k:Nat} (h:k<R'.length):okB (R'.drop k)=(decide (cS (zbf (gP R' k))≤29)&&okB (R'.drop (k+1))):=by
 unfold okB;rw[List.drop_eq_getElem_cons h,List.all_cons,zlv h]
theorem zup {R':List PM} (h:Wbs D R R'):zij [.agg [.sl 3 (zag D),.sl 5 (zao R)],.cell (.sl 3 (R'.map zbf))]=some (wbR D R' (okB R')):=by
 have hR:=h.cp.rl
 have hl:=h.sg.1
 have key:∀q k:Nat,k+q=R.length→zd3 (R'.map zbf) [] [] (zag D) (zao (R'.take k)) (zao R) (((zao R).length:Nat):Int) (k:Int)=some (wbR D R' (okB (R'.drop k))):=by
  intro q;induction q with
  | zero =>
   intro k hk;refine zgU (zaa (decide_eq_false (by rw[za1];omega)) ?_)
   rw[List.take_of_length_le (by omega),List.drop_eq_nil_of_le (by omega)]
   rfl
  | succ q ih =>
   intro k hk;have hlt:k<R.length:=by omega
   have hlt':k<R'.length:=by omega
   obtain⟨hf,hc⟩:=h.fit k hlt;have hps:=(h.cp.ps k hlt).1
   have hs:=h.sg.2 k
   rw[zwz hlt'];refine zgU (zab (decide_eq_true (by rw[za1];omega)) (zaQ (k:=k) rfl hlt (zaB (by simpa using hlt') (zmZ hlt') (zan (zpx hf) ?_))))
   rw[zmr];rcases hd:decide (cS (zbf (gP R' k))≤29) with _|_
   ·have hd':decide (cS [.int (gP R' k).o,.int (gP R' k).n,.sl 3 (gP R' k).kids]≤29)=false:=hd
    rw[hd'];exact zab rfl rfl
   ·have hd':decide (cS [.int (gP R' k).o,.int (gP R' k).n,.sl 3 (gP R' k).kids]≤29)=true:=hd
    rw[hd'];refine zaa rfl (zay (znR _ (by omega)) (zaB (by simpa using hlt') (zmZ hlt') (zbu (by simp[zao];omega) ?_)))
    rw[wrk (by unfold zaS;omega)]
    have hn:=ih (k+1) (by omega)
    rw[ztU hlt',hs.1,hs.2] at hn;exact hn
 refine znW (zay (zwD h.cp.dv) ?_)
 exact key R.length 0 (by omega)
theorem zu4 {R':List PM} (h:Wbs D R R'):zif [.agg [.sl 3 (zag D),.sl 5 (zao R)],.cell (.sl 3 (R'.map zbf))]=some (wbR D R' (okB R')):=by
 have hR:=h.cp.rl
 have hl:=h.sg.1
 have key:∀q k:Nat,k+q=R.length→zdZ (R'.map zbf) (zag D) (zao R) [] [] (zag D) (zao (R'.take k)) (k:Int)=some (wbR D R' (okB (R'.drop k))):=by
  intro q;induction q with
  | zero =>
   intro k hk;refine zgV (zaa (decide_eq_false (by rw[za1];omega)) ?_)
   rw[List.take_of_length_le (by omega),List.drop_eq_nil_of_le (by omega)]
   rfl
  | succ q ih =>
   intro k hk;have hlt:k<R.length:=by omega
   have hlt':k<R'.length:=by omega
   obtain⟨hf,hc⟩:=h.fit k hlt;obtain⟨_,_,_,hkk⟩:=zeh hf;have hcs:cS (zbf (gP R' k))=(gP R' k).kids.length+rsS (gP R' k).kids:=zbq _ _ _
   have hps:=(h.cp.ps k hlt).1
   have hs:=h.sg.2 k
   rw[zwz hlt'];refine zgV (zab (decide_eq_true (by rw[za1];omega)) (zaB (by simpa using hlt') (zmZ hlt') (zan (zm6 hf) ?_)))
   rw[zmr];rcases hd:decide (cS (zbf (gP R' k))≤29) with _|_
   ·have hd':decide (cS [.int (gP R' k).o,.int (gP R' k).n,.sl 3 (gP R' k).kids]≤29)=false:=hd
    rw[hd'];exact zab rfl rfl
   ·have hd':decide (cS [.int (gP R' k).o,.int (gP R' k).n,.sl 3 (gP R' k).kids]≤29)=true:=hd
    rw[hd'];refine zaa rfl (zaQ (k:=k) rfl hlt (zay (znw _ (by omega)) (zaQ (k:=k) rfl hlt (zaB (by simpa using hlt') (zmZ hlt') (zaf (zss hkk (by omega)) (zbu (by simp[zao];omega) ?_))))))
    rw[wrk (by unfold zaS;omega)]
    have hn:=ih (k+1) (by omega)
    rw[ztU hlt',hs.1,hs.2] at hn;exact hn
 refine znI (zay (zvY h.cp.dv) ?_)
 exact key R.length 0 (by omega)
theorem zuJ (hv:DV D):ziy [.cell (.sl 3 (zag D)),.cell (.sl 3 (zag D))]=rB true:=by
 have hD:=hv.len
 have key:∀q k:Nat,k+q=D.length→zd2 (zag D) (zag D) (k:Int)=rB true:=by
  intro q;induction q with
  | zero=>intro k hk;exact zgS (zaa (decide_eq_false (by rw[zaY];omega)) rfl)
  | succ q ih =>
   intro k hk;have hlt:k<D.length:=by omega
   have h3:=hv.cs k hlt
   have hn:=ih (k+1) (by omega)
   have inner:∀p i:Nat,i+p=(gD D k).cs.length→zd5 (zag D) (zag D) (k:Int) (i:Int)=rB true:=by
    intro p;induction p with
    | zero =>
     intro i hi;refine zgX (zba (k:=k) rfl hlt (zaa (decide_eq_false (by rw[zaL];omega)) ?_))
     rw[wrk (by unfold zaS;omega)]
     exact hn
    | succ p ih2 =>
     intro i hi;have hlti:i<(gD D k).cs.length:=by omega
     have hc3:=(hv.c k hlt _ (zaE hlti [])).1
     refine zgX (zba (k:=k) rfl hlt (zab (decide_eq_true (by rw[zaL];omega)) (zba (k:=k) rfl hlt (zg2 (k:=i) rfl hlti (zba (k:=k) rfl hlt (zg2 (k:=i) rfl hlti (zas (zym _ (by omega)) (zaa rfl ?_))))))))
     rw[wrk (by unfold zaS;omega)]
     exact ih2 (i+1) (by omega)
   exact zgS (zab (decide_eq_true (by rw[zaY];omega)) (zba (k:=k) rfl hlt (zba (k:=k) rfl hlt (zaa (nef rfl) (zba (k:=k) rfl hlt (zba (k:=k) rfl hlt (zaa (nef rfl) (zba (k:=k) rfl hlt (zba (k:=k) rfl hlt (zaa (nef rfl) (inner (gD D k).cs.length 0 (by omega))))))))))))
 exact znL (zaa (nef rfl) (key D.length 0 (by omega)))
theorem zmE (hv:DV D) (hl:R.length≤4) (h:∀k,k<R.length→(gP R k).ps.length≤3∧Fit .expr (zbf (gP R k))∧cS (zbf (gP R k))≤1000):za2 [.agg [.sl 3 (zag D),.sl 5 (zao R)],.agg [.sl 3 (zag D),.sl 5 (zao R)]]=rB true:=by
 have key:∀q k:Nat,k+q=R.length→zdi (zag D) (zao R) (zag D) (zao R) (k:Int)=rB true:=by
  intro q;induction q with
  | zero=>intro k hk;exact zfY (zaa (decide_eq_false (by rw[za1];omega)) rfl)
  | succ q ih =>
   intro k hk;have hlt:k<R.length:=by omega
   obtain⟨h1,h2,h3⟩:=h k hlt;have g:=zBb 1001 _ h2 (by omega) (by omega)
   refine zfY (zab (decide_eq_true (by rw[za1];omega)) (zaQ (k:=k) rfl hlt (zaQ (k:=k) rfl hlt (zas (zym _ (by omega)) (zaa rfl (zaQ (k:=k) rfl hlt (zaQ (k:=k) rfl hlt (zaa (nef rfl) (zaQ (k:=k) rfl hlt (zaQ (k:=k) rfl hlt (zas g (zaa rfl ?_))))))))))))
   rw[wrk (by unfold zaS;omega)]
   exact ih (k+1) (by omega)
 exact zmG (zas (zuJ hv) (zaa rfl (zaa (nef rfl) (key R.length 0 (by omega)))))
theorem zdm:za2 [.agg [.sl 3 [],.sl 5 []],.agg [.sl 3 [],.sl 5 []]]=rB true :=
 zmE (D:=[]) (R:=[]) ⟨by simp,(fun k h=>by cases h),(fun k h=>by cases h),(fun k h=>by cases h)⟩ (by simp) (fun k h=>by cases h)
end
end
section
open Go Go.RowKit
def zE5 (x:PM) (y:List AC):PM:=⟨x.ps,x.r,zit y,zcu y,zbY y⟩
def zec (R:List PM) (F:PM→List AC):List PM:=R.map fun x=>zE5 x (F x)
theorem zuK {R:List PM}{F:PM→List AC}{k:Nat} (h:k<R.length):gP (zec R F) k=zE5 (gP R k) (F (gP R k)):=by
 simp[gP,zec,List.getD,h]
theorem zgo {R:List PM}{F:PM→List AC}:(zec R F).length=R.length:=by simp[zec]
theorem znc {R:List PM}{F:PM→List AC}:zna R (zec R F):=by
 refine⟨zgo,fun k=>?_⟩
 by_cases h:k<R.length
 ·rw[zuK h];exact⟨rfl,rfl⟩
 ·have h1:gP (zec R F) k=default:=by simp[gP,List.getD,List.getElem?_eq_none (show(zec R F).length≤k by rw[zgo];omega)]
  have h2:gP R k=default:=by simp[gP,List.getD,List.getElem?_eq_none (show R.length≤k by omega)]
  rw[h1,h2];exact⟨rfl,rfl⟩
section
variable {D:List DM}{R:List PM}
theorem zhh {F:PM→List AC}{k:Nat}{V:List Int}{t:Int} (h:k<R.length) (ht:HT D R V (F (gP R k)) t):zbf (gP (zec R F) k)=F (gP R k):=by
 rw[zuK h];exact(zhC ht).symm
def fdP (D:List DM) (x:PM):List AC:=fd D 30 x.ps.length (zbf x)
structure TP (D:List DM) (R:List PM):Prop where
 cp:CP D R
 b:∀k,k<R.length→cS (zbf (gP R k))≤29∧HT D R (gP R k).ps (zbf (gP R k)) (gP R k).r
theorem zlM (h:TP D R) {k:Nat} (hk:k<R.length):HT D R (gP R k).ps (fdP D (gP R k)) (gP R k).r∧cS (fdP D (gP R k))≤2*cS (zbf (gP R k))∧Nrm (fdP D (gP R k)) :=
 zlJ h.cp (h.b k hk).2 (h.cp.ps k hk).2 30 (by have:=(h.b k hk).1;omega) (h.b k hk).1
theorem zyd (h:TP D R):Wbs D R (zec R (fdP D)):=by
 refine⟨h.cp,znc,fun k hk=>?_⟩
 obtain⟨g1,g2,_⟩:=zlM h hk;have h1:=(h.b k hk).1
 have h3:=(h.cp.ps k hk).1
 rw[zhh hk g1];exact⟨zw0 h.cp g1 (by omega),by omega⟩
theorem zqa {R':List PM}{k:Nat} (h:k<R'.length):(R'.take (k+1)).map zbf=(R'.take k).map zbf++[zbf (gP R' k)]:=by
 rw[List.take_succ_eq_append_getElem h,zlv h,List.map_append,List.map_singleton]
theorem zxm (h:TP D R) (h1:zby [.agg [.sl 3 (zag D),.sl 5 (zao R)]]=rB true):zkV [.agg [.sl 3 (zag D),.sl 5 (zao R)]]=some (wbR D (zec R (fdP D)) (okB (zec R (fdP D)))):=by
 have hR:=h.cp.rl
 have hw:=zup (zyd h)
 have hwr:∃a0 a1 b,wbR D (zec R (fdP D)) (okB (zec R (fdP D)))=.tup [.agg [.sl 3 a0,.sl 5 a1],.cell (.bool b)]:=by
  cases okB (zec R (fdP D)) <;> exact⟨_,_,_,rfl⟩
 obtain⟨a0,a1,b,ew⟩:=hwr;rw[ew] at hw ⊢;have key:∀q k:Nat,k+q=R.length→ziZ (zag D) (zao R) [] [] (((zec R (fdP D)).take k).map zbf) (zao R) (((zao R).length:Nat):Int) (k:Int)=some (.tup [.agg [.sl 3 a0,.sl 5 a1],.cell (.bool b)]):=by
  intro q;induction q with
  | zero =>
   intro k hk;refine zl1 (zaa (decide_eq_false (by rw[za1];omega)) ?_)
   rw[List.take_of_length_le (by rw[zgo];omega)]
   exact zdU hw rfl
  | succ q ih =>
   intro k hk;have hlt:k<R.length:=by omega
   obtain⟨hc,ht⟩:=h.b k hlt;obtain⟨g1,g2,_⟩:=zlM h hlt;have hps:=h.cp.ps k hlt
   have g:=(ztB h.cp ht hps.2 30 (by omega) hc (by omega)).1
   rw[show fd D 30 (gP R k).ps.length (zbf (gP R k))=fdP D (gP R k) from rfl,zhC g1] at g;have hn:=ih (k+1) (by omega)
   rw[zqa (by rw[zgo];exact hlt),zhh hlt g1,zhC g1] at hn
   refine zl1 (zab (decide_eq_true (by rw[za1];omega)) (zaQ (k:=k) rfl hlt ?_))
   rw[zac];refine zaf g (zbu (by simp;omega) ?_)
   rw[wrk (by unfold zaS;omega)]
   exact hn
 exact zlu (zas h1 (zaa rfl (key R.length 0 (by omega))))
theorem zAQ (h:TP D R) (h1:zdg [.agg [.sl 3 (zag D),.sl 5 (zao R)]]=rB true):zmW [.agg [.sl 3 (zag D),.sl 5 (zao R)]]=some (wbR D (zec R (fdP D)) (okB (zec R (fdP D)))):=by
 have hR:=h.cp.rl
 have hw:=zu4 (zyd h)
 have hwr:∃a0 a1 b,wbR D (zec R (fdP D)) (okB (zec R (fdP D)))=.tup [.agg [.sl 3 a0,.sl 5 a1],.cell (.bool b)]:=by
  cases okB (zec R (fdP D)) <;> exact⟨_,_,_,rfl⟩
 obtain⟨a0,a1,b,ew⟩:=hwr;rw[ew] at hw ⊢;have key:∀q k:Nat,k+q=R.length→zi4 (zag D) (zao R) [] [] (((zec R (fdP D)).take k).map zbf) (k:Int)=some (.tup [.agg [.sl 3 a0,.sl 5 a1],.cell (.bool b)]):=by
  intro q;induction q with
  | zero =>
   intro k hk;refine zlS (zaa (decide_eq_false (by rw[za1];omega)) ?_)
   rw[List.take_of_length_le (by rw[zgo];omega)]
   exact zdU hw rfl
  | succ q ih =>
   intro k hk;have hlt:k<R.length:=by omega
   obtain⟨hc,ht⟩:=h.b k hlt;obtain⟨g1,g2,_⟩:=zlM h hlt;have hps:=h.cp.ps k hlt
   have g:=(ztB h.cp ht hps.2 30 (by omega) hc (by omega)).2
   rw[show fd D 30 (gP R k).ps.length (zbf (gP R k))=fdP D (gP R k) from rfl,zhC g1] at g;have hn:=ih (k+1) (by omega)
   rw[zqa (by rw[zgo];exact hlt),zhh hlt g1,zhC g1] at hn
   refine zlS (zab (decide_eq_true (by rw[za1];omega)) (zaQ (k:=k) rfl hlt (zaQ (k:=k) rfl hlt ?_)))
   rw[zac];refine zaf g (zbu (by simp;omega) ?_)
   rw[wrk (by unfold zaS;omega)]
   exact hn
 exact zlt (zas h1 (zaa rfl (key R.length 0 (by omega))))
theorem zBW (h:TP D R) (hok:okB (zec R (fdP D))=true):TP D (zec R (fdP D)):=by
 have hs:zna R (zec R (fdP D)):=znc
 have hl:=hs.1
 refine⟨⟨h.cp.dv,by rw[hl];exact h.cp.rl,fun x hx=>?_,fun k hk=>?_,fun k hk=>?_⟩,fun k hk=>?_⟩
 ·obtain⟨k,hk,rfl⟩:=List.getElem_of_mem hx
  have hk':k<R.length:=by omega
  obtain⟨g1,g2,_⟩:=zlM h hk';have h1:=(h.b k hk').1
  have h3:=(h.cp.ps k hk').1
  have hx:=h.cp.rok _ (zhj hk')
  have hf:=zw0 h.cp g1 (by omega)
  rw[←zhh hk' g1] at hf;rw[zlv hk];exact⟨by rw[(hs.2 k).1];exact hx.ps,by rw[(hs.2 k).2];exact hx.r,hf⟩
 ·rw[(hs.2 k).1];exact h.cp.ps k (by omega)
 ·rw[(hs.2 k).2];exact h.cp.r k (by omega)
 ·have hk':k<R.length:=by omega
  obtain⟨g1,g2,_⟩:=zlM h hk';refine⟨okB_iff.1 hok k hk,?_⟩
  rw[(hs.2 k).1,(hs.2 k).2,zhh hk' g1];exact zDe hs g1
theorem zvB (h:TP D R) (hd:∀d∈D,DOk d) (hs:ziI D R=true):zby [.agg [.sl 3 (zag D),.sl 5 (zao R)]]=rB true:=by
 have hl:=h.cp.dv.len
 have hr:=h.cp.rl
 exact zC3 ⟨hd,h.cp.rok,by unfold zaS;omega,by unfold zaS;omega⟩ hs h.cp h.b
theorem zsn (h:TP D R):za2 [.agg [.sl 3 (zag D),.sl 5 (zao R)],.agg [.sl 3 (zag D),.sl 5 (zao R)]]=rB true :=
 zmE h.cp.dv h.cp.rl fun k hk=>⟨(h.cp.ps k hk).1,(h.cp.rok _ (zhj hk)).b,by have:=(h.b k hk).1;omega⟩
theorem zyn (h:TP D R) (hok:okB (zec R (fdP D))=true):zec (zec R (fdP D)) (fdP D)=zec R (fdP D):=by
 have hl:(zec R (fdP D)).length=R.length:=zgo
 apply List.ext_getElem
 ·rw[zgo]
 ·intro k h1 h2
  have hk:k<R.length:=by omega
  obtain⟨g1,g2,g3⟩:=zlM h hk;have hc:=okB_iff.1 hok k h2
  have hb:=zhh hk g1
  rw[zlv h1,zlv h2,zuK h2];have e:fdP D (gP (zec R (fdP D)) k)=zbf (gP (zec R (fdP D)) k):=by
   show fd D 30 (gP (zec R (fdP D)) k).ps.length (zbf (gP (zec R (fdP D)) k))=zbf (gP (zec R (fdP D)) k)
   exact zGA (by rw[hb];exact g3) 30 _ (by omega)
  rw[e];rfl
end
end
section
open Go
theorem zvy {D:List DM}{R:List PM} (n:Int):zdX [.agg [.sl 3 (zag D),.sl 5 (zao R)],.cell (.int n)]=rB (decide (0≤n∧n<R.length)):=znF n
end
section
open Go
end
section
open Go
section
variable (C:Nat→Nat→Bool) (m:Nat)
variable {C m}
end
theorem zBq (m:Nat):zcm (fun _=>false) 0 m=[]:=by
 unfold zcm;rw[List.filter_eq_nil_iff.2 (by simp)]
 rfl
theorem zFz {S:Nat→Bool}{m:Nat}{y:Int} (h:y∈zcm S 0 m):∃j:Nat,y=(j:Int)∧j<m∧S j=true:=by
 unfold zcm at h;obtain⟨i,hi,rfl⟩:=List.mem_map.1 h;obtain⟨h1,h2⟩:=List.mem_filter.1 hi;exact⟨i,rfl,by have:=List.mem_range'_1.1 h1;omega,h2⟩
theorem zGJ {m:Nat}{P:Nat→(Nat→Bool)→Prop} (h:∀k,k<m→∃t,P k t):∃T:Nat→Nat→Bool,∀k,k<m→P k (T k) :=
 ⟨fun k=>open Classical in if hk:k<m then(h k hk).choose else fun _=>false,fun k hk=>by
  simp only[dif_pos hk];exact(h k hk).choose_spec⟩
section
variable {D:List DM}{R:List PM}
def zxX (R:List PM) (C:Nat→Nat→Bool):Prop:=∀k,k<R.length→∀A:Nat→Bool,zcn [.cell (.sl 1 (zae (zcm A 0 R.length))),.agg (zbf (gP R k))]=rL (zcm (orS A (C k)) 0 R.length)∧zdE [.agg (zbf (gP R k)),.cell (.sl 1 (zae (zcm A 0 R.length)))]=rL (zcm (orS A (C k)) 0 R.length)
theorem zB3 (C:Nat→Bool):orS (fun _=>false) C=C:=by funext i;simp[orS]
variable {C:Nat→Nat→Bool} (hN:zxX R C) (h4:R.length≤4)
include hN h4
omit h4 in
theorem zzk {k:Nat} (hk:k<R.length):zcn [.cell (.sl 1 []),.agg (zbf (gP R k))]=rL (zcm (C k) 0 R.length):=by
 have:=(hN k hk (fun _=>false)).1
 rw[zBq,zB3] at this;exact this
end
end
section
open Go Go.RowKit
end
section
open Go Go.RowKit
structure PV (D:List DM) (R:List PM) (C:Nat→Nat→Bool):Prop where
 hi:PIn D R
 vp:VP D R
 nm:zxX R C
 h1:zby [.agg [.sl 3 (zag D),.sl 5 (zao R)]]=rB true
 h2:zdg [.agg [.sl 3 (zag D),.sl 5 (zao R)]]=rB true
theorem PV.r4 {D:List DM}{R:List PM}{C:Nat→Nat→Bool} (h:PV D R C):R.length≤4:=h.vp.cp.rl
theorem zAA (xs ys:List Int) (hx:xs.length≤1048576) (hy:ys.length≤1048576) (h:∀x∈xs,ys.contains x=true):zl9 [.cell (.sl 1 (zae xs)),.cell (.sl 1 (zae ys))]=rB true:=by
 have key:∀m k:Nat,k+m=xs.length→zga (zae xs) (zae ys) (k:Int)=rB true:=by
  intro m;induction m with
  | zero =>
   intro k hk;exact zkh (zaa (decide_eq_false (by rw[zac];omega)) rfl)
  | succ m ih =>
   intro k hk;have hlt:k<xs.length:=by omega
   have hnext:=ih (k+1) (by omega)
   rw[←wrk (by unfold zaS;omega)] at hnext
   have hin:=zD1 ys xs[k] hy
   rw[h _ (List.getElem_mem hlt)] at hin;exact zkh (zab (decide_eq_true (by rw[zac];omega)) (zbk hlt (zas hin (zaa rfl hnext))))
 exact zr6 (key xs.length 0 (by omega))
section
variable {D:List DM}{R:List PM}{C:Nat→Nat→Bool}
theorem zz6 {f:Nat} (h:f<R.length):zdX [.agg [.sl 3 (zag D),.sl 5 (zao R)],.cell (.int (f:Int))]=rB true:=by
 rw[zvy,decide_eq_true (by omega)]
variable (h:PV D R C)
include h
end
end
end Go.Proofs.YtkgbadeobdbinaaGreat
