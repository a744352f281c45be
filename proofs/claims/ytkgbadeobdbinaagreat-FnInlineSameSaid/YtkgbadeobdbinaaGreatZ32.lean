/- Generic texts and models for the proofs of this seat: part 32. -/
import Derived.Test.YtkgbadeobdbinaaGreatZ31
set_option linter.unusedVariables false
set_option linter.unusedSimpArgs false
namespace Go.Proofs.YtkgbadeobdbinaaGreat
section
open Go Go.RowKit
def zuO (R:List PM) (f:Nat) (n o m:Int) (l:List (List AC)):List AC :=
 if o=9∧m=(f:Int) then ltW n 0 l (shr 0 n 2000 (zaH (gP R f))) else[.int o,.int m,.sl 3 l]
def inl (D:List DM) (R:List PM) (f:Nat):Nat→Nat→List AC→List AC
 | s+1,n,[.int o,.int m,.sl 3 kids]=>zuO R f (n:Int) o m ((List.range kids.length).map fun k=>inl D R f s (n+zcl D o m k) (kids.getD k []))
 | _,_,x=>x
theorem zjW (D:List DM) (R:List PM) (f s n:Nat) (o m:Int) (kids:List (List AC)):inl D R f (s+1) n [.int o,.int m,.sl 3 kids]=zuO R f (n:Int) o m ((List.range kids.length).map fun k=>inl D R f s (n+zcl D o m k) (kids.getD k [])):=rfl
theorem zp4 {D:List DM}{R:List PM}{f s n:Nat}{x:List AC} (hx:¬∃o n kids,x=[.int o,.int n,.sl 3 kids]):inl D R f s n x=x:=by
 unfold inl;split
 ·exact absurd ⟨_,_,_,rfl⟩ hx
 ·rfl
theorem zhV {R:List PM}{f:Nat}{n o m:Int}{l:List (List AC)} (h:¬(o=9∧m=(f:Int))):zuO R f n o m l=[.int o,.int m,.sl 3 l]:=by
 unfold zuO;rw[if_neg h]
inductive Mc (i:Nat):List AC→Prop
 | here (o n:Int) (kids:List (List AC)) (h:o=9) (hn:n=(i:Int)):Mc i [.int o,.int n,.sl 3 kids]
 | kid (o n:Int) (kids:List (List AC)) (k:Nat) (hk:k<kids.length) (h:Mc i (kids.getD k [])):Mc i [.int o,.int n,.sl 3 kids]
theorem zHw {i:Nat}{x:List AC} (h:Mc i x):Mn i x:=by
 induction h with
 | here o n kids h hn=>exact .here _ _ _ (.inl h) hn
 | kid o n kids k hk h ih=>exact .kid _ _ _ k hk ih
theorem mc_iff {i:Nat}{o n:Int}{kids:List (List AC)}:Mc i [.int o,.int n,.sl 3 kids]↔(o=9∧n=(i:Int))∨∃k,k<kids.length∧Mc i (kids.getD k []):=by
 constructor
 ·intro h
  generalize hx:[AC.int o,AC.int n,AC.sl 3 kids]=x at h
  cases h with
  | here o' n' kids' h hn =>
   simp only[List.cons.injEq,AC.int.injEq,AC.sl.injEq,true_and,and_true] at hx;obtain⟨rfl,rfl,rfl⟩:=hx;exact .inl ⟨h,hn⟩
  | kid o' n' kids' k hk h =>
   simp only[List.cons.injEq,AC.int.injEq,AC.sl.injEq,true_and,and_true] at hx;obtain⟨rfl,rfl,rfl⟩:=hx;exact .inr ⟨k,hk,h⟩
 ·rintro(⟨h,hn⟩|⟨k,hk,h⟩)
  ·exact .here _ _ _ h hn
  ·exact .kid _ _ _ k hk h
theorem zCt {i:Nat} (a b:Int):∀(s:Nat) (x:List AC),Mc i (shr a b s x)→Mc i x:=by
 intro s;induction s with
 | zero=>intro x h;exact h
 | succ s ih =>
  intro x h;by_cases hx:∃o n kids,x=[.int o,.int n,.sl 3 kids]
  ·obtain⟨o,n,kids,rfl⟩:=hx
   rw[zeh] at h;rcases mc_iff.1 h with ⟨ho,hn⟩|⟨k,hk,hm⟩
   ·rw[show shF a b o n=n by unfold shF;rw[if_neg (fun h=>by omega)]] at hn
    exact .here _ _ _ ho hn
   ·rw[List.length_map] at hk
    rw[zfF hk] at hm;exact .kid _ _ _ k hk (ih _ hm)
  ·rw[zuv hx] at h;exact h
theorem zCg {i:Nat}{n:Int}{b:List AC}:∀(xs:List (List AC)) (k:Nat),Mc i (ltW n k xs b)→(∃x∈xs,Mc i x)∨Mc i b
 | [],_,h=>.inr h
 | x::xs,k,h=>by
  rcases mc_iff.1 h with ⟨ho,_⟩|⟨j,hj,hm⟩
  ·omega
  ·have hj:j<2:=hj
   rcases(by omega:j=0∨j=1) with rfl|rfl
   ·exact .inl ⟨x,List.mem_cons_self,zCt _ _ _ _ hm⟩
   ·rcases zCg xs (k+1) hm with ⟨y,hy,h⟩|h
    ·exact .inl ⟨y,List.mem_cons_of_mem _ hy,h⟩
    ·exact .inr h
theorem zA4 {i:Nat}{n:Int}{b:List AC}:∀(xs:List (List AC)) (k:Nat),Mn i (ltW n k xs b)→(∃x∈xs,Mn i x)∨Mn i b
 | [],_,h=>.inr h
 | x::xs,k,h=>by
  rcases mn_iff.1 h with ⟨ho,_⟩|⟨j,hj,hm⟩
  ·omega
  ·have hj:j<2:=hj
   rcases(by omega:j=0∨j=1) with rfl|rfl
   ·exact .inl ⟨x,List.mem_cons_self,zAh _ _ _ _ hm⟩
   ·rcases zA4 xs (k+1) hm with ⟨y,hy,h⟩|h
    ·exact .inl ⟨y,List.mem_cons_of_mem _ hy,h⟩
    ·exact .inr h
theorem zEy {o n:Int}{kids:List (List AC)}{k:Nat}{s:Nat} (hk:k<kids.length) (h:cS [.int o,.int n,.sl 3 kids]<s+1):cS (kids.getD k [])<s:=by
 have:=zaO hk (o:=o) (n:=n)
 omega
theorem zF1 {D:List DM}{R:List PM}{f:Nat} (hb:¬Mc f (zaH (gP R f))):∀(s n:Nat) (x:List AC),cS x<s→¬Mc f (inl D R f s n x):=by
 intro s;induction s with
 | zero=>intro n x h;omega
 | succ s ih =>
  intro n x hs h;by_cases hx:∃o n kids,x=[.int o,.int n,.sl 3 kids]
  ·obtain⟨o,m,kids,rfl⟩:=hx
   rw[zjW] at h;have kid:∀y∈((List.range kids.length).map fun k=>inl D R f s (n+zcl D o m k) (kids.getD k [])),¬Mc f y:=fun y hy=>by
    obtain⟨k,hk,rfl⟩:=List.mem_map.1 hy;exact ih _ _ (zEy (List.mem_range.1 hk) hs)
   by_cases hc:o=9∧m=(f:Int)
   ·unfold zuO at h
    rw[if_pos hc] at h;rcases zCg _ _ h with ⟨y,hy,h⟩|h
    ·exact kid y hy h
    ·exact hb (zCt _ _ _ _ h)
   ·rw[zhV hc] at h
    rcases mc_iff.1 h with h|⟨k,hk,hm⟩
    ·exact hc h
    ·exact kid _ (zaE hk []) hm
  ·rw[zp4 hx] at h
   cases h with
   | here o n kids _ _=>exact hx ⟨_,_,_,rfl⟩
   | kid o n kids _ _ _=>exact hx ⟨_,_,_,rfl⟩
theorem zxY {D:List DM}{R:List PM}{f:Nat}:∀(s n:Nat) (x:List AC),¬Mc f x→inl D R f s n x=x:=by
 intro s;induction s with
 | zero=>intro n x _;rfl
 | succ s ih =>
  intro n x h;by_cases hx:∃o n kids,x=[.int o,.int n,.sl 3 kids]
  ·obtain⟨o,m,kids,rfl⟩:=hx
   rw[zjW,zhV (fun hc=>h (.here _ _ _ hc.1 hc.2))]
   congr 3
   rw[show((List.range kids.length).map fun k=>inl D R f s (n+zcl D o m k) (kids.getD k []))=(List.range kids.length).map fun k=>kids.getD k [] from List.map_congr_left fun k hk=>ih _ _ fun hm=>h (.kid _ _ _ k (List.mem_range.1 hk) hm)]
   rw[zsY]
  ·exact zp4 hx
theorem zGS {D:List DM}{R:List PM}{f i:Nat}:∀(s n:Nat) (x:List AC),Mn i (inl D R f s n x)→Mn i x∨(Mn f x∧Mn i (zaH (gP R f))):=by
 intro s;induction s with
 | zero=>intro n x h;exact .inl h
 | succ s ih =>
  intro n x h;by_cases hx:∃o n kids,x=[.int o,.int n,.sl 3 kids]
  ·obtain⟨o,m,kids,rfl⟩:=hx
   rw[zjW] at h;have kid:∀y∈((List.range kids.length).map fun k=>inl D R f s (n+zcl D o m k) (kids.getD k [])),Mn i y→Mn i [.int o,.int m,.sl 3 kids]∨(Mn f [.int o,.int m,.sl 3 kids]∧Mn i (zaH (gP R f))):=fun y hy hm=>by
    obtain⟨k,hk,rfl⟩:=List.mem_map.1 hy;have hk:=List.mem_range.1 hk
    rcases ih _ _ hm with h|⟨h1,h2⟩
    ·exact .inl (.kid _ _ _ k hk h)
    ·exact .inr ⟨.kid _ _ _ k hk h1,h2⟩
   by_cases hc:o=9∧m=(f:Int)
   ·unfold zuO at h
    rw[if_pos hc] at h;rcases zA4 _ _ h with ⟨y,hy,h⟩|h
    ·exact kid y hy h
    ·exact .inr ⟨.here _ _ _ (.inl hc.1) hc.2,zAh _ _ _ _ h⟩
   ·rw[zhV hc] at h
    rcases mn_iff.1 h with h|⟨k,hk,hm⟩
    ·exact .inl (.here _ _ _ h.1 h.2)
    ·exact kid _ (zaE hk []) hm
  ·rw[zp4 hx] at h;exact .inl h
theorem zyw {f g:Nat→List AC}:∀l:List Nat,(∀k∈l,cS (f k)≤33+34*cS (g k))→rsS (l.map f)≤33*l.length+34*rsS (l.map g)
 | [],_=>by simp[zaQ]
 | k::l,h=>by
  have h1:=h k List.mem_cons_self
  have h2:=zyw l fun j hj=>h j (List.mem_cons_of_mem _ hj)
  rw[List.map_cons,List.map_cons,za0,za0,List.length_cons];omega
section
variable {D:List DM}{R:List PM}
theorem zw2 {f:Nat}{s n:Nat}{o m:Int}{kids:List (List AC)} (hg:∀k,k<kids.length→cS (inl D R f s (n+zcl D o m k) (kids.getD k []))≤33+34*cS (kids.getD k [])) :
  rsS ((List.range kids.length).map fun k=>inl D R f s (n+zcl D o m k) (kids.getD k []))≤33*kids.length+34*rsS kids:=by
 have:=zyw (f:=fun k=>inl D R f s (n+zcl D o m k) (kids.getD k [])) (g:=fun k=>kids.getD k []) (List.range kids.length) (fun k hk=>hg k (List.mem_range.1 hk))
 rw[zsY,List.length_range] at this;exact this
theorem zhT {f:Nat}{s n:Nat}{o m:Int}{kids:List (List AC)} (hc:¬(o=9∧m=(f:Int))) (hg:∀k,k<kids.length→cS (inl D R f s (n+zcl D o m k) (kids.getD k []))≤33+34*cS (kids.getD k [])) :
  cS (inl D R f (s+1) n [.int o,.int m,.sl 3 kids])≤33+34*cS [.int o,.int m,.sl 3 kids]:=by
 have:=zw2 hg
 rw[zjW,zhV hc,zbv,zbv,List.length_map,List.length_range];omega
theorem zje (ht:TP D R) {f:Nat} (hf:f<R.length) {V:List Int}{x:List AC}{t:Int} (h:HT D R V x t):(∀u∈V,0≤u∧u≤D.length)→∀s,cS x<s→cS x≤29→HT D R V (inl D R f s V.length x) t∧cS (inl D R f s V.length x)≤33+34*cS x:=by
 have hv:=ht.cp
 induction h with
 | var V n kids hk h =>
  intro hV s hs hc;obtain⟨s,rfl⟩:∃j,s=j+1:=⟨s-1,by omega⟩
  have hk0:=List.length_eq_zero_iff.1 hk
  subst hk0;have e:inl D R f (s+1) V.length [.int 12,.int n,.sl 3 []]=[.int 12,.int n,.sl 3 []]:=by rw[zjW,zhV (fun h=>by omega)];rfl
  rw[e];exact⟨.var V n [] rfl h,by omega⟩
 | bind V kids t0 t hl h0 h1 h2 i1 i2 =>
  intro hV s hs hc;obtain⟨s,rfl⟩:∃j,s=j+1:=⟨s-1,by omega⟩
  have l0:=zaO (show 0<kids.length by omega) (o:=13) (n:=0)
  have l1:=zaO (show 1<kids.length by omega) (o:=13) (n:=0)
  have ht0:=zFz hv h1 hV
  obtain⟨a1,a2⟩:=i1 hV s (by omega) (by omega)
  obtain⟨b1,b2⟩:=i2 (fun u hu=>by
   rcases List.mem_append.1 hu with hu|hu
   ·exact hV u hu
   ·simp only[List.mem_singleton] at hu;omega) s (by omega) (by omega)
  rw[List.length_append,List.length_singleton] at b1 b2;refine⟨?_,zhT (fun h=>by omega) fun k hk=>?_⟩
  ·rw[zjW,zhV (fun h=>by omega)]
   refine .bind _ _ t0 _ (by simp[hl]) h0 ?_ ?_
   ·rw[zd1 (by omega)];exact a1
   ·rw[zd1 (by omega)];exact b1
  ·rcases(by omega:k=0∨k=1) with rfl|rfl
   ·exact a2
   ·exact b2
 | ifz V kids t hl h0 h1 h2 i0 i1 i2 =>
  intro hV s hs hc;obtain⟨s,rfl⟩:∃j,s=j+1:=⟨s-1,by omega⟩
  have l0:=zaO (show 0<kids.length by omega) (o:=7) (n:=0)
  have l1:=zaO (show 1<kids.length by omega) (o:=7) (n:=0)
  have l2:=zaO (show 2<kids.length by omega) (o:=7) (n:=0)
  obtain⟨a1,a2⟩:=i0 hV s (by omega) (by omega)
  obtain⟨b1,b2⟩:=i1 hV s (by omega) (by omega)
  obtain⟨c1,c2⟩:=i2 hV s (by omega) (by omega)
  have e0:∀k,zcl D 7 0 k=0:=fun k=>zqb _ _ (by omega) (by omega)
  refine⟨?_,zhT (fun h=>by omega) fun k hk=>?_⟩
  ·rw[zjW,zhV (fun h=>by omega)]
   refine .ifz _ _ _ (by simp[hl]) ?_ ?_ ?_
   ·rw[zd1 (by omega),e0];exact a1
   ·rw[zd1 (by omega),e0];exact b1
   ·rw[zd1 (by omega),e0];exact c1
  ·rw[e0]
   rcases(by omega:k=0∨k=1∨k=2) with rfl|rfl|rfl
   ·exact a2
   ·exact b2
   ·exact c2
 | mtch V kids j n t hn hj hcp hl h0 hs' i0 is =>
  intro hV s hs hc;obtain⟨s,rfl⟩:∃j,s=j+1:=⟨s-1,by omega⟩
  subst hn;have l0:=zaO (show 0<kids.length by omega) (o:=8) (n:=(j:Int)+1)
  obtain⟨a1,a2⟩:=i0 hV s (by omega) (by omega)
  have e0:zcl D 8 ((j:Int)+1) 0=0:=rfl
  have br:∀i,i<(gD D j).cs.length→HT D R (V++(gD D j).cs.getD i []) (inl D R f s (V.length+zcl D 8 ((j:Int)+1) (1+i)) (kids.getD (1+i) [])) t∧cS (inl D R f s (V.length+zcl D 8 ((j:Int)+1) (1+i)) (kids.getD (1+i) []))≤33+34*cS (kids.getD (1+i) []):=fun i hi=>by
   have li:=zaO (show 1+i<kids.length by omega) (o:=8) (n:=(j:Int)+1)
   have:=is i hi (fun u hu=>by
    rcases List.mem_append.1 hu with hu|hu
    ·exact hV u hu
    ·exact(hv.dv.c j hj _ (zaE hi [])).2 u hu) s (by omega) (by omega)
   rw[List.length_append] at this;rw[zvn (by omega),Nat.add_sub_cancel_left]
   exact this
  refine⟨?_,zhT (fun h=>by omega) fun k hk=>?_⟩
  ·rw[zjW,zhV (fun h=>by omega)]
   exact .mtch _ _ j _ _ rfl hj hcp (by simp[hl]) (by rw[zd1 (by omega)];exact a1) (fun k hk=>by rw[zd1 (by omega)];exact(br k hk).1)
  ·rcases k with _|k
   ·exact a2
   ·have:=(br k (by omega)).2
    rw[Nat.add_comm 1 k] at this;exact this
 | op V o n kids T t h12 h13 h7 h8 hk' hres h0 ih =>
  intro hV s hs hc;obtain⟨s,rfl⟩:∃j,s=j+1:=⟨s-1,by omega⟩
  have hcs:=zbv o n kids
  have e0:∀k,zcl D o n k=0:=fun k=>zqb _ _ h13 h8
  have hg:∀k,k<kids.length→HT D R V (inl D R f s (V.length+zcl D o n k) (kids.getD k [])) (T k)∧cS (inl D R f s (V.length+zcl D o n k) (kids.getD k []))≤33+34*cS (kids.getD k []):=fun k hk=>by
   have l:=zaO hk (o:=o) (n:=n)
   rw[e0];exact ih k hk hV s (by omega) (by omega)
  by_cases hcall:o=9∧n=(f:Int)
  ·obtain⟨rfl,rfl⟩:=hcall
   have hres':(if 0≤(f:Int)∧(f:Int)<R.length then(if tyL T kids.length=(gP R (f:Int).toNat).ps then(gP R (f:Int).toNat).r else -1) else -1)=t:=hres
   rw[if_pos (by omega),Int.toNat_natCast] at hres'
   obtain⟨hT,hr⟩:tyL T kids.length=(gP R f).ps∧(gP R f).r=t:=by
    split at hres'
    ·rename_i h;exact⟨h,hres'⟩
    ·omega
   obtain⟨hb1,hb2⟩:=ht.b f hf;have hps:=hv.ps f hf
   have hlen:kids.length=(gP R f).ps.length:=by rw[←hT,zdc]
   have hsh:=zuh hb2 [] (gP R f).ps V (by simp) 2000 (by omega)
   rw[hr,List.nil_append,show(([]:List Int).length:Int)=0 from rfl] at hsh;have hxs:∀k,k<kids.length→HT D R V (((List.range kids.length).map fun k=>inl D R f s (V.length+zcl D 9 (f:Int) k) (kids.getD k [])).getD k []) ((gP R f).ps.getD k 0)∧cS (((List.range kids.length).map fun k=>inl D R f s (V.length+zcl D 9 (f:Int) k) (kids.getD k [])).getD k [])<2000:=fun k hk=>by
    have l:=zaO hk (o:=9) (n:=(f:Int))
    have:=hg k hk
    rw[zd1 hk];refine⟨?_,by omega⟩
    rw[←hT,zns T hk];exact this.1
   have hsz:=zw2 (D:=D) (R:=R) (f:=f) (s:=s) (n:=V.length) (o:=9) (m:=(f:Int)) (kids:=kids) fun k hk=>(hg k hk).2
   have hsc:=zyH hb2 0 (V.length:Int) 2000 (by omega)
   rw[zjW];unfold zuO;rw[if_pos ⟨rfl,rfl⟩];generalize hl:((List.range kids.length).map fun k=>inl D R f s (V.length+zcl D 9 (f:Int) k) (kids.getD k []))=l at *
   have hll:l.length=kids.length:=by rw[←hl];simp
   constructor
   ·have:=zBW (D:=D) (R:=R) (V:=V) (fun u hu=>(hV u hu).1) (b:=shr 0 (V.length:Int) 2000 (zaH (gP R f))) (t:=t) l [] (gP R f).ps (fun u hu=>(hps.2 u hu).1) (by omega) (fun i hi=>hxs i (by omega)) (by rw[List.nil_append];exact hsh)
    rw[List.append_nil] at this;exact this
   ·rw[zCB (D:=D) (R:=R) (V:=V) _ _ _ _ (fun x hx=>by
     obtain⟨i',hi',rfl⟩:=List.getElem_of_mem hx;have:=hxs i' (by omega)
     rw[show l.getD i' []=l[i'] by simp[List.getD,hi']] at this
     exact⟨_,this⟩)]
    omega
  ·refine⟨?_,zhT hcall fun k hk=>(hg k hk).2⟩
   rw[zjW,zhV hcall];exact .op _ _ _ _ T _ h12 h13 h7 h8 (fun k hk=>by
    rw[List.length_map,List.length_range] at hk;rw[zd1 hk];exact(hg k hk).1) (by rw[List.length_map,List.length_range];exact hres) h0
end
end
section
open Go Go.RowKit
section
variable {D:List DM}{R:List PM}
structure InK (D:List DM) (R:List PM) (f:Nat) (V:List Int) (s:Nat) (o m:Int) (kids:List (List AC)) (k:Nat):Prop where
 bd:zzy D o m k
 sh:∃o' m' ks,kids.getD k []=[.int o',.int m',.sl 3 ks]
 sf:∃o' m' ks,inl D R f s (V.length+zcl D o m k) (kids.getD k [])=[.int o',.int m',.sl 3 ks]
 i:zdX [.agg [.sl 3 (zaf D),.sl 5 (zak R)],.cell (.int (f:Int)),.agg (kids.getD k []),.cell (.int ((V.length+zcl D o m k:Nat):Int))]=some (.v (.agg (inl D R f s (V.length+zcl D o m k) (kids.getD k []))))
 s:zeR [.agg [.sl 3 (zaf D),.sl 5 (zak R)],.cell (.int (f:Int)),.agg (kids.getD k []),.cell (.int ((V.length+zcl D o m k:Nat):Int))]=some (.v (.agg (inl D R f s (V.length+zcl D o m k) (kids.getD k []))))
theorem InK.of {f:Nat}{V W:List Int}{s:Nat}{o m:Int}{kids:List (List AC)}{k:Nat}{t:Int} (hbd:zzy D o m k) (hW:W.length=V.length+zcl D o m k) (hk:HT D R W (kids.getD k []) t) (hf:HT D R W (inl D R f s W.length (kids.getD k [])) t)
  (hi:zdX [.agg [.sl 3 (zaf D),.sl 5 (zak R)],.cell (.int (f:Int)),.agg (kids.getD k []),.cell (.int (W.length:Int))]=some (.v (.agg (inl D R f s W.length (kids.getD k []))))∧zeR [.agg [.sl 3 (zaf D),.sl 5 (zak R)],.cell (.int (f:Int)),.agg (kids.getD k []),.cell (.int (W.length:Int))]=some (.v (.agg (inl D R f s W.length (kids.getD k []))))):InK D R f V s o m kids k:=by
 rw[hW] at hf hi;exact⟨hbd,⟨_,_,_,zfC hk⟩,⟨_,_,_,zfC hf⟩,hi.1,hi.2⟩
structure InE (D:List DM) (R:List PM) (f:Nat) (V:List Int) (o m:Int) (l:List (List AC)) (p1 p2:Int) (p3:List (List AC)):Prop where
 i:(bif (o==9) then bif (m==(f:Int)) then
    zdM (zak R) (f:Int) [.sl 1 [],.int 0,.int 0,.int 0,.sl 3 []] fun(l32:List (List AC)) (n33 n34 n35:Int) (l36:List (List AC)) =>
    zaC (zda [.agg [.int n34,.int n35,.sl 3 l36],.cell (.int 0),.cell (.int (V.length:Int))]) false [(true,[.int 0,.int 0,.sl 3 []])] fun(n37 n38:Int) (l39:List (List AC)) =>
    zaC (zfV [.cell (.sl 3 l),.agg [.int n37,.int n38,.sl 3 l39],.cell (.int (V.length:Int))]) false [(true,[.int 0,.int 0,.sl 3 []])] fun(n40 n41:Int) (l42:List (List AC)) =>
    (some (.v (.agg [.int n40,.int n41,.sl 3 l42])):Option AV)
   else some (.v (.agg [.int o,.int m,.sl 3 l])) else some (.v (.agg [.int o,.int m,.sl 3 l])))=some (.v (.agg [.int p1,.int p2,.sl 3 p3]))
 s:(bif (o==9) then bif (m==(f:Int)) then
    zdM (zak R) (f:Int) [.sl 1 [],.int 0,.int 0,.int 0,.sl 3 []] fun(l32:List (List AC)) (n33 n34 n35:Int) (l36:List (List AC)) =>
    zaC (zeM [.agg [.int n34,.int n35,.sl 3 l36],.cell (.int 0),.cell (.int (V.length:Int))]) false [(true,[.int 0,.int 0,.sl 3 []])] fun(n37 n38:Int) (l39:List (List AC)) =>
    zaC (zny [.cell (.sl 3 l),.agg [.int n37,.int n38,.sl 3 l39],.cell (.int (V.length:Int))]) false [(true,[.int 0,.int 0,.sl 3 []])] fun(n40 n41:Int) (l42:List (List AC)) =>
    (some (.v (.agg [.int n40,.int n41,.sl 3 l42])):Option AV)
   else some (.v (.agg [.int o,.int m,.sl 3 l])) else some (.v (.agg [.int o,.int m,.sl 3 l])))=some (.v (.agg [.int p1,.int p2,.sl 3 p3]))
theorem zE2 (ht:TP D R) {f:Nat} (hf:f<R.length) {V:List Int} (hl:V.length≤90) {o m:Int}{l:List (List AC)} (h:o=9→m=(f:Int)→zAF D R V l):∃p1 p2 p3,zuO R f (V.length:Int) o m l=[.int p1,.int p2,.sl 3 p3]∧InE D R f V o m l p1 p2 p3:=by
 by_cases hc:o=9∧m=(f:Int)
 ·obtain⟨rfl,rfl⟩:=hc
  obtain⟨hb1,hb2⟩:=ht.b f hf;have hps:=(ht.cp.ps f hf).1
  have hfit:=(ht.cp.rok _ (zf2 hf)).b
  have hw:=zv7 ht.cp hb2 2000 hfit (by omega) (by omega)
  have g1:=ztb (a:=0) (b:=(V.length:Int)) (by omega) 2000 _ hfit (show cS (zaH (gP R f))<2000 by omega) (show cS (zaH (gP R f))≤100000 by omega) hw
  have g2:=zwy (a:=0) (b:=(V.length:Int)) (by omega) 2000 _ hfit (show cS (zaH (gP R f))<2000 by omega) (show cS (zaH (gP R f))≤100000 by omega) hw
  obtain⟨y1,y2,y3,ey⟩:=zuj (zfC hb2) 0 (V.length:Int) 2000;obtain⟨z1,z2,z3,ez⟩:=zzn (V.length:Int) 0 l ey;have hL:=h rfl rfl
  have k1:=zDW ht.cp (by omega) hL ey
  have k2:=zCT ht.cp (by omega) hL ey
  rw[ez] at k1 k2;have ey':shr 0 (V.length:Int) 2000 [.int (gP R f).o,.int (gP R f).n,.sl 3 (gP R f).kids]=[.int y1,.int y2,.sl 3 y3]:=ey
  rw[ey'] at g1 g2;refine⟨z1,z2,z3,?_,⟨zac rfl (zac (eqt rfl) (zaB (k:=f) rfl hf (zag g1 (zag k1 rfl)))),zac rfl (zac (eqt rfl) (zaB (k:=f) rfl hf (zag g2 (zag k2 rfl))))⟩⟩
  unfold zuO;rw[if_pos ⟨rfl,rfl⟩];exact ez
 ·refine⟨o,m,l,zhV hc,?_⟩
  by_cases h9:o=9
  ·have hm:m≠(f:Int):=fun h=>hc ⟨h9,h⟩
   exact⟨zac (eqt h9) (zaa (eqf hm) rfl),zac (eqt h9) (zaa (eqf hm) rfl)⟩
  ·exact⟨zaa (eqf h9) rfl,zaa (eqf h9) rfl⟩
theorem zmz (ht:TP D R) {f:Nat} (hf:f<R.length) {V:List Int} (hl:V.length≤90) {s:Nat}{o m:Int}{kids:List (List AC)} (hll:kids.length≤1000) (hk:∀k,k<kids.length→InK D R f V s o m kids k)
  (h:o=9→m=(f:Int)→zAF D R V ((List.range kids.length).map fun k=>inl D R f s (V.length+zcl D o m k) (kids.getD k []))) :
  zdX [.agg [.sl 3 (zaf D),.sl 5 (zak R)],.cell (.int (f:Int)),.agg [.int o,.int m,.sl 3 kids],.cell (.int (V.length:Int))]=some (.v (.agg (inl D R f (s+1) V.length [.int o,.int m,.sl 3 kids]))) ∧
  zeR [.agg [.sl 3 (zaf D),.sl 5 (zak R)],.cell (.int (f:Int)),.agg [.int o,.int m,.sl 3 kids],.cell (.int (V.length:Int))]=some (.v (.agg (inl D R f (s+1) V.length [.int o,.int m,.sl 3 kids]))):=by
 have hv:=ht.cp
 have hD:=hv.dv.len
 have hb3:∀k,k<kids.length→zcl D o m k≤3:=fun k hkl=>by
  have hbd:=(hk k hkl).bd
  unfold zcl;split
  ·omega
  ·split
   ·rename_i h1 h2
    obtain⟨j,rfl,hj,hk'⟩:=hbd.2 h2.1 h2.2;rw[show((j:Int)+1-1).toNat=j by omega]
    exact(hv.dv.c j hj _ (zaE hk' [])).1
   ·omega
 generalize hF:(fun k=>inl D R f s (V.length+zcl D o m k) (kids.getD k []))=F at *
 have hFk:∀k,inl D R f s (V.length+zcl D o m k) (kids.getD k [])=F k:=fun k=>by rw[←hF]
 obtain⟨p1,p2,p3,ep,he⟩:=zE2 ht hf hl h;have tk:∀k,k<kids.length→(List.range (k+1)).map F=(List.range k).map F++[F k]:=fun k _=>by
  rw[List.range_succ,List.map_append,List.map_singleton]
 rw[zjW,hF,ep];constructor
 ·have key:∀q k:Nat,k+q=kids.length→zfN (f:Int) (V.length:Int) (zaf D) (zak R) o m kids 0 0 [] o m ((List.range k).map F) kids ((kids.length:Nat):Int) (k:Int)=some (.v (.agg [.int p1,.int p2,.sl 3 p3])):=by
   intro q;induction q with
   | zero =>
    intro k hkq;obtain rfl:k=kids.length:=by omega
    exact zkz (zaa (decide_eq_false (by omega)) he.i)
   | succ q ih =>
    intro k hkq;have hlt:k<kids.length:=by omega
    have g:=hk k hlt
    obtain⟨o',m',ks,e⟩:=g.sh;obtain⟨y1,y2,y3,ey⟩:=g.sf;have gi:=g.i
    rw[ey,e] at gi;have h3:=hb3 k hlt
    refine zkz (zac (decide_eq_true (by omega)) (zbu hlt e (zar (zDi hv (by omega) g.bd kids) ?_)))
    rw[wr (by omega) (by omega),show((V.length:Int)+((zcl D o m k:Nat):Int))=((V.length+zcl D o m k:Nat):Int) by omega]
    refine zag gi (zbs (by simp;omega) ?_)
    rw[wrk (by unfold zaI;omega)]
    have hn:=ih (k+1) (by omega)
    rw[tk k hlt,←hFk k,ey] at hn;exact hn
  exact zrc (key kids.length 0 (by omega))
 ·have key:∀q k:Nat,k+q=kids.length→zgY (f:Int) (V.length:Int) (zaf D) (zak R) o m kids 0 0 [] ((List.range k).map F) (k:Int)=some (.v (.agg [.int p1,.int p2,.sl 3 p3])):=by
   intro q;induction q with
   | zero =>
    intro k hkq;obtain rfl:k=kids.length:=by omega
    exact zkN (zaa (decide_eq_false (by omega)) he.s)
   | succ q ih =>
    intro k hkq;have hlt:k<kids.length:=by omega
    have g:=hk k hlt
    obtain⟨o',m',ks,e⟩:=g.sh;obtain⟨y1,y2,y3,ey⟩:=g.sf;have gi:=g.s
    rw[ey,e] at gi;refine zkN (zac (decide_eq_true (by omega)) (zbu hlt e (zar (zES hv (by omega) (by omega) g.bd kids) (zag gi (zbs (by simp;omega) ?_)))))
    rw[wrk (by unfold zaI;omega)]
    have hn:=ih (k+1) (by omega)
    rw[tk k hlt,←hFk k,ey] at hn;exact hn
  exact zr3 (key kids.length 0 (by omega))
theorem zwH (ht:TP D R) {f:Nat} (hf:f<R.length) {V:List Int}{x:List AC}{t:Int} (h:HT D R V x t):(∀u∈V,0≤u∧u≤D.length)→∀s,cS x<s→cS x≤29→V.length+3*cS x≤90 →
  zdX [.agg [.sl 3 (zaf D),.sl 5 (zak R)],.cell (.int (f:Int)),.agg x,.cell (.int (V.length:Int))]=some (.v (.agg (inl D R f s V.length x)))∧zeR [.agg [.sl 3 (zaf D),.sl 5 (zak R)],.cell (.int (f:Int)),.agg x,.cell (.int (V.length:Int))]=some (.v (.agg (inl D R f s V.length x))):=by
 have hv:=ht.cp
 induction h with
 | var V n kids hk h =>
  intro hV s hs hc hb;obtain⟨s,rfl⟩:∃j,s=j+1:=⟨s-1,by omega⟩
  have hk0:=List.length_eq_zero_iff.1 hk
  subst hk0;exact zmz ht hf (by omega) (by simp) (fun k hk=>by cases hk) (fun h=>by omega)
 | bind V kids t0 t hl h0 h1 h2 i1 i2 =>
  intro hV s hs hc hb;obtain⟨s,rfl⟩:∃j,s=j+1:=⟨s-1,by omega⟩
  have l0:=zaO (show 0<kids.length by omega) (o:=13) (n:=0)
  have l1:=zaO (show 1<kids.length by omega) (o:=13) (n:=0)
  have ht0:=zFz hv h1 hV
  have hV2:∀u∈V++[t0],0≤u∧u≤D.length:=fun u hu=>by
   rcases List.mem_append.1 hu with hu|hu
   ·exact hV u hu
   ·simp only[List.mem_singleton] at hu;omega
  have a1:=(zje ht hf h1 hV s (by omega) (by omega)).1
  have b1:=(zje ht hf h2 hV2 s (by omega) (by omega)).1
  have g1:=i1 hV s (by omega) (by omega) (by omega)
  have g2:=i2 hV2 s (by omega) (by omega) (by rw[List.length_append,List.length_singleton];omega)
  have hfk:∀k,k<kids.length→InK D R f V s 13 0 kids k:=fun k hk=>by
   rcases(by omega:k=0∨k=1) with rfl|rfl
   ·exact InK.of ⟨fun _=>by omega,fun h=>by omega⟩ (by rw[zyP _ _ (by omega)];omega) h1 a1 g1
   ·exact InK.of ⟨fun _=>by omega,fun h=>by omega⟩ (by rw[List.length_append,List.length_singleton];rfl) h2 b1 g2
  exact zmz ht hf (by omega) (by omega) hfk (fun h=>by omega)
 | ifz V kids t hl h0 h1 h2 i0 i1 i2 =>
  intro hV s hs hc hb;obtain⟨s,rfl⟩:∃j,s=j+1:=⟨s-1,by omega⟩
  have l0:=zaO (show 0<kids.length by omega) (o:=7) (n:=0)
  have l1:=zaO (show 1<kids.length by omega) (o:=7) (n:=0)
  have l2:=zaO (show 2<kids.length by omega) (o:=7) (n:=0)
  have e0:∀k,V.length=V.length+zcl D 7 0 k:=fun k=>by rw[zqb _ _ (by omega) (by omega)];omega
  have hfk:∀k,k<kids.length→InK D R f V s 7 0 kids k:=fun k hk=>by
   rcases(by omega:k=0∨k=1∨k=2) with rfl|rfl|rfl
   ·exact InK.of ⟨fun h=>by omega,fun h=>by omega⟩ (e0 _) h0 (zje ht hf h0 hV s (by omega) (by omega)).1 (i0 hV s (by omega) (by omega) (by omega))
   ·exact InK.of ⟨fun h=>by omega,fun h=>by omega⟩ (e0 _) h1 (zje ht hf h1 hV s (by omega) (by omega)).1 (i1 hV s (by omega) (by omega) (by omega))
   ·exact InK.of ⟨fun h=>by omega,fun h=>by omega⟩ (e0 _) h2 (zje ht hf h2 hV s (by omega) (by omega)).1 (i2 hV s (by omega) (by omega) (by omega))
  exact zmz ht hf (by omega) (by omega) hfk (fun h=>by omega)
 | mtch V kids j n t hn hj hcp hl h0 hs' i0 is =>
  intro hV s hs hc hb;obtain⟨s,rfl⟩:∃j,s=j+1:=⟨s-1,by omega⟩
  subst hn;have h3c:=hv.dv.cs j hj
  have l0:=zaO (show 0<kids.length by omega) (o:=8) (n:=(j:Int)+1)
  have q0:=zje ht hf h0 hV s (by omega) (by omega)
  have e0:zcl D 8 ((j:Int)+1) 0=0:=rfl
  have hfk:∀k,k<kids.length→InK D R f V s 8 ((j:Int)+1) kids k:=fun k hk=>by
   rcases k with _|k
   ·exact InK.of ⟨fun h=>by omega,fun _ h=>absurd h (by decide)⟩ (by rw[e0];omega) h0 q0.1 (i0 hV s (by omega) (by omega) (by omega))
   ·have hkc:k<(gD D j).cs.length:=by omega
    have h3:=(hv.dv.c j hj _ (zaE hkc [])).1
    have l1:=zaO hk (o:=8) (n:=(j:Int)+1)
    have hV2:∀u∈V++(gD D j).cs.getD k [],0≤u∧u≤D.length:=fun u hu=>by
     rcases List.mem_append.1 hu with hu|hu
     ·exact hV u hu
     ·exact(hv.dv.c j hj _ (zaE hkc [])).2 u hu
    have htk:=hs' k hkc
    have gi:=is k hkc hV2 s
    rw[Nat.add_comm 1 k] at htk gi;exact InK.of ⟨fun h=>by omega,fun _ _=>⟨j,rfl,hj,by omega⟩⟩ (by rw[zvn (by omega),List.length_append,Nat.add_sub_cancel]) htk (zje ht hf htk hV2 s (by omega) (by omega)).1 (gi (by omega) (by omega) (by rw[List.length_append];omega))
  exact zmz ht hf (by omega) (by omega) hfk (fun h=>by omega)
 | op V o n kids T t h12 h13 h7 h8 hk' hres h0 ih =>
  intro hV s hs hc hb;obtain⟨s,rfl⟩:∃j,s=j+1:=⟨s-1,by omega⟩
  have hcs:=zbv o n kids
  have e0:∀k,zcl D o n k=0:=fun k=>zqb _ _ h13 h8
  have hft:∀k,k<kids.length→HT D R V (inl D R f s V.length (kids.getD k [])) (T k)∧cS (inl D R f s V.length (kids.getD k []))≤33+34*cS (kids.getD k []):=fun k hk=>by
   have l:=zaO hk (o:=o) (n:=n)
   exact zje ht hf (hk' k hk) hV s (by omega) (by omega)
  have hfk:∀k,k<kids.length→InK D R f V s o n kids k:=fun k hk=>by
   have l:=zaO hk (o:=o) (n:=n)
   exact InK.of ⟨fun h=>absurd h h13,fun h=>absurd h h8⟩ (by rw[e0];omega) (hk' k hk) (hft k hk).1 (ih k hk hV s (by omega) (by omega) (by omega))
  refine zmz ht hf (by omega) (by omega) hfk (fun _ _=>⟨by rw[List.length_map,List.length_range];omega,fun y hy=>?_⟩)
  obtain⟨k,hk,rfl⟩:=List.mem_map.1 hy;have hk:=List.mem_range.1 hk
  have l:=zaO hk (o:=o) (n:=n)
  have:=hft k hk
  rw[e0,Nat.add_zero];exact⟨_,this.1,by omega⟩
end
end
set_option maxRecDepth 100000
section
open Go
noncomputable def zB9:CtxT:={X:={P:=Tryz.prog,L:=lay,F:=sig.has,E:=ext,fn:={Tryz.f50 with results:=#[.cell 2 26,.cell 3 26,.tmp 7]},lv:=[],jv:=[],tp:=[]},T:=tt,E:=zgA}
noncomputable def zsU:List Rg:=[0,1,2,3,4,5,6].filterMap fun i=>zx2 i (cOf Tryz.f50)
theorem zGa  {q:List AC}{r:AV×List AC} (h:( zdU (zj6 q []) false [(false,[.sl 3 []])] fun q2 l1=>zaC (zbY [.cell (.sl 1 [[.int 1]]),.cell (.int 0)]) false [(true,[.sl 1 [],.int 0,.int 0,.int 0,.sl 3 []])] fun l3 n4 n5 n6 l7=>zaC (zbY [.cell (.sl 1 [[.int 1],[.int 1]]),.cell (.int 1)]) false [(true,[.sl 1 [],.int 0,.int 0,.int 0,.sl 3 []])] fun l8 n9 n10 n11 l12=>zaC (zbY [.cell (.sl 1 [[.int 1]]),.cell (.int 1)]) false [(true,[.sl 1 [],.int 0,.int 0,.int 0,.sl 3 []])] fun l13 n14 n15 n16 l17=>zaC (zbY [.cell (.sl 1 [[.int 1],[.int 0]]),.cell (.int 1)]) false [(true,[.sl 1 [],.int 0,.int 0,.int 0,.sl 3 []])] fun l18 n19 n20 n21 l22=>zaC (zbY [.cell (.sl 1 [[.int 2],[.int 1]]),.cell (.int 1)]) false [(true,[.sl 1 [],.int 0,.int 0,.int 0,.sl 3 []])] fun l23 n24 n25 n26 l27=>zaC (zbY [.cell (.sl 1 [[.int 1],[.int 1]]),.cell (.int 0)]) false [(true,[.sl 1 [],.int 0,.int 0,.int 0,.sl 3 []])] fun l28 n29 n30 n31 l32=>zaC (zbY [.cell (.sl 1 [[.int 3]]),.cell (.int 0)]) false [(true,[.sl 1 [],.int 0,.int 0,.int 0,.sl 3 []])] fun l33 n34 n35 n36 l37=>zaC (zbY [.cell (.sl 1 [[.int 0]]),.cell (.int 1)]) false [(true,[.sl 1 [],.int 0,.int 0,.int 0,.sl 3 []])] fun l38 n39 n40 n41 l42=>zaC (zbY [.cell (.sl 1 [[.int 0],[.int 1]]),.cell (.int 1)]) false [(true,[.sl 1 [],.int 0,.int 0,.int 0,.sl 3 []])] fun l43 n44 n45 n46 l47=>zaC (zbY [.cell (.sl 1 [[.int 3],[.int 0]]),.cell (.int 3)]) false [(true,[.sl 1 [],.int 0,.int 0,.int 0,.sl 3 []])] fun l48 n49 n50 n51 l52=>zaC (zbY [.cell (.sl 1 [[.int 3]]),.cell (.int 1)]) false [(true,[.sl 1 [],.int 0,.int 0,.int 0,.sl 3 []])] fun l53 n54 n55 n56 l57=>zaC (zbY [.cell (.sl 1 [[.int 1],[.int 3],[.int 0]]),.cell (.int 0)]) false [(true,[.sl 1 [],.int 0,.int 0,.int 0,.sl 3 []])] fun l58 n59 n60 n61 l62=>zaC (zbY [.cell (.sl 1 [[.int 0]]),.cell (.int 0)]) false [(true,[.sl 1 [],.int 0,.int 0,.int 0,.sl 3 []])] fun l63 n64 n65 n66 l67=>zaC (zbY [.cell (.sl 1 [[.int 0],[.int 0]]),.cell (.int 0)]) false [(true,[.sl 1 [],.int 0,.int 0,.int 0,.sl 3 []])] fun l68 n69 n70 n71 l72=>zaC (zbY [.cell (.sl 1 [[.int 1],[.int 0]]),.cell (.int 0)]) false [(true,[.sl 1 [],.int 0,.int 0,.int 0,.sl 3 []])] fun l73 n74 n75 n76 l77=>zaC (zbY [.cell (.sl 1 [[.int 0]]),.cell (.int 1)]) false [(true,[.sl 1 [],.int 0,.int 0,.int 0,.sl 3 []])] fun l78 n79 n80 n81 l82=>zaC (zbY [.cell (.sl 1 []),.cell (.int 0)]) false [(true,[.sl 1 [],.int 0,.int 0,.int 0,.sl 3 []])] fun l83 n84 n85 n86 l87=>zdU (zah q2 [.cell (.int ((([[.sl 1 l3,.int n4,.int n5,.int n6,.sl 3 l7],[.sl 1 l8,.int n9,.int n10,.int n11,.sl 3 l12],[.sl 1 l13,.int n14,.int n15,.int n16,.sl 3 l17],[.sl 1 l18,.int n19,.int n20,.int n21,.sl 3 l22],[.sl 1 l23,.int n24,.int n25,.int n26,.sl 3 l27],[.sl 1 l28,.int n29,.int n30,.int n31,.sl 3 l32]]:List (List AC)).length:Nat):Int))]) false [(false,[.int 0])] fun q89 n88=>zdM [[.sl 1 l3,.int n4,.int n5,.int n6,.sl 3 l7],[.sl 1 l8,.int n9,.int n10,.int n11,.sl 3 l12],[.sl 1 l13,.int n14,.int n15,.int n16,.sl 3 l17],[.sl 1 l18,.int n19,.int n20,.int n21,.sl 3 l22],[.sl 1 l23,.int n24,.int n25,.int n26,.sl 3 l27],[.sl 1 l28,.int n29,.int n30,.int n31,.sl 3 l32]] n88 [.sl 1 [],.int 0,.int 0,.int 0,.sl 3 []] fun l90 n91 n92 n93 l94=>zdU (zah q89 [.cell (.int ((([[.sl 1 l33,.int n34,.int n35,.int n36,.sl 3 l37],[.sl 1 l38,.int n39,.int n40,.int n41,.sl 3 l42],[.sl 1 l43,.int n44,.int n45,.int n46,.sl 3 l47],[.sl 1 l48,.int n49,.int n50,.int n51,.sl 3 l52],[.sl 1 l53,.int n54,.int n55,.int n56,.sl 3 l57],[.sl 1 l58,.int n59,.int n60,.int n61,.sl 3 l62]]:List (List AC)).length:Nat):Int))]) false [(false,[.int 0])] fun q96 n95=>zdM [[.sl 1 l33,.int n34,.int n35,.int n36,.sl 3 l37],[.sl 1 l38,.int n39,.int n40,.int n41,.sl 3 l42],[.sl 1 l43,.int n44,.int n45,.int n46,.sl 3 l47],[.sl 1 l48,.int n49,.int n50,.int n51,.sl 3 l52],[.sl 1 l53,.int n54,.int n55,.int n56,.sl 3 l57],[.sl 1 l58,.int n59,.int n60,.int n61,.sl 3 l62]] n95 [.sl 1 [],.int 0,.int 0,.int 0,.sl 3 []] fun l97 n98 n99 n100 l101=>zdU (zah q96 [.cell (.int ((([[.sl 1 l63,.int n64,.int n65,.int n66,.sl 3 l67],[.sl 1 l68,.int n69,.int n70,.int n71,.sl 3 l72],[.sl 1 l73,.int n74,.int n75,.int n76,.sl 3 l77],[.sl 1 l78,.int n79,.int n80,.int n81,.sl 3 l82]]:List (List AC)).length:Nat):Int))]) false [(false,[.int 0])] fun q103 n102=>zdM [[.sl 1 l63,.int n64,.int n65,.int n66,.sl 3 l67],[.sl 1 l68,.int n69,.int n70,.int n71,.sl 3 l72],[.sl 1 l73,.int n74,.int n75,.int n76,.sl 3 l77],[.sl 1 l78,.int n79,.int n80,.int n81,.sl 3 l82]] n102 [.sl 1 [],.int 0,.int 0,.int 0,.sl 3 []] fun l104 n105 n106 n107 l108=>zdU (za7 q103 [.cell (.sl 1 [[.int 4],[.int 4],[.int 3],[.int 2],[.int 4]])]) false [(false,[.int 0])] fun q110 n109=>some (.tup [.agg [.sl 3 [],.sl 5 []],.agg [.sl 3 l1,.sl 5 [[.sl 1 l83,.int n84,.int n85,.int n86,.sl 3 l87],[.sl 1 l90,.int n91,.int n92,.int n93,.sl 3 l94],[.sl 1 l97,.int n98,.int n99,.int n100,.sl 3 l101],[.sl 1 l104,.int n105,.int n106,.int n107,.sl 3 l108]]],.cell (.int n109)],q110):Option (AV×List AC))=some r):evT zB9 100000 (.run (zj9 zsU .skip)) [] [(0,.und)] q=some r:=Eq.trans (by kernel_rfl) h
theorem zGn:(zcn (zbH tt) lay sig (zj9 zsU .skip) ⟨[],[],[],110,[],[]⟩).isSome=true:=by kernel_rfl
end
section
open Go Go.RowKit
theorem zkP {p:Stb}{w w':World}{B k:Nat} (hu:∀j,p.ok B j→j=k) (h:Evo (·=B) (raP p B 0) w (raP p B 0) w') {v:Value}{c:AC} (hr:Rep p w v c) (ha:apC k c=true):Rep p w' v c:=by
 have h1:∀b,(raP p B 0) b=p b∨∀j,p.ok b j→j=k:=fun b=>by
  by_cases e:b=B
  ·subst e;exact .inr hu
  ·exact .inl (zxw e)
 have h2:∀b,p b=(raP p B 0) b∨∀j,(raP p B 0).ok b j→j=k:=fun b=>by
  rcases h1 b with e|e
  ·exact .inl e.symm
  ·exact .inr e
 exact((hr.low h1 rfl ha).evo h).low h2 rfl ha
theorem zsv {p:Stb}{w w':World}{B k:Nat} (hu:∀j,p.ok B j→j=k) (hB:p.ok B k) (hk:2≤k) (h:Evo (·=B) (raP p B 0) w (raP p B 0) w') {v:Value}{ns:List Nat} (hr:RepQ p w v (.sl 1 (ns.map fun(u:Nat)=>[.bool true,.int (u:Int)]))):RepQ p w' v (.sl 1 (ns.map fun(u:Nat)=>[.bool true,.int (u:Int)])):=by
 rcases hr with hr|⟨A,n,cap,e,hc,ms,hl,hq,hx⟩
 ·refine .inl (zkP hu h hr ?_)
  have:apR k (ns.map fun(u:Nat)=>[AC.bool true,.int (u:Int)])=true:=by
   clear hr;induction ns with
   | nil=>rfl
   | cons n ns ih=>simp only[List.map_cons,apR,apL,apC,Bool.and_true,ih]
  simp only[apC,this,Bool.and_true,Bool.not_eq_true'];exact Bool.eq_false_iff.2 fun e=>by have:=Nat.eq_of_beq_eq_true e;omega
 ·refine .inr ⟨A,n,cap,e,hc,ms,hl,hq,fun hn=>?_⟩
  obtain⟨b,o,hA,hb,hp,hok,hy⟩:=hx hn;have hne:b≠B:=fun e=>hok k (e▸hB)
  refine⟨b,o,hA,Nat.lt_of_lt_of_le hb h.size,hp,hok,fun i u hu=>?_⟩
  obtain⟨h1,h2⟩:=hy i u hu;refine⟨h1,?_⟩
  rw[World.cell?_of_block (w:=w) (h.block b hb hne)];exact h2
theorem zeB {p:Stb}{w:World}{b o n cap k:Nat}{rows:List (List AC)} (h:Rep p w (.slice (some ⟨b,o,none⟩) n cap) (.sl k rows)) (hn:rows≠[]):n=rows.length∧0<k∧(∀r∈rows,r.length=k)∧b<w.heap.size∧o+rows.length*k≤p b∧p.ok b k∧rows.length≤cap ∧
  ∃f:Nat→Nat→Value,(∀i j c,(rows.getD i [])[j]?=some c→w.cell? ⟨b,o+i*k+j,none⟩=some (f i j))∧∀i j c,(rows.getD i [])[j]?=some c→Rep p w (f i j) c:=by
 generalize hv:Value.slice (some ⟨b,o,none⟩) n cap=v at h
 generalize hc:AC.sl k rows=c at h
 cases h with
 | int n=>cases hc
 | bool b=>cases hc
 | nil a k=>cases hc;exact absurd rfl hn
 | sl b' o' cap' k' rows' f hk hrows hb hp hok hcap hcc hrr =>
  cases hc;cases hv;exact⟨rfl,hk,hrows,hb,hp,hok,hcap,f,hcc,hrr⟩
theorem zru (k:Nat):∀xs:List Int,apR k (zad xs)=true
 | []=>rfl
 | x::xs=>by
  have:=zru k xs
  simp only[zad] at this;simp only[zad,List.map_cons,apR,apL,apC,Bool.and_true,this]
theorem zyj {row:List AC} (h:Fit .expr row):apL 5 row=true:=by
 generalize hk:Ty.expr=kd at h
 induction h with
 | expr o n kids ho hn hl h ih =>
  have:∀l:List (List AC),(∀c∈l,apL 5 c=true)→apR 5 l=true:=by
   intro l;induction l with
   | nil=>intro _;rfl
   | cons c l ih=>intro h;simp only[apR,h c (by simp),ih fun x hx=>h x (by simp[hx]),Bool.and_true]
  simp only[apL,apC,Bool.and_true,Bool.true_and,this kids fun c hc=>ih c hc rfl]
  rfl
 | _=>cases hk
def zkB (w:World) (B o:Nat) (x0 x1 x2 x3 x4:Value):World:=((((w.setCell ⟨B,o,none⟩ x0).setCell ⟨B,o+1,none⟩ x1).setCell ⟨B,o+2,none⟩ x2).setCell ⟨B,o+3,none⟩ x3).setCell ⟨B,o+4,none⟩ x4
section
variable {w:World}{B o:Nat}{x0 x1 x2 x3 x4:Value}
theorem zqk {a:Array Value}{T:TypeId} (h:w.heap[B]?=some (.cells a T (0,0))):(zkB w B o x0 x1 x2 x3 x4).heap[B]?=some (.cells (((((a.setIfInBounds o x0).setIfInBounds (o+1) x1).setIfInBounds (o+2) x2).setIfInBounds (o+3) x3).setIfInBounds (o+4) x4) T (0,0)) :=
 heap_setCell_same _ _ _ _ _ _ (heap_setCell_same _ _ _ _ _ _ (heap_setCell_same _ _ _ _ _ _ (heap_setCell_same _ _ _ _ _ _ (heap_setCell_same _ _ _ _ _ _ h))))
theorem zcO {b:Nat} (h:b≠B):(zkB w B o x0 x1 x2 x3 x4).heap[b]?=w.heap[b]?:=by
 unfold zkB;rw[heap_setCell_other _ _ _ _ h,heap_setCell_other _ _ _ _ h,heap_setCell_other _ _ _ _ h,heap_setCell_other _ _ _ _ h,heap_setCell_other _ _ _ _ h]
theorem zdw:(zkB w B o x0 x1 x2 x3 x4).heap.size=w.heap.size:=by simp[zkB,World.setCell]
theorem zs4 (p:Stb) (hp:p B=0):Evo (·=B) p w p (zkB w B o x0 x1 x2 x3 x4):=by
 refine zcH hp zdw (fun y hy=>zcO hy) ?_ ?_ ?_ <;> simp[zkB,World.setCell]
theorem zzV {a:Array Value}{T:TypeId} (h:w.heap[B]?=some (.cells a T (0,0))) (ho:o+5≤a.size) (i:Nat):(zkB w B o x0 x1 x2 x3 x4).cell? ⟨B,i,none⟩=if i=o then some x0 else if i=o+1 then some x1 else if i=o+2 then some x2 else if i=o+3 then some x3 else if i=o+4 then some x4 else w.cell? ⟨B,i,none⟩:=by
 have hc:∀{w:World}{a:Array Value},w.heap[B]?=some (.cells a T (0,0))→w.cell? ⟨B,i,none⟩=a[i]?:=fun h=>by simp[World.cell?,h]
 rw[hc (zqk h),hc h];simp only[Array.getElem?_setIfInBounds,Array.size_setIfInBounds];by_cases h4:i=o+4
 ·subst h4;simp;omega
 by_cases h3:i=o+3
 ·subst h3;simp;omega
 by_cases h2:i=o+2
 ·subst h2;simp;omega
 by_cases h1:i=o+1
 ·subst h1;simp;omega
 by_cases h0:i=o
 ·subst h0;simp;omega
 rw[if_neg (fun e=>h4 e.symm),if_neg (fun e=>h3 e.symm),if_neg (fun e=>h2 e.symm),if_neg (fun e=>h1 e.symm),if_neg (fun e=>h0 e.symm),if_neg h0,if_neg h1,if_neg h2,if_neg h3,if_neg h4]
end
theorem zwN {p:Stb}{w:World}{B o n cap k:Nat}{rows:List (List AC)}{a:Array Value}{T:TypeId} (hb:w.heap[B]?=some (.cells a T (0,0))) (hs:o+n*5≤a.size) (hu:∀j,p.ok B j→j=5) (h:Rep p w (.slice (some ⟨B,o,none⟩) n cap) (.sl 5 rows)) (ha:∀r∈rows,apL 5 r=true) (hk:k<rows.length)
  {x0 x1 x2 x3 x4:Value}{c0 c1 c2 c3 c4:AC} (hr:RepL p w [x0,x1,x2,x3,x4] [c0,c1,c2,c3,c4]) (hc:apL 5 [c0,c1,c2,c3,c4]=true) :
  Rep p (zkB w B (o+k*5) x0 x1 x2 x3 x4) (.slice (some ⟨B,o,none⟩) n cap) (.sl 5 (rows.set k [c0,c1,c2,c3,c4])):=by
 obtain⟨rfl,h5,hrows,hB,hp,hok,hcap,f,hcc,hrr⟩:=zeB h (by intro e;rw[e] at hk;simp at hk)
 have hev:=zs4 (w:=w) (B:=B) (o:=o+k*5) (x0:=x0) (x1:=x1) (x2:=x2) (x3:=x3) (x4:=x4) (raP p B 0) (by rw[zhh,if_pos rfl])
 have hl:=fun {v:Value}{c:AC} (hr:Rep p w v c) (ha:apC 5 c=true)=>zkP hu hev hr ha
 have hlen:(rows.set k [c0,c1,c2,c3,c4]).length=rows.length:=by simp
 simp only[RepL] at hr;obtain⟨r0,r1,r2,r3,r4,_⟩:=hr;simp only[apL,Bool.and_eq_true] at hc;obtain⟨a0,a1,a2,a3,a4,_⟩:=hc;have hget:∀(i j:Nat) (c:AC),((rows.set k [c0,c1,c2,c3,c4]).getD i [])[j]?=some c→(i=k∧[c0,c1,c2,c3,c4][j]?=some c)∨(i≠k∧(rows.getD i [])[j]?=some c):=fun i j c h=>by
  by_cases hik:i=k
  ·subst hik
   simp only[List.getD,List.getElem?_set_self hk,Option.getD_some] at h;exact .inl ⟨rfl,h⟩
  ·simp only[List.getD,List.getElem?_set_ne (fun e=>hik e.symm)] at h
   exact .inr ⟨hik,h⟩
 rw[←hlen];refine .sl B o cap 5 _ (fun i j=>if i=k then[x0,x1,x2,x3,x4].getD j undef else f i j) h5 (fun r hr=>?_) (by rw[zdw];exact hB) (by rw[hlen];exact hp) hok (by rw[hlen];exact hcap) (fun i j c h=>?_) (fun i j c h=>?_)
 ·rcases List.mem_or_eq_of_mem_set hr with h|rfl
  ·exact hrows r h
  ·rfl
 ·rw[zzV hb (by omega)]
  rcases hget i j c h with ⟨rfl,hj⟩|⟨hik,hj⟩
  ·have hj5:=(List.getElem?_eq_some_iff.1 hj).1
   simp only[List.length_cons,List.length_nil] at hj5;rcases(by omega:j=0∨j=1∨j=2∨j=3∨j=4) with rfl|rfl|rfl|rfl|rfl <;> simp
  ·have hlt:i<rows.length:=by
    rcases Nat.lt_or_ge i rows.length with h|h
    ·exact h
    ·simp[List.getD,List.getElem?_eq_none h] at hj
   have hj5:=(List.getElem?_eq_some_iff.1 hj).1
   rw[hrows _ (by simp[List.getD,hlt])] at hj5
   rw[if_neg (by omega),if_neg (by omega),if_neg (by omega),if_neg (by omega),if_neg (by omega),if_neg hik]
   exact hcc i j c hj
 ·rcases hget i j c h with ⟨rfl,hj⟩|⟨hik,hj⟩
  ·have hj5:=(List.getElem?_eq_some_iff.1 hj).1
   simp only[List.length_cons,List.length_nil] at hj5;rw[if_pos rfl];rcases(by omega:j=0∨j=1∨j=2∨j=3∨j=4) with rfl|rfl|rfl|rfl|rfl <;> simp only[List.getElem?_cons_zero,List.getElem?_cons_succ,Option.some.injEq] at hj <;> subst hj
   ·exact hl r0 a0
   ·exact hl r1 a1
   ·exact hl r2 a2
   ·exact hl r3 a3
   ·exact hl r4 a4
  ·have hlt:i<rows.length:=by
    rcases Nat.lt_or_ge i rows.length with h|h
    ·exact h
    ·simp[List.getD,List.getElem?_eq_none h] at hj
   rw[if_neg hik];have hap:=ha (rows.getD i []) (by simp[List.getD,hlt])
   exact hl (hrr i j c hj) (zl9 hap c (List.mem_of_getElem? hj))
end
end Go.Proofs.YtkgbadeobdbinaaGreat
