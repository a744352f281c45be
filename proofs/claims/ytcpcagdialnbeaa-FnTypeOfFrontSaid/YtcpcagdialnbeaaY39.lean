/- Generic texts and models for the proofs of this seat: part 39. -/
import Derived.Test.YtcpcagdialnbeaaY38
set_option linter.unusedVariables false
set_option linter.unusedSimpArgs false
namespace Go.Proofs.Ytcpcagdialnbeaa
section
open Go Go.RowKit
theorem zrW {P:Nat→List AC→Prop} (h:∀s o n kids,Fit .expr [.int o,.int n,.sl 3 kids]→(∀c∈kids,Fit .expr c∧cS c<s∧P s c)→P (s+1) [.int o,.int n,.sl 3 kids]):∀s row,Fit .expr row→cS row<s→P s row:=by
 intro s;induction s with
 | zero=>intro row _ h;omega
 | succ s ih =>
  intro row hf hs;obtain⟨o,n,kids,rfl⟩:=zm9 hf;obtain⟨_,_,_,hk⟩:=zdj hf;refine h s o n kids hf fun c hc=>?_
  have h1:=zkX hc
  have h2:=zcm o n kids
  have h3:=List.length_pos_of_mem hc
  exact⟨hk c hc,by omega,ih c (hk c hc) (by omega)⟩
theorem zuZ {f:List AC→List AC}:∀{kids:List (List AC)},(∀c∈kids,cS (f c)=cS c)→rsS (kids.map f)=rsS kids
 | [],_=>rfl
 | c::kids,h=>by
  rw[List.map_cons,zaJ,zaJ,h c (by simp),zuZ fun x hx=>h x (by simp[hx])]
theorem zgs {f:List AC→List AC}{kids:List (List AC)}{k:Nat} (h:k<kids.length):(kids.map f).getD k []=f (kids.getD k []):=by simp[List.getD,h]
def shF (a b o n:Int):Int:=if o=12∧a≤n then n+b else n
def shr (a b:Int):Nat→List AC→List AC
 | s+1,[.int o,.int n,.sl 3 kids]=>[.int o,.int (shF a b o n),.sl 3 (kids.map (shr a b s))]
 | _,r=>r
theorem zid (a b:Int) (s:Nat) (o n:Int) (kids:List (List AC)):shr a b (s+1) [.int o,.int n,.sl 3 kids]=[.int o,.int (shF a b o n),.sl 3 (kids.map (shr a b s))]:=rfl
def zlA:Nat→List AC→Bool
 | s+1,[.int o,.int n,.sl 3 kids]=>(!(o==12)||(decide (0≤n)&&decide (n≤99)))&&kids.all (zlA s)
 | _,_=>true
theorem zjk (s:Nat) (o n:Int) (kids:List (List AC)):zlA (s+1) [.int o,.int n,.sl 3 kids]=((!(o==12)||(decide (0≤n)&&decide (n≤99)))&&kids.all (zlA s)):=rfl
theorem ztO {s:Nat}{o n:Int}{kids:List (List AC)} (h:zlA (s+1) [.int o,.int n,.sl 3 kids]=true):(o=12→0≤n∧n≤99)∧∀c∈kids,zlA s c=true:=by
 rw[zjk,Bool.and_eq_true,List.all_eq_true] at h;refine⟨fun ho=>?_,h.2⟩
 have h1:=h.1
 subst ho
 simpa using h1
theorem zBA (a b:Int):∀s row,Fit .expr row→cS row<s→cS (shr a b s row)=cS row :=
 zrW (P:=fun s row=>cS (shr a b s row)=cS row) fun s o n kids hf hk=>by
  rw[zid,zcm,zcm,List.length_map,zuZ fun c hc=>(hk c hc).2.2]
theorem zAi {a b:Int} (hb:0≤b∧b≤99):∀s row,Fit .expr row→cS row<s→zlA s row=true→Fit .expr (shr a b s row) :=
 zrW (P:=fun s row=>zlA s row=true→Fit .expr (shr a b s row)) fun s o n kids hf hk hv=>by
  obtain⟨ho,hn,hl,_⟩:=zdj hf;obtain⟨h1,h2⟩:=ztO hv;rw[zid];refine .expr _ _ _ ho ?_ (by rw[List.length_map];exact hl) fun c hc=>?_
  ·unfold shF
   split
   ·rename_i h
    have:=h1 h.1
    unfold inI;omega
   ·exact hn
  ·obtain⟨x,hx,rfl⟩:=List.mem_map.1 hc
   exact(hk x hx).2.2 (h2 x hx)
theorem zpa (n:Int):zgr [.cell (.int n)]=rB (decide (0≤n)&&decide (n≤99)):=by
 by_cases h:0≤n
 ·rw[decide_eq_true h,Bool.true_and]
  exact zke (zad (decide_eq_true h) rfl)
 ·rw[decide_eq_false h,Bool.false_and]
  exact zke (zaa (decide_eq_false h) rfl)
theorem zwf:∀s row,Fit .expr row→cS row<s→zdE [.agg row]=rB (zlA s row) :=
 zrW (P:=fun s row=>zdE [.agg row]=rB (zlA s row)) fun s o n kids hf hk=>by
  obtain⟨_,_,hl,hkf⟩:=zdj hf;have key:∀m k:Nat,k+m=kids.length→zcv kids ((kids.length:Nat):Int) (k:Int)=rB ((kids.drop k).all (zlA s)):=by
   intro m;induction m with
   | zero =>
    intro k hkm;rw[List.drop_eq_nil_of_le (by omega)]
    exact zfJ (zaa (decide_eq_false (by omega)) rfl)
   | succ m ih =>
    intro k hkm;have hlt:k<kids.length:=by omega
    obtain⟨o',n',ks,e,_⟩:=zdr hkf hlt;have g:=(hk _ (zaZ hlt [])).2.2
    have e2:kids[k]=kids.getD k []:=by simp[List.getD,hlt]
    rw[List.drop_eq_getElem_cons hlt,List.all_cons,e2];rw[e] at g ⊢;refine zfJ (zad (decide_eq_true (by omega)) (zcc hlt e (zat g ?_)))
    cases zlA s [.int o',.int n',.sl 3 ks] with
    | false=>exact zad rfl rfl
    | true =>
     refine zaa rfl ?_
     rw[wrk (by unfold za9 at *;omega),ih (k+1) (by omega),Bool.true_and]
  have h0:=key kids.length 0 (by omega)
  rw[List.drop_zero] at h0;rw[zjk];by_cases ho:o=12
  ·subst ho
   refine zhS (zad rfl (zat (zpa n) ?_))
   cases hc:(decide (0≤n)&&decide (n≤99)) with
   | false=>exact zad rfl rfl
   | true=>exact zaa rfl (by simpa using h0)
  ·rw[eqf ho,Bool.not_false,Bool.true_or,Bool.true_and]
   exact zhS (zaa (eqf ho) h0)
theorem zvM {a b:Int} (hb:0≤b∧b≤99):∀s row,Fit .expr row→cS row<s→cS row≤100000→zlA s row=true→zfd [.agg row,.cell (.int a),.cell (.int b)]=some (.v (.agg (shr a b s row))) :=
 zrW (P:=fun s row=>cS row≤100000→zlA s row=true→zfd [.agg row,.cell (.int a),.cell (.int b)]=some (.v (.agg (shr a b s row)))) fun s o n kids hf hk hc hv=>by
  rw[zcm] at hc;obtain⟨ho,hn,hl,hkf⟩:=zdj hf;obtain⟨h1,h2⟩:=ztO hv;have key:∀N:Int,∀m k:Nat,k+m=kids.length→zcP a b 0 0 [] o N ((kids.take k).map (shr a b s)) kids ((kids.length:Nat):Int) (k:Int)=some (.v (.agg [.int o,.int N,.sl 3 (kids.map (shr a b s))])):=by
   intro N m;induction m with
   | zero =>
    intro k hkm;rw[List.take_of_length_le (by omega)]
    exact zhY (zaa (decide_eq_false (by omega)) rfl)
   | succ m ih =>
    intro k hkm;have hlt:k<kids.length:=by omega
    obtain⟨o',n',ks,e,_⟩:=zdr hkf hlt;obtain⟨g1,g2,g3⟩:=hk _ (zaZ hlt []);have hle:=zkX (zaZ hlt [])
    have g4:=g3 (by omega) (h2 _ (zaZ hlt []))
    have e2:kids[k]=kids.getD k []:=by simp[List.getD,hlt]
    have hn:=ih (k+1) (by omega)
    rw[List.take_succ_eq_append_getElem hlt,List.map_append,e2,e] at hn;rw[e] at g4 g2;obtain⟨s',rfl⟩:∃j,s=j+1:=⟨s-1,by omega⟩
    rw[zid] at g4;simp only[List.map_cons,List.map_nil,zid] at hn;refine zhY (zad (decide_eq_true (by omega)) (zcc hlt e (zae g4 (zcL (by simp;omega) ?_))))
    rw[wrk (by unfold za9 at *;omega)]
    exact hn
  rw[zid];have k0:=fun N=>key N kids.length 0 (by omega)
  simp only[List.take_zero,List.map_nil] at k0;by_cases h12:o=12
  ·by_cases h:a≤n
   ·have hn':=h1 h12
    refine zgE (zad (eqt h12) (zad (decide_eq_true h) ?_))
    rw[wr (by omega) (by omega),show shF a b o n=n+b by unfold shF;rw[if_pos ⟨h12,h⟩]]
    exact k0 _
   ·refine zgE (zad (eqt h12) (zaa (decide_eq_false h) ?_))
    rw[show shF a b o n=n by unfold shF;rw[if_neg (fun x=>h x.2)]]
    exact k0 _
  ·refine zgE (zaa (eqf h12) ?_)
   rw[show shF a b o n=n by unfold shF;rw[if_neg (fun x=>h12 x.1)]]
   exact k0 _
def zDf (a b o n:Int) (kids:List (List AC)):Prop:=cS [.int o,.int n,.sl 3 kids]≤29∧(0≤a∧a≤99)∧(0≤b∧b≤99)∧zlA 31 [.int o,.int n,.sl 3 kids]=true
theorem inb {n:Int} (h:0≤n∧n≤99):(decide (0≤n)&&decide (n≤99))=true:=by simp[h]
theorem zBb {ρ:Type}{r:ρ}{x:Option AV}{o n:Int}{l:List (List AC)}{b:Bool} (h:x=some (.tup [.agg [.int o,.int n,.sl 3 l],.cell (.bool b)])) {K:Fn (Option ρ) (zaW [(true,[.int 0,.int 0,.sl 3 []]),(false,[.bool false])])} (h2:(K:Int→Int→List (List AC)→Bool→Option ρ) o n l b=some r):zaz x true [(true,[.int 0,.int 0,.sl 3 []]),(false,[.bool false])] K=some r:=by rw[h];exact h2
theorem ztp {a b o n:Int}{kids:List (List AC)} (hf:Fit .expr [.int o,.int n,.sl 3 kids]) (h:zDf a b o n kids):zlr [.agg [.int o,.int n,.sl 3 kids],.cell (.int a),.cell (.int b)]=some (.tup [.agg [.int o,.int (shF a b o n),.sl 3 (kids.map (shr a b 30))],.cell (.bool true)]):=by
 obtain⟨hc,ha,hb,hv⟩:=h;have e:decide (zjl [.int o,.int n,.sl 3 kids]<0)=false:=by
  rcases zuF (x:=[.int o,.int n,.sl 3 kids]) with ⟨_,e⟩|⟨g,_⟩
  ·exact e
  ·exact absurd hc g
 have g1:=zpa a
 have g2:=zpa b
 have g3:=zwf 31 _ hf (by omega)
 rw[inb ha] at g1;rw[inb hb] at g2;rw[hv] at g3;have g4:=zvM (a:=a) hb 31 _ hf (by omega) (by omega) hv
 exact zqW (zal (zhv hf) (zaa e (zat g1 (zaa rfl (zat g2 (zaa rfl (zat g3 (zaa rfl (zae g4 rfl)))))))))
end
section
open Go Go.RowKit
section
variable {D:List DM}{R:List PM} (hv:CP D R)
include hv
theorem zyJ {V:List Int}{x:List AC}{t:Int} (h:HT D R V x t):∀s,Fit .expr x→cS x<s→V.length+3*s≤100→zlA s x=true:=by
 induction h with
 | var V n kids hk h =>
  intro s hf hs hl;obtain⟨s,rfl⟩:∃j,s=j+1:=⟨s-1,by omega⟩
  rw[zjk,List.length_eq_zero_iff.1 hk];simp
  omega
 | bind V kids t0 t hl h0 h1 h2 i1 i2 =>
  intro s hf hs hb;obtain⟨s,rfl⟩:∃j,s=j+1:=⟨s-1,by omega⟩
  obtain⟨_,_,_,hk⟩:=zdj hf;rw[zjk,show(!((13:Int)==12))=true from rfl,Bool.true_or,Bool.true_and,List.all_eq_true];intro c hc;obtain⟨k,hkl,rfl⟩:=List.getElem_of_mem hc;rw[show kids[k]=kids.getD k [] by simp[List.getD,hkl]]
  have hlt:=zcz hkl (o:=13) (n:=0)
  have hfk:=hk _ (zaZ hkl [])
  rcases(by omega:k=0∨k=1) with rfl|rfl
  ·exact i1 s hfk (by omega) (by omega)
  ·exact i2 s hfk (by omega) (by rw[List.length_append,List.length_singleton];omega)
 | ifz V kids t hl h0 h1 h2 i0 i1 i2 =>
  intro s hf hs hb;obtain⟨s,rfl⟩:∃j,s=j+1:=⟨s-1,by omega⟩
  obtain⟨_,_,_,hk⟩:=zdj hf;rw[zjk,show(!((7:Int)==12))=true from rfl,Bool.true_or,Bool.true_and,List.all_eq_true];intro c hc;obtain⟨k,hkl,rfl⟩:=List.getElem_of_mem hc;rw[show kids[k]=kids.getD k [] by simp[List.getD,hkl]]
  have hlt:=zcz hkl (o:=7) (n:=0)
  have hfk:=hk _ (zaZ hkl [])
  rcases(by omega:k=0∨k=1∨k=2) with rfl|rfl|rfl
  ·exact i0 s hfk (by omega) (by omega)
  ·exact i1 s hfk (by omega) (by omega)
  ·exact i2 s hfk (by omega) (by omega)
 | mtch V kids j n t hn hj hc hl h0 hs' i0 is =>
  intro s hf hs hb;obtain⟨s,rfl⟩:∃j,s=j+1:=⟨s-1,by omega⟩
  obtain⟨_,_,_,hk⟩:=zdj hf;rw[zjk,show(!((8:Int)==12))=true from rfl,Bool.true_or,Bool.true_and,List.all_eq_true];intro c hc;obtain⟨k,hkl,rfl⟩:=List.getElem_of_mem hc;rw[show kids[k]=kids.getD k [] by simp[List.getD,hkl]]
  have hlt:=zcz hkl (o:=8) (n:=n)
  have hfk:=hk _ (zaZ hkl [])
  rcases k with _|k
  ·exact i0 s hfk (by omega) (by omega)
  ·have h3:=(hv.dv.c j hj _ (zaZ (show k<(gD D j).cs.length by omega) [])).1
   have:=is k (by omega) s
   rw[Nat.add_comm 1 k] at this;exact this hfk (by omega) (by rw[List.length_append];omega)
 | op V o n kids T t h12 h13 h7 h8 hk' ht h0 ih =>
  intro s hf hs hb;obtain⟨s,rfl⟩:∃j,s=j+1:=⟨s-1,by omega⟩
  obtain⟨_,_,_,hk⟩:=zdj hf;rw[zjk,eqf h12,Bool.not_false,Bool.true_or,Bool.true_and,List.all_eq_true];intro c hc;obtain⟨k,hkl,rfl⟩:=List.getElem_of_mem hc;rw[show kids[k]=kids.getD k [] by simp[List.getD,hkl]]
  have hlt:=zcz hkl (o:=o) (n:=n)
  exact ih k hkl s (hk _ (zaZ hkl [])) (by omega) (by omega)
omit hv in
/-- A typed expression,shifted over a variable more. -/
theorem zxV {V:List Int}{x:List AC}{t:Int} (h:HT D R V x t):∀(A B:List Int) (a:Int),V=A++B→∀s,Fit .expr x→cS x<s→HT D R (A++a::B) (shr (A.length:Int) 1 s x) t:=by
 induction h with
 | var V n kids hk h =>
  intro A B a hV s hf hs;obtain⟨s,rfl⟩:∃j,s=j+1:=⟨s-1,by omega⟩
  subst hV;rw[List.length_append] at h;rw[zid];have hlen:(A++a::B).length=A.length+B.length+1:=by simp;omega
  by_cases hc:(A.length:Int)≤n
  ·have e:(A++B).getD n.toNat 0=(A++a::B).getD (n+1).toNat 0:=by
    simp only[List.getD];rw[List.getElem?_append_right (by omega),List.getElem?_append_right (by omega),show(n+1).toNat-A.length=(n.toNat-A.length)+1 by omega,List.getElem?_cons_succ]
   rw[show shF (A.length:Int) 1 12 n=n+1 by unfold shF;rw[if_pos ⟨rfl,hc⟩],e]
   exact .var _ _ _ (by rw[List.length_map];exact hk) (by rw[hlen];omega)
  ·have e:(A++B).getD n.toNat 0=(A++a::B).getD n.toNat 0:=by
    simp only[List.getD];rw[List.getElem?_append_left (by omega),List.getElem?_append_left (by omega)]
   rw[show shF (A.length:Int) 1 12 n=n by unfold shF;rw[if_neg (fun h=>hc h.2)],e]
   exact .var _ _ _ (by rw[List.length_map];exact hk) (by rw[hlen];omega)
 | bind V kids t0 t hl h0 h1 h2 i1 i2 =>
  intro A B a hV s hf hs;obtain⟨s,rfl⟩:∃j,s=j+1:=⟨s-1,by omega⟩
  obtain⟨_,_,_,hk⟩:=zdj hf;subst hV;rw[zid,show shF (A.length:Int) 1 13 0=0 by unfold shF;rw[if_neg (fun h=>absurd h.1 (by decide))]]
  have l0:=zcz (show 0<kids.length by omega) (o:=13) (n:=0)
  have l1:=zcz (show 1<kids.length by omega) (o:=13) (n:=0)
  have g1:=i1 A B a rfl s (hk _ (zaZ (by omega) [])) (by omega)
  have g2:=i2 A (B++[t0]) a (by rw[List.append_assoc]) s (hk _ (zaZ (by omega) [])) (by omega)
  refine .bind _ _ t0 _ (by rw[List.length_map];exact hl) h0 ?_ ?_
  ·rw[zgs (by omega)];exact g1
  ·rw[zgs (by omega),List.append_assoc];exact g2
 | ifz V kids t hl h0 h1 h2 i0 i1 i2 =>
  intro A B a hV s hf hs;obtain⟨s,rfl⟩:∃j,s=j+1:=⟨s-1,by omega⟩
  obtain⟨_,_,_,hk⟩:=zdj hf;rw[zid,show shF (A.length:Int) 1 7 0=0 by unfold shF;rw[if_neg (fun h=>absurd h.1 (by decide))]]
  have l0:=zcz (show 0<kids.length by omega) (o:=7) (n:=0)
  have l1:=zcz (show 1<kids.length by omega) (o:=7) (n:=0)
  have l2:=zcz (show 2<kids.length by omega) (o:=7) (n:=0)
  have g0:=i0 A B a hV s (hk _ (zaZ (by omega) [])) (by omega)
  have g1:=i1 A B a hV s (hk _ (zaZ (by omega) [])) (by omega)
  have g2:=i2 A B a hV s (hk _ (zaZ (by omega) [])) (by omega)
  exact .ifz _ _ _ (by rw[List.length_map];exact hl) (by rw[zgs (by omega)];exact g0) (by rw[zgs (by omega)];exact g1) (by rw[zgs (by omega)];exact g2)
 | mtch V kids j n t hn hj hc hl h0 hs' i0 is =>
  intro A B a hV s hf hs;obtain⟨s,rfl⟩:∃j,s=j+1:=⟨s-1,by omega⟩
  obtain⟨_,_,_,hk⟩:=zdj hf;rw[zid,show shF (A.length:Int) 1 8 n=n by unfold shF;rw[if_neg (fun h=>absurd h.1 (by decide))]]
  have l0:=zcz (show 0<kids.length by omega) (o:=8) (n:=n)
  have g0:=i0 A B a hV s (hk _ (zaZ (by omega) [])) (by omega)
  refine .mtch _ _ j n _ hn hj hc (by rw[List.length_map];exact hl) (by rw[zgs (by omega)];exact g0) fun k hkc=>?_
  have l1:=zcz (show 1+k<kids.length by omega) (o:=8) (n:=n)
  have g1:=is k hkc A (B++(gD D j).cs.getD k []) a (by rw[hV,List.append_assoc]) s (hk _ (zaZ (by omega) [])) (by omega)
  rw[zgs (by omega),List.append_assoc]
  exact g1
 | op V o n kids T t h12 h13 h7 h8 hk' ht h0 ih =>
  intro A B a hV s hf hs;obtain⟨s,rfl⟩:∃j,s=j+1:=⟨s-1,by omega⟩
  obtain⟨_,_,_,hk⟩:=zdj hf;rw[zid,show shF (A.length:Int) 1 o n=n by unfold shF;rw[if_neg (fun h=>h12 h.1)]]
  refine .op _ _ _ _ T _ h12 h13 h7 h8 (fun k hkl=>?_) (by rw[List.length_map];exact ht) h0
  rw[List.length_map] at hkl;have l1:=zcz hkl (o:=o) (n:=n)
  rw[zgs hkl];exact ih k hkl A B a hV s (hk _ (zaZ hkl [])) (by omega)
theorem zxm {V:List Int}{x:List AC}{t:Int} (h:HT D R V x t):∀s,Fit .expr x→cS x<s→s≤31→∀G M:List Int,G++M=V→V.length+3*s≤1048576→iTy D R G M x=rI t:=by
 induction h with
 | var V n kids hk h =>
  intro s hf hs h31 G M hV hl;obtain⟨_,hn,_,_⟩:=zdj hf;subst hV;have hGM:G.length+M.length≤1048576:=by rw[List.length_append] at hl;omega
  have g:=znX G M (by omega) (by omega) hn
  rw[show tv (G++M) n=(G++M).getD n.toNat 0 by unfold tv;rw[if_pos h]] at g
  exact zbg (zad rfl (zaa (decide_eq_false (by omega)) (zal g rfl)))
 | bind V kids t0 t hl h0 h1 h2 i1 i2 =>
  intro s hf hs h31 G M hV hb;obtain⟨s,rfl⟩:∃j,s=j+1:=⟨s-1,by omega⟩
  obtain⟨_,_,_,hk⟩:=zdj hf;subst hV;have hGM:G.length+M.length≤1048576:=by rw[List.length_append] at hb;omega
  obtain⟨o0,n0,k0,e0,f0⟩:=zdr hk (show 0<kids.length by omega)
  obtain⟨o1,n1,k1,e1,f1⟩:=zdr hk (show 1<kids.length by omega)
  have l0:=zcz (show 0<kids.length by omega) (o:=13) (n:=0)
  have l1:=zcz (show 1<kids.length by omega) (o:=13) (n:=0)
  rw[e0] at l0 i1;rw[e1] at l1 i2;have g0:=i1 s f0 (by omega) (by omega) G M rfl (by omega)
  have g1:=i2 s f1 (by omega) (by omega) G (M++[t0]) (by rw[List.append_assoc]) (by rw[List.length_append,List.length_singleton];omega)
  exact zbg (zaa rfl (zad rfl (zal (zcW (zaa (nef rfl) (zaa (nef (by omega)) (zdx (by omega) e0 (zal g0 (zaa (decide_eq_false (by omega)) (zp9 (zqE G M [t0] (by simp;omega)) (zcc (k:=1) (by omega) e1 (zal g1 rfl))))))))) rfl)))
 | ifz V kids t hl h0 h1 h2 i0 i1 i2 =>
  intro s hf hs h31 G M hV hb;obtain⟨s,rfl⟩:∃j,s=j+1:=⟨s-1,by omega⟩
  obtain⟨_,_,_,hk⟩:=zdj hf;obtain⟨o0,n0,k0,e0,f0⟩:=zdr hk (show 0<kids.length by omega)
  obtain⟨o1,n1,k1,e1,f1⟩:=zdr hk (show 1<kids.length by omega)
  obtain⟨o2,n2,k2,e2,f2⟩:=zdr hk (show 2<kids.length by omega)
  have l0:=zcz (show 0<kids.length by omega) (o:=7) (n:=0)
  have l1:=zcz (show 1<kids.length by omega) (o:=7) (n:=0)
  have l2:=zcz (show 2<kids.length by omega) (o:=7) (n:=0)
  rw[e0] at l0 i0;rw[e1] at l1 i1;rw[e2] at l2 i2;have g0:=i0 s f0 (by omega) (by omega) G M hV (by omega)
  have g1:=i1 s f1 (by omega) (by omega) G M hV (by omega)
  have g2:=i2 s f2 (by omega) (by omega) G M hV (by omega)
  have hi:zeA [.agg [.sl 3 (zah D),.sl 5 (zaC R)],.agg [.sl 1 (zab G),.sl 1 (zab M)],.agg [.int 7,.int 0,.sl 3 kids]]=rI t :=
   zc7 (zaa (nef rfl) (zaa (nef (by omega)) (zcc (k:=1) (by omega) e1 (zal g1 (zdx (by omega) e0 (zal g0 (zaa rfl (zcc (k:=2) (by omega) e2 (zal g2 (zaa (nef rfl) rfl))))))))))
  exact zbg (zaa rfl (zaa rfl (zad rfl (zal hi rfl))))
 | mtch V kids j n t hn hj hc hl h0 hs' i0 is =>
  intro s hf hs h31 G M hV hb;obtain⟨s,rfl⟩:∃j,s=j+1:=⟨s-1,by omega⟩
  obtain⟨_,_,hml,hk⟩:=zdj hf;have hcs:=zcm 8 n kids
  have hl4:=hv.dv.len
  have hc3:=hv.dv.cs j hj
  have hGM:G.length+M.length≤1048576:=by rw[←hV,List.length_append] at hb;omega
  have hbk:∀k,k<kids.length→∃o n ks,kids.getD k []=[.int o,.int n,.sl 3 ks]:=fun k hlt=>by
   obtain⟨o',n',ks,e,_⟩:=zdr hk hlt;exact⟨o',n',ks,e⟩
  obtain⟨o0,n0,k0,e0,f0⟩:=zdr hk (show 0<kids.length by omega)
  obtain⟨o1,n1,k1,e1,f1⟩:=zdr hk (show 1<kids.length by omega)
  have l0:=zcz (show 0<kids.length by omega) (o:=8) (n:=n)
  rw[e0] at l0 i0;have g0:=i0 s f0 (by omega) (by omega) G M hV (by omega)
  have h3:∀k,k<(gD D j).cs.length→((gD D j).cs.getD k []).length≤3:=fun k hk=>(hv.dv.c j hj _ (zaZ hk [])).1
  have gs:∀k,k<(gD D j).cs.length→iTy D R G (M++(gD D j).cs.getD k []) (kids.getD (1+k) [])=rI t:=fun k hkc=>by
   have l1:=zcz (show 1+k<kids.length by omega) (o:=8) (n:=n)
   have:=h3 k hkc
   exact is k hkc s (hk _ (zaZ (by omega) [])) (by omega) (by omega) G _ (by rw[←hV,List.append_assoc]) (by rw[List.length_append];omega)
  have s0:=gs 0 hc
  rw[show 1+0=1 from rfl,e1] at s0;have li:=zsR (D:=D) (R:=R) G M (by omega) 8 n kids (gD D j).cs (fun _=>t) (by omega) (by omega) h3 hbk gs t ((gD D j).cs.length-1) 1 (by omega)
  have hct:∀m k,chk (fun _=>t) t m k=t:=by
   intro m;induction m with
   | zero=>intro k;rfl
   | succ m ih=>intro k;unfold chk;rw[if_pos rfl];exact ih _
  rw[hct] at li;have hd:zur D n=true:=by
   unfold zur;rw[decide_eq_true (by omega),isTy_iff.2 (by omega),show n.toNat-1=j by omega,decide_eq_true hc]
   rfl
  have w:zaf (n-1)=(j:Int):=by rw[wr (by omega) (by omega)];omega
  have wl:zaf (1+((((gD D j).cs.length:Nat)):Int))=((1+(gD D j).cs.length:Nat):Int):=by rw[wr (by omega) (by omega)];omega
  have:=h3 0 hc
  refine zbg (zaa rfl (zaa rfl (zaa rfl (zad rfl (zal (zer (zat (zpO (by omega) n) ?_)) rfl)))))
  rw[hd];refine zaa rfl (zbA (k:=j) w hj ?_)
  rw[zaX,wl];exact zaa (nef (by omega)) (zdx (by omega) e0 (zal g0 (zaa (nef rfl) (zko (k:=0) rfl hc (zp9 (zqE G M _ (by omega)) (zcc (k:=1) (by omega) e1 (zal s0 li)))))))
 | op V o n kids T t h12 h13 h7 h8 hk' ht h0 ih =>
  intro s hf hs h31 G M hV hb;obtain⟨s,rfl⟩:∃j,s=j+1:=⟨s-1,by omega⟩
  obtain⟨_,_,hml,hk⟩:=zdj hf;have hcs:=zcm o n kids
  have hbk:∀k,k<kids.length→∃o n ks,kids.getD k []=[.int o,.int n,.sl 3 ks]:=fun k hlt=>by
   obtain⟨o',n',ks,e,_⟩:=zdr hk hlt;exact⟨o',n',ks,e⟩
  have hTi:∀k,k<kids.length→∀o n ks,kids.getD k []=[.int o,.int n,.sl 3 ks]→iTy D R G M [.int o,.int n,.sl 3 ks]=rI (T k):=fun k hlt o' n' ks e=>by
   have l1:=zcz hlt (o:=o) (n:=n)
   have hfk:=hk _ (zaZ hlt [])
   have:=ih k hlt s hfk (by omega) (by omega) G M hV (by omega)
   rw[e] at this;exact this
  rw[←ht];exact zbg (zaa (eqf h12) (zaa (eqf h13) (zaa (eqf h7) (zaa (eqf h8) (zaO (zrI G M kids (by omega) T hbk hTi) (zal (znW hv o n _ (by rw[zc5];exact hml)) rfl))))))
end
end
section
open Go Go.RowKit
section
variable {D:List DM}{R R':List PM}
theorem zkn (hi:PIn D R) (hs:zmq D R=true) (hv:CP D R) {V:List Int} (hV:∀u∈V,0≤u∧u≤D.length) (hl:V.length≤100) {x:List AC}{t:Int} (hf:Fit .expr x) (hc:cS x≤29) (h:HT D R V x t) :
  zb3 [.agg [.sl 3 (zah D),.sl 5 (zaC R)],.cell (.sl 1 (zab V)),.agg x]=rI t:=by
 have ha:V.all (zdk D)=true:=by
  rw[List.all_eq_true];exact fun t ht=>isTy_iff.2 (hV t ht)
 have g:=zxm hv h 31 hf (by omega) (by omega) V [] (by simp) (by omega)
 obtain⟨o,n,kids,rfl⟩:=zm9 hf;refine zcC (zat (zjM D R hi.d hi.r hi.dl) ?_)
 rw[hs];refine zaa rfl (zat (zim D _ (by unfold za9;omega)) ?_)
 rw[ha];refine zaa rfl (zal (zhv hf) ?_)
 rw[zmH,decide_eq_true hc];exact zaa rfl (zal g rfl)
end
end
end Go.Proofs.Ytcpcagdialnbeaa
