/- Generic texts and models for the proofs of this seat: part 25. -/
import Derived.Test.YtkgbadeobdbinaaGreatY24
set_option linter.unusedVariables false
set_option linter.unusedSimpArgs false
namespace Go.Proofs.YtkgbadeobdbinaaGreat
section
open Go
theorem zrd {a b:Int} (h:a=b):rI a=rI b:=by rw[h]
theorem zbq (o n:Int) (kids:List (List AC)):cS [.int o,.int n,.sl 3 kids]=kids.length+rsS kids:=by
 rw[zB7,zB7,zGX,zFJ];omega
theorem zeh {o n:Int}{kids:List (List AC)} (h:Fit .expr [.int o,.int n,.sl 3 kids]):inI o∧inI n∧kids.length≤zaS∧∀b∈kids,Fit .expr b:=by
 generalize ht:Ty.expr=t at h
 generalize hx:[AC.int o,AC.int n,AC.sl 3 kids]=x at h
 cases h with
 | expr o' n' kids' ho hn hl h =>
  simp only[List.cons.injEq,AC.int.injEq,AC.sl.injEq,true_and,and_true] at hx;obtain⟨rfl,rfl,rfl⟩:=hx;exact⟨ho,hn,hl,h⟩
 | _=>cases ht
theorem zmY {x:List AC} (h:Fit .expr x):∃o n kids,x=[.int o,.int n,.sl 3 kids]:=by
 generalize ht:Ty.expr=t at h
 cases h with
 | expr o n kids _ _ _ _=>exact⟨o,n,kids,rfl⟩
 | _=>cases ht
theorem zc5 {kids:List (List AC)} (h:∀b∈kids,Fit .expr b) {k:Nat} (hk:k<kids.length):∃o n ks,kids.getD k []=[.int o,.int n,.sl 3 ks]∧Fit .expr [.int o,.int n,.sl 3 ks]:=by
 have h1:=h _ (zaE hk [])
 obtain⟨o,n,ks,e⟩:=zmY h1;exact⟨o,n,ks,e,e▸h1⟩
theorem zaV {kids:List (List AC)}{k:Nat} (hk:k<kids.length) {o n:Int}:cS (kids.getD k [])<cS [.int o,.int n,.sl 3 kids]:=by
 rw[zbq];have:=zgi (zaE hk [])
 omega
def zsT (kids:List (List AC)) (k:Nat):Nat:=(kids.length-k)+rsS (kids.drop k)
theorem ztZ {kids:List (List AC)}{k:Nat} (hk:k<kids.length):zsT kids k=1+cS (kids.getD k [])+zsT kids (k+1):=by
 unfold zsT;rw[zvF hk];omega
theorem zvt (kids:List (List AC)):zsT kids kids.length=0:=by
 unfold zsT;rw[List.drop_eq_nil_of_le (Nat.le_refl _),zaR];omega
theorem zt4 (o n:Int) (kids:List (List AC)):zsT kids 0=cS [.int o,.int n,.sl 3 kids]:=by
 rw[zbq];unfold zsT;simp
def zsL (a b:Nat):Nat:=if a≤b then a else b
theorem zFs:∀(s:Nat) (o n:Int) (kids:List (List AC)),cS [.int o,.int n,.sl 3 kids]<s→Fit .expr [.int o,.int n,.sl 3 kids]→∀L:Nat,L≤30 →
  zgc [.agg [.int o,.int n,.sl 3 kids],.cell (.int (L:Int))]=rI ((zsL (1+cS [.int o,.int n,.sl 3 kids]) (L+1):Nat):Int):=by
 intro s;induction s with
 | zero=>intro o n kids h;omega
 | succ s ihs =>
  intro o n kids hs hf L hL;obtain⟨_,_,hl,hk⟩:=zeh hf;have key:∀m k:Nat,k+m=kids.length→∀c:Nat,1≤c→c≤L+1→zeH (L:Int) (c:Int) kids ((kids.length:Nat):Int) (k:Int)=rI ((zsL (c+zsT kids k) (L+1):Nat):Int):=by
   intro m;induction m with
   | zero =>
    intro k hk c h1 h2;obtain rfl:k=kids.length:=by omega
    refine zhM (zaa (decide_eq_false (by omega)) ?_)
    rw[zvt];unfold zsL;rw[if_pos (by omega)]
    rfl
   | succ m ih =>
    intro k hkm c h1 h2;have hlt:k<kids.length:=by omega
    obtain⟨o',n',ks,e,hf'⟩:=zc5 hk hlt;have hr:=ztZ hlt
    have hlt':=zaV hlt (o:=o) (n:=n)
    rw[e] at hr hlt';refine zhM (zab (decide_eq_true (by omega)) (zaB hlt e ?_))
    by_cases hc:c=L+1
    ·refine zab (decide_eq_true (by omega)) ?_
     unfold zsL;split
     ·have:c+zsT kids k=c:=by omega
      rw[this]
     ·rw[hc]
    refine zaa (decide_eq_false (by omega)) ?_
    have w1:zad ((L:Int)-(c:Int))=((L-c:Nat):Int):=by rw[wr (by omega) (by omega)];omega
    rw[w1];refine zan (ihs o' n' ks (by omega) hf' (L-c) (by omega)) ?_
    generalize cS [.int o',.int n',.sl 3 ks]=z at hr
    have hm:zsL (1+z) (L-c+1)≤L-c+1∧1≤zsL (1+z) (L-c+1):=by unfold zsL;split <;> omega
    have w2:zad ((c:Int)+((zsL (1+z) (L-c+1):Nat):Int))=((c+zsL (1+z) (L-c+1):Nat):Int):=by rw[wr (by omega) (by omega)];omega
    rw[w2,wrk (by omega)]
    rw[ih (k+1) (by omega) _ (by omega) (by omega),hr]
    refine zrd ?_
    unfold zsL;split <;> split <;> split <;> omega
  have:=key kids.length 0 (by omega) 1 (by omega) (by omega)
  rw[zt4 o n] at this;exact zoT this
def zvM (x:List AC):Int:=if cS x≤29 then((1+cS x:Nat):Int) else -1
theorem zpx {o n:Int}{kids:List (List AC)} (hf:Fit .expr [.int o,.int n,.sl 3 kids]):zi1 [.agg [.int o,.int n,.sl 3 kids]]=rI (zvM [.int o,.int n,.sl 3 kids]):=by
 refine zqz (zan (zFs _ o n kids (Nat.lt_succ_self _) hf 30 (by omega)) ?_)
 unfold zvM zsL;generalize cS [.int o,.int n,.sl 3 kids]=z
 by_cases h:z≤29
 ·rw[if_pos (show 1+z≤30+1 by omega),if_pos h]
  exact zaa (decide_eq_false (by omega)) rfl
 ·rw[if_neg h]
  refine zab (decide_eq_true ?_) rfl
  split <;> omega
theorem zFt:∀(s:Nat) (o n:Int) (kids:List (List AC)),cS [.int o,.int n,.sl 3 kids]<s→Fit .expr [.int o,.int n,.sl 3 kids]→∀L:Nat,L≤30 →
  zgu [.agg [.int o,.int n,.sl 3 kids],.cell (.int (L:Int))]=rI (if 1+cS [.int o,.int n,.sl 3 kids]≤L then((L-(1+cS [.int o,.int n,.sl 3 kids]):Nat):Int) else -1):=by
 intro s;induction s with
 | zero=>intro o n kids h;omega
 | succ s ihs =>
  intro o n kids hs hf L hL;obtain⟨_,_,hl,hk⟩:=zeh hf;have key:∀m k:Nat,k+m=kids.length→∀c:Nat,c≤30→zez (c:Int) o n kids (k:Int)=rI (if zsT kids k≤c then((c-zsT kids k:Nat):Int) else -1):=by
   intro m;induction m with
   | zero =>
    intro k hk c h2;obtain rfl:k=kids.length:=by omega
    refine zhB (zaa (decide_eq_false (by omega)) ?_)
    rw[zvt,if_pos (by omega)]
    rfl
   | succ m ih =>
    intro k hkm c h2;have hlt:k<kids.length:=by omega
    obtain⟨o',n',ks,e,hf'⟩:=zc5 hk hlt;have hr:=ztZ hlt
    have hlt':=zaV hlt (o:=o) (n:=n)
    rw[e] at hr hlt';refine zhB (zab (decide_eq_true (by omega)) (zaB hlt e (zan (ihs o' n' ks (by omega) hf' c h2) ?_)))
    generalize cS [.int o',.int n',.sl 3 ks]=z at hr
    by_cases hc:1+z≤c
    ·rw[if_pos hc]
     refine zaa (decide_eq_false (by omega)) ?_
     rw[wrk (by omega),ih (k+1) (by omega) _ (by omega)]
     refine zrd ?_
     split <;> split <;> omega
    ·rw[if_neg hc,if_neg (by omega)]
     exact zab rfl rfl
  refine zox ?_
  by_cases h1:L=0
  ·rw[if_neg (by omega)]
   exact zab (decide_eq_true (by omega)) rfl
  refine zaa (decide_eq_false (by omega)) ?_
  have w1:zad ((L:Int)-1)=((L-1:Nat):Int):=by rw[wr (by omega) (by omega)];omega
  have:=key kids.length 0 (by omega) (L-1) (by omega)
  rw[zt4 o n] at this;rw[w1,show((0:Nat):Int)=0 from rfl] at *;refine Eq.trans this ?_
  refine zrd ?_
  split <;> split <;> omega
theorem zm6 {o n:Int}{kids:List (List AC)} (hf:Fit .expr [.int o,.int n,.sl 3 kids]):zeY [.agg [.int o,.int n,.sl 3 kids]]=rI (zvM [.int o,.int n,.sl 3 kids]):=by
 refine zqW (zan (zFt _ o n kids (Nat.lt_succ_self _) hf 30 (by omega)) ?_)
 unfold zvM;generalize cS [.int o,.int n,.sl 3 kids]=z
 by_cases h:z≤29
 ·rw[if_pos (by omega),if_pos h]
  refine zaa (decide_eq_false (by omega)) ?_
  rw[wr (by omega) (by omega)]
  refine zrd ?_
  omega
 ·rw[if_neg (by omega),if_neg h]
  exact zab rfl rfl
end
section
open Go
def Qr (ns:List Nat) (p:Nat):List AC:=[.sl 1 (ns.map fun(u:Nat)=>[.bool true,.int (u:Int)]),.int (p:Int)]
section
variable {ρ:Type}{r:ρ}
theorem zal {x:Option (AV×List AC)}{n:Int}{q:List AC} (h:x=some (.v (.cell (.int n)),q)) {K:List AC→Fn (Option ρ) (za5 [(false,[.int 0])])} (h2:(K q:Int→Option ρ) n=some r):zd4 x false [(false,[.int 0])] K=some r:=by rw[h];exact h2
theorem zaO {x:Option (AV×List AC)}{o n:Int}{l:List (List AC)}{q:List AC} (h:x=some (.v (.agg [.int o,.int n,.sl 3 l]),q)) {K:List AC→Fn (Option ρ) (za5 [(true,[.int 0,.int 0,.sl 3 []])])} (h2:(K q:Int→Int→List (List AC)→Option ρ) o n l=some r):zd4 x false [(true,[.int 0,.int 0,.sl 3 []])] K=some r:=by rw[h];exact h2
theorem zkO {x:Option (AV×List AC)}{k:Nat}{l:List (List AC)}{q:List AC} (h:x=some (.v (.cell (.sl k l)),q)) {K:List AC→Fn (Option ρ) (za5 [(false,[.sl k []])])} (h2:(K q:List (List AC)→Option ρ) l=some r):zd4 x false [(false,[.sl k []])] K=some r:=by
 rw[h];exact zay rfl h2
theorem zrt {a b:Int}{n:Nat} (ha:0≤a) (hb:0<b) (hle:a≤9223372036854775807) (h:a / b=(n:Int)) {K:Int→Option ρ} (h2:K (n:Int)=some r):zri a b K=some r:=by
 unfold zri;rw[show(b==0)=false by rw[beq_eq_false_iff_ne];omega,Int.tdiv_eq_ediv_of_nonneg ha,h]
 have:a / b≤a:=Int.ediv_le_self _ ha
 rw[wr (by omega) (by omega)]
 exact h2
end
theorem zbM {ns:List Nat} (hns:ns.length≤2000) {p:Nat} (hp:p≤1000000) {m:Nat} (hm:1≤m):∃x:Nat,x<m∧zah (Qr ns p) [.cell (.int (m:Int))]=some (.v (.cell (.int (x:Int))),Qr ns (p+1)):=by
 have hrun:zoA (Qr ns p) [.cell (.int (m:Int))]=some (.v (.cell (.int (zkl ns p m))),Qr ns (p+1)):=by
  unfold Qr zoA;simp only[zmy,Option.bind_some];rw[if_pos ⟨by omega,by omega,hns⟩]
  simp
 have hrange:∃x:Nat,x<m∧zkl ns p m=(x:Int):=by
  unfold zkl;split
  ·exact⟨0,by omega,rfl⟩
  ·split
   ·have h1:=Int.emod_nonneg ((ns.getD p 0:Nat):Int) (show(m:Int)≠0 by omega)
    have h2:=Int.emod_lt_of_pos ((ns.getD p 0:Nat):Int) (show(0:Int)<m by omega)
    exact⟨(((ns.getD p 0:Nat):Int) % m).toNat,by omega,by omega⟩
   ·generalize bits .xor .i64 _ _=z
    have h1:=Int.emod_nonneg z (show(m:Int)≠0 by omega)
    have h2:=Int.emod_lt_of_pos z (show(0:Int)<m by omega)
    exact⟨(z % m).toNat,by omega,by omega⟩
 obtain⟨x,hx,e⟩:=hrange;rw[e] at hrun;exact⟨x,hx,zGd (by kernel_rfl) (by kernel_rfl:zgA 79=some zx9) hrun⟩
theorem zlY {ns:List Nat} (hns:ns.length≤2000) {p:Nat} (hp:p≤1000000) {xs:List Int} (hx:xs≠[]) (hl:xs.length≤1000000):∃x∈xs,zbb (Qr ns p) [.cell (.sl 1 (zae xs))]=some (.v (.cell (.int x)),Qr ns (p+1)):=by
 have hpos:=List.length_pos_iff.2 hx
 obtain⟨k,hk,h⟩:=zbM hns hp (m:=xs.length) hpos;refine⟨xs[k],List.getElem_mem hk,znP ?_⟩
 rw[zac];exact zal h (zbk hk rfl)
theorem zaz (o n:Int) (l:List (List AC)):zai [.cell (.int o),.cell (.int n),.cell (.sl 3 l)]=some (.v (.agg [.int o,.int n,.sl 3 l])):=zuH rfl
theorem zcL (n:Int):zbG [.cell (.int n)]=some (.v (.agg [.int 0,.int n,.sl 3 []])):=zqs rfl
theorem zaZ (n:Int):zap [.cell (.int n)]=some (.v (.agg [.int 12,.int n,.sl 3 []])):=zpd rfl
theorem zb0 (l:List (List AC)):zfC [.cell (.sl 1 l)]=some (.v (.agg [.sl 1 l])):=zwb rfl
theorem ztR {ns:List Nat} (hns:ns.length≤2000) {p:Nat} (hp:p+4≤1000000):∃x:Int,(-1000≤x∧x≤1000)∧zgL (Qr ns p) []=some (.v (.cell (.int x)),Qr ns (p+4)):=by
 obtain⟨a,ha,h1⟩:=zbM hns (p:=p) (by omega) (m:=6) (by omega)
 obtain⟨b,hb,h2⟩:=zbM hns (p:=p+1) (by omega) (m:=6) (by omega)
 obtain⟨c,hc,h3⟩:=zbM hns (p:=p+1+1) (by omega) (m:=40) (by omega)
 obtain⟨x,hx,h4⟩:=zlY hns (p:=p+1+1+1) (by omega) (xs:=[(a:Int),(b:Int),0,1,2,-1,3,(c:Int),999,-998]) (by simp) (by simp)
 refine⟨x,?_,zqG (zal h1 (zal h2 (zal h3 (zal h4 rfl))))⟩
 simp only[List.mem_cons,List.not_mem_nil,or_false] at hx;omega
theorem znb (xs:List Int) (n:Int) (hx:xs.length≤1048576):zjc [.cell (.sl 1 (zae xs)),.cell (.int n)]=rB (xs.contains n):=by
 have key:∀m k:Nat,k+m=xs.length→ziN (zae xs) n (k:Int)=some (.v (.cell (.bool ((xs.drop k).contains n)))):=by
  intro m;induction m with
  | zero =>
   intro k hk;rw[List.drop_eq_nil_of_le (by omega)]
   exact zlV (zaa (decide_eq_false (by rw[zac];omega)) rfl)
  | succ m ih =>
   intro k hk;have hlt:k<xs.length:=by omega
   have hnext:=ih (k+1) (by omega)
   rw[←wrk (by unfold zaS;omega)] at hnext
   rw[List.drop_eq_getElem_cons hlt,List.contains_cons];refine zlV (zab (decide_eq_true (by rw[zac];omega)) (zbk hlt ?_))
   rcases e:(xs[k]==n) with _|_
   ·rw[show(n==xs[k])=false by rw[beq_eq_false_iff_ne] at e ⊢;exact fun h=>e h.symm,Bool.false_or]
    exact zaa rfl hnext
   ·rw[show(n==xs[k])=true by rw[beq_iff_eq] at e ⊢;exact e.symm,Bool.true_or]
    exact zab rfl rfl
 exact zve (key xs.length 0 (by omega))
def zbO (D:List DM) (t:Int):List Int:=if 1≤t∧t≤D.length then(List.range (gD D (t.toNat-1)).cs.length).map fun i=>(((zbs (D.take (t.toNat-1))+i:Nat)):Int) else[]
theorem zey {D:List DM} (hv:DV D) (t:Int):zcl [.cell (.sl 3 (zag D)),.cell (.int t)]=rL (zbO D t):=by
 have h4:=hv.len
 refine zma (zas (zfe _ _ _) ?_)
 rw[zaY];unfold zbO;by_cases h:1≤t∧t≤(D.length:Int)
 rotate_left
 ·rw[if_neg h,show(decide (1≤t)&&decide (t≤(D.length:Int)))=false by rw[←Bool.decide_and];exact decide_eq_false h]
  exact zab rfl rfl
 rw[if_pos h,show(decide (1≤t)&&decide (t≤(D.length:Int)))=true by rw[←Bool.decide_and];exact decide_eq_true h]
 refine zaa rfl ?_
 have hk:t.toNat-1<D.length:=by omega
 have h3:=hv.cs _ hk
 have hsum:=zfK hv.cs (t.toNat-1) (by omega)
 have key:∀m i:Nat,i+m=(gD D (t.toNat-1)).cs.length→zeL (zag D) t (zae ((List.range i).map fun i=>(((zbs (D.take (t.toNat-1))+i:Nat)):Int))) (i:Int)=rL ((List.range (gD D (t.toNat-1)).cs.length).map fun i=>(((zbs (D.take (t.toNat-1))+i:Nat)):Int)):=by
  intro m;induction m with
  | zero =>
   intro i hi;refine zeB (zba (k:=t.toNat-1) (by rw[wr (by omega) (by omega)];omega) hk ?_)
   rw[zaL];exact zaa (decide_eq_false (by omega)) (by rw[show i=(gD D (t.toNat-1)).cs.length by omega])
  | succ m ih =>
   intro i hi;refine zeB (zba (k:=t.toNat-1) (by rw[wr (by omega) (by omega)];omega) hk ?_)
   rw[zaL];refine zab (decide_eq_true (by omega)) ?_
   rw[show zad (t-1)=((t.toNat-1:Nat):Int) by rw[wr (by omega) (by omega)];omega]
   refine zan (zjz hv (by omega)) (zbu (by rw[zac];simp;omega) ?_)
   have hn:=ih (i+1) (by omega)
   rw[List.range_succ,List.map_append] at hn;rw[wrk (by unfold zaS;omega)]
   rw[show zae ((List.range i).map fun i=>(((zbs (D.take (t.toNat-1))+i:Nat)):Int))++[[AC.int (zad (((zbs (D.take (t.toNat-1)):Nat):Int)+(i:Int)))]]=zae ((List.range i).map (fun i=>(((zbs (D.take (t.toNat-1))+i:Nat)):Int))++[i].map (fun i=>(((zbs (D.take (t.toNat-1))+i:Nat)):Int))) by
    rw[wr (by omega) (by omega)]
    simp[zae]]
   exact hn
 exact key (gD D (t.toNat-1)).cs.length 0 (by omega)
end
section
open Go
def zkF:List DM:=[⟨0,0,[[],[0,1]]⟩,⟨0,0,[]⟩,⟨0,0,[[],[3,0,3]]⟩]
def zdN:List (List DM):=[zkF++[⟨0,0,[[1,3]]⟩],zkF++[⟨1,0,[]⟩],zkF++[⟨0,0,[[1,1,0],[0],[3]]⟩],zkF++[⟨0,1,[]⟩],zkF]
theorem zxl:∀D∈zdN,zfJ D=true:=by decide
theorem zks {D:List DM} (h:D∈zdN):DV D:=zEZ (zxl D h)
theorem zgh {D:List DM} (h:D∈zdN):D.length≤4:=(zks h).len
theorem zql {ns:List Nat} (hns:ns.length≤2000) {p:Nat} (hp:p≤1000000):∃D∈zdN,zjA (Qr ns p) []=some (.v (.cell (.sl 3 (zag D))),Qr ns (p+1)):=by
 obtain⟨x,hx,h1⟩:=zbM hns hp (m:=5) (by omega)
 rcases(by omega:x=0∨x=1∨x=2∨x=3∨x=4) with rfl|rfl|rfl|rfl|rfl
 ·exact⟨zkF++[⟨0,0,[[1,3]]⟩],by simp[zdN],zdj (za4 (zb0 _) (za4 (zb0 _) (za4 (zb0 _) (za4 (zb0 _) (za4 (zb0 _) (za4 (zb0 _) (za4 (zb0 _) (za4 (zb0 _) (zal h1 (zab rfl (zrv (k:=0) (by decide) rfl (zbu (by decide) rfl))))))))))))⟩
 ·exact⟨zkF++[⟨1,0,[]⟩],by simp[zdN],zdj (za4 (zb0 _) (za4 (zb0 _) (za4 (zb0 _) (za4 (zb0 _) (za4 (zb0 _) (za4 (zb0 _) (za4 (zb0 _) (za4 (zb0 _) (zal h1 (zab rfl (zrv (k:=1) (by decide) rfl (zbu (by decide) rfl))))))))))))⟩
 ·exact⟨zkF++[⟨0,0,[[1,1,0],[0],[3]]⟩],by simp[zdN],zdj (za4 (zb0 _) (za4 (zb0 _) (za4 (zb0 _) (za4 (zb0 _) (za4 (zb0 _) (za4 (zb0 _) (za4 (zb0 _) (za4 (zb0 _) (zal h1 (zab rfl (zrv (k:=2) (by decide) rfl (zbu (by decide) rfl))))))))))))⟩
 ·exact⟨zkF++[⟨0,1,[]⟩],by simp[zdN],zdj (za4 (zb0 _) (za4 (zb0 _) (za4 (zb0 _) (za4 (zb0 _) (za4 (zb0 _) (za4 (zb0 _) (za4 (zb0 _) (za4 (zb0 _) (zal h1 (zab rfl (zrv (k:=3) (by decide) rfl (zbu (by decide) rfl))))))))))))⟩
 ·exact⟨zkF,by simp[zdN],zdj (za4 (zb0 _) (za4 (zb0 _) (za4 (zb0 _) (za4 (zb0 _) (za4 (zb0 _) (za4 (zb0 _) (za4 (zb0 _) (za4 (zb0 _) (zal h1 (zaa rfl rfl))))))))))⟩
def sigL:List (List Int×Int):=[([],0),([1],0),([1,1],1),([1],1),([1,0],1),([2,1],1),([1,1],0),([3],0),([0],1),([0,1],1),([3,0],3),([3],1),([1,3,0],0),([0],0),([0,0],0),([1,0],0)]
structure GR (R:List PM):Prop where
 len:R.length≤4
 sg:∀x∈R,(x.ps,x.r)∈sigL
theorem zt9:∀s∈sigL,s.1.length≤3∧(0≤s.2∧s.2≤3)∧∀t∈s.1,0≤t∧t≤3:=by decide
theorem GR.at {R:List PM} (h:GR R) {k:Nat} (hk:k<R.length):((gP R k).ps,(gP R k).r)∈sigL:=h.sg _ (zhj hk)
theorem GR.small {R:List PM} (h:GR R) {k:Nat} (hk:k<R.length):(gP R k).ps.length≤3∧(0≤(gP R k).r∧(gP R k).r≤3)∧∀t∈(gP R k).ps,0≤t∧t≤3:=zt9 _ (h.at hk)
abbrev pgC (D:List DM) (R:List PM):SV:=.agg [.sl 3 (zag D),.sl 5 (zao R)]
def zFO (D:List DM) (R:List PM) (t:Int) (fs:List Int):Prop:=∀f∈fs,∃k,k<R.length∧f=(k:Int)∧0<(gP R k).ps.length∧zhG ((gP R k).ps.getD ((gP R k).ps.length-1) 0) (gP R k).r D 0=t
theorem zrE (xs:List Int) (x:Int):zae xs++[[AC.int x]]=zae (xs++[x]):=by simp[zae]
theorem znJ {D:List DM} (hD:D.length≤4) {R:List PM} (hR:GR R) (t:Int):∃fs,zfz [pgC D R,.cell (.int t)]=rL fs∧fs.length≤4∧zFO D R t fs:=by
 have h4:=hR.len
 have key:∀m k:Nat,k+m=R.length→∀acc:List Int,acc.length≤k→zFO D R t acc→∃fs,zcO t (zag D) (zao R) (zae acc) (k:Int)=rL fs∧fs.length≤4∧zFO D R t fs:=by
  intro m;induction m with
  | zero =>
   intro k hk acc hl ha;exact⟨acc,zdw (zaa (decide_eq_false (by rw[za1];omega)) rfl),by omega,ha⟩
  | succ m ih =>
   intro k hk acc hl ha;have hlt:k<R.length:=by omega
   have h3:=(hR.small hlt).1
   have hw:zad ((k:Int)+1)=((k+1:Nat):Int):=wrk (by unfold zaS;omega)
   by_cases hz:0<(gP R k).ps.length
   ·by_cases he:zhG ((gP R k).ps.getD ((gP R k).ps.length-1) 0) (gP R k).r D 0=t
    ·obtain⟨fs,h1,h2,h5⟩:=ih (k+1) (by omega) (acc++[(k:Int)]) (by simp;omega) (fun f hf=>by
      rcases List.mem_append.1 hf with hf|hf
      ·exact ha f hf
      ·simp only[List.mem_singleton] at hf
       exact⟨k,hlt,hf,hz,he⟩)
     refine⟨fs,zdw (zab (decide_eq_true (by rw[za1];omega)) (zaQ rfl hlt (zab (decide_eq_true (by rw[zac];omega)) (zaQ rfl hlt ?_)))),h2,h5⟩
     rw[zac,show zad ((((gP R k).ps.length:Nat):Int)-1)=(((gP R k).ps.length-1:Nat):Int) by rw[wr (by omega) (by omega)];omega]
     refine zbk (by omega) (zaQ rfl hlt (zan (zu3 D (by omega) _ _) ?_))
     rw[List.getD,List.getElem?_eq_getElem (by omega),Option.getD_some] at he
     refine zab (by rw[he];simp) (zbu (by rw[zac];simp;omega) ?_)
     rw[zrE,hw];exact h1
    ·obtain⟨fs,h1,h2,h5⟩:=ih (k+1) (by omega) acc (by omega) ha
     refine⟨fs,zdw (zab (decide_eq_true (by rw[za1];omega)) (zaQ rfl hlt (zab (decide_eq_true (by rw[zac];omega)) (zaQ rfl hlt ?_)))),h2,h5⟩
     rw[zac,show zad ((((gP R k).ps.length:Nat):Int)-1)=(((gP R k).ps.length-1:Nat):Int) by rw[wr (by omega) (by omega)];omega]
     refine zbk (by omega) (zaQ rfl hlt (zan (zu3 D (by omega) _ _) ?_))
     rw[List.getD,List.getElem?_eq_getElem (by omega),Option.getD_some] at he
     refine zaa (by rw[beq_eq_false_iff_ne];exact he) ?_
     rw[hw];exact h1
   ·obtain⟨fs,h1,h2,h5⟩:=ih (k+1) (by omega) acc (by omega) ha
    refine⟨fs,zdw (zab (decide_eq_true (by rw[za1];omega)) (zaQ rfl hlt (zaa (decide_eq_false (by rw[zac];omega)) ?_))),h2,h5⟩
    rw[hw];exact h1
 obtain⟨fs,h1,h2,h3⟩:=key R.length 0 (by omega) [] (by simp) (fun f hf=>by cases hf)
 exact⟨fs,zpC h1,h2,h3⟩
theorem zm9 {D:List DM} (hD:D.length≤4) {R:List PM} (hR:GR R) {V:List Int} (hV:V.length≤1048576) (t:Int):∃b,ze3 [pgC D R,.cell (.sl 1 (zae V)),.cell (.int t)]=rB b:=by
 rcases ha:znt D t with _|_
 ·exact⟨true,zih (zas (zeg (by omega) t) (zab (by rw[ha];rfl) rfl))⟩
 ·obtain⟨fs,h1,h2,h3⟩:=znJ hD hR t
  by_cases hz:0<fs.length
  ·exact⟨true,zih (zas (zeg (by omega) t) (zaa (by rw[ha];rfl) (zay h1 (zab (decide_eq_true (by rw[zac];omega)) rfl))))⟩
  ·exact⟨V.contains t,zih (zas (zeg (by omega) t) (zaa (by rw[ha];rfl) (zay h1 (zaa (decide_eq_false (by rw[zac];omega)) (zas (znb V t hV) rfl)))))⟩
theorem zuB {V:List Int} (hV:V.length≤1048576) (t:Int):∃fs,zil [.cell (.sl 1 (zae V)),.cell (.int t)]=rL fs∧fs.length≤V.length∧∀f∈fs,0≤f∧f≤1048576:=by
 have key:∀m k:Nat,k+m=V.length→∀acc:List Int,acc.length≤k→(∀f∈acc,0≤f∧f≤1048576)→∃fs,zc0 (zae V) t (zae acc) (k:Int)=rL fs∧fs.length≤V.length∧∀f∈fs,0≤f∧f≤1048576:=by
  intro m;induction m with
  | zero =>
   intro k hk acc hl ha;exact⟨acc,zej (zaa (decide_eq_false (by rw[zac];omega)) rfl),by omega,ha⟩
  | succ m ih =>
   intro k hk acc hl ha;have hlt:k<V.length:=by omega
   have hw:zad ((k:Int)+1)=((k+1:Nat):Int):=wrk (by unfold zaS;omega)
   rcases he:(V[k]==t) with _|_
   ·obtain⟨fs,h1,h2,h5⟩:=ih (k+1) (by omega) acc (by omega) ha
    refine⟨fs,zej (zab (decide_eq_true (by rw[zac];omega)) (zbk hlt (zaa he ?_))),h2,h5⟩
    rw[hw];exact h1
   ·obtain⟨fs,h1,h2,h5⟩:=ih (k+1) (by omega) (acc++[(k:Int)]) (by simp;omega) (fun f hf=>by
     rcases List.mem_append.1 hf with hf|hf
     ·exact ha f hf
     ·simp only[List.mem_singleton] at hf
      omega)
    refine⟨fs,zej (zab (decide_eq_true (by rw[zac];omega)) (zbk hlt (zab he (zbu (by rw[zac];simp;omega) ?_)))),h2,h5⟩
    rw[zrE,hw];exact h1
 obtain⟨fs,h1,h2,h3⟩:=key V.length 0 (by omega) [] (by simp) (fun f hf=>by cases hf)
 exact⟨fs,znY h1,h2,h3⟩
theorem zt8 {D:List DM} (hD:D.length≤4) {R:List PM} (hR:GR R) {V:List Int} (hV:V.length≤1048576) {ns:List Nat} (hns:ns.length≤2000) {p:Nat} (hp:p≤1000000) :
  ∃t:Int,(0≤t∧t≤4)∧zi3 (Qr ns p) [pgC D R,.cell (.sl 1 (zae V))]=some (.v (.cell (.int t)),Qr ns (p+1)):=by
 obtain⟨x,hx,h1⟩:=zlY hns hp (xs:=[1,1,3,0,2,4,3]) (by simp) (by simp)
 have hx4:0≤x∧x≤4:=by
  simp only[List.mem_cons,List.not_mem_nil,or_false] at hx;omega
 by_cases hl:x>(((zag D).length:Nat):Int)
 ·exact⟨1,by omega,zik (zal h1 (zab (decide_eq_true hl) rfl))⟩
 ·obtain⟨b,hb⟩:=zm9 hD hR hV x
  rcases b with _|_
  ·exact⟨1,by omega,zik (zal h1 (zaa (decide_eq_false hl) (zas hb (zab rfl rfl))))⟩
  ·exact⟨x,hx4,zik (zal h1 (zaa (decide_eq_false hl) (zas hb (zaa rfl rfl))))⟩
def zC6 (R:List PM) (fs:List Int):Prop:=∀f∈fs,∃k,k<R.length∧f=(k:Int)
theorem zrH {D:List DM} (hD:D.length≤4) {R:List PM} (hR:GR R) (t:Int):∃fs,zbo [pgC D R,.cell (.int t)]=rL fs∧fs.length≤4∧zC6 R fs:=by
 have h4:=hR.len
 have key:∀m k:Nat,k+m=R.length→∀acc:List Int,acc.length≤k→zC6 R acc→∃fs,zdA t (zag D) (zao R) (zae acc) (k:Int)=rL fs∧fs.length≤4∧zC6 R fs:=by
  intro m;induction m with
  | zero =>
   intro k hk acc hl ha;exact⟨acc,zfh (zaa (decide_eq_false (by rw[za1];omega)) rfl),by omega,ha⟩
  | succ m ih =>
   intro k hk acc hl ha;have hlt:k<R.length:=by omega
   have h3:=(hR.small hlt).1
   have hw:zad ((k:Int)+1)=((k+1:Nat):Int):=wrk (by unfold zaS;omega)
   have inner:∀n i:Nat,i+n=(gP R k).ps.length→∀b:Bool,∃fs,zdH t (zag D) (zao R) (zae acc) (k:Int) b (i:Int)=rL fs∧fs.length≤4∧zC6 R fs:=by
    intro n;induction n with
    | zero =>
     intro i hi b;cases b with
     | false =>
      obtain⟨fs,h1,h2,h5⟩:=ih (k+1) (by omega) acc (by omega) ha
      refine⟨fs,zdv (zaQ rfl hlt (zaa (decide_eq_false (by rw[zac];omega)) (zaa rfl ?_))),h2,h5⟩
      rw[hw];exact h1
     | true =>
      obtain⟨fs,h1,h2,h5⟩:=ih (k+1) (by omega) (acc++[(k:Int)]) (by simp;omega) (fun f hf=>by
       rcases List.mem_append.1 hf with hf|hf
       ·exact ha f hf
       ·simp only[List.mem_singleton] at hf
        exact⟨k,hlt,hf⟩)
      refine⟨fs,zdv (zaQ rfl hlt (zaa (decide_eq_false (by rw[zac];omega)) (zab rfl (zbu (by rw[zac];simp;omega) ?_)))),h2,h5⟩
      rw[zrE,hw];exact h1
    | succ n ihn =>
     intro i hi b;have hil:i<(gP R k).ps.length:=by omega
     have hwi:zad ((i:Int)+1)=((i+1:Nat):Int):=wrk (by unfold zaS;omega)
     cases b with
     | false =>
      obtain⟨fs,h1,h2,h5⟩:=ihn (i+1) (by omega) false
      refine⟨fs,zdv (zaQ rfl hlt (zab (decide_eq_true (by rw[zac];omega)) (zaa rfl ?_))),h2,h5⟩
      rw[hwi];exact h1
     | true =>
      obtain⟨c,hc⟩:=zm9 hD hR (V:=[]) (by simp) (gP R k).ps[i]
      obtain⟨fs,h1,h2,h5⟩:=ihn (i+1) (by omega) c
      refine⟨fs,zdv (zaQ rfl hlt (zab (decide_eq_true (by rw[zac];omega)) (zab rfl (zaQ rfl hlt (zbk hil (zas hc ?_)))))),h2,h5⟩
      rw[hwi];exact h1
   obtain⟨fs,h1,h2,h5⟩:=inner (gP R k).ps.length 0 (by omega) ((gP R k).r==t)
   exact⟨fs,zfh (zab (decide_eq_true (by rw[za1];omega)) (zaQ rfl hlt h1)),h2,h5⟩
 rcases Nat.lt_or_ge R.length 1 with h0|h0
 ·exact⟨[],zk0 (zfh (zaa (decide_eq_false (by rw[za1];omega)) rfl)),by simp,fun f hf=>by cases hf⟩
 ·obtain⟨fs,h1,h2,h3⟩:=key (R.length-1) 1 (by omega) [] (by simp) (fun f hf=>by cases hf)
  exact⟨fs,zk0 h1,h2,h3⟩
end
set_option linter.unusedSectionVars false
section
open Go
def EG (ns:List Nat) (p C M:Nat) (x:Option (AV×List AC)):Prop:=∃(o n:Int) (kids:List (List AC)) (p':Nat),x=some (.v (.agg [.int o,.int n,.sl 3 kids]),Qr ns p')∧p'≤p+C∧Fit .expr [.int o,.int n,.sl 3 kids]∧1+kids.length+rsS kids≤M
theorem EG.le {ns:List Nat}{p C M C' M':Nat}{x:Option (AV×List AC)} (h:EG ns p C M x) (h1:C≤C') (h2:M≤M'):EG ns p C' M' x:=by
 obtain⟨o,n,kids,p',e,a,b,c⟩:=h;exact⟨o,n,kids,p',e,by omega,b,by omega⟩
def zcR (kids:List (List AC)):Prop:=∀b∈kids,Fit .expr b
theorem zak {o n:Int}{kids:List (List AC)} (ho:-1000000≤o∧o≤1000000) (hn:-10000000≤n∧n≤10000000) (hl:kids.length≤1000000) (hk:zcR kids):Fit .expr [.int o,.int n,.sl 3 kids] :=
 .expr o n kids ⟨by omega,by omega⟩ ⟨by omega,by omega⟩ (by unfold zaS;omega) hk
theorem znO (a b:List (List AC)):rsS (a++b)=rsS a+rsS b:=by
 induction a with
 | nil=>simp[zaR]
 | cons x a ih=>rw[List.cons_append,za6,za6,ih];omega
theorem zfW {kids:List (List AC)}{o n:Int}{l:List (List AC)} (hk:zcR kids) (h:Fit .expr [.int o,.int n,.sl 3 l]):zcR (kids++[[.int o,.int n,.sl 3 l]]):=fun b hb=>by
 rcases List.mem_append.1 hb with hb|hb
 ·exact hk b hb
 ·simp only[List.mem_singleton] at hb;rw[hb];exact h
theorem ze4 {kids:List (List AC)}{o n:Int}{l:List (List AC)}:(kids++[[AC.int o,.int n,.sl 3 l]]).length+rsS (kids++[[AC.int o,.int n,.sl 3 l]])=kids.length+rsS kids+(1+l.length+rsS l):=by
 rw[znO,za6,zaR,zbq];simp
 omega
def cf (D:List DM) (c:Int):List Int:=if zf5 D c<1 then[] else fld D c
theorem zsc {D:List DM} (hv:DV D) (c:Int):zaI [.cell (.sl 3 (zag D)),.cell (.int c)]=rL (cf D c):=zhX hv c
theorem zAe:∀D∈zdN,∀t∈([1,3]:List Int),(zbO D t).length=2∧cf D ((zbO D t).getD 0 0)=[]∧(cf D ((zbO D t).getD 1 0)).contains t=true∧(cf D ((zbO D t).getD 1 0)).length≤3∧(0≤(zbO D t).getD 0 0∧(zbO D t).getD 0 0≤100):=by decide
theorem zAR:∀D∈zdN,∀t∈([2,4]:List Int),(zbO D t).length≤3∧∀c∈zbO D t,(0≤c∧c≤100)∧(cf D c).contains t=false∧(cf D c).length≤3∧∀u∈cf D c,u=0∨u=1∨u=3:=by decide
theorem zy9:∀D∈zdN,zbO D 0=[]:=by decide
theorem zB8:∀D∈zdN,∀s∈sigL,∀t∈([2,4]:List Int),zhG (s.1.getD (s.1.length-1) 0) s.2 D 0=t→∀u∈s.1.take (s.1.length-1),u=0∨u=1∨u=3:=by decide
section
variable {ns:List Nat} (hns:ns.length≤2000) {D:List DM} (hD:D∈zdN) {R:List PM} (hR:GR R)
include hns hD hR
theorem zqn {t:Int} (ht:¬0<t∨∃fs:List Int,zfz [pgC D R,.cell (.int t)]=rL fs∧fs=[]) (hc:zbO D t=[]) {p:Nat} (hp:p+4≤1000000):EG ns p 4 1 (zbt (Qr ns p) [pgC D R,.cell (.int t)]):=by
 obtain⟨x,hx,h1⟩:=ztR hns hp;have hcons:=zey (zks hD) t
 rw[hc] at hcons;refine⟨0,x,[],p+4,?_,by omega,zak (by omega) (by omega) (by simp) (fun b hb=>by cases hb),by simp[zaR]⟩
 rcases ht with ht|⟨fs,h2,rfl⟩
 ·obtain⟨fs,h2,_⟩:=znJ (zgh hD) hR t
  exact zbQ (zay hcons (zaa rfl (zay h2 (zaa (decide_eq_false ht) (zal h1 (zaf (zcL _) rfl))))))
 ·by_cases h0:0<t
  ·exact zbQ (zay hcons (zaa rfl (zay h2 (zab (decide_eq_true h0) (zaa rfl (zal h1 (zaf (zcL _) rfl)))))))
  ·exact zbQ (zay hcons (zaa rfl (zay h2 (zaa (decide_eq_false h0) (zal h1 (zaf (zcL _) rfl))))))
theorem zwR {C:Nat} (hC:C≤1000) {c:Int} (hc:0≤c∧c≤100) {fs:List Int} (hl:fs.length≤3) {P:Nat} (hP:P≤900000) (hsm:∀u∈fs,∀p,p≤P→EG ns p C 1 (zbt (Qr ns p) [pgC D R,.cell (.int u)])) {z1 z2:Int}{z3:List (List AC)} :
  ∀m k:Nat,k+m=fs.length→∀(acc:List (List AC)) (p:Nat),zcR acc→acc.length+rsS acc≤k→p+m*C≤P→EG ns p (m*C) 4 (zbn (zag D) (zao R) z1 z2 z3 c acc (zae fs) (k:Int) (Qr ns p)):=by
 intro m;induction m with
 | zero =>
  intro k hk acc p ha hs hp;refine⟨6,c,acc,p,zfp (zaa (decide_eq_false (by rw[zac];omega)) (zaf (zaz _ _ _) rfl)),by omega,zak (by omega) (by omega) (by omega) ha,by omega⟩
 | succ m ih =>
  intro k hk acc p ha hs hp;have hlt:k<fs.length:=by omega
  have hmul:(m+1)*C=m*C+C:=Nat.succ_mul _ _
  obtain⟨o,n,l,p',h1,h2,h3,h4⟩:=hsm fs[k] (List.getElem_mem hlt) p (by omega)
  have hsz:=ze4 (kids:=acc) (o:=o) (n:=n) (l:=l)
  obtain⟨o2,n2,l2,p2,g1,g2,g3,g4⟩:=ih (k+1) (by omega) (acc++[[.int o,.int n,.sl 3 l]]) p' (zfW ha h3) (by omega) (by omega)
  refine⟨o2,n2,l2,p2,zfp (zab (decide_eq_true (by rw[zac];omega)) (zbk hlt (zaO h1 (zbu (by simp;omega) ?_)))),by omega,g3,g4⟩
  rw[wrk (by unfold zaS;omega)]
  exact g1
theorem zxy {C:Nat} (hC:C≤1000) {c:Int} (hc:0≤c∧c≤100) {fs:List Int} (hl:fs.length≤3) {P:Nat} (hP:P≤900000) (hsm:∀u∈fs.take (fs.length-1),∀p,p≤P→EG ns p C 1 (zbt (Qr ns p) [pgC D R,.cell (.int u)])) {z1 z2:Int}{z3:List (List AC)} :
  ∀m k:Nat,k+m=fs.length→∀(acc:List (List AC)) (p:Nat),zcR acc→acc.length+rsS acc≤k→p+m*C≤P→EG ns p (m*C) 4 (zfd (zag D) (zao R) z1 z2 z3 c (zae fs) acc (k:Int) (Qr ns p)):=by
 intro m;induction m with
 | zero =>
  intro k hk acc p ha hs hp;refine⟨10,c,acc,p,zfm (zaa (decide_eq_false (by rw[zac,wrk (by unfold zaS;omega)];omega)) (zaf (zaz _ _ _) rfl)),by omega,zak (by omega) (by omega) (by omega) ha,by omega⟩
 | succ m ih =>
  intro k hk acc p ha hs hp;have hlt:k<fs.length:=by omega
  have hmul:(m+1)*C=m*C+C:=Nat.succ_mul _ _
  by_cases hlast:k+1<fs.length
  ·have hmem:fs[k]∈fs.take (fs.length-1):=by
    rw[List.mem_take_iff_getElem];exact⟨k,by omega,rfl⟩
   obtain⟨o,n,l,p',h1,h2,h3,h4⟩:=hsm fs[k] hmem p (by omega)
   have hsz:=ze4 (kids:=acc) (o:=o) (n:=n) (l:=l)
   obtain⟨o2,n2,l2,p2,g1,g2,g3,g4⟩:=ih (k+1) (by omega) (acc++[[.int o,.int n,.sl 3 l]]) p' (zfW ha h3) (by omega) (by omega)
   refine⟨o2,n2,l2,p2,zfm (zab (decide_eq_true (by rw[zac,wrk (by unfold zaS;omega)];omega)) (zbk hlt (zaO h1 (zbu (by simp;omega) ?_)))),by omega,g3,g4⟩
   rw[wrk (by unfold zaS;omega)]
   exact g1
  ·refine⟨10,c,acc,p,zfm (zaa (decide_eq_false (by rw[zac,wrk (by unfold zaS;omega)];omega)) (zaf (zaz _ _ _) rfl)),by omega,zak (by omega) (by omega) (by omega) ha,by omega⟩
theorem zvS {p:Nat} (hp:p+4≤1000000):EG ns p 4 1 (zbt (Qr ns p) [pgC D R,.cell (.int 0)]):=zqn hns hD hR (.inl (by omega)) (zy9 D hD) hp
theorem zn2 {t:Int} (ht:t=1∨t=3) {p:Nat} (hp:p+4≤1000000):EG ns p 4 1 (zbt (Qr ns p) [pgC D R,.cell (.int t)]):=by
 obtain⟨g1,g2,g3,g4,g5⟩:=zAe D hD t (by rcases ht with rfl|rfl <;> simp)
 have hdv:=zks hD
 have hcons:=zey hdv t
 obtain⟨x,hx,h1⟩:=zbM hns (p:=p) (by omega) (m:=4) (by omega)
 obtain⟨c0,c1,e⟩:∃c0 c1,zbO D t=[c0,c1]:=by
  match h:zbO D t,g1 with
  | [a,b],_=>exact⟨a,b,rfl⟩
 rw[e] at g1 g2 g3 g4 g5 hcons;simp only[List.getD_cons_zero,List.getD_cons_succ] at g2 g3 g4 g5;have hf0:=zsc hdv c0
 have hf1:=zsc hdv c1
 rw[g2] at hf0;have hL:∀q,zbn (zag D) (zao R) 0 0 [] c0 [] (zae []) 0 q=some (.v (.agg [.int 6,.int c0,.sl 3 []]),q):=fun q=>zfp (zaa rfl (zaf (zaz _ _ _) rfl))
 have hfin:∀X,X=some (.v (.agg [.int 6,.int c0,.sl 3 []]),Qr ns (p+1))→EG ns p 4 1 X:=fun X hX=>⟨6,c0,[],p+1,hX,by omega,zak (by omega) (by omega) (by simp) (fun b hb=>by cases hb),by simp[zaR]⟩
 have hin0:=znb [] t (by simp)
 refine hfin _ (zbQ (zay hcons (zab rfl (zbk (xs:=[c0,c1]) (k:=0) (by simp) (zab rfl (zal h1 ?_))))))
 by_cases hx0:x=0
 ·subst hx0
  exact zab rfl (zbk (xs:=[c0,c1]) (k:=1) (by simp) (zay hf1 (zas (znb _ t (by omega)) (zab g3 (zbk (xs:=[c0,c1]) (k:=0) (by simp) (zay hf0 (hL _)))))))
 ·exact zaa (by rw[beq_eq_false_iff_ne];omega) (zay hf0 (zas hin0 (zaa rfl (zay hf0 (hL _)))))
theorem zp0 {u:Int} (hu:u=0∨u=1∨u=3) {p:Nat} (hp:p+4≤1000000):EG ns p 4 1 (zbt (Qr ns p) [pgC D R,.cell (.int u)]):=by
 rcases hu with rfl|rfl|rfl
 ·exact zvS hns hD hR hp
 ·exact zn2 hns hD hR (.inl rfl) hp
 ·exact zn2 hns hD hR (.inr rfl) hp
theorem EG.put {p p1 C C1 M:Nat}{x:Option (AV×List AC)} (h:EG ns p1 C1 M x) (h1:p1+C1≤p+C):EG ns p C M x:=by
 obtain⟨o,n,kids,p',e,a,b,c⟩:=h;exact⟨o,n,kids,p',e,by omega,b,c⟩
theorem zz2 {t:Int} (ht:t=2∨t=4) {p:Nat} (hp:p+20≤900000):EG ns p 14 4 (zbt (Qr ns p) [pgC D R,.cell (.int t)]):=by
 have hm:t∈([2,4]:List Int):=by rcases ht with rfl|rfl <;> simp
 obtain⟨g1,g2⟩:=zAR D hD t hm;have hdv:=zks hD
 have hcons:=zey hdv t
 have hL:∀c∈zbO D t,∀p',p'≤p+1→EG ns p' 12 4 (zbn (zag D) (zao R) 0 0 [] c [] (zae (cf D c)) 0 (Qr ns p')):=fun c hc p' hp'=>by
  obtain⟨a1,a2,a3,a4⟩:=g2 c hc;have:=zwR hns hD hR (C:=4) (by omega) a1 a3 (P:=900000) (by omega) (fun u hu q hq=>zp0 hns hD hR (a4 u hu) (by omega)) (z1:=0) (z2:=0) (z3:=[]) (cf D c).length 0 (by omega) [] p' (fun b hb=>by cases hb) (by simp[zaR]) (by omega)
  exact this.le (by omega) (by omega)
 by_cases hz:0<(zbO D t).length
 ·have hm0:(zbO D t)[0]∈zbO D t:=List.getElem_mem hz
  have b0:=(g2 _ hm0).2.1
  have l0:=(g2 _ hm0).2.2.1
  have hz':decide (((((zae (zbO D t)).length:Nat):Int))>0)=true:=decide_eq_true (by rw[zac];omega)
  by_cases h1:1<(zbO D t).length
  ·have hm1:(zbO D t)[1]∈zbO D t:=List.getElem_mem h1
   have b1:=(g2 _ hm1).2.1
   have l1:=(g2 _ hm1).2.2.1
   obtain⟨x,hx,hpk⟩:=zbM hns (p:=p) (by omega) (m:=4) (by omega)
   by_cases hx0:x=0
   ·subst hx0
    obtain⟨o,n,l,p',e1,e2,e3,e4⟩:=hL _ hm1 (p+1) (by omega)
    exact⟨o,n,l,p',zbQ (zay hcons (zab hz' (zbk (k:=0) hz (zab (decide_eq_true (by rw[zac];omega)) (zal hpk (zab rfl (zbk (k:=1) h1 (zay (zsc hdv _) (zas (znb _ t (by omega)) (zaa b1 (zay (zsc hdv _) e1))))))))))),by omega,e3,e4⟩
   ·obtain⟨o,n,l,p',e1,e2,e3,e4⟩:=hL _ hm0 (p+1) (by omega)
    exact⟨o,n,l,p',zbQ (zay hcons (zab hz' (zbk (k:=0) hz (zab (decide_eq_true (by rw[zac];omega)) (zal hpk (zaa (by rw[beq_eq_false_iff_ne];omega) (zay (zsc hdv _) (zas (znb _ t (by omega)) (zaa b0 (zay (zsc hdv _) e1)))))))))),by omega,e3,e4⟩
  ·obtain⟨o,n,l,p',e1,e2,e3,e4⟩:=hL _ hm0 p (by omega)
   exact⟨o,n,l,p',zbQ (zay hcons (zab hz' (zbk (k:=0) hz (zaa (decide_eq_false (by rw[zac];omega)) (zay (zsc hdv _) (zas (znb _ t (by omega)) (zaa b0 (zay (zsc hdv _) e1)))))))),by omega,e3,e4⟩
 ·have hnil:zbO D t=[]:=List.eq_nil_of_length_eq_zero (by omega)
  obtain⟨fs,h1,h2,h3⟩:=znJ (zgh hD) hR t;by_cases hf:0<fs.length
  ·obtain⟨x,hx,hpk⟩:=zbM hns (p:=p) (by omega) (m:=fs.length) hf
   obtain⟨k,hk,hfk,hps,harr⟩:=h3 fs[x] (List.getElem_mem hx);have hsm:=zB8 D hD _ (hR.at hk) t hm harr
   have hl3:=(hR.small hk).1
   have hklt:=hR.len
   have:=zxy hns hD hR (C:=4) (by omega) (c:=(k:Int)) (by omega) hl3 (P:=900000) (by omega) (fun u hu q hq=>zp0 hns hD hR (hsm u hu) (by omega)) (z1:=0) (z2:=0) (z3:=[]) (gP R k).ps.length 0 (by omega) [] (p+1) (fun b hb=>by cases hb) (by simp[zaR]) (by omega)
   obtain⟨o,n,l,p',e1,e2,e3,e4⟩:=this;rw[hnil] at hcons;refine⟨o,n,l,p',zbQ (zay hcons (zaa rfl (zay h1 (zab (decide_eq_true (by omega)) (zab (decide_eq_true (by rw[zac];omega)) ?_))))),by omega,e3,e4⟩
   rw[zac];refine zal hpk (zbk hx ?_)
   rw[hfk];exact zaQ rfl hk e1
  ·exact(zqn hns hD hR (.inr ⟨fs,h1,List.eq_nil_of_length_eq_zero (by omega)⟩) hnil (by omega)).le (by omega) (by omega)
theorem zsg {t:Int} (ht:0≤t∧t≤4) {p:Nat} (hp:p+20≤900000):EG ns p 14 4 (zbt (Qr ns p) [pgC D R,.cell (.int t)]):=by
 rcases(by omega:t=0∨t=1∨t=3∨(t=2∨t=4)) with rfl|rfl|rfl|h
 ·exact(zvS hns hD hR (by omega)).le (by omega) (by omega)
 ·exact(zn2 hns hD hR (.inl rfl) (by omega)).le (by omega) (by omega)
 ·exact(zn2 hns hD hR (.inr rfl) (by omega)).le (by omega) (by omega)
 ·exact zz2 hns hD hR h hp
theorem znE {V:List Int} (hV:V.length≤1048576) {t:Int} (ht:0≤t∧t≤4) {p:Nat} (hp:p+30≤900000):EG ns p 16 4 (zda (Qr ns p) [pgC D R,.cell (.sl 1 (zae V)),.cell (.int t)]):=by
 obtain⟨fs,h1,h2,h3⟩:=zuB hV t;have hvar:∀(x:Nat) (hx:x<fs.length),Fit .expr [.int 12,.int fs[x],.sl 3 []]:=fun x hx=>by
  have:=h3 fs[x] (List.getElem_mem hx)
  exact zak (by omega) (by omega) (by simp) (fun b hb=>by cases hb)
 by_cases hf:0<fs.length
 ·have hf':decide (((((zae fs).length:Nat):Int))>0)=true:=decide_eq_true (by rw[zac];omega)
  obtain⟨x,hx,hp1⟩:=zbM hns (p:=p) (by omega) (m:=6) (by omega)
  by_cases hx0:0<x
  ·obtain⟨y,hy,hp2⟩:=zbM hns (p:=p+1) (by omega) (m:=fs.length) hf
   refine⟨12,fs[y],[],p+1+1,ziV (zay h1 (zab hf' (zal hp1 (zab (decide_eq_true (by omega)) ?_)))),by omega,hvar y hy,by simp[zaR]⟩
   rw[zac];exact zal hp2 (zbk hy (zaf (zaZ _) rfl))
  ·obtain⟨b,hb⟩:=zm9 (zgh hD) hR (V:=[]) (by simp) t
   cases b with
   | false =>
    obtain⟨y,hy,hp2⟩:=zbM hns (p:=p+1) (by omega) (m:=fs.length) hf
    refine⟨12,fs[y],[],p+1+1,ziV (zay h1 (zab hf' (zal hp1 (zaa (decide_eq_false (by omega)) (zas hb (zab rfl ?_)))))),by omega,hvar y hy,by simp[zaR]⟩
    rw[zac];exact zal hp2 (zbk hy (zaf (zaZ _) rfl))
   | true =>
    obtain⟨o,n,l,p',e1,e2,e3,e4⟩:=zsg hns hD hR ht (p:=p+1) (by omega)
    exact⟨o,n,l,p',ziV (zay h1 (zab hf' (zal hp1 (zaa (decide_eq_false (by omega)) (zas hb (zaa rfl (zaO e1 rfl))))))),by omega,e3,e4⟩
 ·obtain⟨o,n,l,p',e1,e2,e3,e4⟩:=zsg hns hD hR ht (p:=p) (by omega)
  exact⟨o,n,l,p',ziV (zay h1 (zaa (decide_eq_false (by rw[zac];omega)) (zaO e1 rfl))),by omega,e3,e4⟩
end
end
end Go.Proofs.YtkgbadeobdbinaaGreat
