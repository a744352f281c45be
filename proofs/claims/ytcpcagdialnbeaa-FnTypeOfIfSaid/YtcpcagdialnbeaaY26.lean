/- Generic texts and models for the proofs of this seat: part 26. -/
import Derived.Test.YtcpcagdialnbeaaY25
set_option linter.unusedVariables false
set_option linter.unusedSimpArgs false
namespace Go.Proofs.Ytcpcagdialnbeaa
section
open Go
theorem zoS {a b:Int} (h:a=b):rI a=rI b:=by rw[h]
theorem zcm (o n:Int) (kids:List (List AC)):cS [.int o,.int n,.sl 3 kids]=kids.length+rsS kids:=by
 rw[zxp,zxp,zCR,zAZ];omega
theorem zdj {o n:Int}{kids:List (List AC)} (h:Fit .expr [.int o,.int n,.sl 3 kids]):inI o∧inI n∧kids.length≤za9∧∀b∈kids,Fit .expr b:=by
 generalize ht:Ty.expr=t at h
 generalize hx:[AC.int o,AC.int n,AC.sl 3 kids]=x at h
 cases h with
 | expr o' n' kids' ho hn hl h =>
  simp only[List.cons.injEq,AC.int.injEq,AC.sl.injEq,true_and,and_true] at hx;obtain⟨rfl,rfl,rfl⟩:=hx;exact⟨ho,hn,hl,h⟩
 | _=>cases ht
theorem zm9 {x:List AC} (h:Fit .expr x):∃o n kids,x=[.int o,.int n,.sl 3 kids]:=by
 generalize ht:Ty.expr=t at h
 cases h with
 | expr o n kids _ _ _ _=>exact⟨o,n,kids,rfl⟩
 | _=>cases ht
theorem zdr {kids:List (List AC)} (h:∀b∈kids,Fit .expr b) {k:Nat} (hk:k<kids.length):∃o n ks,kids.getD k []=[.int o,.int n,.sl 3 ks]∧Fit .expr [.int o,.int n,.sl 3 ks]:=by
 have h1:=h _ (zaZ hk [])
 obtain⟨o,n,ks,e⟩:=zm9 h1;exact⟨o,n,ks,e,e▸h1⟩
theorem zcz {kids:List (List AC)}{k:Nat} (hk:k<kids.length) {o n:Int}:cS (kids.getD k [])<cS [.int o,.int n,.sl 3 kids]:=by
 rw[zcm];have:=zkX (zaZ hk [])
 omega
def zo8 (kids:List (List AC)) (k:Nat):Nat:=(kids.length-k)+rsS (kids.drop k)
theorem zrL {kids:List (List AC)}{k:Nat} (hk:k<kids.length):zo8 kids k=1+cS (kids.getD k [])+zo8 kids (k+1):=by
 unfold zo8;rw[zxl hk];omega
theorem ztu (kids:List (List AC)):zo8 kids kids.length=0:=by
 unfold zo8;rw[List.drop_eq_nil_of_le (Nat.le_refl _),zaG];omega
theorem zrx (o n:Int) (kids:List (List AC)):zo8 kids 0=cS [.int o,.int n,.sl 3 kids]:=by
 rw[zcm];unfold zo8;simp
def zo3 (a b:Nat):Nat:=if a≤b then a else b
theorem zBX:∀(s:Nat) (o n:Int) (kids:List (List AC)),cS [.int o,.int n,.sl 3 kids]<s→Fit .expr [.int o,.int n,.sl 3 kids]→∀L:Nat,L≤30 →
  zfz [.agg [.int o,.int n,.sl 3 kids],.cell (.int (L:Int))]=rI ((zo3 (1+cS [.int o,.int n,.sl 3 kids]) (L+1):Nat):Int):=by
 intro s;induction s with
 | zero=>intro o n kids h;omega
 | succ s ihs =>
  intro o n kids hs hf L hL;obtain⟨_,_,hl,hk⟩:=zdj hf;have key:∀m k:Nat,k+m=kids.length→∀c:Nat,1≤c→c≤L+1→zdM (L:Int) (c:Int) kids ((kids.length:Nat):Int) (k:Int)=rI ((zo3 (c+zo8 kids k) (L+1):Nat):Int):=by
   intro m;induction m with
   | zero =>
    intro k hk c h1 h2;obtain rfl:k=kids.length:=by omega
    refine zgx (zaa (decide_eq_false (by omega)) ?_)
    rw[ztu];unfold zo3;rw[if_pos (by omega)]
    rfl
   | succ m ih =>
    intro k hkm c h1 h2;have hlt:k<kids.length:=by omega
    obtain⟨o',n',ks,e,hf'⟩:=zdr hk hlt;have hr:=zrL hlt
    have hlt':=zcz hlt (o:=o) (n:=n)
    rw[e] at hr hlt';refine zgx (zad (decide_eq_true (by omega)) (zcc hlt e ?_))
    by_cases hc:c=L+1
    ·refine zad (decide_eq_true (by omega)) ?_
     unfold zo3;split
     ·have:c+zo8 kids k=c:=by omega
      rw[this]
     ·rw[hc]
    refine zaa (decide_eq_false (by omega)) ?_
    have w1:zaf ((L:Int)-(c:Int))=((L-c:Nat):Int):=by rw[wr (by omega) (by omega)];omega
    rw[w1];refine zal (ihs o' n' ks (by omega) hf' (L-c) (by omega)) ?_
    generalize cS [.int o',.int n',.sl 3 ks]=z at hr
    have hm:zo3 (1+z) (L-c+1)≤L-c+1∧1≤zo3 (1+z) (L-c+1):=by unfold zo3;split <;> omega
    have w2:zaf ((c:Int)+((zo3 (1+z) (L-c+1):Nat):Int))=((c+zo3 (1+z) (L-c+1):Nat):Int):=by rw[wr (by omega) (by omega)];omega
    rw[w2,wrk (by omega)]
    rw[ih (k+1) (by omega) _ (by omega) (by omega),hr]
    refine zoS ?_
    unfold zo3;split <;> split <;> split <;> omega
  have:=key kids.length 0 (by omega) 1 (by omega) (by omega)
  rw[zrx o n] at this;exact zmD this
def zjl (x:List AC):Int:=if cS x≤29 then((1+cS x:Nat):Int) else -1
theorem zhv {o n:Int}{kids:List (List AC)} (hf:Fit .expr [.int o,.int n,.sl 3 kids]):zdt [.agg [.int o,.int n,.sl 3 kids]]=rI (zjl [.int o,.int n,.sl 3 kids]):=by
 refine zoj (zal (zBX _ o n kids (Nat.lt_succ_self _) hf 30 (by omega)) ?_)
 unfold zjl zo3;generalize cS [.int o,.int n,.sl 3 kids]=z
 by_cases h:z≤29
 ·rw[if_pos (show 1+z≤30+1 by omega),if_pos h]
  exact zaa (decide_eq_false (by omega)) rfl
 ·rw[if_neg h]
  refine zad (decide_eq_true ?_) rfl
  split <;> omega
theorem zBv:∀(s:Nat) (o n:Int) (kids:List (List AC)),cS [.int o,.int n,.sl 3 kids]<s→Fit .expr [.int o,.int n,.sl 3 kids]→∀L:Nat,L≤30 →
  zfn [.agg [.int o,.int n,.sl 3 kids],.cell (.int (L:Int))]=rI (if 1+cS [.int o,.int n,.sl 3 kids]≤L then((L-(1+cS [.int o,.int n,.sl 3 kids]):Nat):Int) else -1):=by
 intro s;induction s with
 | zero=>intro o n kids h;omega
 | succ s ihs =>
  intro o n kids hs hf L hL;obtain⟨_,_,hl,hk⟩:=zdj hf;have key:∀m k:Nat,k+m=kids.length→∀c:Nat,c≤30→zdV (c:Int) o n kids (k:Int)=rI (if zo8 kids k≤c then((c-zo8 kids k:Nat):Int) else -1):=by
   intro m;induction m with
   | zero =>
    intro k hk c h2;obtain rfl:k=kids.length:=by omega
    refine zgn (zaa (decide_eq_false (by omega)) ?_)
    rw[ztu,if_pos (by omega)]
    rfl
   | succ m ih =>
    intro k hkm c h2;have hlt:k<kids.length:=by omega
    obtain⟨o',n',ks,e,hf'⟩:=zdr hk hlt;have hr:=zrL hlt
    have hlt':=zcz hlt (o:=o) (n:=n)
    rw[e] at hr hlt';refine zgn (zad (decide_eq_true (by omega)) (zcc hlt e (zal (ihs o' n' ks (by omega) hf' c h2) ?_)))
    generalize cS [.int o',.int n',.sl 3 ks]=z at hr
    by_cases hc:1+z≤c
    ·rw[if_pos hc]
     refine zaa (decide_eq_false (by omega)) ?_
     rw[wrk (by omega),ih (k+1) (by omega) _ (by omega)]
     refine zoS ?_
     split <;> split <;> omega
    ·rw[if_neg hc,if_neg (by omega)]
     exact zad rfl rfl
  refine zmb ?_
  by_cases h1:L=0
  ·rw[if_neg (by omega)]
   exact zad (decide_eq_true (by omega)) rfl
  refine zaa (decide_eq_false (by omega)) ?_
  have w1:zaf ((L:Int)-1)=((L-1:Nat):Int):=by rw[wr (by omega) (by omega)];omega
  have:=key kids.length 0 (by omega) (L-1) (by omega)
  rw[zrx o n] at this;rw[w1,show((0:Nat):Int)=0 from rfl] at *;refine Eq.trans this ?_
  refine zoS ?_
  split <;> split <;> omega
theorem zm7 {o n:Int}{kids:List (List AC)} (hf:Fit .expr [.int o,.int n,.sl 3 kids]):zfp [.agg [.int o,.int n,.sl 3 kids]]=rI (zjl [.int o,.int n,.sl 3 kids]):=by
 refine zoP (zal (zBv _ o n kids (Nat.lt_succ_self _) hf 30 (by omega)) ?_)
 unfold zjl;generalize cS [.int o,.int n,.sl 3 kids]=z
 by_cases h:z≤29
 ·rw[if_pos (by omega),if_pos h]
  refine zaa (decide_eq_false (by omega)) ?_
  rw[wr (by omega) (by omega)]
  refine zoS ?_
  omega
 ·rw[if_neg (by omega),if_neg h]
  exact zad rfl rfl
end
section
open Go
def Qr (ns:List Nat) (p:Nat):List AC:=[.sl 1 (ns.map fun(u:Nat)=>[.bool true,.int (u:Int)]),.int (p:Int)]
section
variable {ρ:Type}{r:ρ}
theorem zam {x:Option (AV×List AC)}{n:Int}{q:List AC} (h:x=some (.v (.cell (.int n)),q)) {K:List AC→Fn (Option ρ) (zaW [(false,[.int 0])])} (h2:(K q:Int→Option ρ) n=some r):zdo x false [(false,[.int 0])] K=some r:=by rw[h];exact h2
theorem zaF {x:Option (AV×List AC)}{o n:Int}{l:List (List AC)}{q:List AC} (h:x=some (.v (.agg [.int o,.int n,.sl 3 l]),q)) {K:List AC→Fn (Option ρ) (zaW [(true,[.int 0,.int 0,.sl 3 []])])} (h2:(K q:Int→Int→List (List AC)→Option ρ) o n l=some r):zdo x false [(true,[.int 0,.int 0,.sl 3 []])] K=some r:=by rw[h];exact h2
theorem zi0 {x:Option (AV×List AC)}{k:Nat}{l:List (List AC)}{q:List AC} (h:x=some (.v (.cell (.sl k l)),q)) {K:List AC→Fn (Option ρ) (zaW [(false,[.sl k []])])} (h2:(K q:List (List AC)→Option ρ) l=some r):zdo x false [(false,[.sl k []])] K=some r:=by
 rw[h];exact zaO rfl h2
theorem zo0 {a b:Int}{n:Nat} (ha:0≤a) (hb:0<b) (hle:a≤9223372036854775807) (h:a / b=(n:Int)) {K:Int→Option ρ} (h2:K (n:Int)=some r):zqk a b K=some r:=by
 unfold zqk;rw[show(b==0)=false by rw[beq_eq_false_iff_ne];omega,Int.tdiv_eq_ediv_of_nonneg ha,h]
 have:a / b≤a:=Int.ediv_le_self _ ha
 rw[wr (by omega) (by omega)]
 exact h2
end
theorem zbq {ns:List Nat} (hns:ns.length≤2000) {p:Nat} (hp:p≤1000000) {m:Nat} (hm:1≤m):∃x:Nat,x<m∧zag (Qr ns p) [.cell (.int (m:Int))]=some (.v (.cell (.int (x:Int))),Qr ns (p+1)):=by
 have hrun:zmj (Qr ns p) [.cell (.int (m:Int))]=some (.v (.cell (.int (ziy ns p m))),Qr ns (p+1)):=by
  unfold Qr zmj;simp only[zku,Option.bind_some];rw[if_pos ⟨by omega,by omega,hns⟩]
  simp
 have hrange:∃x:Nat,x<m∧ziy ns p m=(x:Int):=by
  unfold ziy;split
  ·exact⟨0,by omega,rfl⟩
  ·split
   ·have h1:=Int.emod_nonneg ((ns.getD p 0:Nat):Int) (show(m:Int)≠0 by omega)
    have h2:=Int.emod_lt_of_pos ((ns.getD p 0:Nat):Int) (show(0:Int)<m by omega)
    exact⟨(((ns.getD p 0:Nat):Int) % m).toNat,by omega,by omega⟩
   ·generalize bits .xor .i64 _ _=z
    have h1:=Int.emod_nonneg z (show(m:Int)≠0 by omega)
    have h2:=Int.emod_lt_of_pos z (show(0:Int)<m by omega)
    exact⟨(z % m).toNat,by omega,by omega⟩
 obtain⟨x,hx,e⟩:=hrange;rw[e] at hrun;exact⟨x,hx,zBZ (by kernel_rfl) (by kernel_rfl:zfg 27=some zu8) hrun⟩
theorem zjU {ns:List Nat} (hns:ns.length≤2000) {p:Nat} (hp:p≤1000000) {xs:List Int} (hx:xs≠[]) (hl:xs.length≤1000000):∃x∈xs,zaY (Qr ns p) [.cell (.sl 1 (zab xs))]=some (.v (.cell (.int x)),Qr ns (p+1)):=by
 have hpos:=List.length_pos_iff.2 hx
 obtain⟨k,hk,h⟩:=zbq hns hp (m:=xs.length) hpos;refine⟨xs[k],List.getElem_mem hk,zlE ?_⟩
 rw[zac];exact zam h (zbo hk rfl)
theorem zaw (o n:Int) (l:List (List AC)):zai [.cell (.int o),.cell (.int n),.cell (.sl 3 l)]=some (.v (.agg [.int o,.int n,.sl 3 l])):=zse rfl
theorem zcp (n:Int):zbs [.cell (.int n)]=some (.v (.agg [.int 0,.int n,.sl 3 []])):=zoM rfl
theorem zaP (n:Int):zan [.cell (.int n)]=some (.v (.agg [.int 12,.int n,.sl 3 []])):=znD rfl
theorem zbL (l:List (List AC)):zeI [.cell (.sl 1 l)]=some (.v (.agg [.sl 1 l])):=ztX rfl
theorem zrw {ns:List Nat} (hns:ns.length≤2000) {p:Nat} (hp:p+4≤1000000):∃x:Int,(-1000≤x∧x≤1000)∧zfi (Qr ns p) []=some (.v (.cell (.int x)),Qr ns (p+4)):=by
 obtain⟨a,ha,h1⟩:=zbq hns (p:=p) (by omega) (m:=6) (by omega)
 obtain⟨b,hb,h2⟩:=zbq hns (p:=p+1) (by omega) (m:=6) (by omega)
 obtain⟨c,hc,h3⟩:=zbq hns (p:=p+1+1) (by omega) (m:=40) (by omega)
 obtain⟨x,hx,h4⟩:=zjU hns (p:=p+1+1+1) (by omega) (xs:=[(a:Int),(b:Int),0,1,2,-1,3,(c:Int),999,-998]) (by simp) (by simp)
 refine⟨x,?_,zoQ (zam h1 (zam h2 (zam h3 (zam h4 rfl))))⟩
 simp only[List.mem_cons,List.not_mem_nil,or_false] at hx;omega
theorem zkV (xs:List Int) (n:Int) (hx:xs.length≤1048576):zhs [.cell (.sl 1 (zab xs)),.cell (.int n)]=rB (xs.contains n):=by
 have key:∀m k:Nat,k+m=xs.length→zg8 (zab xs) n (k:Int)=some (.v (.cell (.bool ((xs.drop k).contains n)))):=by
  intro m;induction m with
  | zero =>
   intro k hk;rw[List.drop_eq_nil_of_le (by omega)]
   exact zjZ (zaa (decide_eq_false (by rw[zac];omega)) rfl)
  | succ m ih =>
   intro k hk;have hlt:k<xs.length:=by omega
   have hnext:=ih (k+1) (by omega)
   rw[←wrk (by unfold za9;omega)] at hnext
   rw[List.drop_eq_getElem_cons hlt,List.contains_cons];refine zjZ (zad (decide_eq_true (by rw[zac];omega)) (zbo hlt ?_))
   rcases e:(xs[k]==n) with _|_
   ·rw[show(n==xs[k])=false by rw[beq_eq_false_iff_ne] at e ⊢;exact fun h=>e h.symm,Bool.false_or]
    exact zaa rfl hnext
   ·rw[show(n==xs[k])=true by rw[beq_iff_eq] at e ⊢;exact e.symm,Bool.true_or]
    exact zad rfl rfl
 exact zsf (key xs.length 0 (by omega))
def zbz (D:List DM) (t:Int):List Int:=if 1≤t∧t≤D.length then(List.range (gD D (t.toNat-1)).cs.length).map fun i=>(((zby (D.take (t.toNat-1))+i:Nat)):Int) else[]
theorem zdS {D:List DM} (hv:DV D) (t:Int):zco [.cell (.sl 3 (zah D)),.cell (.int t)]=rL (zbz D t):=by
 have h4:=hv.len
 refine zkh (zat (zeg _ _ _) ?_)
 rw[za8];unfold zbz;by_cases h:1≤t∧t≤(D.length:Int)
 rotate_left
 ·rw[if_neg h,show(decide (1≤t)&&decide (t≤(D.length:Int)))=false by rw[←Bool.decide_and];exact decide_eq_false h]
  exact zad rfl rfl
 rw[if_pos h,show(decide (1≤t)&&decide (t≤(D.length:Int)))=true by rw[←Bool.decide_and];exact decide_eq_true h]
 refine zaa rfl ?_
 have hk:t.toNat-1<D.length:=by omega
 have h3:=hv.cs _ hk
 have hsum:=zhp hv.cs (t.toNat-1) (by omega)
 have key:∀m i:Nat,i+m=(gD D (t.toNat-1)).cs.length→zd1 (zah D) t (zab ((List.range i).map fun i=>(((zby (D.take (t.toNat-1))+i:Nat)):Int))) (i:Int)=rL ((List.range (gD D (t.toNat-1)).cs.length).map fun i=>(((zby (D.take (t.toNat-1))+i:Nat)):Int)):=by
  intro m;induction m with
  | zero =>
   intro i hi;refine zdO (zbA (k:=t.toNat-1) (by rw[wr (by omega) (by omega)];omega) hk ?_)
   rw[zaX];exact zaa (decide_eq_false (by omega)) (by rw[show i=(gD D (t.toNat-1)).cs.length by omega])
  | succ m ih =>
   intro i hi;refine zdO (zbA (k:=t.toNat-1) (by rw[wr (by omega) (by omega)];omega) hk ?_)
   rw[zaX];refine zad (decide_eq_true (by omega)) ?_
   rw[show zaf (t-1)=((t.toNat-1:Nat):Int) by rw[wr (by omega) (by omega)];omega]
   refine zal (zjD hv (by omega)) (zcL (by rw[zac];simp;omega) ?_)
   have hn:=ih (i+1) (by omega)
   rw[List.range_succ,List.map_append] at hn;rw[wrk (by unfold za9;omega)]
   rw[show zab ((List.range i).map fun i=>(((zby (D.take (t.toNat-1))+i:Nat)):Int))++[[AC.int (zaf (((zby (D.take (t.toNat-1)):Nat):Int)+(i:Int)))]]=zab ((List.range i).map (fun i=>(((zby (D.take (t.toNat-1))+i:Nat)):Int))++[i].map (fun i=>(((zby (D.take (t.toNat-1))+i:Nat)):Int))) by
    rw[wr (by omega) (by omega)]
    simp[zab]]
   exact hn
 exact key (gD D (t.toNat-1)).cs.length 0 (by omega)
end
section
open Go
def ziQ:List DM:=[⟨0,0,[[],[0,1]]⟩,⟨0,0,[]⟩,⟨0,0,[[],[3,0,3]]⟩]
def zb9:List (List DM):=[ziQ++[⟨0,0,[[1,3]]⟩],ziQ++[⟨1,0,[]⟩],ziQ++[⟨0,0,[[1,1,0],[0],[3]]⟩],ziQ++[⟨0,1,[]⟩],ziQ]
theorem zt8:∀D∈zb9,zeR D=true:=by decide
theorem ziz {D:List DM} (h:D∈zb9):DV D:=zAQ (zt8 D h)
theorem zfy {D:List DM} (h:D∈zb9):D.length≤4:=(ziz h).len
theorem zn0 {ns:List Nat} (hns:ns.length≤2000) {p:Nat} (hp:p≤1000000):∃D∈zb9,zhM (Qr ns p) []=some (.v (.cell (.sl 3 (zah D))),Qr ns (p+1)):=by
 obtain⟨x,hx,h1⟩:=zbq hns hp (m:=5) (by omega)
 rcases(by omega:x=0∨x=1∨x=2∨x=3∨x=4) with rfl|rfl|rfl|rfl|rfl
 ·exact⟨ziQ++[⟨0,0,[[1,3]]⟩],by simp[zb9],zcZ (zaR (zbL _) (zaR (zbL _) (zaR (zbL _) (zaR (zbL _) (zaR (zbL _) (zaR (zbL _) (zaR (zbL _) (zaR (zbL _) (zam h1 (zad rfl (zqn (k:=0) (by decide) rfl (zcL (by decide) rfl))))))))))))⟩
 ·exact⟨ziQ++[⟨1,0,[]⟩],by simp[zb9],zcZ (zaR (zbL _) (zaR (zbL _) (zaR (zbL _) (zaR (zbL _) (zaR (zbL _) (zaR (zbL _) (zaR (zbL _) (zaR (zbL _) (zam h1 (zad rfl (zqn (k:=1) (by decide) rfl (zcL (by decide) rfl))))))))))))⟩
 ·exact⟨ziQ++[⟨0,0,[[1,1,0],[0],[3]]⟩],by simp[zb9],zcZ (zaR (zbL _) (zaR (zbL _) (zaR (zbL _) (zaR (zbL _) (zaR (zbL _) (zaR (zbL _) (zaR (zbL _) (zaR (zbL _) (zam h1 (zad rfl (zqn (k:=2) (by decide) rfl (zcL (by decide) rfl))))))))))))⟩
 ·exact⟨ziQ++[⟨0,1,[]⟩],by simp[zb9],zcZ (zaR (zbL _) (zaR (zbL _) (zaR (zbL _) (zaR (zbL _) (zaR (zbL _) (zaR (zbL _) (zaR (zbL _) (zaR (zbL _) (zam h1 (zad rfl (zqn (k:=3) (by decide) rfl (zcL (by decide) rfl))))))))))))⟩
 ·exact⟨ziQ,by simp[zb9],zcZ (zaR (zbL _) (zaR (zbL _) (zaR (zbL _) (zaR (zbL _) (zaR (zbL _) (zaR (zbL _) (zaR (zbL _) (zaR (zbL _) (zam h1 (zaa rfl rfl))))))))))⟩
def sigL:List (List Int×Int):=[([],0),([1],0),([1,1],1),([1],1),([1,0],1),([2,1],1),([1,1],0),([3],0),([0],1),([0,1],1),([3,0],3),([3],1),([1,3,0],0),([0],0),([0,0],0),([1,0],0)]
structure GR (R:List PM):Prop where
 len:R.length≤4
 sg:∀x∈R,(x.ps,x.r)∈sigL
theorem zrp:∀s∈sigL,s.1.length≤3∧(0≤s.2∧s.2≤3)∧∀t∈s.1,0≤t∧t≤3:=by decide
theorem GR.at {R:List PM} (h:GR R) {k:Nat} (hk:k<R.length):((gP R k).ps,(gP R k).r)∈sigL:=h.sg _ (zkf hk)
theorem GR.small {R:List PM} (h:GR R) {k:Nat} (hk:k<R.length):(gP R k).ps.length≤3∧(0≤(gP R k).r∧(gP R k).r≤3)∧∀t∈(gP R k).ps,0≤t∧t≤3:=zrp _ (h.at hk)
abbrev pgC (D:List DM) (R:List PM):SV:=.agg [.sl 3 (zah D),.sl 5 (zaC R)]
def zBD (D:List DM) (R:List PM) (t:Int) (fs:List Int):Prop:=∀f∈fs,∃k,k<R.length∧f=(k:Int)∧0<(gP R k).ps.length∧zgl ((gP R k).ps.getD ((gP R k).ps.length-1) 0) (gP R k).r D 0=t
theorem zqc (xs:List Int) (x:Int):zab xs++[[AC.int x]]=zab (xs++[x]):=by simp[zab]
theorem zlF {D:List DM} (hD:D.length≤4) {R:List PM} (hR:GR R) (t:Int):∃fs,zeC [pgC D R,.cell (.int t)]=rL fs∧fs.length≤4∧zBD D R t fs:=by
 have h4:=hR.len
 have key:∀m k:Nat,k+m=R.length→∀acc:List Int,acc.length≤k→zBD D R t acc→∃fs,zct t (zah D) (zaC R) (zab acc) (k:Int)=rL fs∧fs.length≤4∧zBD D R t fs:=by
  intro m;induction m with
  | zero =>
   intro k hk acc hl ha;exact⟨acc,zc4 (zaa (decide_eq_false (by rw[zcj];omega)) rfl),by omega,ha⟩
  | succ m ih =>
   intro k hk acc hl ha;have hlt:k<R.length:=by omega
   have h3:=(hR.small hlt).1
   have hw:zaf ((k:Int)+1)=((k+1:Nat):Int):=wrk (by unfold za9;omega)
   by_cases hz:0<(gP R k).ps.length
   ·by_cases he:zgl ((gP R k).ps.getD ((gP R k).ps.length-1) 0) (gP R k).r D 0=t
    ·obtain⟨fs,h1,h2,h5⟩:=ih (k+1) (by omega) (acc++[(k:Int)]) (by simp;omega) (fun f hf=>by
      rcases List.mem_append.1 hf with hf|hf
      ·exact ha f hf
      ·simp only[List.mem_singleton] at hf
       exact⟨k,hlt,hf,hz,he⟩)
     refine⟨fs,zc4 (zad (decide_eq_true (by rw[zcj];omega)) (za7 rfl hlt (zad (decide_eq_true (by rw[zac];omega)) (za7 rfl hlt ?_)))),h2,h5⟩
     rw[zac,show zaf ((((gP R k).ps.length:Nat):Int)-1)=(((gP R k).ps.length-1:Nat):Int) by rw[wr (by omega) (by omega)];omega]
     refine zbo (by omega) (za7 rfl hlt (zal (zsz D (by omega) _ _) ?_))
     rw[List.getD,List.getElem?_eq_getElem (by omega),Option.getD_some] at he
     refine zad (by rw[he];simp) (zcL (by rw[zac];simp;omega) ?_)
     rw[zqc,hw];exact h1
    ·obtain⟨fs,h1,h2,h5⟩:=ih (k+1) (by omega) acc (by omega) ha
     refine⟨fs,zc4 (zad (decide_eq_true (by rw[zcj];omega)) (za7 rfl hlt (zad (decide_eq_true (by rw[zac];omega)) (za7 rfl hlt ?_)))),h2,h5⟩
     rw[zac,show zaf ((((gP R k).ps.length:Nat):Int)-1)=(((gP R k).ps.length-1:Nat):Int) by rw[wr (by omega) (by omega)];omega]
     refine zbo (by omega) (za7 rfl hlt (zal (zsz D (by omega) _ _) ?_))
     rw[List.getD,List.getElem?_eq_getElem (by omega),Option.getD_some] at he
     refine zaa (by rw[beq_eq_false_iff_ne];exact he) ?_
     rw[hw];exact h1
   ·obtain⟨fs,h1,h2,h5⟩:=ih (k+1) (by omega) acc (by omega) ha
    refine⟨fs,zc4 (zad (decide_eq_true (by rw[zcj];omega)) (za7 rfl hlt (zaa (decide_eq_false (by rw[zac];omega)) ?_))),h2,h5⟩
    rw[hw];exact h1
 obtain⟨fs,h1,h2,h3⟩:=key R.length 0 (by omega) [] (by simp) (fun f hf=>by cases hf)
 exact⟨fs,zm1 h1,h2,h3⟩
theorem zkW {D:List DM} (hD:D.length≤4) {R:List PM} (hR:GR R) {V:List Int} (hV:V.length≤1048576) (t:Int):∃b,zd9 [pgC D R,.cell (.sl 1 (zab V)),.cell (.int t)]=rB b:=by
 rcases ha:zlu D t with _|_
 ·exact⟨true,zgD (zat (zdH (by omega) t) (zad (by rw[ha];rfl) rfl))⟩
 ·obtain⟨fs,h1,h2,h3⟩:=zlF hD hR t
  by_cases hz:0<fs.length
  ·exact⟨true,zgD (zat (zdH (by omega) t) (zaa (by rw[ha];rfl) (zaO h1 (zad (decide_eq_true (by rw[zac];omega)) rfl))))⟩
  ·exact⟨V.contains t,zgD (zat (zdH (by omega) t) (zaa (by rw[ha];rfl) (zaO h1 (zaa (decide_eq_false (by rw[zac];omega)) (zat (zkV V t hV) rfl)))))⟩
theorem zrM {V:List Int} (hV:V.length≤1048576) (t:Int):∃fs,zgK [.cell (.sl 1 (zab V)),.cell (.int t)]=rL fs∧fs.length≤V.length∧∀f∈fs,0≤f∧f≤1048576:=by
 have key:∀m k:Nat,k+m=V.length→∀acc:List Int,acc.length≤k→(∀f∈acc,0≤f∧f≤1048576)→∃fs,zcE (zab V) t (zab acc) (k:Int)=rL fs∧fs.length≤V.length∧∀f∈fs,0≤f∧f≤1048576:=by
  intro m;induction m with
  | zero =>
   intro k hk acc hl ha;exact⟨acc,zdK (zaa (decide_eq_false (by rw[zac];omega)) rfl),by omega,ha⟩
  | succ m ih =>
   intro k hk acc hl ha;have hlt:k<V.length:=by omega
   have hw:zaf ((k:Int)+1)=((k+1:Nat):Int):=wrk (by unfold za9;omega)
   rcases he:(V[k]==t) with _|_
   ·obtain⟨fs,h1,h2,h5⟩:=ih (k+1) (by omega) acc (by omega) ha
    refine⟨fs,zdK (zad (decide_eq_true (by rw[zac];omega)) (zbo hlt (zaa he ?_))),h2,h5⟩
    rw[hw];exact h1
   ·obtain⟨fs,h1,h2,h5⟩:=ih (k+1) (by omega) (acc++[(k:Int)]) (by simp;omega) (fun f hf=>by
     rcases List.mem_append.1 hf with hf|hf
     ·exact ha f hf
     ·simp only[List.mem_singleton] at hf
      omega)
    refine⟨fs,zdK (zad (decide_eq_true (by rw[zac];omega)) (zbo hlt (zad he (zcL (by rw[zac];simp;omega) ?_)))),h2,h5⟩
    rw[zqc,hw];exact h1
 obtain⟨fs,h1,h2,h3⟩:=key V.length 0 (by omega) [] (by simp) (fun f hf=>by cases hf)
 exact⟨fs,zlS h1,h2,h3⟩
theorem zrk {D:List DM} (hD:D.length≤4) {R:List PM} (hR:GR R) {V:List Int} (hV:V.length≤1048576) {ns:List Nat} (hns:ns.length≤2000) {p:Nat} (hp:p≤1000000) :
  ∃t:Int,(0≤t∧t≤4)∧zhi (Qr ns p) [pgC D R,.cell (.sl 1 (zab V))]=some (.v (.cell (.int t)),Qr ns (p+1)):=by
 obtain⟨x,hx,h1⟩:=zjU hns hp (xs:=[1,1,3,0,2,4,3]) (by simp) (by simp)
 have hx4:0≤x∧x≤4:=by
  simp only[List.mem_cons,List.not_mem_nil,or_false] at hx;omega
 by_cases hl:x>(((zah D).length:Nat):Int)
 ·exact⟨1,by omega,zgJ (zam h1 (zad (decide_eq_true hl) rfl))⟩
 ·obtain⟨b,hb⟩:=zkW hD hR hV x
  rcases b with _|_
  ·exact⟨1,by omega,zgJ (zam h1 (zaa (decide_eq_false hl) (zat hb (zad rfl rfl))))⟩
  ·exact⟨x,hx4,zgJ (zam h1 (zaa (decide_eq_false hl) (zat hb (zaa rfl rfl))))⟩
def zzY (R:List PM) (fs:List Int):Prop:=∀f∈fs,∃k,k<R.length∧f=(k:Int)
theorem zpU {D:List DM} (hD:D.length≤4) {R:List PM} (hR:GR R) (t:Int):∃fs,zbb [pgC D R,.cell (.int t)]=rL fs∧fs.length≤4∧zzY R fs:=by
 have h4:=hR.len
 have key:∀m k:Nat,k+m=R.length→∀acc:List Int,acc.length≤k→zzY R acc→∃fs,zc9 t (zah D) (zaC R) (zab acc) (k:Int)=rL fs∧fs.length≤4∧zzY R fs:=by
  intro m;induction m with
  | zero =>
   intro k hk acc hl ha;exact⟨acc,zes (zaa (decide_eq_false (by rw[zcj];omega)) rfl),by omega,ha⟩
  | succ m ih =>
   intro k hk acc hl ha;have hlt:k<R.length:=by omega
   have h3:=(hR.small hlt).1
   have hw:zaf ((k:Int)+1)=((k+1:Nat):Int):=wrk (by unfold za9;omega)
   have inner:∀n i:Nat,i+n=(gP R k).ps.length→∀b:Bool,∃fs,zdf t (zah D) (zaC R) (zab acc) (k:Int) b (i:Int)=rL fs∧fs.length≤4∧zzY R fs:=by
    intro n;induction n with
    | zero =>
     intro i hi b;cases b with
     | false =>
      obtain⟨fs,h1,h2,h5⟩:=ih (k+1) (by omega) acc (by omega) ha
      refine⟨fs,zc6 (za7 rfl hlt (zaa (decide_eq_false (by rw[zac];omega)) (zaa rfl ?_))),h2,h5⟩
      rw[hw];exact h1
     | true =>
      obtain⟨fs,h1,h2,h5⟩:=ih (k+1) (by omega) (acc++[(k:Int)]) (by simp;omega) (fun f hf=>by
       rcases List.mem_append.1 hf with hf|hf
       ·exact ha f hf
       ·simp only[List.mem_singleton] at hf
        exact⟨k,hlt,hf⟩)
      refine⟨fs,zc6 (za7 rfl hlt (zaa (decide_eq_false (by rw[zac];omega)) (zad rfl (zcL (by rw[zac];simp;omega) ?_)))),h2,h5⟩
      rw[zqc,hw];exact h1
    | succ n ihn =>
     intro i hi b;have hil:i<(gP R k).ps.length:=by omega
     have hwi:zaf ((i:Int)+1)=((i+1:Nat):Int):=wrk (by unfold za9;omega)
     cases b with
     | false =>
      obtain⟨fs,h1,h2,h5⟩:=ihn (i+1) (by omega) false
      refine⟨fs,zc6 (za7 rfl hlt (zad (decide_eq_true (by rw[zac];omega)) (zaa rfl ?_))),h2,h5⟩
      rw[hwi];exact h1
     | true =>
      obtain⟨c,hc⟩:=zkW hD hR (V:=[]) (by simp) (gP R k).ps[i]
      obtain⟨fs,h1,h2,h5⟩:=ihn (i+1) (by omega) c
      refine⟨fs,zc6 (za7 rfl hlt (zad (decide_eq_true (by rw[zac];omega)) (zad rfl (za7 rfl hlt (zbo hil (zat hc ?_)))))),h2,h5⟩
      rw[hwi];exact h1
   obtain⟨fs,h1,h2,h5⟩:=inner (gP R k).ps.length 0 (by omega) ((gP R k).r==t)
   exact⟨fs,zes (zad (decide_eq_true (by rw[zcj];omega)) (za7 rfl hlt h1)),h2,h5⟩
 rcases Nat.lt_or_ge R.length 1 with h0|h0
 ·exact⟨[],zi3 (zes (zaa (decide_eq_false (by rw[zcj];omega)) rfl)),by simp,fun f hf=>by cases hf⟩
 ·obtain⟨fs,h1,h2,h3⟩:=key (R.length-1) 1 (by omega) [] (by simp) (fun f hf=>by cases hf)
  exact⟨fs,zi3 h1,h2,h3⟩
end
set_option linter.unusedSectionVars false
section
open Go
def EG (ns:List Nat) (p C M:Nat) (x:Option (AV×List AC)):Prop:=∃(o n:Int) (kids:List (List AC)) (p':Nat),x=some (.v (.agg [.int o,.int n,.sl 3 kids]),Qr ns p')∧p'≤p+C∧Fit .expr [.int o,.int n,.sl 3 kids]∧1+kids.length+rsS kids≤M
theorem EG.le {ns:List Nat}{p C M C' M':Nat}{x:Option (AV×List AC)} (h:EG ns p C M x) (h1:C≤C') (h2:M≤M'):EG ns p C' M' x:=by
 obtain⟨o,n,kids,p',e,a,b,c⟩:=h;exact⟨o,n,kids,p',e,by omega,b,by omega⟩
def zcA (kids:List (List AC)):Prop:=∀b∈kids,Fit .expr b
theorem zak {o n:Int}{kids:List (List AC)} (ho:-1000000≤o∧o≤1000000) (hn:-10000000≤n∧n≤10000000) (hl:kids.length≤1000000) (hk:zcA kids):Fit .expr [.int o,.int n,.sl 3 kids] :=
 .expr o n kids ⟨by omega,by omega⟩ ⟨by omega,by omega⟩ (by unfold za9;omega) hk
theorem zlP (a b:List (List AC)):rsS (a++b)=rsS a+rsS b:=by
 induction a with
 | nil=>simp[zaG]
 | cons x a ih=>rw[List.cons_append,zaJ,zaJ,ih];omega
theorem ze3 {kids:List (List AC)}{o n:Int}{l:List (List AC)} (hk:zcA kids) (h:Fit .expr [.int o,.int n,.sl 3 l]):zcA (kids++[[.int o,.int n,.sl 3 l]]):=fun b hb=>by
 rcases List.mem_append.1 hb with hb|hb
 ·exact hk b hb
 ·simp only[List.mem_singleton] at hb;rw[hb];exact h
theorem zec {kids:List (List AC)}{o n:Int}{l:List (List AC)}:(kids++[[AC.int o,.int n,.sl 3 l]]).length+rsS (kids++[[AC.int o,.int n,.sl 3 l]])=kids.length+rsS kids+(1+l.length+rsS l):=by
 rw[zlP,zaJ,zaG,zcm];simp
 omega
def cf (D:List DM) (c:Int):List Int:=if zhB D c<1 then[] else fld D c
theorem zql {D:List DM} (hv:DV D) (c:Int):zaE [.cell (.sl 3 (zah D)),.cell (.int c)]=rL (cf D c):=ziB hv c
theorem zv9:∀D∈zb9,∀t∈([1,3]:List Int),(zbz D t).length=2∧cf D ((zbz D t).getD 0 0)=[]∧(cf D ((zbz D t).getD 1 0)).contains t=true∧(cf D ((zbz D t).getD 1 0)).length≤3∧(0≤(zbz D t).getD 0 0∧(zbz D t).getD 0 0≤100):=by decide
theorem zwb:∀D∈zb9,∀t∈([2,4]:List Int),(zbz D t).length≤3∧∀c∈zbz D t,(0≤c∧c≤100)∧(cf D c).contains t=false∧(cf D c).length≤3∧∀u∈cf D c,u=0∨u=1∨u=3:=by decide
theorem zvo:∀D∈zb9,zbz D 0=[]:=by decide
theorem zxv:∀D∈zb9,∀s∈sigL,∀t∈([2,4]:List Int),zgl (s.1.getD (s.1.length-1) 0) s.2 D 0=t→∀u∈s.1.take (s.1.length-1),u=0∨u=1∨u=3:=by decide
section
variable {ns:List Nat} (hns:ns.length≤2000) {D:List DM} (hD:D∈zb9) {R:List PM} (hR:GR R)
include hns hD hR
theorem znT {t:Int} (ht:¬0<t∨∃fs:List Int,zeC [pgC D R,.cell (.int t)]=rL fs∧fs=[]) (hc:zbz D t=[]) {p:Nat} (hp:p+4≤1000000):EG ns p 4 1 (zbh (Qr ns p) [pgC D R,.cell (.int t)]):=by
 obtain⟨x,hx,h1⟩:=zrw hns hp;have hcons:=zdS (ziz hD) t
 rw[hc] at hcons;refine⟨0,x,[],p+4,?_,by omega,zak (by omega) (by omega) (by simp) (fun b hb=>by cases hb),by simp[zaG]⟩
 rcases ht with ht|⟨fs,h2,rfl⟩
 ·obtain⟨fs,h2,_⟩:=zlF (zfy hD) hR t
  exact zbB (zaO hcons (zaa rfl (zaO h2 (zaa (decide_eq_false ht) (zam h1 (zae (zcp _) rfl))))))
 ·by_cases h0:0<t
  ·exact zbB (zaO hcons (zaa rfl (zaO h2 (zad (decide_eq_true h0) (zaa rfl (zam h1 (zae (zcp _) rfl)))))))
  ·exact zbB (zaO hcons (zaa rfl (zaO h2 (zaa (decide_eq_false h0) (zam h1 (zae (zcp _) rfl))))))
theorem zt6 {C:Nat} (hC:C≤1000) {c:Int} (hc:0≤c∧c≤100) {fs:List Int} (hl:fs.length≤3) {P:Nat} (hP:P≤900000) (hsm:∀u∈fs,∀p,p≤P→EG ns p C 1 (zbh (Qr ns p) [pgC D R,.cell (.int u)])) {z1 z2:Int}{z3:List (List AC)} :
  ∀m k:Nat,k+m=fs.length→∀(acc:List (List AC)) (p:Nat),zcA acc→acc.length+rsS acc≤k→p+m*C≤P→EG ns p (m*C) 4 (zba (zah D) (zaC R) z1 z2 z3 c acc (zab fs) (k:Int) (Qr ns p)):=by
 intro m;induction m with
 | zero =>
  intro k hk acc p ha hs hp;refine⟨6,c,acc,p,zew (zaa (decide_eq_false (by rw[zac];omega)) (zae (zaw _ _ _) rfl)),by omega,zak (by omega) (by omega) (by omega) ha,by omega⟩
 | succ m ih =>
  intro k hk acc p ha hs hp;have hlt:k<fs.length:=by omega
  have hmul:(m+1)*C=m*C+C:=Nat.succ_mul _ _
  obtain⟨o,n,l,p',h1,h2,h3,h4⟩:=hsm fs[k] (List.getElem_mem hlt) p (by omega)
  have hsz:=zec (kids:=acc) (o:=o) (n:=n) (l:=l)
  obtain⟨o2,n2,l2,p2,g1,g2,g3,g4⟩:=ih (k+1) (by omega) (acc++[[.int o,.int n,.sl 3 l]]) p' (ze3 ha h3) (by omega) (by omega)
  refine⟨o2,n2,l2,p2,zew (zad (decide_eq_true (by rw[zac];omega)) (zbo hlt (zaF h1 (zcL (by simp;omega) ?_)))),by omega,g3,g4⟩
  rw[wrk (by unfold za9;omega)]
  exact g1
theorem zt3 {C:Nat} (hC:C≤1000) {c:Int} (hc:0≤c∧c≤100) {fs:List Int} (hl:fs.length≤3) {P:Nat} (hP:P≤900000) (hsm:∀u∈fs.take (fs.length-1),∀p,p≤P→EG ns p C 1 (zbh (Qr ns p) [pgC D R,.cell (.int u)])) {z1 z2:Int}{z3:List (List AC)} :
  ∀m k:Nat,k+m=fs.length→∀(acc:List (List AC)) (p:Nat),zcA acc→acc.length+rsS acc≤k→p+m*C≤P→EG ns p (m*C) 4 (zel (zah D) (zaC R) z1 z2 z3 c (zab fs) acc (k:Int) (Qr ns p)):=by
 intro m;induction m with
 | zero =>
  intro k hk acc p ha hs hp;refine⟨10,c,acc,p,zet (zaa (decide_eq_false (by rw[zac,wrk (by unfold za9;omega)];omega)) (zae (zaw _ _ _) rfl)),by omega,zak (by omega) (by omega) (by omega) ha,by omega⟩
 | succ m ih =>
  intro k hk acc p ha hs hp;have hlt:k<fs.length:=by omega
  have hmul:(m+1)*C=m*C+C:=Nat.succ_mul _ _
  by_cases hlast:k+1<fs.length
  ·have hmem:fs[k]∈fs.take (fs.length-1):=by
    rw[List.mem_take_iff_getElem];exact⟨k,by omega,rfl⟩
   obtain⟨o,n,l,p',h1,h2,h3,h4⟩:=hsm fs[k] hmem p (by omega)
   have hsz:=zec (kids:=acc) (o:=o) (n:=n) (l:=l)
   obtain⟨o2,n2,l2,p2,g1,g2,g3,g4⟩:=ih (k+1) (by omega) (acc++[[.int o,.int n,.sl 3 l]]) p' (ze3 ha h3) (by omega) (by omega)
   refine⟨o2,n2,l2,p2,zet (zad (decide_eq_true (by rw[zac,wrk (by unfold za9;omega)];omega)) (zbo hlt (zaF h1 (zcL (by simp;omega) ?_)))),by omega,g3,g4⟩
   rw[wrk (by unfold za9;omega)]
   exact g1
  ·refine⟨10,c,acc,p,zet (zaa (decide_eq_false (by rw[zac,wrk (by unfold za9;omega)];omega)) (zae (zaw _ _ _) rfl)),by omega,zak (by omega) (by omega) (by omega) ha,by omega⟩
theorem zs7 {p:Nat} (hp:p+4≤1000000):EG ns p 4 1 (zbh (Qr ns p) [pgC D R,.cell (.int 0)]):=znT hns hD hR (.inl (by omega)) (zvo D hD) hp
theorem zl1 {t:Int} (ht:t=1∨t=3) {p:Nat} (hp:p+4≤1000000):EG ns p 4 1 (zbh (Qr ns p) [pgC D R,.cell (.int t)]):=by
 obtain⟨g1,g2,g3,g4,g5⟩:=zv9 D hD t (by rcases ht with rfl|rfl <;> simp)
 have hdv:=ziz hD
 have hcons:=zdS hdv t
 obtain⟨x,hx,h1⟩:=zbq hns (p:=p) (by omega) (m:=4) (by omega)
 obtain⟨c0,c1,e⟩:∃c0 c1,zbz D t=[c0,c1]:=by
  match h:zbz D t,g1 with
  | [a,b],_=>exact⟨a,b,rfl⟩
 rw[e] at g1 g2 g3 g4 g5 hcons;simp only[List.getD_cons_zero,List.getD_cons_succ] at g2 g3 g4 g5;have hf0:=zql hdv c0
 have hf1:=zql hdv c1
 rw[g2] at hf0;have hL:∀q,zba (zah D) (zaC R) 0 0 [] c0 [] (zab []) 0 q=some (.v (.agg [.int 6,.int c0,.sl 3 []]),q):=fun q=>zew (zaa rfl (zae (zaw _ _ _) rfl))
 have hfin:∀X,X=some (.v (.agg [.int 6,.int c0,.sl 3 []]),Qr ns (p+1))→EG ns p 4 1 X:=fun X hX=>⟨6,c0,[],p+1,hX,by omega,zak (by omega) (by omega) (by simp) (fun b hb=>by cases hb),by simp[zaG]⟩
 have hin0:=zkV [] t (by simp)
 refine hfin _ (zbB (zaO hcons (zad rfl (zbo (xs:=[c0,c1]) (k:=0) (by simp) (zad rfl (zam h1 ?_))))))
 by_cases hx0:x=0
 ·subst hx0
  exact zad rfl (zbo (xs:=[c0,c1]) (k:=1) (by simp) (zaO hf1 (zat (zkV _ t (by omega)) (zad g3 (zbo (xs:=[c0,c1]) (k:=0) (by simp) (zaO hf0 (hL _)))))))
 ·exact zaa (by rw[beq_eq_false_iff_ne];omega) (zaO hf0 (zat hin0 (zaa rfl (zaO hf0 (hL _)))))
theorem zn3 {u:Int} (hu:u=0∨u=1∨u=3) {p:Nat} (hp:p+4≤1000000):EG ns p 4 1 (zbh (Qr ns p) [pgC D R,.cell (.int u)]):=by
 rcases hu with rfl|rfl|rfl
 ·exact zs7 hns hD hR hp
 ·exact zl1 hns hD hR (.inl rfl) hp
 ·exact zl1 hns hD hR (.inr rfl) hp
theorem EG.put {p p1 C C1 M:Nat}{x:Option (AV×List AC)} (h:EG ns p1 C1 M x) (h1:p1+C1≤p+C):EG ns p C M x:=by
 obtain⟨o,n,kids,p',e,a,b,c⟩:=h;exact⟨o,n,kids,p',e,by omega,b,c⟩
theorem zxR {t:Int} (ht:t=2∨t=4) {p:Nat} (hp:p+20≤900000):EG ns p 14 4 (zbh (Qr ns p) [pgC D R,.cell (.int t)]):=by
 have hm:t∈([2,4]:List Int):=by rcases ht with rfl|rfl <;> simp
 obtain⟨g1,g2⟩:=zwb D hD t hm;have hdv:=ziz hD
 have hcons:=zdS hdv t
 have hL:∀c∈zbz D t,∀p',p'≤p+1→EG ns p' 12 4 (zba (zah D) (zaC R) 0 0 [] c [] (zab (cf D c)) 0 (Qr ns p')):=fun c hc p' hp'=>by
  obtain⟨a1,a2,a3,a4⟩:=g2 c hc;have:=zt6 hns hD hR (C:=4) (by omega) a1 a3 (P:=900000) (by omega) (fun u hu q hq=>zn3 hns hD hR (a4 u hu) (by omega)) (z1:=0) (z2:=0) (z3:=[]) (cf D c).length 0 (by omega) [] p' (fun b hb=>by cases hb) (by simp[zaG]) (by omega)
  exact this.le (by omega) (by omega)
 by_cases hz:0<(zbz D t).length
 ·have hm0:(zbz D t)[0]∈zbz D t:=List.getElem_mem hz
  have b0:=(g2 _ hm0).2.1
  have l0:=(g2 _ hm0).2.2.1
  have hz':decide (((((zab (zbz D t)).length:Nat):Int))>0)=true:=decide_eq_true (by rw[zac];omega)
  by_cases h1:1<(zbz D t).length
  ·have hm1:(zbz D t)[1]∈zbz D t:=List.getElem_mem h1
   have b1:=(g2 _ hm1).2.1
   have l1:=(g2 _ hm1).2.2.1
   obtain⟨x,hx,hpk⟩:=zbq hns (p:=p) (by omega) (m:=4) (by omega)
   by_cases hx0:x=0
   ·subst hx0
    obtain⟨o,n,l,p',e1,e2,e3,e4⟩:=hL _ hm1 (p+1) (by omega)
    exact⟨o,n,l,p',zbB (zaO hcons (zad hz' (zbo (k:=0) hz (zad (decide_eq_true (by rw[zac];omega)) (zam hpk (zad rfl (zbo (k:=1) h1 (zaO (zql hdv _) (zat (zkV _ t (by omega)) (zaa b1 (zaO (zql hdv _) e1))))))))))),by omega,e3,e4⟩
   ·obtain⟨o,n,l,p',e1,e2,e3,e4⟩:=hL _ hm0 (p+1) (by omega)
    exact⟨o,n,l,p',zbB (zaO hcons (zad hz' (zbo (k:=0) hz (zad (decide_eq_true (by rw[zac];omega)) (zam hpk (zaa (by rw[beq_eq_false_iff_ne];omega) (zaO (zql hdv _) (zat (zkV _ t (by omega)) (zaa b0 (zaO (zql hdv _) e1)))))))))),by omega,e3,e4⟩
  ·obtain⟨o,n,l,p',e1,e2,e3,e4⟩:=hL _ hm0 p (by omega)
   exact⟨o,n,l,p',zbB (zaO hcons (zad hz' (zbo (k:=0) hz (zaa (decide_eq_false (by rw[zac];omega)) (zaO (zql hdv _) (zat (zkV _ t (by omega)) (zaa b0 (zaO (zql hdv _) e1)))))))),by omega,e3,e4⟩
 ·have hnil:zbz D t=[]:=List.eq_nil_of_length_eq_zero (by omega)
  obtain⟨fs,h1,h2,h3⟩:=zlF (zfy hD) hR t;by_cases hf:0<fs.length
  ·obtain⟨x,hx,hpk⟩:=zbq hns (p:=p) (by omega) (m:=fs.length) hf
   obtain⟨k,hk,hfk,hps,harr⟩:=h3 fs[x] (List.getElem_mem hx);have hsm:=zxv D hD _ (hR.at hk) t hm harr
   have hl3:=(hR.small hk).1
   have hklt:=hR.len
   have:=zt3 hns hD hR (C:=4) (by omega) (c:=(k:Int)) (by omega) hl3 (P:=900000) (by omega) (fun u hu q hq=>zn3 hns hD hR (hsm u hu) (by omega)) (z1:=0) (z2:=0) (z3:=[]) (gP R k).ps.length 0 (by omega) [] (p+1) (fun b hb=>by cases hb) (by simp[zaG]) (by omega)
   obtain⟨o,n,l,p',e1,e2,e3,e4⟩:=this;rw[hnil] at hcons;refine⟨o,n,l,p',zbB (zaO hcons (zaa rfl (zaO h1 (zad (decide_eq_true (by omega)) (zad (decide_eq_true (by rw[zac];omega)) ?_))))),by omega,e3,e4⟩
   rw[zac];refine zam hpk (zbo hx ?_)
   rw[hfk];exact za7 rfl hk e1
  ·exact(znT hns hD hR (.inr ⟨fs,h1,List.eq_nil_of_length_eq_zero (by omega)⟩) hnil (by omega)).le (by omega) (by omega)
theorem zpq {t:Int} (ht:0≤t∧t≤4) {p:Nat} (hp:p+20≤900000):EG ns p 14 4 (zbh (Qr ns p) [pgC D R,.cell (.int t)]):=by
 rcases(by omega:t=0∨t=1∨t=3∨(t=2∨t=4)) with rfl|rfl|rfl|h
 ·exact(zs7 hns hD hR (by omega)).le (by omega) (by omega)
 ·exact(zl1 hns hD hR (.inl rfl) (by omega)).le (by omega) (by omega)
 ·exact(zl1 hns hD hR (.inr rfl) (by omega)).le (by omega) (by omega)
 ·exact zxR hns hD hR h hp
theorem zlp {V:List Int} (hV:V.length≤1048576) {t:Int} (ht:0≤t∧t≤4) {p:Nat} (hp:p+30≤900000):EG ns p 16 4 (zcO (Qr ns p) [pgC D R,.cell (.sl 1 (zab V)),.cell (.int t)]):=by
 obtain⟨fs,h1,h2,h3⟩:=zrM hV t;have hvar:∀(x:Nat) (hx:x<fs.length),Fit .expr [.int 12,.int fs[x],.sl 3 []]:=fun x hx=>by
  have:=h3 fs[x] (List.getElem_mem hx)
  exact zak (by omega) (by omega) (by simp) (fun b hb=>by cases hb)
 by_cases hf:0<fs.length
 ·have hf':decide (((((zab fs).length:Nat):Int))>0)=true:=decide_eq_true (by rw[zac];omega)
  obtain⟨x,hx,hp1⟩:=zbq hns (p:=p) (by omega) (m:=6) (by omega)
  by_cases hx0:0<x
  ·obtain⟨y,hy,hp2⟩:=zbq hns (p:=p+1) (by omega) (m:=fs.length) hf
   refine⟨12,fs[y],[],p+1+1,zhq (zaO h1 (zad hf' (zam hp1 (zad (decide_eq_true (by omega)) ?_)))),by omega,hvar y hy,by simp[zaG]⟩
   rw[zac];exact zam hp2 (zbo hy (zae (zaP _) rfl))
  ·obtain⟨b,hb⟩:=zkW (zfy hD) hR (V:=[]) (by simp) t
   cases b with
   | false =>
    obtain⟨y,hy,hp2⟩:=zbq hns (p:=p+1) (by omega) (m:=fs.length) hf
    refine⟨12,fs[y],[],p+1+1,zhq (zaO h1 (zad hf' (zam hp1 (zaa (decide_eq_false (by omega)) (zat hb (zad rfl ?_)))))),by omega,hvar y hy,by simp[zaG]⟩
    rw[zac];exact zam hp2 (zbo hy (zae (zaP _) rfl))
   | true =>
    obtain⟨o,n,l,p',e1,e2,e3,e4⟩:=zpq hns hD hR ht (p:=p+1) (by omega)
    exact⟨o,n,l,p',zhq (zaO h1 (zad hf' (zam hp1 (zaa (decide_eq_false (by omega)) (zat hb (zaa rfl (zaF e1 rfl))))))),by omega,e3,e4⟩
 ·obtain⟨o,n,l,p',e1,e2,e3,e4⟩:=zpq hns hD hR ht (p:=p) (by omega)
  exact⟨o,n,l,p',zhq (zaO h1 (zaa (decide_eq_false (by rw[zac];omega)) (zaF e1 rfl))),by omega,e3,e4⟩
end
end
end Go.Proofs.Ytcpcagdialnbeaa
