/- Generic texts and models for the proofs of this seat: part 11. -/
import Derived.Test.YtcpcagdialnbeaaY10
set_option linter.unusedVariables false
set_option linter.unusedSimpArgs false
namespace Go.Proofs.Ytcpcagdialnbeaa
section
open Go Go.RowKit
def ren (st st':Stt) (i:Nat):Option Nat:=(st'.pid.find? fun e=>e.2==i).bind fun e=>st.pid.lookup e.1
def wk (st st':Stt):Bool :=
 st'.pid.all (fun e=>match ren st st' e.2 with|some j=>st.pid.lookup e.1==some j|none=>false) &&
 st'.alive.all (fun e=>match ren st st' e.1 with|some j=>st.alive.lookup j==some e.2|none=>false) &&
 st'.alive.all (fun e=>st'.alive.all fun e'=>e.1==e'.1||!(ren st st' e.1==ren st st' e'.1)) &&
 st'.len==st.len&&st'.spe.isEmpty&&st'.nb.isEmpty&&st.made.all fun d=>st'.made.any fun e=>Nat.beq e d
def Le (st st':Stt):Prop:=∀p w m s Own,Inv st p w m s Own→s.pe=[]→Inv st' p w m s Own
theorem zrD {st st':Stt} (h:wk st st'=true):Le st st':=by
 unfold wk at h;simp only[Bool.and_eq_true,List.all_eq_true,beq_iff_eq,Bool.or_eq_true,Bool.not_eq_true',beq_eq_false_iff_ne] at h;obtain⟨⟨⟨⟨⟨⟨h1,h2⟩,h3⟩,h4⟩,h5⟩,h6⟩,h7⟩:=h;have hmade:∀d,d∈st.made→d∈st'.made:=fun d hd=>by
  have:=h7 d hd
  rw[List.any_eq_true] at this;obtain⟨e,he,hb⟩:=this;rw[←Nat.eq_of_beq_eq_true hb];exact he
 intro p w m s Own hI hpe;obtain⟨val,hR⟩:=hI.rooms;have hspe:st'.spe=[]:=by simpa using h5
 have hnb:st'.nb=[]:=by simpa using h6
 refine⟨hI.size,by rw[h4];exact hI.len,fun t ht=>(by rw[hnb] at ht;cases ht),by rw[hspe];trivial,hI.slots,hI.zp,hI.once,⟨fun t _=>by rw[hpe];rfl,fun t d off ht=>by rw[hspe] at ht;cases ht⟩,hI.own,hI.box,hI.boxd,hI.arr,hI.al,⟨fun t d ht=>(hI.mks.1 t d ht).imp (hmade d) fun h=>h,fun d k r hd=>hmade d (hI.mks.2 d k r hd)⟩,fun i=>val ((ren st st' i).getD 0),?_⟩
 have halive:∀i k,(i,k)∈st'.alive→∃j,ren st st' i=some j∧(j,k)∈st.alive:=by
  intro i k hm;have:=h2 _ hm
  split at this
  ·rename_i j hj
   exact⟨j,hj,za2 (by simpa using this)⟩
  ·cases this
 refine⟨fun q i hm=>?_,fun i k hm=>?_,fun i k b hm hb=>?_,fun i k i' k' b hm hm' hne hb=>?_,fun q i k d k' rows b hm hal hd hbd hb=>?_⟩
 ·have:=h1 _ hm
  split at this
  ·rename_i j hj
   simp only at hj;rw[hj];exact hR.place _ _ (zau (by simpa using this))
  ·cases this
 ·obtain⟨j,hj,hm'⟩:=halive i k hm
  rw[hj];exact hR.alive _ _ hm'
 ·obtain⟨j,hj,hm'⟩:=halive i k hm
  rw[hj] at hb;exact hR.own _ _ b hm' hb
 ·obtain⟨j,hj,hmj⟩:=halive i k hm
  obtain⟨j',hj',hmj'⟩:=halive i' k' hm';rw[hj] at hb;rw[hj'];refine hR.apart j k j' k' b hmj hmj' (fun e=>?_) hb
  rcases h3 _ hm _ hm' with h|h
  ·exact hne h
  ·exact h (by rw[hj,hj',e])
 ·obtain⟨j,hj,hmj⟩:=halive i k hal
  have h1':=h1 _ hm
  simp only at h1';rw[hj] at h1' hb;exact hR.row q j k d k' rows b (zau (by simpa using h1')) hmj hd hbd hb
theorem Le.trans {a b c:Stt} (h:Le a b) (k:Le b c):Le a c:=fun p w m s Own hI hp=>k p w m s Own (h p w m s Own hI hp) hp
def zuu (a b:Stt):List (Nat×Nat)→List Nat→List (Nat×Nat×Nat)
 | [],_=>[]
 | (i,k)::r,used =>
  match a.pid.filterMap (fun e=>if e.2==i then(b.pid.lookup e.1).bind fun j=>if b.alive.lookup j==some k&&!used.contains j then some j else none else none) with
  | j::_=>(i,j,k)::zuu a b r (j::used)
  | []=>zuu a b r used
def zCO (a b:Stt):Stt :=
 let ps:=zuu a b a.alive []
 {pid:=a.pid.filter fun e=>match ps.lookup e.2 with|some x=>b.pid.lookup e.1==some x.1|none=>false,
  alive:=ps.map fun x=>(x.1,x.2.2),spe:=[],len:=a.len,made:=a.made++b.made}
structure Out where
 norm:Option Stt
 exits:List (Nat×Stt)
 ret:Option Stt
def Out.at (O:Out):Xt→Option Stt
 | .norm=>O.norm
 | .exit i=>O.exits.lookup i
 | .ret=>O.ret
def zrB:Option Stt→Option Stt→Option (Option Stt)
 | none,b=>some b
 | a,none=>some a
 | some a,some b=>let c:=zCO a b;if wk a c&&wk b c then some (some c) else none
def zuP:List (Nat×Stt)→List (Nat×Stt)→Option (List (Nat×Stt))
 | [],b=>some b
 | (i,a)::r,b=>(zuP r (b.filter fun e=>!(e.1==i))).bind fun r'=>(zrB (some a) (b.lookup i)).bind fun c=>match c with|some c=>some ((i,c)::r')|none=>none
def zoZ (A B:Out):Option Out:=(zrB A.norm B.norm).bind fun n=>(zuP A.exits B.exits).bind fun x=>(zrB A.ret B.ret).map fun r=>{norm:=n,exits:=x,ret:=r}
theorem zhX {a b:Option Stt}{c:Option Stt} (h:zrB a b=some c):(∀st,a=some st→∃st',c=some st'∧(st=st'∨Le st st'))∧(∀st,b=some st→∃st',c=some st'∧(st=st'∨Le st st')):=by
 cases a with
 | none=>cases h;exact⟨fun st h=>(by cases h),fun st h=>⟨st,h,.inl rfl⟩⟩
 | some x =>
  cases b with
  | none=>cases h;exact⟨fun st h=>⟨st,h,.inl rfl⟩,fun st h=>(by cases h)⟩
  | some y =>
   simp only[zrB] at h;split at h
   ·rename_i hw
    simp only[Bool.and_eq_true] at hw;cases h;exact⟨fun st h=>by cases h;exact⟨_,rfl,.inr (zrD hw.1)⟩,fun st h=>by cases h;exact⟨_,rfl,.inr (zrD hw.2)⟩⟩
   ·cases h
def zhI (st:Stt):Nat:=st.alive.foldl (fun m e=>max m (e.1+1)) (st.pid.foldl (fun m e=>max m (e.2+1)) 0)
def zrc (f:Stt→Option Out):Nat→Stt→Option (Stt×Out)
 | 0,_=>none
 | n+1,J=>(f J).bind fun O=>match O.norm with
  | none=>some (J,O)
  | some s1=>if wk s1 J then some (J,{norm:=none,exits:=O.exits,ret:=O.ret}) else zrc f n (zCO J s1)
abbrev zjN:=Lay→Sig→Array Oper→Stt→Option Stt
def zb2 (D:zjN) (L:Lay) (S:Sig):Code→Stt→Option Out
 | .skip,st=>some {norm:=some st,exits:=[],ret:=none}
 | .region _ ops d,st =>
  if d then(D L S ops st).map fun st'=>{norm:=some st',exits:=[],ret:=none}
  else(zjC L S (zhI st) ops.toList st).map fun r=>{norm:=some {pid:=r.2.pid,alive:=r.2.alive,spe:=[],len:=r.2.len,made:=r.2.made},exits:=[],ret:=none}
 | .seq a b,st=>(zb2 D L S a st).bind fun A=>match A.norm with
  | none=>some A
  | some s1=>(zb2 D L S b s1).bind fun B=>zoZ {norm:=none,exits:=A.exits,ret:=A.ret} B
 | .cond _ a b,st=>(zb2 D L S a st).bind fun A=>(zb2 D L S b st).bind fun B=>zoZ A B
 | .block id b,st=>(zb2 D L S b st).bind fun B=>(zrB B.norm (B.exits.lookup id)).map fun n=>{norm:=n,exits:=B.exits.filter fun e=>!(e.1==id),ret:=B.ret}
 | .loop b,st=>(zrc (zb2 D L S b) 6 {pid:=st.pid,alive:=st.alive,spe:=[],len:=st.len,made:=st.made}).bind fun r=>if wk st r.1 then some r.2 else none
 | .exit id,st=>some {norm:=none,exits:=[(id,st)],ret:=none}
 | .ret,st=>some {norm:=none,exits:=[],ret:=some st}
 | _,_=>none
def zkK:Xt→Exit
 | .norm=>.normal
 | .exit i=>.exit i
 | .ret=>.ret
theorem ztb:∀{a b c:List (Nat×Stt)},zuP a b=some c→∀i,(∀st,a.lookup i=some st→∃st',c.lookup i=some st'∧(st=st'∨Le st st'))∧(∀st,b.lookup i=some st→∃st',c.lookup i=some st'∧(st=st'∨Le st st'))
 | [],b,c,h,i=>by cases h;exact⟨fun st h=>(by cases h),fun st h=>⟨st,h,.inl rfl⟩⟩
 | (j,x)::r,b,c,h,i=>by
  simp only[zuP,zzOb] at h;obtain⟨r',hr,c',hc,h⟩:=h;obtain⟨k1,k2⟩:=zhX hc;cases c' with
  | none=>cases h
  | some c'' =>
   cases h;have ih:=ztb hr i
   by_cases hij:i=j
   ·subst hij
    simp only[List.lookup,beq_self_eq_true];exact⟨fun st h=>by cases h;exact k1 _ rfl,fun st h=>k2 st h⟩
   ·have hb:(i==j)=false:=by simpa using hij
    simp only[List.lookup,hb];refine⟨ih.1,fun st h=>ih.2 st ?_⟩
    rw[←h];clear h ih hr hc k1 k2 hb;induction b with
    | nil=>rfl
    | cons y b ihb =>
     obtain⟨k,v⟩:=y;by_cases hkj:k=j
     ·subst hkj
      rw[List.filter_cons_of_neg (by simp)]
      rw[ihb];simp[List.lookup,show(i==k)=false by simpa using hij]
     ·rw[List.filter_cons_of_pos (by simpa using hkj)]
      simp only[List.lookup];rw[ihb]
theorem zdq {A B C:Out} (h:zoZ A B=some C) (e:Xt):(∀st,A.at e=some st→∃st',C.at e=some st'∧(st=st'∨Le st st'))∧(∀st,B.at e=some st→∃st',C.at e=some st'∧(st=st'∨Le st st')):=by
 simp only[zoZ,zzOb,zzOm] at h;obtain⟨n,hn,x,hx,r,hr,rfl⟩:=h;cases e with
 | norm=>exact zhX hn
 | exit i=>exact ztb hx i
 | ret=>exact zhX hr
end
section
open Go Go.RowKit
section
variable {P:Program}{L:Lay}{S:Sig}{call:Orc}{Own:Nat→Prop}{D:zjN}
theorem Inv.reset {st:Stt}{p:Stb}{w:World}{m:Array Value}{s:VS} (h:Inv st p w m s Own):Inv {pid:=st.pid,alive:=st.alive,spe:=[],len:=st.len,made:=st.made} p w m {σ:=s.σ,pe:=[]} Own:=by
 obtain⟨val,hR⟩:=h.rooms;exact⟨h.size,h.len,fun t ht=>(by cases ht),trivial,fun t=>⟨(h.slots t).1,fun q hq=>by cases hq⟩,h.zp,trivial,⟨fun _ _=>rfl,fun _ _ _ ht=>by cases ht⟩,h.own,h.box,h.boxd,h.arr,h.al,h.mks,val,⟨hR.place,hR.alive,hR.own,hR.apart,hR.row⟩⟩
theorem zkt (σ:List AV) (t:Nat):VS.get {σ:=zit σ,pe:=[]} t=if zbH (VS.get {σ:=σ,pe:=[]} t) then .al zbK else VS.get {σ:=σ,pe:=[]} t:=by
 have key:∀x:Option AV,(x.map fun x=>if zbH x then .al zbK else x).getD .und=if zbH (x.getD .und) then AV.al zbK else x.getD .und:=fun x=>by
  cases x <;> rfl
 simp only[VS.get,zit,List.getD,List.getElem?_map];exact key _
theorem zo4 (σ:List AV) (t k:Nat) (r:List (List AC)):VS.get {σ:=zit σ,pe:=[]} t≠.arr k r:=by
 rw[zkt];split
 ·intro h;cases h
 ·rename_i h
  intro e;rw[e] at h;exact h rfl
theorem zr0 (σ:List AV) (t d:Nat) (h:VS.get {σ:=zit σ,pe:=[]} t=.al d):d=zbK:=by
 rw[zkt] at h;split at h
 ·cases h;rfl
 ·rename_i hr
  rw[h] at hr;exact absurd rfl hr
theorem Inv.masked {st:Stt}{p:Stb}{w:World}{m:Array Value}{σ:List AV} (h:Inv st p w m {σ:=σ,pe:=[]} Own):Inv st p w m {σ:=zit σ,pe:=[]} Own:=by
 obtain⟨val,hR⟩:=h.rooms;have hbox:∀d cs,VS.get {σ:=zit σ,pe:=[]} d=.box cs→VS.get {σ:=σ,pe:=[]} d=.box cs:=fun d cs hd=>by
  rw[zkt] at hd;split at hd
  ·cases hd
  ·exact hd
 have harr:=zo4 σ
 refine⟨by rw[h.size];simp[zit],by rw[h.len];simp[zit],fun t ht=>⟨fun d off hl=>(by cases hl),fun cs hc=>(h.nbk t ht).2 cs (hbox t cs hc)⟩,h.sonce,fun t=>⟨?_,fun q hq=>by cases hq⟩,h.zp,trivial,h.spe,h.own,fun d cs hd=>h.box d cs (hbox d cs hd),fun d d' cs cs' b hne hd hd'=>h.boxd d d' cs cs' b hne (hbox d cs hd) (hbox d' cs' hd'),
  fun d k r b hd=>absurd hd (harr d k r),fun t d k r _ hd=>absurd hd (harr d k r),⟨fun t d ht=>.inr (zr0 σ t d ht),fun d k r hd=>absurd hd (harr d k r)⟩,val,⟨fun q id hm=>⟨(hR.place q id hm).1,?_⟩,hR.alive,fun id k b hm hb=>⟨(hR.own id k b hm hb).1,fun d cs hd=>(hR.own id k b hm hb).2 d cs (hbox d cs hd)⟩,hR.apart,fun q id k d k' r b _ _ hd=>absurd hd (harr d k' r)⟩⟩
 ·have hs:=(h.slots t).1
  rw[zkt];split
  ·rename_i hr
   rcases hx:VS.get {σ:=σ,pe:=[]} t with _|x|xs|cs|⟨k,rows⟩|d
   ·rw[hx] at hr;cases hr
   ·rw[hx] at hr;cases hr
   ·rw[hx] at hr;cases hr
   ·rw[hx] at hr;cases hr
   ·rw[hx] at hs
    rcases hs.2.2 with ⟨e,_⟩|⟨_,_,_,_,_,_,e,_⟩
    ·exact⟨_,_,_,e⟩
    ·exact⟨_,_,_,e⟩
   ·rw[hx] at hs
    exact hs
  ·exact hs
 ·rw[zkt]
  split
  ·intro e;cases e
  ·exact(hR.place q id hm).2
theorem zma (q:Nat→Prop) (h:∃m,q m):∃m,q m∧∀k,q k→m≤k:=by
 obtain⟨m,hm⟩:=h;induction m using Nat.strongRecOn with
 | _ m ih =>
  by_cases hk:∃k,k<m∧q k
  ·obtain⟨k,h1,h2⟩:=hk
   exact ih k h1 h2
  ·exact⟨m,hm,fun k hq=>Nat.le_of_not_lt fun hlt=>hk ⟨k,hlt,hq⟩⟩
noncomputable def zo1 (q:Nat→Prop):Nat:=open Classical in if h:∃m,q m then(zma q h).choose else 0
theorem zjO {q:Nat→Prop} (h:∃m,q m):q (zo1 q)∧∀k,q k→zo1 q≤k:=by
 unfold zo1;rw[dif_pos h];exact(zma q h).choose_spec
def zk5 (P:Program) (L:Lay) (S:Sig) (call:Orc) (D:zjN):Prop :=
 ∀(Own:Nat→Prop) (id:Nat) (ops:Array Oper) (st st':Stt) (σ σ':List AV) (p:Stb) (w:World) (a:Act) (Q:Exit→Act→World→Prop),D L S ops st=some st'→zj9 L call ops.toList σ=some σ'→Inv st p w a.tmps {σ:=σ,pe:=[]} Own →
  (∀a' w' p',Inv st' p' w' a'.tmps {σ:=σ',pe:=[]} Own→Evo Own p w p' w'→a'.defers=a.defers→Q .normal a' w')→(Code.region id ops true).wp P Q a w
theorem zdQ (st:Stt):zcG st (zhI st):=by
 have h1:∀(l:List ((Nat×Nat)×Nat)) (m:Nat),m≤l.foldl (fun m e=>max m (e.2+1)) m:=by
  intro l;induction l with
  | nil=>intro m;exact Nat.le_refl _
  | cons x l ih=>intro m;exact Nat.le_trans (Nat.le_max_left _ _) (ih _)
 have h2:∀(l:List ((Nat×Nat)×Nat)) (m:Nat),∀e∈l,e.2<l.foldl (fun m e=>max m (e.2+1)) m:=by
  intro l;induction l with
  | nil=>intro m e he;cases he
  | cons x l ih =>
   intro m e he;rcases List.mem_cons.1 he with rfl|he
   ·exact Nat.lt_of_lt_of_le (show e.2<max m (e.2+1) by omega) (h1 l _)
   ·exact ih _ e he
 exact⟨fun q id hm=>Nat.lt_of_lt_of_le (h2 _ 0 _ hm) (zjI _ _),fun id k hm=>zee _ _ _ hm⟩
theorem zkR {K:Act→World→Prop}{Q:Exit→Act→World→Prop}{e:Xt}{a:Act}{w:World} (h1:e=.norm→K a w) (h2:e≠.norm→Q (zkK e) a w):Exit.then K Q (zkK e) a w:=by
 cases e with
 | norm=>exact h1 rfl
 | exit i=>exact h2 (by intro h;cases h)
 | ret=>exact h2 (by intro h;cases h)
theorem zva (hL:LayOk P L) (hC:za4 P S call) (hD:zk5 P L S call D):∀(n:Nat) (c:Code) (σ:List AV) (e:Xt) (σ':List AV) (st:Stt) (O:Out),zbj L call n c σ=some (e,σ')→zb2 D L S c st=some O →
  ∀(p:Stb) (w:World) (a:Act),Inv st p w a.tmps {σ:=σ,pe:=[]} Own→a.defers=[]→∀(Q:Exit→Act→World→Prop),
  (∀st' a' w' p',O.at e=some st'→Inv st' p' w' a'.tmps {σ:=σ',pe:=[]} Own→Evo Own p w p' w'→a'.defers=[]→Q (zkK e) a' w')→c.wp P Q a w:=by
 intro n;induction n with
 | zero=>intro c σ e σ' st O hv;simp[zbj] at hv
 | succ n ih =>
  intro c σ e σ' st O hv ht p w a hI hd Q hQ;have ett:∀{p p' p'':Stb}{w w' w'':World},Evo Own p w p' w'→Evo Own p' w' p'' w''→Evo Own p w p'' w'':=fun h k=>h.trans k (fun _ _ h=>h) (fun _ _ h=>h)
  cases c with
  | skip =>
   simp only[zbj,Option.some.injEq,Prod.mk.injEq] at hv;obtain⟨rfl,rfl⟩:=hv;cases ht;exact wp_skip (hQ st a w p rfl hI (.refl _ _ _) hd)
  | region id ops d =>
   simp only[zb2] at ht;cases d with
   | true =>
    simp only[zbj,if_true,zzOm,Prod.mk.injEq] at hv;obtain⟨s',hs,rfl,rfl⟩:=hv;simp only[if_true,zzOm] at ht;obtain⟨st',hst,rfl⟩:=ht;exact hD Own id ops st st' σ s' p w a Q hst hs hI fun a' w' p' h1 h2 h3=>hQ st' a' w' p' rfl h1 h2 (h3.trans hd)
   | false =>
    simp only[zbj,Bool.false_eq_true,if_false,zzOm,Prod.mk.injEq] at hv;obtain⟨s',hs,rfl,rfl⟩:=hv;simp only[Bool.false_eq_true,if_false,zzOm] at ht;obtain⟨⟨b',st'⟩,hst,rfl⟩:=ht;refine wp_region (zu4 hL hC (List.range ops.size) ops.toList ?_ _ b' st st' p w a _ s' hI (zdQ st) hs hst fun a' w' p' h1 _ h2 h3=>hQ _ a' w' p' rfl h1.reset h2 (h3.trans hd))
    apply List.ext_getElem?
    intro i;simp only[List.getElem?_map,Array.getElem?_toList];rcases Nat.lt_or_ge i ops.size with hi|hi
    ·rw[List.getElem?_range hi]
     simp[hi]
    ·rw[List.getElem?_eq_none (by simpa using hi),Array.getElem?_eq_none hi]
     rfl
  | seq x y =>
   simp only[zbj,zzOb] at hv;obtain⟨⟨e1,σ1⟩,h1,h2⟩:=hv;simp only[zb2,zzOb] at ht;obtain⟨A,hA,ht⟩:=ht;refine wp_seq (ih x σ e1 σ1 st A h1 hA p w a hI hd _ fun st1 a1 w1 p1 ha1 hI1 hev1 hd1=>zkR (fun he=>?_) (fun hne=>?_))
   ·subst he
    simp only at h2;have ha1':A.norm=some st1:=ha1
    rw[ha1'] at ht;simp only[zzOb] at ht;obtain⟨B,hB,hj⟩:=ht;refine ih y σ1 e σ' st1 B h2 hB p1 w1 a1 hI1 hd1 Q fun st2 a2 w2 p2 ha2 hI2 hev2 hd2=>?_
    obtain⟨st',h3,h4⟩:=(zdq hj e).2 st2 ha2;refine hQ st' a2 w2 p2 h3 ?_ (ett hev1 hev2) hd2
    rcases h4 with rfl|h4
    ·exact hI2
    ·exact h4 _ _ _ _ _ hI2 rfl
   ·have he:e1=e∧σ1=σ':=by
     cases e1 with
     | norm=>exact absurd rfl hne
     | exit i=>simp at h2;exact h2
     | ret=>simp at h2;exact h2
    obtain⟨rfl,rfl⟩:=he;cases hAn:A.norm with
    | none =>
     rw[hAn] at ht;cases ht;exact hQ st1 a1 w1 p1 ha1 hI1 hev1 hd1
    | some s1 =>
     rw[hAn] at ht;simp only[zzOb] at ht;obtain⟨B,hB,hj⟩:=ht;have ha1':Out.at {norm:=none,exits:=A.exits,ret:=A.ret} e1=some st1:=by
      cases e1 with
      | norm=>exact absurd rfl hne
      | exit i=>exact ha1
      | ret=>exact ha1
     obtain⟨st',h3,h4⟩:=(zdq hj e1).1 st1 ha1';refine hQ st' a1 w1 p1 h3 ?_ hev1 hd1
     rcases h4 with rfl|h4
     ·exact hI1
     ·exact h4 _ _ _ _ _ hI1 rfl
  | cond x y z =>
   simp only[zbj,zzOb] at hv;obtain⟨t,ht',hv⟩:=hv;simp only[zb2,zzOb] at ht;obtain⟨A,hA,B,hB,hj⟩:=ht;have hc:a.eval x=.bool t:=zhu (p:=p) (w:=w) ht' (fun t _=>hI.slots t)
   refine wp_cond hc ?_
   cases t with
   | true =>
    simp only[if_true] at hv ⊢;refine ih y σ e σ' st A hv hA p w a hI hd Q fun st2 a2 w2 p2 ha2 hI2 hev2 hd2=>?_
    obtain⟨st',h3,h4⟩:=(zdq hj e).1 st2 ha2;refine hQ st' a2 w2 p2 h3 ?_ hev2 hd2
    rcases h4 with rfl|h4
    ·exact hI2
    ·exact h4 _ _ _ _ _ hI2 rfl
   | false =>
    simp only[Bool.false_eq_true,if_false] at hv ⊢;refine ih z σ e σ' st B hv hB p w a hI hd Q fun st2 a2 w2 p2 ha2 hI2 hev2 hd2=>?_
    obtain⟨st',h3,h4⟩:=(zdq hj e).2 st2 ha2;refine hQ st' a2 w2 p2 h3 ?_ hev2 hd2
    rcases h4 with rfl|h4
    ·exact hI2
    ·exact h4 _ _ _ _ _ hI2 rfl
  | block id b =>
   simp only[zbj,zzOm] at hv;obtain⟨⟨e1,σ1⟩,h1,h2⟩:=hv;simp only[zb2,zzOb,zzOm] at ht;obtain⟨B,hB,n',hn,rfl⟩:=ht;refine wp_block (ih b σ e1 σ1 st B h1 hB p w a hI hd _ fun st1 a1 w1 p1 ha1 hI1 hev1 hd1=>?_)
   have fin:∀st1',(∃st',n'=some st'∧(st1'=st'∨Le st1' st'))→e=.norm→σ1=σ'→st1'=st1→Q .normal a1 w1:=by
    rintro st1' ⟨st',h3,h4⟩ rfl rfl rfl
    refine hQ st' a1 w1 p1 h3 ?_ hev1 hd1
    rcases h4 with rfl|h4
    ·exact hI1
    ·exact h4 _ _ _ _ _ hI1 rfl
   cases e1 with
   | norm =>
    simp only[Prod.mk.injEq] at h2;exact fin st1 ((zhX hn).1 st1 ha1) h2.1.symm h2.2 rfl
   | exit i =>
    simp only at h2;by_cases hi:i=id
    ·subst hi
     simp only[if_true,Prod.mk.injEq] at h2;simp only[zkK,Exit.inBlock,if_true];exact fin st1 ((zhX hn).2 st1 ha1) h2.1.symm h2.2 rfl
    ·simp only[if_neg hi,Prod.mk.injEq] at h2
     obtain⟨rfl,rfl⟩:=h2;simp only[zkK,Exit.inBlock,if_neg hi];refine hQ st1 a1 w1 p1 ?_ hI1 hev1 hd1
     have ha1:B.exits.lookup i=some st1:=ha1
     show(B.exits.filter fun e=>!(e.1==id)).lookup i=some st1
     rw[←ha1];clear ha1 hn hB h1;generalize B.exits=l
     induction l with
     | nil=>rfl
     | cons y l ihl =>
      obtain⟨k,v⟩:=y;by_cases hk:k=id
      ·subst hk
       rw[List.filter_cons_of_neg (by simp),ihl]
       simp[List.lookup,show(i==k)=false by simpa using hi]
      ·rw[List.filter_cons_of_pos (by simpa using hk)]
       simp only[List.lookup];rw[ihl]
   | ret =>
    simp only[Prod.mk.injEq] at h2;obtain⟨rfl,rfl⟩:=h2;exact hQ st1 a1 w1 p1 ha1 hI1 hev1 hd1
  | loop b =>
   simp only[zb2,zzOb] at ht;obtain⟨⟨J,O'⟩,htl,ht⟩:=ht;simp only at ht;split at ht
   case isFalse=>cases ht
   rename_i hwk;cases ht
   -- the invariant that was found
   have hJ:∀(k:Nat) (J0:Stt),zrc (zb2 D L S b) k J0=some (J,O)→∃O1,zb2 D L S b J=some O1∧(∀s1,O1.norm=some s1→Le s1 J)∧(∀e,e≠.norm→O.at e=O1.at e):=by
    intro k;induction k with
    | zero=>intro J0 h;cases h
    | succ k ihk =>
     intro J0 h;simp only[zrc,zzOb] at h;obtain⟨O1,hO1,h⟩:=h;split at h
     ·rename_i hnone
      cases h;exact⟨_,hO1,(fun s1 h=>by rw[hnone] at h;cases h),fun e _=>rfl⟩
     ·rename_i s1 hs1
      split at h
      ·rename_i hw
       cases h;refine⟨O1,hO1,fun s h=>?_,fun e he=>?_⟩
       ·rw[hs1] at h
        cases h;exact zrD hw
       ·cases e with
        | norm=>exact absurd rfl he
        | exit i=>rfl
        | ret=>rfl
      ·exact ihk _ h
   obtain⟨O1,hO1,hnorm,hat⟩:=hJ _ _ htl
   let Pm:Act→World→Nat→Prop:=fun a1 w1 m=>∃σ1 p1,m≤n+1∧zbj L call m (.loop b) σ1=some (e,σ')∧Inv J p1 w1 a1.tmps {σ:=σ1,pe:=[]} Own∧Evo Own p w p1 w1∧a1.defers=[]
   have h0:Pm a w (n+1):=⟨σ,p,Nat.le_refl _,hv,zrD hwk _ _ _ _ _ hI rfl,.refl _ _ _,hd⟩
   refine wp_loop (fun a1 w1=>∃m,Pm a1 w1 m) (fun a1 w1=>zo1 (Pm a1 w1)) ⟨n+1,h0⟩ ?_
   intro a1 w1 hex;obtain⟨σ1,p1,hle,hv1,hI1,hev1,hd1⟩:=(zjO hex).1;generalize hm:zo1 (Pm a1 w1)=m at hle hv1 ⊢
   cases m with
   | zero=>simp[zbj] at hv1
   | succ m =>
    simp only[zbj,zzOb] at hv1;obtain⟨⟨e2,σ2⟩,hb,hr⟩:=hv1;have hb':zbj L call n b σ1=some (e2,σ2):=zcH (fun _ _ _ h=>h) (by omega) hb
    refine ih b σ1 e2 σ2 J O1 hb' hO1 p1 w1 a1 hI1 hd1 _ fun st2 a2 w2 p2 ha2 hI2 hev2 hd2=>zkR (fun he=>?_) (fun hne=>?_)
    ·subst he
     simp only at hr;have hP:Pm a2 w2 m:=⟨σ2,p2,by omega,hr,hnorm st2 ha2 _ _ _ _ _ hI2 rfl,ett hev1 hev2,hd2⟩
     exact⟨⟨m,hP⟩,Nat.lt_succ_of_le ((zjO ⟨m,hP⟩).2 m hP)⟩
    ·have he:e2=e∧σ2=σ':=by
      cases e2 with
      | norm=>exact absurd rfl hne
      | exit i=>simp at hr;exact hr
      | ret=>simp at hr;exact hr
     obtain⟨rfl,rfl⟩:=he;exact hQ st2 a2 w2 p2 (by rw[hat _ hne];exact ha2) hI2 (ett hev1 hev2) hd2
  | exit id =>
   simp only[zbj,Option.some.injEq,Prod.mk.injEq] at hv;obtain⟨rfl,rfl⟩:=hv;cases ht;exact wp_exit (hQ st a w p (by simp[Out.at,List.lookup]) hI (.refl _ _ _) hd)
  | ret =>
   simp only[zbj,Option.some.injEq,Prod.mk.injEq] at hv;obtain⟨rfl,rfl⟩:=hv;cases ht;exact wp_ret (hQ st a w p rfl hI (.refl _ _ _) hd)
  | rangeFunc f ps x y=>simp[zbj] at hv
  | scope b=>simp[zbj] at hv
  | label l=>simp[zbj] at hv
  | goto l=>simp[zbj] at hv
  | refuse l=>simp[zbj] at hv
end
end
end Go.Proofs.Ytcpcagdialnbeaa
