/- Generic texts and models for the proofs of this seat: part 20. -/
import Derived.Test.YtbodfaghedolbaaY19
import Derived.Laws.BitsAllLaws
import Derived.Laws.BitsLemmas
set_option linter.unusedVariables false
set_option linter.unusedSimpArgs false
namespace Go.Proofs.Ytbodfaghedolbaa
open Go
structure CtxT where
 X:Ctx
 T:Nat → Bool
 E:zkU
noncomputable def CtxT.tv (Y:CtxT):TOrc:=TV Y.X.P Y.X.L Y.T (V Y.X.P Y.X.L Y.X.F Y.X.E) Y.E
noncomputable def CtxT.vc (Y:CtxT) (c:Code) (s:List AV × List AC):Option (Xt × (List AV × List AC)):=TVC Y.X.P Y.X.L Y.T (V Y.X.P Y.X.L Y.X.F Y.X.E) Y.E c s
def zaf {ρ:Type} (x:Option (AV × List AC)) (tup:Bool) (fs:List Form) (K:List AC → Fn (Option ρ) (zbt fs)):Option ρ :=
 match x with
 | some r => zaa (some r.1) tup fs (K r.2)
 | none => none
theorem ztp {ρ:Type} {x:Option (AV × List AC)} {tup:Bool} {fs:List Form} {k:List AC → AV → Option ρ} {r:ρ} (h:zaf x tup fs (fun q => zmJ (zbt fs) fun cs => k q (zo4 tup (zeN fs cs))) = some r):∃ v q,x = some (v,q) ∧ k q v = some r:=by
 unfold zaf at h
 split at h
 ·rename_i y
  obtain ⟨v,hv,hk⟩:=zom (k:=k y.2) h
  cases hv
  exact ⟨_,_,rfl,hk⟩
 ·cases h
section
variable (Y:CtxT)
noncomputable def opB {ρ:Type} (d:Bool) (o:Oper) (st:VK) (k:VK → Option ρ):Option ρ:=bif d then zjR Y.X o st k else opK Y.X o st k
noncomputable def ztm {ρ:Type} (d:Bool) (o:Oper) (st:VK) (tk:List Nat) (q:List AC) (k:VK → List Nat → List AC → Option ρ):Option ρ :=
 bif zfG Y.T o then match o.op with
  | .call { callee:=.value (.func f),args,argTypes } => match args.toList,argTypes.toList with
   | x :: xs,_ :: ts => bif zub tk x then (zmq Y.X.L st xs ts).bind fun vs =>
     zaf (Y.tv f q vs) (zo7 Y.X o) (zgu Y.X o) (fun q' => zmJ (zbt (zgu Y.X o)) fun cs => k (st.put o.dst (zo4 (zo7 Y.X o) (zeN (zgu Y.X o) cs))) (zfZ o.dst tk) q') else none
   | _,_ => none
  | _ => none
 else bif zjY Y.X.L tk o then match o.dst with
  | some d => k (st.put (some d) .und) (d :: tk) q
  | none => none
 else opB Y d o st fun st' => k st' (zfZ o.dst tk) q
noncomputable def ziS {ρ:Type} (dr:Bool) (all:List Oper):List Oper → VK → List Nat → List AC → (VK → List Nat → List AC → Option ρ) → Option ρ
 | [],st,tk,q,k => k st tk q
 | o :: rest,st,tk,q,k =>
  bif dOk Y.X o then match o.guard with
  | none => ztm Y dr o st tk q fun st' tk' q' => ziS dr all rest st' tk' q' k
  | some g => match all[g.1]? with
   | some og => match og.dst with
    | some d => match st.o.at d with
     | some (.v (.cell (.bool b))) =>
      bif b then (bif true == g.2 then ztm Y dr o { st with o:=(d,.v (.cell (.bool true))) :: st.o } tk q fun st' tk' q' => ziS dr all rest st' tk' q' k else ziS dr all rest (VK.put { st with o:=(d,.v (.cell (.bool true))) :: st.o } o.dst .und) (zfZ o.dst tk) q k)
      else (bif false == g.2 then ztm Y dr o { st with o:=(d,.v (.cell (.bool false))) :: st.o } tk q fun st' tk' q' => ziS dr all rest st' tk' q' k else ziS dr all rest (VK.put { st with o:=(d,.v (.cell (.bool false))) :: st.o } o.dst .und) (zfZ o.dst tk) q k)
     | some .und => ziS dr all rest (st.put o.dst .und) (zfZ o.dst tk) q k
     | _ => none
    | none => none
   | none => none
  else none
noncomputable def zdE:List Fr → Xt × (List AV × List AC) → Option (AV × List AC)
 | [],r => zn1 Y.X.L Y.X.fn r
 | .seq c :: ks,(.norm,s) => (Y.vc c s).bind (zdE ks)
 | .seq _ :: ks,(e,s) => zdE ks (e,s)
 | .blk id :: ks,r => zdE ks (zlv id r)
 | .loop b :: ks,(.norm,s) => (Y.vc (.loop b) s).bind (zdE ks)
 | .loop _ :: ks,(e,s) => zdE ks (e,s)
noncomputable def GT (c:Code) (ks:List Fr) (o:Ov) (q:List AC):Option (AV × List AC) :=
 open Classical in if h:∃ r,(∃ s:List AV,s.length = Y.X.fn.ntmps ∧ AgO o s) ∧ ∀ s:List AV,s.length = Y.X.fn.ntmps → AgO o s → (Y.vc c (s,q)).bind (zdE Y ks) = some r then some h.choose else none
def zuk (o:Ov) (q:List AC):Option (AV × List AC):=(zqV Y.X o Y.X.fn.results.toList).map fun vs => (match vs with
 | [v] => .v v
 | vs => .tup vs,q)
noncomputable def evT:Nat → Mode → List Fr → Ov → List AC → Option (AV × List AC)
 | 0,_,_,_,_ => none
 | n + 1,.run c,ks,o,q =>
  match c with
  | .skip => evT n (.ret .norm) ks o q
  | .region _ ops d => bif d then ziS Y true ops.toList ops.toList ⟨zpb o,[]⟩ [0] q fun st tk q => bif zyq tk then evT n (.ret .norm) ks st.o q else none
   else ziS Y false ops.toList ops.toList ⟨o,[]⟩ [0] q fun st tk q => bif zyq tk then evT n (.ret .norm) ks st.o q else none
  | .seq a b => evT n (.run a) (.seq b :: ks) o q
  | .cond x a b => (zmi Y.X.L ⟨o,[]⟩ x).bind fun t => bif t then evT n (.run a) ks o q else evT n (.run b) ks o q
  | .block id b => evT n (.run b) (.blk id :: ks) o q
  | .loop b => (ztb ks).bind fun id => (zsD Y.X.lv id).bind fun l => (zkX o l).bind fun o' => GT Y (.loop b) ks o' q
  | .exit id => evT n (.ret (.exit id)) ks o q
  | .ret => evT n (.ret .ret) ks o q
  | _ => none
 | n + 1,.ret e,ks,o,q =>
  match ks with
  | [] => match e with
   | .exit _ => none
   | _ => zuk Y o q
  | .seq c :: ks => match e with
   | .norm => match (keyOf c).bind (zsD Y.X.jv) with
    | none => evT n (.run c) ks o q
    | some l => (zkX o l).bind fun o' => GT Y c ks o' q
   | e => evT n (.ret e) ks o q
  | .blk id :: ks => match e with
   | .exit i => bif Nat.beq i id then evT n (.ret .norm) ks o q else evT n (.ret (.exit i)) ks o q
   | e => evT n (.ret e) ks o q
  | .loop b :: ks => match e with
   | .norm => (ztb ks).bind fun id => (zsD Y.X.lv id).bind fun l => (zkX o l).bind fun o' => GT Y (.loop b) ks o' q
   | e => evT n (.ret e) ks o q
noncomputable def GTL (id:Nat) (o:Ov) (q:List AC):Option (AV × List AC):=(Y.X.fn.body.bind fun c => zas id c []).bind fun r => GT Y r.1 r.2 o q
noncomputable def GTJ (id:Nat) (o:Ov) (q:List AC):Option (AV × List AC):=(Y.X.fn.body.bind fun c => zd4 id c []).bind fun r => GT Y r.1 r.2 o q
end
section
variable {Y:CtxT}
noncomputable def CtxT.bop (Y:CtxT) (d:Bool):Oper → VS → Option VS:=bif d then zaJ Y.X.L (V Y.X.P Y.X.L Y.X.F Y.X.E) else vop Y.X.L (V Y.X.P Y.X.L Y.X.F Y.X.E)
theorem zzQ {ρ:Type} {d:Bool} {o:Oper} {st:VK} {k:VK → Option ρ} {r:ρ} {s:VS} (h:opB Y d o st k = some r) (hA:AgV st s) (hn:s.σ.length = Y.X.fn.ntmps) (hd:dOk Y.X o = true) :
  ∃ s' st',Y.bop d o s = some s' ∧ AgV st' s' ∧ s'.σ.length = s.σ.length ∧ k st' = some r:=by
 cases d
 ·exact zv0 (X:=Y.X) h hA hn hd
 ·exact zqm (X:=Y.X) h hA hn hd
theorem zwy {ρ:Type} {d:Bool} {o:Oper} {st:VK} {tk:List Nat} {q:List AC} {k:VK → List Nat → List AC → Option ρ} {r:ρ} {s:VS} (h:ztm Y d o st tk q k = some r) (hA:AgV st s) (hn:s.σ.length = Y.X.fn.ntmps) (hd:dOk Y.X o = true) :
  ∃ s' st' tk' q',zeJ (Y.bop d) Y.X.L Y.T Y.tv o ⟨s,tk,q⟩ = some ⟨s',tk',q'⟩ ∧ AgV st' s' ∧ s'.σ.length = s.σ.length ∧ k st' tk' q' = some r:=by
 have hd':∀ e,o.dst = some e → e < s.σ.length:=fun e he => by
  unfold dOk at hd
  rw [he] at hd
  simp only [Nat.blt_eq] at hd
  rw [hn]
  exact hd
 unfold ztm at h
 unfold zeJ
 cases hc:zfG Y.T o with
 | true =>
  rw [hc] at h
  simp only [cond_true] at h
  simp only [if_true]
  split at h
  ·rename_i f args ats hop
   split at h
   ·rename_i x xs t0 ts h1 h2
    simp only [zaB,Option.bind_eq_some_iff] at h
    obtain ⟨htk,vs,hvs,h⟩:=h
    obtain ⟨v,q',hv,hk⟩:=ztp (k:=fun q' v => k (st.put o.dst v) (zfZ o.dst tk) q') h
    refine ⟨s.put o.dst v,st.put o.dst v,zfZ o.dst tk,q',?_,zj8 hA hd',zfv _ _ _,hk⟩
    simp only [zj0,hop,h1,h2,htk,if_true,zkC hA hvs,Option.bind_some,hv,Option.map_some]
   ·cases h
  ·cases h
 | false =>
  rw [hc] at h
  simp only [cond_false] at h
  simp only [Bool.false_eq_true,if_false]
  cases ht:zjY Y.X.L tk o with
  | true =>
   rw [ht] at h
   simp only [cond_true] at h
   simp only [if_true]
   split at h
   ·rename_i d hdd
    refine ⟨s.put (some d) .und,_,_,_,by rw [hdd],zj8 hA (fun e he => hd' e (by rw [hdd]; exact he)),zfv _ _ _,h⟩
   ·cases h
  | false =>
   rw [ht] at h
   simp only [cond_false] at h
   obtain ⟨s',st',h1,h2,h3,h4⟩:=zzQ h hA hn hd
   refine ⟨s',st',zfZ o.dst tk,q,?_,h2,h3,h4⟩
   simp only [Bool.false_eq_true,if_false,h1,Option.map_some]
theorem zk0 {ρ:Type} {dr:Bool} {all:List Oper} {k:VK → List Nat → List AC → Option ρ} {r:ρ}:∀ {ops:List Oper} {st:VK} {tk:List Nat} {q:List AC} {s:VS},ziS Y dr all ops st tk q k = some r → AgV st s → s.σ.length = Y.X.fn.ntmps →
  ∃ s' st' tk' q',zcW (Y.bop dr) Y.X.L Y.T Y.tv all ops ⟨s,tk,q⟩ = some ⟨s',tk',q'⟩ ∧ AgV st' s' ∧ s'.σ.length = s.σ.length ∧ k st' tk' q' = some r
 | [],st,tk,q,s,h,hA,_ => ⟨s,st,tk,q,rfl,hA,rfl,h⟩
 | o :: rest,st,tk,q,s,h,hA,hn => by
  unfold ziS at h
  unfold zcW zcQ
  rw [zaB] at h
  obtain ⟨hd,h⟩:=h
  have hd':∀ e,o.dst = some e → e < s.σ.length:=fun e he => by
   unfold dOk at hd
   rw [he] at hd
   simp only [Nat.blt_eq] at hd
   rw [hn]
   exact hd
  have skip:∀ {st:VK},ziS Y dr all rest (st.put o.dst .und) (zfZ o.dst tk) q k = some r → AgV st s → ∃ s' st' tk' q',zcW (Y.bop dr) Y.X.L Y.T Y.tv all rest ⟨s.put o.dst .und,zfZ o.dst tk,q⟩ = some ⟨s',tk',q'⟩ ∧ AgV st' s' ∧ s'.σ.length = s.σ.length ∧ k st' tk' q' = some r:=by
   intro st h hA
   obtain ⟨s',st',tk',q',h1,h2,h3,h4⟩:=zk0 h (zj8 hA hd') (by rw [zfv]; exact hn)
   exact ⟨s',st',tk',q',h1,h2,by rw [h3,zfv],h4⟩
  have take:∀ {st:VK},ztm Y dr o st tk q (fun st' tk' q' => ziS Y dr all rest st' tk' q' k) = some r → AgV st s → ∃ s' st' tk' q',(zeJ (Y.bop dr) Y.X.L Y.T Y.tv o ⟨s,tk,q⟩).bind (zcW (Y.bop dr) Y.X.L Y.T Y.tv all rest) = some ⟨s',tk',q'⟩ ∧ AgV st' s' ∧ s'.σ.length = s.σ.length ∧ k st' tk' q' = some r:=by
   intro st h hA
   obtain ⟨s1,st1,tk1,q1,h1,h2,h3,h4⟩:=zwy h hA hn hd
   obtain ⟨s',st',tk',q',h5,h6,h7,h8⟩:=zk0 h4 h2 (by rw [h3]; exact hn)
   exact ⟨s',st',tk',q',by rw [h1]; exact h5,h6,by rw [h7,h3],h8⟩
  split at h
  ·rename_i hg
   rw [hg]
   exact take h hA
  ·rename_i g hg
   rw [hg]
   simp only
   split at h
   ·rename_i og hog
    split at h
    ·rename_i d hdd
     split at h
     ·rename_i b hb
      have hgv:zcb all s g = some (b == g.2):=by simp only [zcb,hog,hdd,zcN hA hb]
      rw [hgv,Option.bind_some]
      have hA':∀ b',b' = b → AgV { st with o:=(d,.v (.cell (.bool b'))) :: st.o } s:=fun b' hb' => ⟨fun i x hx => by
       rw [zcK] at hx
       split at hx
       ·rename_i e
        subst e
        cases hx
        rw [hb']
        exact hA.1 _ _ hb
       ·exact hA.1 _ _ hx,hA.2⟩
      cases b
      ·simp only [cond_false] at h
       rcases hq:(false == g.2) with _ | _
       ·rw [hq] at h
        simp only [cond_false] at h
        simp only [Bool.false_eq_true,if_false,Option.bind_some]
        exact skip h (hA' _ rfl)
       ·rw [hq] at h
        simp only [cond_true] at h
        simp only [if_true]
        exact take h (hA' _ rfl)
      ·simp only [cond_true] at h
       rcases hq:(true == g.2) with _ | _
       ·rw [hq] at h
        simp only [cond_false] at h
        simp only [Bool.false_eq_true,if_false,Option.bind_some]
        exact skip h (hA' _ rfl)
       ·rw [hq] at h
        simp only [cond_true] at h
        simp only [if_true]
        exact take h (hA' _ rfl)
     ·rename_i hb
      have hgv:zcb all s g = some false:=by simp only [zcb,hog,hdd,zcN hA hb]
      rw [hgv,Option.bind_some]
      simp only [Bool.false_eq_true,if_false,Option.bind_some]
      exact skip h hA
     ·cases h
    ·cases h
   ·cases h
theorem zsh {c:Code} {ks:List Fr} {o:Ov} {q:List AC} {r:AV × List AC} (h:GT Y c ks o q = some r) {s:List AV} (hs:s.length = Y.X.fn.ntmps) (hA:AgO o s):(Y.vc c (s,q)).bind (zdE Y ks) = some r:=by
 unfold GT at h
 split at h
 ·rename_i hh
  cases h
  exact hh.choose_spec.2 s hs hA
 ·cases h
theorem zyJ {c:Code} {ks:List Fr} {o:Ov} {q:List AC} {r:AV × List AC} (hw:∃ s:List AV,s.length = Y.X.fn.ntmps ∧ AgO o s) (h:∀ s:List AV,s.length = Y.X.fn.ntmps → AgO o s → (Y.vc c (s,q)).bind (zdE Y ks) = some r):GT Y c ks o q = some r:=by
 unfold GT
 have hh:∃ r,(∃ s:List AV,s.length = Y.X.fn.ntmps ∧ AgO o s) ∧ ∀ s:List AV,s.length = Y.X.fn.ntmps → AgO o s → (Y.vc c (s,q)).bind (zdE Y ks) = some r:=⟨r,hw,h⟩
 rw [dif_pos hh]
 obtain ⟨s,hs,hA⟩:=hw
 rw [← hh.choose_spec.2 s hs hA,h s hs hA]
theorem zxc (s:List AV × List AC):Y.vc .skip s = some (.norm,s):=zuE s
theorem zyC (id:Nat) (s:List AV × List AC):Y.vc (.exit id) s = some (.exit id,s):=zt3 id s
theorem zzL (s:List AV × List AC):Y.vc .ret s = some (.ret,s):=zxz s
theorem ztt (id:Nat) (ops:Array Oper) (d:Bool) (s:List AV × List AC):Y.vc (.region id ops d) s = (zjz Y.X.L Y.T (V Y.X.P Y.X.L Y.X.F Y.X.E) Y.tv ops.toList d s).map fun s => (.norm,s):=zsm id ops d s
theorem zyT (a b:Code) (s:List AV × List AC):Y.vc (.seq a b) s = (Y.vc a s).bind (zg7 Y.X.P Y.X.L Y.T (V Y.X.P Y.X.L Y.X.F Y.X.E) Y.E b):=zx5 a b s
theorem zwe (b:Code) (s:List AV × List AC):Y.vc (.loop b) s = (Y.vc b s).bind (zg7 Y.X.P Y.X.L Y.T (V Y.X.P Y.X.L Y.X.F Y.X.E) Y.E (.loop b)):=zvg b s
theorem zwh (x:Operand) (a b:Code) (s:List AV × List AC):Y.vc (.cond x a b) s = (zeO Y.X.L { σ:=s.1,pe:=[] } x).bind fun t => if t then Y.vc a s else Y.vc b s:=zv4 x a b s
theorem zu7 (id:Nat) (b:Code) (s:List AV × List AC):Y.vc (.block id b) s = (Y.vc b s).map (zlv id):=zt0 id b s
theorem zcr:∀ (n:Nat) (m:Mode) (ks:List Fr) (o:Ov) (q:List AC) (r:AV × List AC),evT Y n m ks o q = some r → ∀ s:List AV,s.length = Y.X.fn.ntmps → AgO o s →
  (match m with | .run c => (Y.vc c (s,q)).bind (zdE Y ks) | .ret e => zdE Y ks (e,(s,q))) = some r
 | 0,_,_,_,_,_,h,_,_,_ => by cases h
 | n + 1,.run c,ks,o,q,r,h,s,hs,hA => by
  cases c <;> simp only [evT] at h <;> simp only
  case skip =>
   rw [zxc,Option.bind_some]
   exact zcr n _ _ _ _ _ h s hs hA
  case region id ops d =>
   rw [ztt]
   unfold zjz
   cases d
   ·simp only [cond_false] at h
    obtain ⟨s',st',tk',q',h1,h2,h3,h4⟩:=zk0 (s:={ σ:=s,pe:=[] }) h ⟨hA,rfl⟩ hs
    rw [zaB] at h4
    have h1:zcW (vop Y.X.L (V Y.X.P Y.X.L Y.X.F Y.X.E)) Y.X.L Y.T Y.tv ops.toList ops.toList ⟨{ σ:=s,pe:=[] },[0],q⟩ = some ⟨s',tk',q'⟩:=h1
    simp only [Bool.false_eq_true,if_false]
    rw [h1]
    simp only [Option.bind_some,h4.1,if_true,Option.map_some]
    exact zcr n _ _ _ _ _ h4.2 s'.σ (by rw [h3]; exact hs) h2.1
   ·simp only [cond_true] at h
    have hlm:(zhm s).length = Y.X.fn.ntmps:=by simp [zhm,hs]
    obtain ⟨s',st',tk',q',h1,h2,h3,h4⟩:=zk0 (s:={ σ:=zhm s,pe:=[] }) h ⟨zsR hA,rfl⟩ hlm
    rw [zaB] at h4
    have h1:zcW (zaJ Y.X.L (V Y.X.P Y.X.L Y.X.F Y.X.E)) Y.X.L Y.T Y.tv ops.toList ops.toList ⟨{ σ:=zhm s,pe:=[] },[0],q⟩ = some ⟨s',tk',q'⟩:=h1
    simp only [if_true]
    rw [h1]
    simp only [Option.bind_some,h4.1,if_true,Option.map_some]
    exact zcr n _ _ _ _ _ h4.2 s'.σ (by rw [h3]; exact hlm) h2.1
  case seq a b =>
   rw [zyT]
   have:=zcr n _ _ _ _ _ h s hs hA
   simp only at this
   rw [← this,Option.bind_assoc]
   congr 1
   funext x
   obtain ⟨e,s'⟩:=x
   cases e <;> simp [zg7,zdE,CtxT.vc]
  case cond x a b =>
   simp only [Option.bind_eq_some_iff] at h
   obtain ⟨t,ht,h⟩:=h
   rw [zwh,zgP (s:={ σ:=s,pe:=[] }) ⟨hA,rfl⟩ ht,Option.bind_some]
   cases t
   ·simp only [cond_false] at h
    simp only [Bool.false_eq_true,if_false]
    exact zcr n _ _ _ _ _ h s hs hA
   ·simp only [cond_true] at h
    simp only [if_true]
    exact zcr n _ _ _ _ _ h s hs hA
  case block id b =>
   rw [zu7]
   have:=zcr n _ _ _ _ _ h s hs hA
   simp only at this
   rw [← this]
   rcases Y.vc b (s,q) with _ | x
   ·rfl
   ·simp [zdE]
  case loop b =>
   simp only [Option.bind_eq_some_iff] at h
   obtain ⟨id,_,l,_,o',ho',h⟩:=h
   exact zsh h hs (zgK hA ho')
  case exit id =>
   rw [zyC,Option.bind_some]
   exact zcr n _ _ _ _ _ h s hs hA
  case ret =>
   rw [zzL,Option.bind_some]
   exact zcr n _ _ _ _ _ h s hs hA
  all_goals cases h
 | n + 1,.ret e,ks,o,q,r,h,s,hs,hA => by
  simp only
  rcases ks with _ | ⟨f,ks⟩
  ·simp only [evT] at h
   simp only [zdE]
   have key:zuk Y o q = some r → e ≠ .norm ∧ (∀ i,e ≠ .exit i) ∨ e = .norm → zn1 Y.X.L Y.X.fn (e,(s,q)) = some r:=by
    intro h _
    simp only [zuk,Option.map_eq_some_iff] at h
    obtain ⟨vs,h1,h2⟩:=h
    cases e with
    | norm => simp only [zn1,zjp hA h1,Option.map_some]; exact congrArg some h2
    | exit i => simp_all
    | ret => simp only [zn1,zjp hA h1,Option.map_some]; exact congrArg some h2
   cases e with
   | norm => exact key h (.inr rfl)
   | exit i => cases h
   | ret => exact key h (.inl ⟨(by simp),fun i => by simp⟩)
  ·cases f with
   | seq c =>
    cases e with
    | norm =>
     simp only [evT] at h
     simp only [zdE]
     split at h
     ·exact zcr n _ _ _ _ _ h s hs hA
     ·simp only [Option.bind_eq_some_iff] at h
      obtain ⟨o',ho',h⟩:=h
      exact zsh h hs (zgK hA ho')
    | exit i => simp only [evT] at h; simp only [zdE]; exact zcr n _ _ _ _ _ h s hs hA
    | ret => simp only [evT] at h; simp only [zdE]; exact zcr n _ _ _ _ _ h s hs hA
   | blk id =>
    cases e with
    | norm => simp only [evT] at h; simp only [zdE,zlv]; exact zcr n _ _ _ _ _ h s hs hA
    | exit i =>
     simp only [evT] at h
     simp only [zdE,zlv]
     rcases hq:Nat.beq i id with _ | _
     ·rw [hq] at h
      simp only [cond_false] at h
      have:i ≠ id:=fun e => by rw [e] at hq; simp at hq
      rw [if_neg this]
      exact zcr n _ _ _ _ _ h s hs hA
     ·rw [hq] at h
      simp only [cond_true] at h
      rw [if_pos (Nat.eq_of_beq_eq_true hq)]
      exact zcr n _ _ _ _ _ h s hs hA
    | ret => simp only [evT] at h; simp only [zdE,zlv]; exact zcr n _ _ _ _ _ h s hs hA
   | loop b =>
    cases e with
    | norm =>
     simp only [evT,Option.bind_eq_some_iff] at h
     obtain ⟨id,_,l,_,o',ho',h⟩:=h
     simp only [zdE]
     exact zsh h hs (zgK hA ho')
    | exit i => simp only [evT] at h; simp only [zdE]; exact zcr n _ _ _ _ _ h s hs hA
    | ret => simp only [evT] at h; simp only [zdE]; exact zcr n _ _ _ _ _ h s hs hA
theorem zhW {id:Nat} {o:Ov} {q:List AC} {r:AV × List AC} {n:Nat} (hok:zr2 Y.X.fn.ntmps o = true) {b:Code} {ks:List Fr} (hl:(Y.X.fn.body.bind fun c => zas id c []) = some (.loop b,ks)) (h:evT Y n (.run b) (.loop b :: ks) o q = some r):GTL Y id o q = some r:=by
 unfold GTL
 rw [hl,Option.bind_some]
 refine zyJ (zoz hok) fun s hs hA => ?_
 have:=zcr n _ _ _ _ _ h s hs hA
 simp only at this
 rw [zwe,← this,Option.bind_assoc]
 congr 1
 funext x
 obtain ⟨e,s'⟩:=x
 cases e <;> simp [zg7,zdE,CtxT.vc]
theorem zn6 {id:Nat} {o:Ov} {q:List AC} {r:AV × List AC} {n:Nat} (hok:zr2 Y.X.fn.ntmps o = true) {c:Code} {ks:List Fr} (hl:(Y.X.fn.body.bind fun b => zd4 id b []) = some (c,ks)) (h:evT Y n (.run c) ks o q = some r):GTJ Y id o q = some r:=by
 unfold GTJ
 rw [hl,Option.bind_some]
 refine zyJ (zoz hok) fun s hs hA => ?_
 exact zcr n _ _ _ _ _ h s hs hA
theorem zfz {f:FuncId} {c:Code} {q:List AC} {x:List SV} {r:AV × List AC} {n:Nat} (hT:Y.T f = true) (hE:Y.E f = none) (hf:Y.X.P.funcs[f]? = some Y.X.fn) (hb:Y.X.fn.body = some c) (hx:x.length + 1 ≤ Y.X.fn.ntmps) (h:evT Y n (.run c) [] ((0,.und) :: zsg 1 x) q = some r):Y.tv f q x = some r:=by
 unfold CtxT.tv
 rw [zAt hT hE hf hb q x hx]
 have hag:AgO ((0,.und) :: zsg 1 x) (AV.und :: (x.map .v ++ List.replicate (Y.X.fn.ntmps - (x.length + 1)) .und)):=by
  intro i y hy
  rw [zcK] at hy
  split at hy
  ·rename_i e
   subst e
   cases hy
   rfl
  ·have:=zql [AV.und] (List.replicate (Y.X.fn.ntmps - (x.length + 1)) .und) x
   exact this i y hy
 have:=zcr n _ _ _ _ _ h (.und :: (x.map .v ++ List.replicate (Y.X.fn.ntmps - (x.length + 1)) .und)) (by simp; omega) hag
 simp only at this
 rw [← this]
 congr 1
end
end Go.Proofs.Ytbodfaghedolbaa
namespace Go.Proofs.Ytbodfaghedolbaa
open Go Go.RowKit Go.BigFrame
def zhu (ns:List Nat) (p:Nat) (m:Int):Int :=
 if m < 1 ∨ ns.length = 0 then 0
 else if p < ns.length then ((ns.getD p 0:Nat):Int) % m
 else bits .xor .i64 (((ns.getD (p % ns.length) 0:Nat):Int) * 131 + ((ns.getD ((p * 7 + 3) % ns.length) 0:Nat):Int) * 1117 + (p:Int) * 29 + ((p / ns.length:Nat):Int) * 53) ((((ns.getD (p % ns.length) 0:Nat):Int) * 131 + ((ns.getD ((p * 7 + 3) % ns.length) 0:Nat):Int) * 1117 + (p:Int) * 29 + ((p / ns.length:Nat):Int) * 53) / 64) % m
structure RdN (w:World) (g p:Nat) (ns:List Nat) (T:TypeId) (A:Option Addr) (c:Nat):Prop where
 made:∃ n,n ≤ 2000 ∧ n ≤ c ∧ w.heap[g]? = some (.cells #[.slice A n c,.int .i64 p] T (0,0)) ∧ ns.length = n ∧ (0 < n → ∃ b o,A = some ⟨b,o,none⟩ ∧ b ≠ g ∧ ∀ (i u:Nat),ns[i]? = some u → u ≤ 255 ∧ w.cell? ⟨b,o + i,none⟩ = some (.int .u8 (u:Int)))
theorem RdN.keep {w w':World} {g p:Nat} {ns:List Nat} {T:TypeId} {A:Option Addr} {c:Nat} (h:RdN w g p ns T A c) (s:∀ k:Nat,w'.heap[k]? = w.heap[k]?):RdN w' g p ns T A c:=by
 obtain ⟨n,h1,h2,hh,hl,hb⟩:=h.made
 refine ⟨n,h1,h2,(s g).trans hh,hl,fun hn => ?_⟩
 obtain ⟨b,o,e,hl,hc⟩:=hb hn
 refine ⟨b,o,e,hl,fun i u hi => ?_⟩
 obtain ⟨hu,hx⟩:=hc i u hi
 exact ⟨hu,(World.cell?_of_block (w:=w) (s b)).trans hx⟩
theorem RdN.step {w:World} {g p:Nat} {ns:List Nat} {T:TypeId} {A:Option Addr} {c:Nat} (h:RdN w g p ns T A c) (q:Nat):RdN (w.setCell ⟨g,1,none⟩ (.int .i64 q)) g q ns T A c:=by
 obtain ⟨n,h1,h2,hh,hl,hb⟩:=h.made
 refine ⟨n,h1,h2,?_,hl,fun hn => ?_⟩
 ·simp [World.setCell,Array.getElem?_modify,hh]
 ·obtain ⟨b,o,e,hl,hc⟩:=hb hn
  refine ⟨b,o,e,hl,fun i u hi => ?_⟩
  obtain ⟨hu,hx⟩:=hc i u hi
  exact ⟨hu,(World.cell?_setCell_other w _ _ _ (by intro e; injection e; omega)).trans hx⟩
theorem zgt {w:World} {g i:Nat} (u:Value):w.grownBy (w.setCell ⟨g,i,none⟩ u) (some g) :=
 ⟨rfl,rfl,rfl,by simp,fun k _ hk => Below.heap_setCell w _ _ _ (fun e => hk (by simp [e]))⟩
theorem zsw {a w:World} {row:Option Nat} (h:a.grownBy w row) (n:Nat):a.grownBy (w.drewN n) row:=⟨h.os,h.tape,h.output,h.size,h.block⟩
theorem zo6 (a:Nat) (ha:a < 9223372036854775808):(BitVec.ofInt 64 (a:Int)).toNat = a:=by
 rw [BitVec.ofInt_natCast,BitVec.toNat_ofNat]; exact Nat.mod_eq_of_lt (by omega)
theorem zwm (a b:Nat) (ha:a < 9223372036854775808) (hb:b < 9223372036854775808):∃ k:Nat,k < 9223372036854775808 ∧ bits .xor .i64 (a:Int) (b:Int) = (k:Int):=by
 have hx:a ^^^ b < 2 ^ 63:=Nat.xor_lt_two_pow (by omega) (by omega)
 refine ⟨a ^^^ b,by omega,?_⟩
 show IntKind.i64.wrap ((BitVec.ofInt 64 (a:Int) ^^^ BitVec.ofInt 64 (b:Int)).toNat:Int) = _
 rw [BitVec.toNat_xor,zo6 a ha,zo6 b hb,IntKind.wrap_i64]
 omega
set_option maxHeartbeats 400000 in
theorem zw6 (m:Int) (g p:Nat) (ns:List Nat) (T:TypeId) (A:Option Addr) (c:Nat) (w:World) (hr:RdN w g p ns T A c) (hp:p ≤ 1000000) :
  Calls Try.prog 55 #[.pointer (some ⟨g,0,none⟩),.int .i64 m] w fun e w' => e = .returned (.int .i64 (zhu ns p m)) ∧ RdN w' g (p + 1) ns T A c ∧ w.grownBy w' (some g):=by
 have hr':=hr.step (p + 1)
 rw [show ((p + 1:Nat):Int) = (p:Int) + 1 by omega] at hr'
 obtain ⟨n,hn,hnc,hh,hln,hb⟩:=hr.made
 have c0:w.cell? ⟨g,0,none⟩ = some (.slice A n c):=by simp [World.cell?,hh]
 have c1:w.cell? ⟨g,1,none⟩ = some (.int .i64 p):=by simp [World.cell?,hh]
 have f1:w.frozen? ⟨g,1,none⟩ = false:=by simp [World.frozen?,hh]
 have hg:(⟨g,0,none⟩:Addr) ≠ ⟨g,1,none⟩:=by simp
 have Hr:=Lib.hid hr'
 clear hr hr' hh
 by_cases hm:m < 1
 ·go_enter Try.func55,Try.ntmps55
  go_wp2_with fail
  go_ret
  have hv:zhu ns p m = 0:=by unfold zhu; rw [if_pos (.inl hm)]
  exact ⟨(by first | rfl | exact congrArg (fun x => Ending.returned (Value.int .i64 x)) hv.symm),Hr.out,zgt _⟩
 ·by_cases hz:n = 0
  ·have hzb:((n:Int) == 0) = true:=by simp [hz]
   have hv:zhu ns p m = 0:=by unfold zhu; rw [if_pos (.inr (by omega))]
   clear hz hb hln
   go_enter Try.func55,Try.ntmps55
   go_wp2_with fail
   go_ret
   exact ⟨(by first | rfl | exact congrArg (fun x => Ending.returned (Value.int .i64 x)) hv.symm),Hr.out,zgt _⟩
  ·have hzb:((n:Int) == 0) = false:=by simp [hz]
   obtain ⟨b,o,rfl,hl,hc⟩:=hb (by omega)
   have hc:∀ i,i < n → ∃ u:Nat,ns.getD i 0 = u ∧ u ≤ 255 ∧ w.cell? ⟨b,o + i,none⟩ = some (.int .u8 (u:Int)):=fun i hi => by
    have hlt:i < ns.length:=hln ▸ hi
    obtain ⟨h1,h2⟩:=hc i (ns.getD i 0) (by rw [List.getD_eq_getElem?_getD,List.getElem?_eq_getElem hlt]; rfl)
    exact ⟨_,rfl,h1,h2⟩
   have hzn:¬ (m < 1 ∨ ns.length = 0):=fun h => h.elim hm (fun h => hz (hln.symm.trans h))
   by_cases hk:p < n
   ·obtain ⟨u,hun,hu,hx⟩:=hc p hk
    have hv:zhu ns p m = (u:Int) % m:=by unfold zhu; rw [if_neg hzn,if_pos (by omega),hun]
    have hne:(⟨b,o + p,none⟩:Addr) ≠ ⟨g,1,none⟩:=by intro e; injection e; omega
    have hne':(⟨g,1,none⟩:Addr) ≠ ⟨b,o + p,none⟩:=fun e => hne e.symm
    clear hc hz hln hzn hun
    go_enter Try.func55,Try.ntmps55
    go_wp2_with fail
    go_ret
    exact ⟨(by first | rfl | exact congrArg (fun x => Ending.returned (Value.int .i64 x)) hv.symm),Hr.out,zgt _⟩
   ·obtain ⟨i1,hi1⟩:∃ i:Nat,p % n = i:=⟨_,rfl⟩
    obtain ⟨i2,hi2⟩:∃ i:Nat,(p * 7 + 3) % n = i:=⟨_,rfl⟩
    have hi1n:i1 < n:=by rw [← hi1]; exact Nat.mod_lt _ (by omega)
    have hi2n:i2 < n:=by rw [← hi2]; exact Nat.mod_lt _ (by omega)
    obtain ⟨q,hq⟩:∃ q:Nat,p / n = q:=⟨_,rfl⟩
    have hd:q ≤ 1000000:=by rw [← hq]; exact Nat.le_trans (Nat.div_le_self _ _) hp
    obtain ⟨u1,hun1,hu1,hx1⟩:=hc i1 hi1n
    obtain ⟨u2,hun2,hu2,hx2⟩:=hc i2 hi2n
    have hv:zhu ns p m = bits .xor .i64 ((u1:Int) * 131 + (u2:Int) * 1117 + (p:Int) * 29 + (q:Int) * 53) (((u1:Int) * 131 + (u2:Int) * 1117 + (p:Int) * 29 + (q:Int) * 53) / 64) % m:=by
     unfold zhu
     rw [if_neg hzn,if_neg (by omega),hln,hi1,hi2,hq,hun1,hun2]
    have hne1:(⟨b,o + i1,none⟩:Addr) ≠ ⟨g,1,none⟩:=by intro e; injection e; omega
    have hne1':(⟨g,1,none⟩:Addr) ≠ ⟨b,o + i1,none⟩:=fun e => hne1 e.symm
    have hne2:(⟨b,o + i2,none⟩:Addr) ≠ ⟨g,1,none⟩:=by intro e; injection e; omega
    have hne2':(⟨g,1,none⟩:Addr) ≠ ⟨b,o + i2,none⟩:=fun e => hne2 e.symm
    have t1:((p:Int).tmod (n:Int)) = (i1:Int):=by rw [← hi1]; rfl
    have t2:(((p:Int) * 7 + 3).tmod (n:Int)) = (i2:Int):=by rw [← hi2]; rfl
    have t6:(p:Int) / (n:Int) = (q:Int):=by rw [← hq]; rfl
    have t4:(p:Int) % (n:Int) = (i1:Int):=by rw [← hi1]; rfl
    have t5:((p:Int) * 7 + 3) % (n:Int) = (i2:Int):=by rw [← hi2]; rfl
    clear hc hz hi1 hi2 hq hln hzn hun1 hun2
    go_enter Try.func55,Try.ntmps55
    go_wp2_with fail
    go_quiet (fail)
    clear t1 t2 t4 t5 t6
    obtain ⟨x0,hx0⟩:∃ x0:Nat,(u1:Int) * 131 + (u2:Int) * 1117 + (p:Int) * 29 + (q:Int) * 53 = x0:=⟨u1 * 131 + u2 * 1117 + p * 29 + q * 53,by omega⟩
    have hxl:x0 ≤ 1000000000:=by omega
    rw [hx0] at hv
    rw [hx0]
    clear hx0
    obtain ⟨y,hy,hy2⟩:=zwm x0 (x0 / 64) (by omega) (by omega)
    rw [show ((x0 / 64:Nat):Int) = (x0:Int) / 64 from rfl] at hy2
    go_wp2_with fail
    go_ret
    exact ⟨(by first | exact congrArg (fun x => Ending.returned (Value.int .i64 x)) (hv.trans (congrArg (· % m) hy2)).symm | exact congrArg (fun x => Ending.returned (Value.int .i64 (x % m))) hy2.symm | rfl),Hr.out.keep (fun _ => rfl),zsw (zgt _) _⟩
def ziy:List (List AC) → Option (List Nat)
 | [] => some []
 | [.bool true,.int u] :: rs => if 0 ≤ u then (ziy rs).map (u.toNat :: ·) else none
 | _ => none
theorem zjs:∀ ns:List Nat,ziy (ns.map fun (u:Nat) => [.bool true,.int (u:Int)]) = some ns
 | [] => rfl
 | u :: ns => by simp [ziy,zjs ns]
def zkI:List AC → List SV → Option (AV × List AC)
 | [.sl 1 rows,.int p],[.cell (.int m)] => (ziy rows).bind fun ns => if 0 ≤ p ∧ p ≤ 1000000 ∧ ns.length ≤ 2000 then some (.v (.cell (.int (zhu ns p.toNat m))),[.sl 1 rows,.int (p + 1)]) else none
 | _,_ => none
def zsX:zxY:={ run:=fun _ => zkI,mono:=fun _ _ _ _ _ _ h => h,cont:=fun _ _ _ _ _ _ _ h => ⟨0,h⟩ }
theorem ztZ {p:Stb} {w:World} {b:Nat} (hpb:p b = 0) {v:Value} {rows:List (List AC)} {ns:List Nat} (hr:RepQ p w v (.sl 1 rows)) (hb:ziy rows = some ns) :
  ∃ A c,v = .slice A ns.length c ∧ ns.length ≤ c ∧ (0 < ns.length → ∃ d o,A = some ⟨d,o,none⟩ ∧ d ≠ b ∧ ∀ (i u:Nat),ns[i]? = some u → u ≤ 255 ∧ w.cell? ⟨d,o + i,none⟩ = some (.int .u8 (u:Int))):=by
 rcases hr with hr | ⟨A,n,cap,e,hc,ms,hl,hq,hx⟩
 ·have hnil:rows = [] → ns = []:=fun h => by
   rw [h] at hb
   simp only [ziy,Option.some.injEq] at hb
   exact hb.symm
  cases hr with
  | nil a k =>
   have:=hnil rfl
   subst this
   exact ⟨a,0,rfl,Nat.le_refl _,fun h => absurd h (Nat.lt_irrefl 0)⟩
  | sl d o cap k rows f hk hrows hd hp hok hcap hcc hrr =>
   cases rows with
   | nil =>
    have:=hnil rfl
    subst this
    exact ⟨some ⟨d,o,none⟩,cap,rfl,Nat.zero_le _,fun h => absurd h (Nat.lt_irrefl 0)⟩
   | cons x xs =>
    have h1:=hrows x List.mem_cons_self
    unfold ziy at hb
    split at hb
    ·rename_i heq; cases heq
    ·rename_i heq; cases heq; simp at h1
    ·cases hb
 ·injection hq with _ hq
  rw [hq,zjs] at hb
  cases hb
  rw [hl,e]
  refine ⟨A,cap,rfl,hc,fun hn => ?_⟩
  obtain ⟨d,o,hA,hd,hp,_,hcell⟩:=hx hn
  exact ⟨d,o,hA,fun e => by subst e; omega,hcell⟩
theorem zx3 {S:Sig} (hgv:(S.sg 55).gives = []):zoi Try.prog S 55 zkI:=by
 intro q args r h
 unfold zkI at h
 split at h
 case h_2 => cases h
 rename_i rows pos m
 simp only [Option.bind_eq_some_iff] at h
 obtain ⟨ns,hns,h⟩:=h
 split at h
 case isFalse => cases h
 rename_i hc
 cases h
 refine ⟨⟨rfl,_,Try.func55,by kernel_rfl,by kernel_rfl⟩,fun p w b vals hreps hz hTK => ?_⟩
 have hv:vals = [.int .i64 m]:=by
  match vals,hreps with
  | [v],hh =>
   obtain ⟨h1,_⟩:=hh
   have h1:Rep p w v (.int m):=h1
   cases h1
   rfl
  | [],hh => exact hh.elim
  | _ :: _ :: _,hh => exact hh.2.elim
 subst hv
 obtain ⟨pn,rfl⟩:∃ pn:Nat,pos = pn:=⟨pos.toNat,by omega⟩
 obtain ⟨arr,T,hh,hq⟩:=hTK.cells
 have harr:∃ v0,arr = #[v0,.int .i64 pn] ∧ RepQ p w v0 (.sl 1 rows):=by
  obtain ⟨l⟩:=arr
  match l,hq with
  | [v0,v1],hh =>
   obtain ⟨h0,h1,_⟩:=hh
   rcases h1 with h1 | ⟨_,_,_,_,_,_,_,hc,_⟩
   ·cases h1
    exact ⟨v0,rfl,h0⟩
   ·cases hc
  | [],hh => exact hh.elim
  | [_],hh => exact hh.2.elim
  | _ :: _ :: _ :: _,hh => exact hh.2.2.elim
 obtain ⟨v0,rfl,h0⟩:=harr
 obtain ⟨A,c,rfl,hlc,hby⟩:=ztZ hTK.pz h0 hns
 have hrd:RdN w b pn ns T A c:=⟨ns.length,hc.2.2,hlc,hh,rfl,hby⟩
 refine (zw6 m b pn ns T A c w hrd (by omega)).mono ?_
 rintro e w' ⟨rfl,hrd',hg⟩
 obtain ⟨n',_,_,hh',hln',_⟩:=hrd'.made
 have hev:Evo (· = b) p w (okP p w 0) w':=⟨hg.os,hg.tape,hg.output,hg.size,fun c hc hne => hg.block c hc (by simpa using hne),fun _ _ => Nat.le_refl _,fun _ _ _ => rfl,fun c o hc ho => by
  have hne:c ≠ b:=fun e => by subst e; rw [hTK.pz] at ho; omega
  exact World.cell?_of_block (w:=w) (hg.block c hc (by simpa using hne)),fun c hc => zss hc,fun _ h1 _ _ _ hi hj => zvf h1 hi hj⟩
 have hcell0:RepQ (okP p w 0) w' (.slice A ns.length c) (.sl 1 rows):=h0.evo hev
 have hn:n' = ns.length:=hln'.symm
 subst hn
 refine ⟨.int .i64 (zhu ns pn m),rfl,okP p w 0,?_,?_,?_,hev,⟨fun c hc => hz.1 c (Nat.le_trans hg.size hc),fun c hc => hz.2 c (Nat.le_trans hg.size hc)⟩,?_,?_,?_⟩
 ·exact Rep.int _
 ·intro cs h; cases h
 ·intro h; cases h
 ·refine ⟨fun h => h,Nat.lt_of_lt_of_le hTK.lt hg.size,hTK.pz,_,_,hh',hcell0,.inl ?_,trivial⟩
  exact Rep.int _
 ·rw [hgv]; intro e he; cases he
 ·rw [hgv]; intro e e' u u' c he; cases he
end Go.Proofs.Ytbodfaghedolbaa
namespace Go.Proofs.Ytbodfaghedolbaa
open Go
def tt (f:Nat):Bool:=[55,22,30,31,56,61,62,64,89,90,91,92,93,103,104,105,107,108,109,111,112,115].any fun e => Nat.beq e f
def zbw (f:Nat):Option zxY:=if Nat.beq f 55 then some zsX else none
theorem zvM:zav (zbp tt) lay sig Try.f22 (sig.sg 22) = true:=by kernel_rfl
theorem zvF:zav (zbp tt) lay sig Try.f30 (sig.sg 30) = true:=by kernel_rfl
theorem zuR:zav (zbp tt) lay sig Try.f31 (sig.sg 31) = true:=by kernel_rfl
theorem zvp:zav (zbp tt) lay sig Try.f56 (sig.sg 56) = true:=by kernel_rfl
theorem zuC:zav (zbp tt) lay sig Try.f61 (sig.sg 61) = true:=by kernel_rfl
theorem zvB:zav (zbp tt) lay sig Try.f62 (sig.sg 62) = true:=by kernel_rfl
theorem zui:zav (zbp tt) lay sig Try.f64 (sig.sg 64) = true:=by kernel_rfl
theorem zu0:zav (zbp tt) lay sig Try.f89 (sig.sg 89) = true:=by kernel_rfl
theorem zu2:zav (zbp tt) lay sig Try.f90 (sig.sg 90) = true:=by kernel_rfl
theorem zv7:zav (zbp tt) lay sig Try.f91 (sig.sg 91) = true:=by kernel_rfl
theorem zuH:zav (zbp tt) lay sig Try.f92 (sig.sg 92) = true:=by kernel_rfl
theorem zvS:zav (zbp tt) lay sig Try.f93 (sig.sg 93) = true:=by kernel_rfl
theorem ztc:zav (zbp tt) lay sig Try.f103 (sig.sg 103) = true:=by kernel_rfl
theorem ztv:zav (zbp tt) lay sig Try.f104 (sig.sg 104) = true:=by kernel_rfl
theorem ztA:zav (zbp tt) lay sig Try.f105 (sig.sg 105) = true:=by kernel_rfl
theorem ztQ:zav (zbp tt) lay sig Try.f107 (sig.sg 107) = true:=by kernel_rfl
theorem zto:zav (zbp tt) lay sig Try.f108 (sig.sg 108) = true:=by kernel_rfl
theorem ztj:zav (zbp tt) lay sig Try.f109 (sig.sg 109) = true:=by kernel_rfl
theorem ztV:zav (zbp tt) lay sig Try.f111 (sig.sg 111) = true:=by kernel_rfl
theorem ztP:zav (zbp tt) lay sig Try.f112 (sig.sg 112) = true:=by kernel_rfl
theorem ztO:zav (zbp tt) lay sig Try.f115 (sig.sg 115) = true:=by kernel_rfl
theorem znP {f:Nat} (h:tt f = true):f ∈ [55,22,30,31,56,61,62,64,89,90,91,92,93,103,104,105,107,108,109,111,112,115]:=by
 unfold tt at h
 simp only [List.any_eq_true] at h
 obtain ⟨e,he,hb⟩:=h
 rw [← Nat.eq_of_beq_eq_true hb]
 exact he
theorem zsp:zuL Try.prog lay sig tt zbw:=by
 refine ⟨fun f hf => ?_,fun f e hf he ct hct => ?_,fun f hf he => ?_⟩
 ·have hm:=znP hf
  simp only [List.mem_cons,List.not_mem_nil,or_false] at hm
  rcases hm with rfl | rfl | rfl | rfl | rfl | rfl | rfl | rfl | rfl | rfl | rfl | rfl | rfl | rfl | rfl | rfl | rfl | rfl | rfl | rfl | rfl | rfl
  ·exact (show (sig.sg 55).takes = [] by kernel_rfl)
  ·exact (show (sig.sg 22).takes = [] by kernel_rfl)
  ·exact (show (sig.sg 30).takes = [] by kernel_rfl)
  ·exact (show (sig.sg 31).takes = [] by kernel_rfl)
  ·exact (show (sig.sg 56).takes = [] by kernel_rfl)
  ·exact (show (sig.sg 61).takes = [] by kernel_rfl)
  ·exact (show (sig.sg 62).takes = [] by kernel_rfl)
  ·exact (show (sig.sg 64).takes = [] by kernel_rfl)
  ·exact (show (sig.sg 89).takes = [] by kernel_rfl)
  ·exact (show (sig.sg 90).takes = [] by kernel_rfl)
  ·exact (show (sig.sg 91).takes = [] by kernel_rfl)
  ·exact (show (sig.sg 92).takes = [] by kernel_rfl)
  ·exact (show (sig.sg 93).takes = [] by kernel_rfl)
  ·exact (show (sig.sg 103).takes = [] by kernel_rfl)
  ·exact (show (sig.sg 104).takes = [] by kernel_rfl)
  ·exact (show (sig.sg 105).takes = [] by kernel_rfl)
  ·exact (show (sig.sg 107).takes = [] by kernel_rfl)
  ·exact (show (sig.sg 108).takes = [] by kernel_rfl)
  ·exact (show (sig.sg 109).takes = [] by kernel_rfl)
  ·exact (show (sig.sg 111).takes = [] by kernel_rfl)
  ·exact (show (sig.sg 112).takes = [] by kernel_rfl)
  ·exact (show (sig.sg 115).takes = [] by kernel_rfl)
 ·have hm:=znP hf
  simp only [List.mem_cons,List.not_mem_nil,or_false] at hm
  rcases hm with rfl | rfl | rfl | rfl | rfl | rfl | rfl | rfl | rfl | rfl | rfl | rfl | rfl | rfl | rfl | rfl | rfl | rfl | rfl | rfl | rfl | rfl
  ·have h:zbw 55 = some zsX:=by kernel_rfl
   rw [h] at he
   cases he
   exact zx3 (by kernel_rfl)
  ·have h:zbw 22 = none:=by kernel_rfl
   rw [h] at he
   cases he
  ·have h:zbw 30 = none:=by kernel_rfl
   rw [h] at he
   cases he
  ·have h:zbw 31 = none:=by kernel_rfl
   rw [h] at he
   cases he
  ·have h:zbw 56 = none:=by kernel_rfl
   rw [h] at he
   cases he
  ·have h:zbw 61 = none:=by kernel_rfl
   rw [h] at he
   cases he
  ·have h:zbw 62 = none:=by kernel_rfl
   rw [h] at he
   cases he
  ·have h:zbw 64 = none:=by kernel_rfl
   rw [h] at he
   cases he
  ·have h:zbw 89 = none:=by kernel_rfl
   rw [h] at he
   cases he
  ·have h:zbw 90 = none:=by kernel_rfl
   rw [h] at he
   cases he
  ·have h:zbw 91 = none:=by kernel_rfl
   rw [h] at he
   cases he
  ·have h:zbw 92 = none:=by kernel_rfl
   rw [h] at he
   cases he
  ·have h:zbw 93 = none:=by kernel_rfl
   rw [h] at he
   cases he
  ·have h:zbw 103 = none:=by kernel_rfl
   rw [h] at he
   cases he
  ·have h:zbw 104 = none:=by kernel_rfl
   rw [h] at he
   cases he
  ·have h:zbw 105 = none:=by kernel_rfl
   rw [h] at he
   cases he
  ·have h:zbw 107 = none:=by kernel_rfl
   rw [h] at he
   cases he
  ·have h:zbw 108 = none:=by kernel_rfl
   rw [h] at he
   cases he
  ·have h:zbw 109 = none:=by kernel_rfl
   rw [h] at he
   cases he
  ·have h:zbw 111 = none:=by kernel_rfl
   rw [h] at he
   cases he
  ·have h:zbw 112 = none:=by kernel_rfl
   rw [h] at he
   cases he
  ·have h:zbw 115 = none:=by kernel_rfl
   rw [h] at he
   cases he
 ·have hm:=znP hf
  simp only [List.mem_cons,List.not_mem_nil,or_false] at hm
  rcases hm with rfl | rfl | rfl | rfl | rfl | rfl | rfl | rfl | rfl | rfl | rfl | rfl | rfl | rfl | rfl | rfl | rfl | rfl | rfl | rfl | rfl | rfl
  ·have h:zbw 55 = some zsX:=by kernel_rfl
   rw [h] at he
   cases he
  ·exact ⟨_,Try.func22,zvM⟩
  ·exact ⟨_,Try.func30,zvF⟩
  ·exact ⟨_,Try.func31,zuR⟩
  ·exact ⟨_,Try.func56,zvp⟩
  ·exact ⟨_,Try.func61,zuC⟩
  ·exact ⟨_,Try.func62,zvB⟩
  ·exact ⟨_,Try.func64,zui⟩
  ·exact ⟨_,Try.func89,zu0⟩
  ·exact ⟨_,Try.func90,zu2⟩
  ·exact ⟨_,Try.func91,zv7⟩
  ·exact ⟨_,Try.func92,zuH⟩
  ·exact ⟨_,Try.func93,zvS⟩
  ·exact ⟨_,Try.func103,ztc⟩
  ·exact ⟨_,Try.func104,ztv⟩
  ·exact ⟨_,Try.func105,ztA⟩
  ·exact ⟨_,Try.func107,ztQ⟩
  ·exact ⟨_,Try.func108,zto⟩
  ·exact ⟨_,Try.func109,ztj⟩
  ·exact ⟨_,Try.func111,ztV⟩
  ·exact ⟨_,Try.func112,ztP⟩
  ·exact ⟨_,Try.func115,ztO⟩
end Go.Proofs.Ytbodfaghedolbaa
