/- Generic texts and models for the proofs of this seat: part 18. -/
import Derived.Test.YtbodfaghedolbaaY17
set_option linter.unusedVariables false
set_option linter.unusedSimpArgs false
namespace Go.Proofs.Ytbodfaghedolbaa
open Go Go.RowKit
section
variable {P:Program} {L:Lay} {S:Sig} {T:Nat → Bool} {call:Orc} {ct:TOrc} {p p':Stb} {w w' w1:World} {a:Act} {s s':VS} {t t':TS} {o:Oper} {st st':Stt} {Own:Nat → Prop} {base b:Nat} {all:List Oper} {q:SPe}
theorem zti (hn:NoTwice s.pe) (h:zeh s) {x:AV} (hx:zbB x = false):zeh (s.put o.dst x):=by
 have hF:=(zaq (o:=o) hn x).1
 have key:∀ u,(s.put o.dst x).get u = s.get u ∨ (s.put o.dst x).get u = x ∨ (s.put o.dst x).get u = .und:=fun u => by
  by_cases hd:o.dst = some u
  ·rw [hd,zbW]
   split
   ·exact .inr (.inl rfl)
   ·exact .inr (.inr rfl)
  ·exact .inl (hF.get u hd)
 refine ⟨fun u d k n j hl => ?_,fun u k r hr => ?_,fun u d hr => ?_⟩
 ·by_cases hd:o.dst = some u
  ·rw [hd,zcn] at hl; cases hl
  ·exact h.1 u d k n j (hF.pe u _ hd hl).1
 ·rcases key u with e | e | e
  ·rw [e] at hr; exact h.2.1 u k r hr
  ·rw [e] at hr; rw [hr] at hx; cases hx
  ·rw [e] at hr; cases hr
 ·rcases key u with e | e | e
  ·rw [e] at hr; exact h.2.2 u d hr
  ·rw [e] at hr; rw [hr] at hx; cases hx
  ·rw [e] at hr; cases hr
theorem zks (hC:zcM P S T ct) (h:zcQ (zaJ L call) L T ct all o t = some t'):(zcZ L call all o t.s = some t'.s) ∨ (∃ x,t'.s = t.s.put o.dst x ∧ zbB x = false ∧ zi3 o = false):=by
 have hv:∀ t',zeJ (zaJ L call) L T ct o t = some t' → zaJ L call o t.s = some t'.s ∨ (∃ x,t'.s = t.s.put o.dst x ∧ zbB x = false ∧ zi3 o = false):=fun t' h => by
  unfold zeJ at h
  split at h
  ·rename_i hT
   simp only [Option.map_eq_some_iff] at h
   obtain ⟨r,hcall,rfl⟩:=h
   obtain ⟨f,xs,ts,x,xs',t0,ts',vs,i,hop,_,_,_,_,_,hct⟩:=zjb hcall
   obtain ⟨f',xs2,ts2,hop',hTf⟩:=zfq hT
   rw [hop] at hop'
   cases hop'
   have:=((hC f hTf).2 _ _ _ hct).1.1
   exact .inr ⟨r.1,rfl,by cases hr:r.1 <;> simp_all [zht,zbB],by simp [zi3,hop]⟩
  ·split at h
   ·rename_i hto
    split at h
    ·rename_i d hd
     cases h
     obtain ⟨j,hop,_⟩:=zfk hto
     exact .inr ⟨.und,by rw [hd],rfl,by rcases hop with hop | hop <;> simp [zi3,hop]⟩
    ·cases h
   ·simp only [Option.map_eq_some_iff] at h
    obtain ⟨s',h1,rfl⟩:=h
    exact .inl h1
 unfold zcQ at h
 unfold zcZ
 split at h
 ·rename_i hg
  rw [hg]
  exact hv t' h
 ·rename_i g hg
  rw [hg]
  simp only [Option.bind_eq_some_iff] at h ⊢
  obtain ⟨u,hu,h⟩:=h
  cases u with
  | true =>
   rcases hv t' h with h1 | h1
   ·exact .inl ⟨true,hu,h1⟩
   ·exact .inr h1
  | false =>
   simp only [Bool.false_eq_true,if_false,Option.some.injEq] at h
   subst h
   exact .inl ⟨false,hu,rfl⟩
theorem zww (hC:zcM P S T ct) (h:zcQ (zaJ L call) L T ct all o t = some t'):zxo L call all o t.s t'.s:=by
 rcases zks hC h with h1 | ⟨x,h1,_,h2⟩
 ·exact .inl h1
 ·exact .inr ⟨⟨x,h1⟩,h2⟩
theorem zt4 (hC:zcM P S T ct) (hval:∀ f args r,call f args = some r → zht r = true):∀ (os:List Oper) (base bm:Nat) (t tm:TS) (st stm:Stt),(∀ o ∈ os,zaA o = false) → zcW (zaJ L call) L T ct all os t = some tm → zcc L S base os st = some (bm,stm) → zcv st base → NoTwice t.s.pe → NoTwice st.spe → zbN st.spe t.s → zeh t.s →
  ∃ (tr:List Rec) (ts:Nat → TS),tr.map (·.o) = os ∧ (∀ r ∈ tr,zro L S call all r) ∧ (∀ r,tr[0]? = some r → r.s = t.s ∧ r.st = st ∧ r.base = base) ∧
   (∀ (j:Nat) (r r':Rec),tr[j]? = some r → tr[j + 1]? = some r' → r'.s = r.s' ∧ r'.st = r.st' ∧ r'.base = r.base + zf1 L S r.o) ∧
   (∀ r,tr.getLast? = some r → tm.s = r.s' ∧ stm = r.st') ∧ (tr = [] → tm.s = t.s ∧ stm = st) ∧ NoTwice tm.s.pe ∧ NoTwice stm.spe ∧ zbN stm.spe tm.s ∧ zcv stm bm ∧ zeh tm.s ∧
   ts 0 = t ∧ ts tr.length = tm ∧ ∀ (j:Nat) (r:Rec),tr[j]? = some r → r.s = (ts j).s ∧ r.s' = (ts (j + 1)).s ∧ zcQ (zaJ L call) L T ct all r.o (ts j) = some (ts (j + 1))
 | [],base,bm,t,tm,st,stm,_,hv,hst,hids,h1,h2,h3,h4 => by
  cases hv
  cases hst
  exact ⟨[],fun _ => t,rfl,fun r h => (by cases h),fun r h => (by cases h),fun j r r' h => (by simp at h),fun r h => (by cases h),fun _ => ⟨rfl,rfl⟩,h1,h2,h3,hids,h4,rfl,rfl,fun j r h => (by simp at h)⟩
 | o :: os,base,bm,t,tm,st,stm,hns,hv,hst,hids,h1,h2,h3,h4 => by
  simp only [zcW,Option.bind_eq_some_iff] at hv
  obtain ⟨t1,hv1,hv⟩:=hv
  simp only [zcc,Option.bind_eq_some_iff] at hst
  obtain ⟨st1,hst1,hst⟩:=hst
  have hso:=hns o List.mem_cons_self
  have hsv:=zlN (zbm hso hst1)
  have hids1:=zl1 hids hst1
  have hR:=zww hC hv1
  have hsp1:zbN (zbD L o st.spe) t1.s:=by
   rcases zks hC hv1 with h | ⟨x,h,_,hp⟩
   ·exact zqG h hso h3 h2 h1
   ·rw [h]
    exact zgm h3 h2 h1 x (fun a b c e => by simp [zi3,e] at hp) (fun a b c e => by simp [zi3,e] at hp)
  have hnr1:zeh t1.s:=by
   rcases zks hC hv1 with h | ⟨x,h,hx,_⟩
   ·exact zme h hso hval h1 h4
   ·rw [h]; exact zti h1 h4 hx
  obtain ⟨tr,ts,k1,k2,k3,k4,k5,k6,k7,k8,k9,k10,k11,k12,k13,k14⟩:=zt4 hC hval os _ bm t1 tm st1 stm (fun o ho => hns o (List.mem_cons_of_mem _ ho)) hv hst hids1 (zhq hR hso h1).2 (by rw [hsv.1]; exact zjJ L o h2) (by rw [hsv.1]; exact hsp1) hnr1
  refine ⟨⟨o,t.s,t1.s,base,st,st1⟩ :: tr,fun | 0 => t | n + 1 => ts n,by simp [k1],fun r hr => ?_,fun r hr => ?_,fun j r r' hr hr' => ?_,fun r hr => ?_,fun h => (by cases h),k7,k8,k9,k10,k11,rfl,by simpa using k13,fun j r hr => ?_⟩
  ·rcases List.mem_cons.1 hr with rfl | hr
   ·exact ⟨hR,hst1,hids,h1,h2,h3,h4⟩
   ·exact k2 r hr
  ·simp at hr
   subst hr
   exact ⟨rfl,rfl,rfl⟩
  ·match j with
   | 0 =>
    simp at hr hr'
    subst hr
    obtain ⟨e1,e2,e3⟩:=k3 r' hr'
    exact ⟨e1,e2,e3⟩
   | j + 1 => exact k4 j r r' (by simpa using hr) (by simpa using hr')
  ·cases htr:tr with
   | nil =>
    rw [htr] at hr
    simp at hr
    subst hr
    exact k6 htr
   | cons x l =>
    rw [htr] at hr
    rw [List.getLast?_cons_cons] at hr
    exact k5 r (by rw [htr]; exact hr)
  ·match j with
   | 0 =>
    simp at hr
    subst hr
    simp only [k12]
    exact ⟨trivial,trivial,hv1⟩
   | j + 1 => exact k14 j r (by simpa using hr)
variable {tr:List Rec} {s0 sm:VS} {t0 tm:Stt} {b0:Nat} {D:Nat → Prop}
theorem InvD.off {m:Array Value} (hI:InvD L S tr s0 sm t0 tm b0 D p w m Own) (he:Evo (· = b) p w p w1) (hs:w1.heap.size = w.heap.size) (hb:¬ Own b) (hnr:zeh sm):InvD L S tr s0 sm t0 tm b0 D p w1 m Own:=by
 obtain ⟨val,hpl,hal,hown,hap⟩:=hI.rooms
 have hbox:∀ d cs,Vis tr D d → sm.get d = .box cs → m.getD d undef ≠ .pointer (some ⟨b,0,none⟩):=fun d cs hv hd e => by
  obtain ⟨c,e1,_,h1,_⟩:=hI.box d cs hv hd
  rw [e] at e1
  cases e1
  exact hb h1
 have hzp:Zp p w1:=⟨fun c hc => hI.zp.1 c (by rw [← hs]; exact hc),fun c hc => hI.zp.2 c (by rw [← hs]; exact hc)⟩
 refine ⟨hI.size,fun t ht => ?_,hzp,fun c hc => hI.own c (by rw [← hs]; exact hc),fun d cs hv hd => ?_,hI.boxd,hI.ate,val,fun z id hm hv => ?_,fun id k hm => ?_,hown,hap⟩
 ·obtain ⟨g1,g2⟩:=hI.slots t ht
  refine ⟨zec he (fun cs hcs c hc e => by subst e; exact hbox t cs ht hcs hc) (fun k rows hk => absurd hk (hnr.2.1 t k rows)) g1,fun r hr => ?_⟩
  have:=g2 r hr
  cases r with
  | ref cs => exact PRef.evo he this
  | box d off => exact this
  | el d k n j => exact this
 ·obtain ⟨c,h1,h2,h3,h4⟩:=hI.box d cs hv hd
  exact ⟨c,h1,h2,h3,by rw [hs]; exact h4⟩
 ·obtain ⟨h1,h2,h3⟩:=hpl z id hm hv
  refine ⟨?_,h2,h3⟩
  have hsl:=(hI.slots z.1 hv).1
  cases hx:sm.get z.1 with
  | und => exact absurd hx h2
  | v x => rw [hx] at hsl; rw [zbh hsl] at h1 ⊢; exact h1
  | tup xs => rw [hx] at hsl; obtain ⟨arr,e,_⟩:=hsl; rw [e] at h1 ⊢; exact h1
  | al d => rw [hx] at hsl; obtain ⟨_,_,_,e⟩:=hsl; rw [e] at h1 ⊢; exact h1
  | arr k rows => exact absurd hx (hnr.2.1 z.1 k rows)
  | box cs =>
   obtain ⟨c,e,_,h3,hlt⟩:=hI.box z.1 cs hv hx
   rw [e] at h1 ⊢
   show w1.cell? ⟨c,z.2,none⟩ = _
   rw [World.cell?_of_block (w:=w) (he.block c hlt (fun e => hb (by rw [← e]; exact h3)))]
   exact h1
 ·exact (hal id k hm).evo he (fun c hc e => by subst e; exact hb (hown id k _ hm hc).1)
def zzy (o:Oper):Bool:=match o.op with
 | .call _ => true
 | _ => false
def zke:Nat → List Oper → Oper → Nat → Bool
 | 0,_,o,i => zcl o i
 | n + 1,ops,o,i => zcl o i || (List.range ops.length).any fun k => zcl o k && match ops[k]? with
  | some o' => zzy o' && zke n ops o' i
  | none => false
def zsq (T:Nat → Bool) (ops:List Oper):Bool:=ops.zipIdx.all fun e => !zfG T e.1 || (List.range e.2).all fun i => match ops[i]? with
 | some o => !zfG T o || zke 8 ops e.1 i
 | none => true
theorem ztw {ops:List Oper} (h:zsq T ops = true):∀ (i j:Nat) (o o':Oper),i < j → ops[i]? = some o → ops[j]? = some o' → zfG T o = true → zfG T o' = true → zke 8 ops o' i = true:=by
 intro i j o o' hij hi hj h1 h2
 unfold zsq at h
 have:=List.all_eq_true.1 h _ (zcP hj)
 simp only [h2,Bool.not_true,Bool.false_or,List.all_eq_true,List.mem_range] at this
 have:=this i hij
 rw [hi] at this
 simpa [h1] using this
theorem zpn {ops:List Oper} {D:Nat → Prop} (hcl:∀ (k:Nat) (o:Oper),ops[k]? = some o → D k → ∀ i,zcl o i = true → D i):∀ (n:Nat) (o:Oper) (i:Nat),zke n ops o i = true → (∀ k,zcl o k = true → D k) → D i
 | 0,o,i,h,hw => hw i h
 | n + 1,o,i,h,hw => by
  simp only [zke,Bool.or_eq_true,List.any_eq_true,Bool.and_eq_true] at h
  rcases h with h | ⟨k,_,h1,h2⟩
  ·exact hw i h
  ·split at h2
   ·rename_i o' ho
    rw [Bool.and_eq_true] at h2
    exact zpn hcl n o' i h2.2 (fun m hm => hcl k o' ho (hw k h1) m hm)
   ·cases h2
theorem zrf (h:zcQ (zaJ L call) L T ct all o t = some t'):(zfG T o = false → t'.q = t.q) ∧ (t'.tk = zfZ o.dst t.tk ∨ ∃ d,o.dst = some d ∧ zjY L t.tk o = true ∧ t'.tk = d :: t.tk ∧ zeJ (zaJ L call) L T ct o t = some t'):=by
 have hv:∀ t',zeJ (zaJ L call) L T ct o t = some t' → (zfG T o = false → t'.q = t.q) ∧ (t'.tk = zfZ o.dst t.tk ∨ ∃ d,o.dst = some d ∧ zjY L t.tk o = true ∧ t'.tk = d :: t.tk ∧ zeJ (zaJ L call) L T ct o t = some t'):=fun t' h => by
  have h0:=h
  unfold zeJ at h
  split at h
  ·rename_i hT
   simp only [Option.map_eq_some_iff] at h
   obtain ⟨r,_,rfl⟩:=h
   exact ⟨(fun e => by rw [e] at hT; cases hT),.inl rfl⟩
  ·split at h
   ·rename_i hto
    split at h
    ·rename_i d hd
     cases h
     exact ⟨fun _ => rfl,.inr ⟨d,hd,hto,rfl,h0⟩⟩
    ·cases h
   ·simp only [Option.map_eq_some_iff] at h
    obtain ⟨s',_,rfl⟩:=h
    exact ⟨fun _ => rfl,.inl rfl⟩
 unfold zcQ at h
 split at h
 ·exact hv t' h
 ·simp only [Option.bind_eq_some_iff] at h
  obtain ⟨u,hu,h⟩:=h
  cases u with
  | true => exact hv t' h
  | false =>
   simp only [Bool.false_eq_true,if_false,Option.some.injEq] at h
   subst h
   exact ⟨fun _ => rfl,.inl rfl⟩
theorem zlc {ts:Nat → TS} (hts:∀ (j:Nat) (r:Rec),tr[j]? = some r → zcQ (zaJ L call) L T ct all r.o (ts j) = some (ts (j + 1))) {x:Nat}:∀ (k i:Nat),i + k ≤ tr.length → (∀ (y:Nat) (r:Rec),i ≤ y → y < i + k → tr[y]? = some r → r.o.dst ≠ some x) → (x ∈ (ts (i + k)).tk ↔ x ∈ (ts i).tk)
 | 0,i,_,_ => Iff.rfl
 | k + 1,i,hle,hd => by
  have ih:=zlc hts (x:=x) k i (by omega) (fun y r h1 h2 hr => hd y r h1 (by omega) hr)
  obtain ⟨r,hr⟩:∃ r,tr[i + k]? = some r:=⟨tr[i + k]'(by omega),List.getElem?_eq_getElem _⟩
  rw [← ih,show i + (k + 1) = i + k + 1 by omega]
  have hne:=hd (i + k) r (by omega) (by omega) hr
  rcases (zrf (hts _ r hr)).2 with h | ⟨d,hd',_,h,_⟩
  ·rw [h]
   constructor
   ·intro hx; exact (ziH hx).1
   ·intro hx
    unfold zfZ
    split
    ·rename_i d hdd
     rw [List.mem_filter]
     refine ⟨hx,?_⟩
     simp only [Bool.not_eq_true']
     cases hb:Nat.beq x d with
     | false => rfl
     | true => exact absurd (by rw [hdd,Nat.eq_of_beq_eq_true hb]) hne
    ·exact hx
  ·rw [h,List.mem_cons]
   constructor
   ·rintro (rfl | hx)
    ·exact absurd hd' hne
    ·exact hx
   ·exact .inr
theorem zp9 {ts:Nat → TS} (hts:∀ (j:Nat) (r:Rec),tr[j]? = some r → zcQ (zaJ L call) L T ct all r.o (ts j) = some (ts (j + 1))):∀ (k i:Nat),i + k ≤ tr.length → (∀ (y:Nat) (r:Rec),i ≤ y → y < i + k → tr[y]? = some r → zfG T r.o = false) → (ts (i + k)).q = (ts i).q
 | 0,i,_,_ => rfl
 | k + 1,i,hle,hd => by
  have ih:=zp9 hts k i (by omega) (fun y r h1 h2 hr => hd y r h1 (by omega) hr)
  obtain ⟨r,hr⟩:∃ r,tr[i + k]? = some r:=⟨tr[i + k]'(by omega),List.getElem?_eq_getElem _⟩
  rw [← ih,show i + (k + 1) = i + k + 1 by omega]
  exact (zrf (hts _ r hr)).1 (hd (i + k) r (by omega) (by omega) hr)
end
end Go.Proofs.Ytbodfaghedolbaa
namespace Go.Proofs.Ytbodfaghedolbaa
open Go Go.RowKit
section
variable {P:Program} {L:Lay} {S:Sig} {T:Nat → Bool} {call:Orc} {ct:TOrc} {p p':Stb} {w w' w1:World} {a:Act} {s s':VS} {t t':TS} {o:Oper} {st st':Stt} {Own:Nat → Prop} {base b:Nat} {all:List Oper} {q:SPe}
variable {tr:List Rec} {s0 sm:VS} {t0 tm:Stt} {b0:Nat} {D:Nat → Prop}
def zvr (T:Nat → Bool) (tr:List Rec) (ts:Nat → TS) (b:Nat) (Own:Nat → Prop) (D:Nat → Prop) (p:Stb) (w:World) (m:Array Value):Prop :=
 (∀ x,Vis tr D x → x ∈ (ts tr.length).tk → m.getD x undef = za6 b) ∧ (∀ (i:Nat) (r:Rec),tr[i]? = some r → D i → ∀ k,zcl r.o k = true → D k) ∧ ∃ k,k ≤ tr.length ∧ (∀ (i:Nat) (r:Rec),tr[i]? = some r → zfG T r.o = true → (D i ↔ i < k)) ∧ TK p w Own b (ts k).q
theorem stepT (hL:LayOk P L) (hC:za0 P S call) (hT:zcM P S T ct) {oa:Array Oper} {ts:Nat → TS} (h:Tr L S call oa.toList tr s0 t0 b0 (ts tr.length).s tm) {ops:List Oper} (hops:tr.map (·.o) = ops) (hA:zmp ops) (hsub:∀ (i:Nat) (o:Oper),ops[i]? = some o → oa.toList[i]? = some o)
  (hla:∀ (i:Nat) (o:Oper) (t:Nat),ops[i]? = some o → t ∈ zbc oa.toList o → t ∈ zbc ops o) (hpe:s0.pe = []) (h0:zcv t0 b0) (hlen:t0.len = s0.σ.length) (hnr:zeh (ts tr.length).s) (hord:∀ (i j:Nat) (o o':Oper),i < j → ops[i]? = some o → ops[j]? = some o' → zfG T o = true → zfG T o' = true → zke 8 ops o' i = true)
  (hts:∀ (j:Nat) (r:Rec),tr[j]? = some r → r.s = (ts j).s ∧ r.s' = (ts (j + 1)).s ∧ zcQ (zaJ L call) L T ct oa.toList r.o (ts j) = some (ts (j + 1)))
  (hI:InvD L S tr s0 (ts tr.length).s t0 tm b0 D p w a.tmps Own) (hW:zvr T tr ts b Own D p w a.tmps) {j:Nat} {r:Rec} (hj:tr[j]? = some r) (hnot:¬ D j) (hwait:∀ i,zcl r.o i = true → D i)
  {Q:Exit → Act → World → Prop} {K:Act → World → Prop} (hK:∀ a' w' p',InvD L S tr s0 (ts tr.length).s t0 tm b0 (fun i => D i ∨ i = j) p' w' a'.tmps Own → Evo (fun c => Own c ∨ c = b) p w p' w' → a'.defers = a.defers → zvr T tr ts b Own (fun i => D i ∨ i = j) p' w' a'.tmps → K a' w'):wpOp P oa Q j K a w:=by
 obtain ⟨hW1,hcl,k,hk,hkD,hTK⟩:=hW
 obtain ⟨e1,e2,hv⟩:=hts j r hj
 have hts':∀ (j:Nat) (r:Rec),tr[j]? = some r → zcQ (zaJ L call) L T ct oa.toList r.o (ts j) = some (ts (j + 1)):=fun j r hr => (hts j r hr).2.2
 obtain ⟨hok,hst⟩:=h.ok j r hj
 have hjlt:j < tr.length:=(List.getElem?_eq_some_iff.1 hj).1
 have hoj:=zeY hops hj
 have hat:atR tr (ts tr.length).s tm j = (r.s,r.st):=by unfold atR; rw [hj]
 have hclo:∀ (k:Nat) (o:Oper),ops[k]? = some o → D k → ∀ i,zcl o i = true → D i:=fun k o hk hD i hi => by
  rw [← hops,List.getElem?_map] at hk
  simp only [Option.map_eq_some_iff] at hk
  obtain ⟨x,hx,rfl⟩:=hk
  exact hcl k x hx hD i hi
 have hdone:∀ i,zke 8 ops r.o i = true → D i:=fun i hi => zpn hclo 8 r.o i hi hwait
 have hlens:=h.len j (by omega)
 rw [hat] at hlens
 simp only at hlens
 have hlenm:=h.len tr.length (Nat.le_refl _)
 rw [zdo (Nat.le_refl _)] at hlenm
 have hsz:a.tmps.size = r.s.σ.length:=by rw [hI.size,hlenm.1,hlens.1]
 obtain ⟨E,hE,htk0,hdst,_,_,_⟩:=zc6 (zbm hst hok.step)
 have hdlt:∀ d,r.o.dst = some d → d < a.tmps.size:=fun d hd => by
  unfold zoB at hdst
  rw [hd] at hdst
  rw [hsz,hlens.1,← hlen,← hlens.2]
  simpa using hdst
 -- what the box holds ahead of it
 have hqj:zfG T r.o = true → k ≤ j ∧ (ts j).q = (ts k).q:=fun hc => by
  have hkj:k ≤ j:=by
   rcases Nat.lt_or_ge j k with hlt | hge
   ·exact absurd ((hkD j r hj hc).2 hlt) hnot
   ·exact hge
  refine ⟨hkj,?_⟩
  have:=zp9 hts' (j - k) k (by omega) (fun y ry h1 h2 hry => by
   cases hcy:zfG T ry.o with
   | false => rfl
   | true =>
    have h3:=hdone y (hord y j ry.o r.o (by omega) (zeY hops hry) hoj hcy hc)
    have:=(hkD y ry hry hcy).1 h3
    omega)
  rw [show k + (j - k) = j by omega] at this
  exact this
 obtain ⟨k',hk',hnew,hkq⟩:∃ k',k' ≤ tr.length ∧ (∀ (i:Nat) (x:Rec),tr[i]? = some x → zfG T x.o = true → ((D i ∨ i = j) ↔ i < k')) ∧ ((zfG T r.o = true ∧ k' = j + 1) ∨ (zfG T r.o = false ∧ k' = k)):=by
  cases hc:zfG T r.o with
  | true =>
   refine ⟨j + 1,by omega,fun i x hx hcx => ?_,.inl ⟨rfl,rfl⟩⟩
   constructor
   ·rintro (hD | rfl)
    ·have:=(hkD i x hx hcx).1 hD
     have:=(hqj hc).1
     omega
    ·omega
   ·intro hi
    rcases Nat.lt_or_ge i j with hlt | hge
    ·exact .inl (hdone i (hord i j x.o r.o hlt (zeY hops hx) hoj hcx hc))
    ·exact .inr (by omega)
  | false =>
   refine ⟨k,hk,fun i x hx hcx => ?_,.inr ⟨rfl,rfl⟩⟩
   have hne:i ≠ j:=fun e => by subst e; rw [hj] at hx; cases hx; rw [hc] at hcx; cases hcx
   rw [← hkD i x hx hcx]
   simp [hne]
 -- names that it looks at
 have htok:∀ i,Operand.tmp i ∈ r.o.op.operands.toList → i ∈ (ts j).tk → a.tmps.getD i undef = za6 b:=fun i hi him => by
  have hin:i ∈ zbc ops r.o:=by
   unfold zbc
   exact List.mem_append_left _ (List.mem_filterMap.2 ⟨_,hi,rfl⟩)
  have hlk:∀ (y:Nat) (x:Rec),tr[y]? = some x → x.o.dst = some i → D y ∧ y < j:=fun y x hx hd => by
   obtain ⟨g1,g2⟩:=hA.looks y j x.o r.o i (zeY hops hx) hoj hd hin
   exact ⟨hwait y g1,g2⟩
  refine hW1 i (fun y x hx hd => (hlk y x hx hd).1) ?_
  have:=zlc hts' (x:=i) (tr.length - j) j (by omega) (fun y x g1 _ hx hd => by have:=(hlk y x hx hd).2; omega)
  rw [show j + (tr.length - j) = tr.length by omega] at this
  exact this.2 him
 have hx:zh3 oa.toList r (zeJ (zaJ L call) L T ct r.o (ts j) = some (ts (j + 1))):=by
  unfold zh3
  unfold zcQ at hv
  split at hv
  ·rename_i hg
   rw [hg]
   exact hv
  ·rename_i g hg
   rw [hg]
   simp only [Option.bind_eq_some_iff] at hv
   obtain ⟨u,hu,hrun⟩:=hv
   refine ⟨u,by rw [e1]; exact hu,?_⟩
   cases u with
   | true => exact hrun
   | false =>
    simp only [Bool.false_eq_true,if_false,Option.some.injEq] at hrun ⊢
    rw [e2,e1,← hrun]
 refine zpj rfl h hops hA hpe h0 hlen hnr hI hj hnot hwait hsub hla hx (Own':=fun c => Own c ∨ c = b) (R:=fun v p' w' => TK p' w' Own b (ts k').q ∧ ∀ d,r.o.dst = some d → d ∈ (ts (j + 1)).tk → v = za6 b) (fun g hg hgf => ?_) (fun _ h => .inl h) (fun hs hsee htk => ?_) (fun hs hsee hsz hz hq g1 g2 htk hown => ?_) fun v w' p' g1 g2 ⟨g3,g4⟩ => ?_
 ·have hv2:=hv
  unfold zcQ at hv2
  rw [hg] at hv2
  simp only at hv2
  rw [← e1,hgf] at hv2
  simp only [Option.bind_some,Bool.false_eq_true,if_false,Option.some.injEq] at hv2
  refine ⟨?_,fun d hd hm => ?_⟩
  ·rcases hkq with ⟨hc,rfl⟩ | ⟨_,rfl⟩
   ·rw [← hv2]
    simp only
    rw [(hqj hc).2]
    exact hTK
   ·exact hTK
  ·rw [← hv2] at hm
   exact absurd hd (ziH hm).2
 ·have hv3:=hs
  unfold zeJ at hv3
  split at hv3
  ·rename_i hc
   obtain ⟨f,xs,tys,hop,hTf⟩:=zfq hc
   have:zbM L S r.o = []:=by simp [zbM,hop,(hT f hTf).1]
   rw [this]
   intro x hx; cases hx
  ·split at hv3
   ·rename_i hto
    obtain ⟨i,hop,_,_⟩:=zfk hto
    have:zbM L S r.o = []:=by rcases hop with hop | hop <;> simp [zbM,hop]
    rw [this]
    intro x hx; cases hx
   ·simp only [Option.map_eq_some_iff] at hv3
    obtain ⟨s1,h1,_⟩:=hv3
    rw [← e1] at h1
    exact znE (a:=a) h1 hsee htk
 ·have hv3:=hs
  unfold zeJ at hv3
  split at hv3
  ·rename_i hc
   simp only [Option.map_eq_some_iff] at hv3
   obtain ⟨rr,hcall,hr'⟩:=hv3
   obtain ⟨f,xs,tys,x,xs',ty0,tys',vs,i,hop,hxs,htys,hxi,him,hvs,hct⟩:=zjb hcall
   obtain ⟨f',xs2,ts2,hop',hTf⟩:=zfq hc
   rw [hop] at hop'
   cases hop'
   have hopnd:∀ y ∈ xs.toList,y ∈ r.o.op.operands.toList:=fun y hy => by
    simp only [hop,Op.operands,Call.operands]
    simp
    exact .inr (by simpa using hy)
   rw [← e1] at hvs
   have hreps:=zjt (p:=p) (w:=w) (a:=a) _ _ _ hvs (fun y hy => hsee y (hopnd y (by rw [hxs]; exact List.mem_cons_of_mem _ hy)))
   have hpx:a.eval x = za6 b:=by
    rw [hxi]
    exact htok i (hopnd _ (by rw [hxs,hxi]; exact List.mem_cons_self)) him
   have hTKj:TK p w Own b (ts j).q:=by rw [(hqj hc).2]; exact hTK
   refine (znu (L:=L) (q:=r.st.spe) (s:=r.s) hT hop hTf hxs hpx hreps hct hTKj hz hsz).mono ?_
   rintro v w' ⟨p',w1,hp,he1,hs1,hT'⟩
   have hs':r.s.put r.o.dst rr.1 = r.s':=by rw [e2,← hr',e1]
   rw [hs'] at hp
   refine ⟨p',w1,hp,hI.off he1 hs1 hTK.not hnr,he1.weaken (fun _ _ h => .inr h),?_,fun d hd hm => ?_⟩
   ·rcases hkq with ⟨_,rfl⟩ | ⟨hc',_⟩
    ·rw [← hr']; exact hT'
    ·rw [hc] at hc'; cases hc'
   ·rw [← hr'] at hm
    exact absurd hd (ziH hm).2
  ·rename_i hnc
   have hc:zfG T r.o = false:=by simpa using hnc
   have hkk:k' = k:=by
    rcases hkq with ⟨hc',_⟩ | ⟨_,e⟩
    ·rw [hc] at hc'; cases hc'
    ·exact e
   split at hv3
   ·rename_i hto
    split at hv3
    case h_2 => cases hv3
    rename_i d hd
    simp only [Option.some.injEq] at hv3
    obtain ⟨i,hop,him,hti⟩:=zfk hto
    have hpi:=htok i (by rcases hop with hop | hop <;> simp [hop,Op.operands]) him
    refine (zrb (S:=S) (q:=r.st.spe) (s:=r.s) hop hti hpi hz hsz hd).mono ?_
    rintro v w' ⟨hvb,rfl,hp⟩
    have hs':r.s.put (some d) .und = r.s':=by rw [e2,← hv3,e1]
    rw [hs'] at hp
    exact ⟨p,w',hp,hI,.refl _ _ _,by rw [hkk]; exact hTK,fun _ _ _ => hvb⟩
   ·simp only [Option.map_eq_some_iff] at hv3
    obtain ⟨s1,h1,hr'⟩:=hv3
    rw [← e1] at h1
    have hs':s1 = r.s':=by rw [e2,← hr']
    rw [hs'] at h1
    refine (zux hL hC h1 hst hsee hsz hz hq g1 g2 htk).mono ?_
    rintro v w' ⟨p',hp⟩
    refine ⟨p',w,hp,hI,.refl _ _ _,?_,fun d hd hm => ?_⟩
    ·rw [hkk]
     exact hTK.evo (hp.evo.weaken fun c _ hc => hown c hc)
    ·rw [← hr'] at hm
     exact absurd hd (ziH hm).2
 ·refine hK _ w' p' g1 g2 (by cases r.o.dst <;> rfl) ⟨fun x hvx hxm => ?_,fun i x hxx hD m hm => ?_,k',hk',hnew,g3⟩
  rotate_left
  ·rcases hD with hD | rfl
   ·exact .inl (hcl i x hxx hD m hm)
   ·rw [hj] at hxx; cases hxx; exact .inl (hwait m hm)
  by_cases hd:r.o.dst = some x
  ·have hin:x ∈ (ts (j + 1)).tk:=by
    have:=zlc hts' (x:=x) (tr.length - (j + 1)) (j + 1) (by omega) (fun y ry h1 _ hry hdy => by
     have:=hA.once y j ry.o r.o x (zeY hops hry) hoj hdy hd
     omega)
    rw [show j + 1 + (tr.length - (j + 1)) = tr.length by omega] at this
    exact this.1 hxm
   rw [hd,zeM (hdlt x hd)]
   exact g4 x hd hin
  ·rw [zaL hd]
   refine hW1 x (fun y ry hry hdy => ?_) hxm
   rcases hvx y ry hry hdy with hD | rfl
   ·exact hD
   ·rw [hj] at hry; cases hry; exact absurd hdy hd
theorem zkP {bop:Oper → VS → Option VS}:∀ (xs ys:List Oper) (t:TS),zcW bop L T ct all (xs ++ ys) t = (zcW bop L T ct all xs t).bind (zcW bop L T ct all ys)
 | [],ys,t => rfl
 | x :: xs,ys,t => by
  simp only [List.cons_append,zcW,Option.bind_assoc]
  congr 1
  funext t1
  exact zkP xs ys t1
def zbp (T:Nat → Bool):ziq:=fun L S ops st => if zsq T (zhT ops.toList) then znB L S ops st else none
theorem ztJ (hP:P.follows .mixedOrders = true) (hL:LayOk P L) (hC:za0 P S call) (hT:zcM P S T ct) (id:Nat) (oa:Array Oper) (σ:List AV) (q:List AC) (Q:Exit → Act → World → Prop) (hdr:zbp T L S oa st = some st') (hv:zcW (zaJ L call) L T ct oa.toList oa.toList ⟨{ σ:=σ,pe:=[] },[0],q⟩ = some t')
  (hna:∀ t k r,VS.get { σ:=σ,pe:=[] } t ≠ .arr k r) (hnl:∀ t d,VS.get { σ:=σ,pe:=[] } t = .al d → d = zbF) (hI:Inv st p w a.tmps { σ:=σ,pe:=[] } Own) (h00:a.tmps.getD 0 undef = za6 b) (hTK:TK p w Own b q)
  (hQ:∀ a' w' p',Inv st' p' w' a'.tmps { σ:=t'.s.σ,pe:=[] } Own → zk7 b a'.tmps t'.tk → TK p' w' Own b t'.q → Evo (fun c => Own c ∨ c = b) p w p' w' → a'.defers = a.defers → Q .normal a' w'):(Code.region id oa true).wp P Q a w:=by
 unfold zbp at hdr
 split at hdr
 case isFalse => cases hdr
 rename_i hto
 unfold znB at hdr
 split at hdr
 case isFalse => cases hdr
 rename_i hc
 simp only [Bool.and_eq_true,List.isEmpty_iff] at hc
 obtain ⟨⟨hspe,hnb⟩,hc⟩:=hc
 simp only [Option.map_eq_some_iff] at hdr
 obtain ⟨⟨bm,stz⟩,hsteps,rfl⟩:=hdr
 unfold zpK at hc
 simp only [Bool.and_eq_true] at hc
 obtain ⟨⟨⟨hany,hedge⟩,hguard⟩,htl⟩:=hc
 have hA:=zl7 hany
 have hedge':∀ (i:Nat) (o:Oper),oa[i]? = some o → ∀ e ∈ o.after,Region.binds .any e = true → e.on < i:=by
  intro i o ho e he hb
  have h1:=List.all_eq_true.1 hedge _ (zcP (l:=oa.toList) (i:=i) (x:=o) (by simpa using ho))
  have h2:=List.all_eq_true.1 h1 e (by simpa using he)
  simp only [hb,Bool.not_true,Bool.false_or,decide_eq_true_eq] at h2
  exact h2
 generalize hcore:zhT oa.toList = core at hany hguard htl hA hto
 have hns:∀ o ∈ core,zaA o = false:=fun o ho => by
  obtain ⟨i,hi,he⟩:=List.mem_iff_getElem.1 ho
  exact (hA.store i o (by rw [List.getElem?_eq_getElem hi,he])).1
 -- the last one
 have hsplit:core = oa.toList ∨ ∃ o,oa.toList = core ++ [o] ∧ ∀ i,i < core.length → zcl o i = true:=by
  unfold zhT at hcore
  split at hcore
  ·exact .inl hcore.symm
  ·rcases List.eq_nil_or_concat oa.toList with h | ⟨l,o,h⟩
   ·left; rw [← hcore,h]; rfl
   ·right
    have hl:core = l:=by rw [← hcore,h]; simp
    refine ⟨o,by rw [hl]; simpa using h,?_⟩
    rw [h] at htl
    simp only [Bool.or_eq_true,beq_iff_eq] at htl
    rcases htl with htl | htl
    ·rw [hl] at htl; simp at htl
    ·simp at htl
     intro i hi
     exact htl i hi
 have hsub:∀ (i:Nat) (o:Oper),core[i]? = some o → oa.toList[i]? = some o:=fun i o hi => by
  rcases hsplit with h | ⟨x,h,_⟩
  ·rw [← h]; exact hi
  ·rw [h,List.getElem?_append_left (List.getElem?_eq_some_iff.1 hi).1]; exact hi
 have hla:∀ (i:Nat) (o:Oper) (t:Nat),core[i]? = some o → t ∈ zbc oa.toList o → t ∈ zbc core o:=fun i o t hi ht => by
  unfold zbc at ht ⊢
  rcases List.mem_append.1 ht with ht | ht
  ·exact List.mem_append_left _ ht
  ·refine List.mem_append_right _ ?_
   cases hg:o.guard with
   | none => rw [hg] at ht; exact ht
   | some g =>
    rw [hg] at ht
    simp only at ht ⊢
    have h1:=List.all_eq_true.1 hguard o (List.mem_of_getElem? hi)
    rw [hg] at h1
    simp only [decide_eq_true_eq] at h1
    rw [hsub g.1 core[g.1] (List.getElem?_eq_getElem h1)] at ht
    rw [List.getElem?_eq_getElem h1]
    exact ht
 have hsz:oa.toList.length = oa.size:=by simp
 refine wp_region_any hP ?_
 have hI':=hI.drew
 have hcnt:(Array.replicate oa.size false).toList.count false = oa.size:=by simp
 have hord:=ztw hto
 obtain ⟨sc,stc,bc,hvc,hsc,htail⟩:∃ sc stc bc,zcW (zaJ L call) L T ct oa.toList core ⟨{ σ:=σ,pe:=[] },[0],q⟩ = some sc ∧ zcc L S (zg6 st) core st = some (bc,stc) ∧
   ((core.length = oa.size ∧ sc = t' ∧ stc = stz) ∨ (core.length + 1 = oa.size ∧ ∃ o,oa[core.length]? = some o ∧ (∀ i,i < core.length → zcl o i = true) ∧ zcQ (zaJ L call) L T ct oa.toList o sc = some t' ∧ zcO L S bc o stc = some stz)):=by
  rcases hsplit with h | ⟨o,h,hw⟩
  ·exact ⟨t',stz,bm,by rw [h]; exact hv,by rw [h]; exact hsteps,.inl ⟨by rw [h,hsz],rfl,rfl⟩⟩
  ·have hv':zcW (zaJ L call) L T ct oa.toList (core ++ [o]) ⟨{ σ:=σ,pe:=[] },[0],q⟩ = some t':=by rw [← h]; exact hv
   have hs':zcc L S (zg6 st) (core ++ [o]) st = some (bm,stz):=by rw [← h]; exact hsteps
   rw [zkP] at hv'
   rw [zgS] at hs'
   simp only [Option.bind_eq_some_iff] at hv' hs'
   obtain ⟨sc,hvc,hv'⟩:=hv'
   obtain ⟨⟨bc,stc⟩,hsc,hs'⟩:=hs'
   simp only [zcW,Option.bind_eq_some_iff] at hv'
   obtain ⟨s2,hv2,hv'⟩:=hv'
   cases hv'
   simp only [zcc,Option.bind_eq_some_iff] at hs'
   obtain ⟨st2,hs2,hs'⟩:=hs'
   cases hs'
   refine ⟨sc,stc,bc,hvc,hsc,.inr ⟨?_,o,?_,hw,hv2,hs2⟩⟩
   ·rw [← hsz,h]; simp
   ·have:oa.toList[core.length]? = some o:=by rw [h]; simp
    simpa using this
 have hval:∀ f args r,call f args = some r → zht r = true:=fun f args r h => (hC f args r h).1.1
 obtain ⟨tr,ts,k1,k2,k3,k4,k5,k6,k7,k8,k9,k10,k11,k12,k13,k14⟩:=zt4 hT hval core (zg6 st) bc ⟨{ σ:=σ,pe:=[] },[0],q⟩ sc st stc hns hvc hsc (zdr st) trivial hI.sonce hI.spe ⟨fun _ _ _ _ _ h => (by cases h),hna,hnl⟩
 rw [← k13] at k5 k6 k7 k9 k11 htail
 have hTr:Tr L S call oa.toList tr { σ:=σ,pe:=[] } st (zg6 st) (ts tr.length).s stc:=zvI k2 (fun r hr => hns r.o (by rw [← k1]; exact List.mem_map_of_mem hr)) k3 k4 k5 k6
 have hnone:∀ j,¬ ((Array.replicate oa.size false).getD j false = true):=fun j hj => by
  rw [Array.getD_eq_getD_getElem?,Array.getElem?_replicate] at hj
  split at hj <;> cases hj
 have hstart:=InvD.start (D:=fun i => (Array.replicate oa.size false).getD i false = true) hTr (zdr st) rfl hI' hnone
 have hts':∀ (j:Nat) (r:Rec),tr[j]? = some r → zcQ (zaJ L call) L T ct oa.toList r.o (ts j) = some (ts (j + 1)):=fun j r hr => (k14 j r hr).2.2
 have hlenr:∀ (j:Nat),j < tr.length → ∃ r,tr[j]? = some r:=fun j hj => ⟨tr[j],List.getElem?_eq_getElem hj⟩
 have hW0:zvr T tr ts b Own (fun i => (Array.replicate oa.size false).getD i false = true) p w.drew a.tmps:=by
  refine ⟨fun x hvx hxm => ?_,fun i r _ hD => absurd hD (hnone i),0,by omega,fun i r _ _ => ⟨fun hD => absurd hD (hnone i),fun h => by omega⟩,?_⟩
  ·have:=zlc hts' (x:=x) tr.length 0 (by omega) (fun y r _ _ hr hd => hnone y (hvx y r hr hd))
   rw [Nat.zero_add,k12] at this
   have:=this.1 hxm
   simp only [List.mem_singleton] at this
   rw [this]
   exact h00
  ·rw [k12]
   exact hTK.evo (ze5 Own)
 have hfin:∀ D p w m,(∀ (j:Nat) (r:Rec),tr[j]? = some r → D j) → zvr T tr ts b Own D p w m → zk7 b m (ts tr.length).tk ∧ TK p w Own b (ts tr.length).q:=by
  rintro D p w m hD ⟨g1,_,k,hk,hkD,hTK⟩
  refine ⟨fun x hx => g1 x (fun j r hr _ => hD j r hr) hx,?_⟩
  have:=zp9 hts' (tr.length - k) k (by omega) (fun y r h1 h2 hr => by
   cases hc:zfG T r.o with
   | false => rfl
   | true =>
    have:=(hkD y r hr hc).1 (hD y r hr)
    omega)
  rw [show k + (tr.length - k) = tr.length by omega] at this
  rw [this]
  exact hTK
 refine zta hTr k1 hsub (zdr st) hI.len k7 k8 k9 k11 (zij hnb hsc) hedge' (sz:=t'.s) (stz:=stz) (Own':=fun c => Own c ∨ c = b) (W:=zvr T tr ts b Own) (WZ:=fun p w m => zk7 b m t'.tk ∧ TK p w Own b t'.q)
  (fun D p w a j r hj hnot hwait hI hW Q K hK => stepT hL hC hT hTr k1 hA hsub hla rfl (zdr st) hI'.len k11 hord k14 hI hW hj hnot hwait hK) ?_ oa.size _ p _ a (by simp) hcnt (fun _ => by
  rw [Array.getD_eq_getD_getElem?,Array.getElem?_replicate]
  split <;> rfl) hstart hW0 fun a' w' p' g1 g2 g3 g4 => ?_
 ·rcases htail with ⟨hn,e1,e2⟩ | ⟨hn,o,ho,hw,hv2,hst2⟩
  ·exact .inl ⟨hn,by rw [e1],e2,fun D p w m hD hW => by rw [← e1]; exact hfin D p w m hD hW⟩
  ·refine .inr ⟨hn,o,ho,hw,fun D p w a hD hI hW Q K hK => ?_⟩
   obtain ⟨f1,f2⟩:=hfin D p w a.tmps hD hW
   exact ztN hL hC hT ho hI k10 f1 f2 hv2 hst2 fun a' w' p' g1 g2 g3 g4 g5 => hK a' w' p' g1 g4 g5 ⟨g2,g3⟩
 ·exact hQ a' w' p' g1.reset g4.1 g4.2 (((ze5 Own).weaken (fun _ _ h => .inl h)).trans g2 (fun _ _ h => h) (fun _ _ h => h)) g3
end
end Go.Proofs.Ytbodfaghedolbaa
