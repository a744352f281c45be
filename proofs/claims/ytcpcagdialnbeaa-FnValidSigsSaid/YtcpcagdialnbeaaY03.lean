/- Generic texts and models for the proofs of this seat: part 3. -/
import Derived.Test.YtcpcagdialnbeaaY02
set_option linter.unusedVariables false
set_option linter.unusedSimpArgs false
namespace Go.Proofs.Ytcpcagdialnbeaa
open Go
section
variable {X:Ctx}
def AgV (st:VK) (s:VS):Prop:=AgO st.o s.σ ∧ s.pe = st.pe
theorem zgG {a b:Nat}:(Nat.beq a b = true) = (a = b):=propext ⟨Nat.eq_of_beq_eq_true,fun h => by subst h; exact Nat.beq_refl a⟩
theorem zaw {α:Type} {b:Bool} {x:Option α} {r:α}:(bif b then x else none) = some r ↔ b = true ∧ x = some r:=by cases b <;> simp
theorem zcl (j:Nat) (x:AV) (r:Ov) (i:Nat):Ov.at ((j,x) :: r) i = if j = i then some x else Ov.at r i:=by
 simp only [Ov.at,Bool.cond_eq_ite,zgG]
theorem zkj {o:Ov} {s:List AV} (h:AgO o s) {d:Nat} {x:AV} (hd:d < s.length):AgO ((d,x) :: o) (s.set d x):=fun i y hy => by
 rw [zcl] at hy
 split at hy
 ·rename_i e
  subst e
  cases hy
  simp [List.getD,hd]
 ·rename_i e
  have:=h i y hy
  simp only [List.getD,List.getElem?_set_ne e] at this ⊢
  exact this
theorem ziY {st:VK} {s:VS} (h:AgV st s) {d:Option Nat} {x:AV} (hd:∀ e,d = some e → e < s.σ.length):AgV (st.put d x) (s.put d x):=by
 cases d with
 | none => exact h
 | some d => exact ⟨zkj h.1 (hd d rfl),by simp only [VS.put,VK.put,h.2]⟩
theorem ze0 (s:VS) (d:Option Nat) (x:AV):(s.put d x).σ.length = s.σ.length:=by cases d <;> simp [VS.put]
theorem zco {st:VK} {s:VS} (h:AgV st s) {i:Nat} {x:AV} (hx:st.o.at i = some x):s.get i = x:=h.1 i x hx
theorem zeP {L:Lay} {st:VK} {s:VS} (hA:AgV st s) {t:Nat} {x:Operand} {v:SV} (h:svK L st t x = some v):zfK L s t x = some v:=by
 unfold svK at h
 unfold zfK
 split at h
 ·split at h
  ·rename_i hx
   cases h
   simp only [zco hA hx]
  ·cases h
 ·exact h
 ·cases h
theorem zti {L:Lay} {st:VK} {s:VS} (hA:AgV st s) {t:Nat} {x:Operand} {v:AV} (h:mvK L st t x = some v):zjO L s t x = some v:=by
 cases x with
 | tmp i =>
  simp only [mvK] at h
  split at h
  ·rename_i y hx
   cases h
   simp only [zjO,zco hA hx]
  ·rename_i y hx
   cases h
   simp only [zjO,zco hA hx]
  ·cases h
 | _ =>
  simp only [mvK,Option.map_eq_some_iff] at h
  obtain ⟨y,hy,rfl⟩:=h
  simp only [zjO,zeP hA hy,Option.map_some]
theorem zcR {L:Lay} {st:VK} {s:VS} (hA:AgV st s) {x:Operand} {n:Int} (h:zjV L st x = some n):zeb L s x = some n:=by
 unfold zjV at h
 split at h
 ·rename_i hx
  cases h
  simp only [zeb,zeP hA hx]
 ·cases h
theorem zf9 {L:Lay} {st:VK} {s:VS} (hA:AgV st s) {x:Operand} {n:Bool} (h:zkO L st x = some n):zeC L s x = some n:=by
 unfold zkO at h
 split at h
 ·rename_i hx
  cases h
  simp only [zeC,zeP hA hx]
 ·cases h
theorem zoU {L:Lay} {s:VS} {x:Operand} {n:Int} (h:zeb L s x = some n):zeC L s x = none:=by
 unfold zeb at h
 unfold zeC
 split at h
 ·rename_i hx
  rw [hx]
 ·cases h
theorem ze8 {L:Lay} {st:VK} {s:VS} (hA:AgV st s) {t:Nat} {x:Operand} {kr:Nat × List (List AC)} (h:zjz L st t x = some kr):zf4 L s t x = some kr:=by
 unfold zjz at h
 split at h
 ·rename_i hx
  cases h
  simp only [zf4,zeP hA hx]
 ·cases h
theorem zfV {st:VK} {s:VS} (hA:AgV st s) {x:Operand} {p:Ptr} (h:znY st x = some p):zfv s x = some p:=by
 unfold znY at h
 unfold zfv
 split at h
 ·rename_i i
  simp only [hA.2]
  split at h
  ·rename_i q hq
   rw [hq]
   exact h
  ·rename_i hq
   rw [hq]
   simp only
   split at h
   ·rename_i cs hx
    rw [zco hA hx]
    exact h
   ·cases h
 ·cases h
theorem znO {L:Lay} {st:VK} {s:VS} (hA:AgV st s) {i:TI}:∀ {ps:List (Nat × Operand)} {cs cs':List AC},zoa L st i ps cs = some cs' → zgb L s i ps cs = some cs'
 | [],_,_,h => h
 | (f,x) :: rest,cs,cs',h => by
  unfold zoa at h
  unfold zgb
  split at h
  ·rename_i off sz v hf hv
   rw [hf,zeP hA hv]
   simp only [zaw,Bool.and_eq_true,zgG,Nat.ble_eq] at h
   simp only
   rw [if_pos h.1]
   exact znO hA h.2
  ·cases h
theorem znF {L:Lay} {st:VK} {s:VS} (hA:AgV st s) {k:Nat}:∀ {ps:List (Nat × Operand)} {j:Nat} {r:List (List AC)},zop L st k j ps = some r → zi8 L s k j ps = some r
 | [],_,_,h => h
 | (i,x) :: rest,j,r,h => by
  unfold zop at h
  unfold zi8
  split at h
  ·rename_i v hv
   rw [zeP hA hv]
   simp only [zaw,Bool.and_eq_true,zgG,Option.map_eq_some_iff] at h
   simp only
   rw [if_pos h.1]
   obtain ⟨_,r',h1,rfl⟩:=h
   rw [znF hA h1]
   rfl
  ·cases h
theorem zjW {L:Lay} {st:VK} {s:VS} (hA:AgV st s):∀ {xs:List Operand} {ts:List Nat} {r:List SV},zkV L st xs ts = some r → zd5 L s xs ts = some r
 | [],[],_,h => h
 | x :: xs,t :: ts,r,h => by
  unfold zkV at h
  unfold zd5
  simp only [Option.bind_eq_some_iff,zaw,Option.map_eq_some_iff] at h ⊢
  obtain ⟨v,h1,h2,vs,h3,rfl⟩:=h
  refine ⟨v,zeP hA h1,?_⟩
  rw [if_pos h2,zjW hA h3]
  rfl
 | [],_ :: _,_,h => by cases h
 | _ :: _,[],_,h => by cases h
theorem zeO {ρ:Type} {r:ρ}:∀ (sh cs:List AC) (K:List AC → Option ρ),zhd sh cs (zla sh K) = some r → K cs = some r
 | [],cs,K,h => by
  unfold zhd at h
  split at h
  ·exact h
  ·cases h
 | .int _ :: sh,cs,K,h => by
  unfold zhd at h
  split at h
  ·exact zeO sh _ (fun c => K (.int _ :: c)) h
  ·cases h
 | .bool _ :: sh,cs,K,h => by
  unfold zhd at h
  split at h
  ·exact zeO sh _ (fun c => K (.bool _ :: c)) h
  ·cases h
 | .sl k _ :: sh,cs,K,h => by
  unfold zhd at h
  split at h
  ·simp only [zaw,zgG] at h
   obtain ⟨rfl,h⟩:=h
   exact zeO sh _ (fun c => K (.sl _ _ :: c)) h
  ·cases h
theorem zhv:∀ {fs:List Form} {vs:List SV},zix fs vs = true → zeB fs (vs.flatMap SV.cells) = vs
 | [],[],_ => rfl
 | [],_ :: _,h => by cases h
 | _ :: _,[],h => by cases h
 | (true,sh) :: fs,.agg cs :: vs,h => by
  simp only [zix,zr8,Bool.and_eq_true,zgG] at h
  simp only [zeB,List.flatMap_cons,SV.cells,h.1.symm,List.take_left,List.drop_left,zhv h.2]
 | (false,sh) :: fs,.cell c :: vs,h => by
  simp only [zix,zr8,Bool.and_eq_true,zgG] at h
  simp only [zeB,List.flatMap_cons,SV.cells,h.1,List.headD,List.cons_append,List.nil_append,List.drop_succ_cons,List.drop_zero,zhv h.2]
 | (true,_) :: _,.cell _ :: _,h => by cases h
 | (false,_) :: _,.agg _ :: _,h => by cases h
theorem zmW {ρ:Type} {x:Option AV} {tup:Bool} {fs:List Form} {k:AV → Option ρ} {r:ρ} (h:za8 x tup fs (zla (zaQ fs) fun cs => k (znH tup (zeB fs cs))) = some r):∃ v,x = some v ∧ k v = some r:=by
 unfold za8 at h
 split at h
 ·rename_i v
  simp only [zaw,Bool.and_eq_true,Bool.not_eq_true'] at h
  obtain ⟨⟨rfl,h1⟩,h2⟩:=h
  refine ⟨_,rfl,?_⟩
  have h3:=zeO _ _ _ h2
  have h4:=zhv h1
  simp only [List.flatMap_cons,List.flatMap_nil,List.append_nil] at h4
  rw [h4] at h3
  exact h3
 ·rename_i vs
  simp only [zaw,Bool.and_eq_true] at h
  obtain ⟨⟨rfl,h1⟩,h2⟩:=h
  refine ⟨_,rfl,?_⟩
  have h3:=zeO _ _ _ h2
  rw [zhv h1] at h3
  exact h3
 ·cases h
theorem zwc {ρ:Type} {op:BinOp} {a b:Int} {K:AC → Option ρ} {r:ρ} (h:zwV op a b K = some r):∃ c,zqe op a b = some c ∧ K c = some r:=by
 unfold zwV at h
 split at h
 ·unfold zml at h
  rcases hb:(b == 0) with _ | _
  ·rw [hb] at h
   exact ⟨_,by unfold zqe; simp only; rw [if_neg (by simpa using hb)],h⟩
  ·rw [hb] at h; cases h
 ·unfold zya at h
  rcases hb:(b == 0) with _ | _
  ·rw [hb] at h
   exact ⟨_,by unfold zqe; simp only; rw [if_neg (by simpa using hb)],h⟩
  ·rw [hb] at h; cases h
 ·simp only [Option.bind_eq_some_iff] at h
  exact h
theorem zoF {o:Oper} {st:VK} {ρ:Type} {k:VK → Option ρ} {r:ρ} {s:VS} (h:ziJ X o st k = some r) (hA:AgV st s) (hn:s.σ.length = X.fn.ntmps) (hd:dOk X o = true) :
  ∃ s' st',zaz X.L (V X.P X.L X.F X.E) o s = some s' ∧ AgV st' s' ∧ s'.σ.length = s.σ.length ∧ k st' = some r:=by
 have hd':∀ e,o.dst = some e → e < s.σ.length:=fun e he => by
  unfold dOk at hd
  rw [he] at hd
  simp only [Nat.blt_eq] at hd
  rw [hn]
  exact hd
 have fin:∀ x,k (st.put o.dst x) = some r → zaz X.L (V X.P X.L X.F X.E) o s = some (s.put o.dst x) → ∃ s' st',zaz X.L (V X.P X.L X.F X.E) o s = some s' ∧ AgV st' s' ∧ s'.σ.length = s.σ.length ∧ k st' = some r :=
  fun x hk hv => ⟨_,_,hv,ziY hA hd',ze0 _ _ _,hk⟩
 have finP:∀ (d:Nat) (p:Ptr),o.dst = some d → k { o:=(d,.und) :: st.o,pe:=(d,p) :: (st.put (some d) .und).pe } = some r → zaz X.L (V X.P X.L X.F X.E) o s = some { (s.put (some d) .und) with pe:=(d,p) :: (s.put (some d) .und).pe } → ∃ s' st',zaz X.L (V X.P X.L X.F X.E) o s = some s' ∧ AgV st' s' ∧ s'.σ.length = s.σ.length ∧ k st' = some r:=by
  intro d p hdd hk hv
  refine ⟨_,_,hv,⟨zkj hA.1 (hd' d hdd),?_⟩,by simp [VS.put],hk⟩
  simp only [VS.put,VK.put,hA.2]
 unfold ziJ at h
 split at h <;> (try simp only [Option.bind_eq_some_iff,zaw,Bool.and_eq_true,zgG,Nat.ble_eq,Nat.blt_eq] at h)
 ·rename_i x hop
  obtain ⟨v,hv,hk⟩:=h
  exact fin _ hk (by simp only [zaz,hop,zti hA hv,Option.map_some])
 ·rename_i x hop
  obtain ⟨v,hv,hk⟩:=h
  exact fin _ hk (by simp only [zaz,hop,zti hA hv,Option.map_some])
 ·rename_i c a b hop
  obtain ⟨t,ht,h⟩:=h
  cases t
  ·simp only [cond_false,Option.bind_eq_some_iff] at h
   obtain ⟨v,hv,hk⟩:=h
   exact fin _ hk (by simp only [zaz,hop,zf9 hA ht,zeP hA hv,Option.map_some,Option.bind_some,Bool.false_eq_true,if_false])
  ·simp only [cond_true,Option.bind_eq_some_iff] at h
   obtain ⟨v,hv,hk⟩:=h
   exact fin _ hk (by simp only [zaz,hop,zf9 hA ht,zeP hA hv,Option.map_some,Option.bind_some,if_true])
 ·rename_i t hop
  obtain ⟨i,hi,hk⟩:=h
  exact fin _ hk (by simp only [zaz,hop,hi,Option.map_some])
 ·rename_i t x hop
  obtain ⟨i,hi,v,hv,hl,hk⟩:=h
  exact fin _ hk (by simp only [zaz,hop,hi,zeP hA hv,Option.bind_some,hl,if_true])
 ·rename_i t ps hop
  obtain ⟨i,hi,h3,cs,hb,hk⟩:=h
  exact fin _ hk (by simp only [zaz,hop,hi,znO hA hb,Option.bind_some,h3,if_true,Option.map_some])
 ·rename_i t n ps hop
  obtain ⟨e,he,rr,hr,hc,hk⟩:=h
  exact fin _ hk (by simp only [zaz,hop,he,znF hA hr,Option.bind_some]; rw [if_pos ⟨hc.1.1.1,hc.1.1.2,by omega,hc.2⟩])
 ·rename_i t a hop
  obtain ⟨i,hi,p,hp,h⟩:=h
  split at h
  ·simp only [zaw,Nat.ble_eq,Option.bind_eq_some_iff] at h
   obtain ⟨hl,v,hv,hk⟩:=h
   exact fin _ hk (by simp only [zaz,hop,hi,zfV hA hp,Option.bind_some,hl,if_true,hv,Option.map_some])
  ·split at h
   ·rename_i cs hx
    simp only [zaw,Nat.ble_eq,Option.bind_eq_some_iff] at h
    obtain ⟨hl,v,hv,hk⟩:=h
    exact fin _ hk (by simp only [zaz,hop,hi,zfV hA hp,Option.bind_some,zco hA hx,hl,if_true,hv,Option.map_some])
   ·cases h
  ·cases h
 ·rename_i t a x hop
  obtain ⟨i,hi,p,hp,v,hv,h⟩:=h
  split at h
  ·rename_i d off
   split at h
   ·rename_i cs hx
    simp only [zaw,Nat.ble_eq,Nat.blt_eq,zgG,Bool.and_eq_true] at h
    obtain ⟨hc,hk⟩:=h
    refine ⟨{ s with σ:=s.σ.set d (.box (zbL cs off v.cells)) },{ st with o:=(d,.box (zbL cs off v.cells)) :: st.o },?_,⟨zkj hA.1 (by rw [hn]; exact hc.2),hA.2⟩,by simp,hk⟩
    simp only [zaz,hop,hi,zfV hA hp,zeP hA hv,Option.bind_some,zco hA hx]
    rw [if_pos hc.1]
   ·cases h
  ·cases h
 ·rename_i op _ x y _ hop
  split at h
  ·rename_i a ha
   simp only [Option.bind_eq_some_iff,zaw,zgG] at h
   obtain ⟨i,hi,h1,b,hb,c,hc,hk⟩:=h
   exact fin _ hk (by simp only [zaz,hop,zf9 hA ha,hi,h1,if_true,zf9 hA hb,hc,Option.bind_some,Option.map_some])
  ·simp only [Option.bind_eq_some_iff] at h
   obtain ⟨a,ha,b,hb,h⟩:=h
   obtain ⟨c,hc,hk⟩:=zwc h
   exact fin _ hk (by simp only [zaz,hop,zoU (zcR hA ha),zcR hA ha,zcR hA hb,hc,Option.bind_some,Option.map_some])
 ·rename_i _ x hop
  obtain ⟨b,hb,hk⟩:=h
  exact fin _ hk (by simp only [zaz,hop,zf9 hA hb,Option.map_some])
 ·rename_i t x f hop
  obtain ⟨i,hi,p,hp,fo,hf,h⟩:=h
  split at h
  ·rename_i d hdd
   simp only [zaw,Bool.and_eq_true,Bool.not_eq_true',zgG] at h
   obtain ⟨hc,hk⟩:=h
   refine finP d _ hdd hk ?_
   simp only [zaz,hop,hi,zfV hA hp,hf,Option.bind_some,hdd]
   rw [if_pos ⟨hd' d hdd,hc.1.1,hc.1.2,hc.2⟩]
   cases p <;> rfl
  ·cases h
 ·rename_i t x ix hop
  obtain ⟨e,he,kr,hkr,n,hix,h⟩:=h
  split at h
  ·rename_i d hdd
   simp only [zaw,zgI,zoT,Bool.and_eq_true,decide_eq_true_eq,zgG] at h
   obtain ⟨hc,⟨h0,h1⟩,hk⟩:=h
   refine finP d _ hdd (zeO _ _ _ hk) ?_
   obtain ⟨kk,rr⟩:=kr
   simp only [zaz,hop,he,ze8 hA hkr,zcR hA hix,Option.bind_some,hdd]
   rw [if_pos ⟨h0,h1,hc⟩,if_pos (hd' d hdd)]
  ·cases h
 ·rename_i t x lo hi hop
  obtain ⟨e,he,kr,hkr,l,hl,hh,hhi,hc,hk⟩:=h
  simp only [zsf,zaw,decide_eq_true_eq] at hk
  obtain ⟨hb,hk⟩:=hk
  obtain ⟨kk,rr⟩:=kr
  refine fin _ hk ?_
  cases lo with
  | none =>
   cases hi with
   | none =>
    cases hl
    cases hhi
    simp only [zaz,hop,he,ze8 hA hkr,Option.bind_some]
    rw [if_pos ⟨hb.1,hb.2.1,hb.2.2,hc⟩]
   | some y =>
    cases hl
    simp only [zaz,hop,he,ze8 hA hkr,Option.bind_some,zcR hA hhi]
    rw [if_pos ⟨hb.1,hb.2.1,hb.2.2,hc⟩]
  | some z =>
   cases hi with
   | none =>
    cases hhi
    simp only [zaz,hop,he,ze8 hA hkr,Option.bind_some,zcR hA hl]
    rw [if_pos ⟨hb.1,hb.2.1,hb.2.2,hc⟩]
   | some y =>
    simp only [zaz,hop,he,ze8 hA hkr,Option.bind_some,zcR hA hl,zcR hA hhi]
    rw [if_pos ⟨hb.1,hb.2.1,hb.2.2,hc⟩]
 ·rename_i t i hop
  split at h
  ·rename_i vs hx
   simp only [Option.bind_eq_some_iff] at h
   obtain ⟨v,hv,hk⟩:=h
   exact fin _ hk (by simp only [zaz,hop,zco hA hx,hv,Option.map_some])
  ·cases h
 ·rename_i t l c hop
  obtain ⟨e,he,ll,hl,cc,hcc,h0,hk⟩:=h
  simp only [zvN,zaw,decide_eq_true_eq] at hk
  obtain ⟨hb,hk⟩:=hk
  exact fin _ hk (by simp only [zaz,hop,he,zcR hA hl,zcR hA hcc,Option.bind_some]; rw [if_pos ⟨hb.1,hb.2.1,hb.2.2,by omega⟩])
 ·rename_i args ats hop
  split at h
  ·rename_i x hx
   simp only [Option.bind_eq_some_iff,zaw,zgG] at h
   obtain ⟨h1,e,he,kr,hkr,hk⟩:=h
   obtain ⟨kk,rr⟩:=kr
   exact fin _ hk (by simp only [zaz,hop,hx,h1,if_true,he,ze8 hA hkr,Option.bind_some,Option.map_some])
  ·cases h
 ·rename_i args ats hop
  split at h
  ·rename_i x y hx
   simp only [Option.bind_eq_some_iff,zaw,zgG,Bool.and_eq_true,Nat.blt_eq] at h
   obtain ⟨e,he,kr,hkr,kr',hkr',hc,hk⟩:=h
   obtain ⟨kk,rr⟩:=kr
   obtain ⟨kk',rr'⟩:=kr'
   simp only [zfO,zaw,decide_eq_true_eq] at hk
   obtain ⟨hb,hk⟩:=hk
   refine fin _ hk ?_
   simp only [zaz,hop,hx,he,ze8 hA hkr,ze8 hA hkr',Option.bind_some]
   rw [if_pos ⟨hc.1.1.1.1,hc.1.1.1.2,hc.1.1.2,hc.1.2,by omega,hb⟩]
  ·cases h
 ·rename_i args ats hop
  split at h
  ·rename_i x y hx
   simp only [Option.bind_eq_some_iff] at h
   obtain ⟨m,hm,n,hn,hk⟩:=h
   exact fin _ hk (by simp only [zaz,hop,hx,zcR hA hm,zcR hA hn,Option.bind_some,Option.map_some])
  ·cases h
 ·rename_i f args ats hop
  obtain ⟨vs,hvs,hk⟩:=h
  obtain ⟨v,hv,hk⟩:=zmW (k:=fun v => k (st.put o.dst v)) hk
  exact fin _ hk (by simp only [zaz,hop,zjW hA hvs,Option.bind_some,hv,Option.map_some])
 ·cases h
theorem zeZ {st:VK} {s:VS} (hA:AgV st s) {x:Operand} {a:Nat × Nat × List (List AC)} (h:zlU st x = some a):zfS s x = some a:=by
 cases x with
 | const c => cases h
 | global c => cases h
 | func c => cases h
 | tmp i =>
 simp only [zlU] at h
 simp only [zfS]
 unfold ze5
 split at h
 ·rename_i k r hx
  rw [zco hA hx]
  exact h
 ·rename_i d hx
  rw [zco hA hx]
  simp only
  split at h
  ·rename_i k r hd
   rw [zco hA hd]
   exact h
  ·cases h
 ·cases h
theorem zmj {L:Lay} {st:VK} {s:VS} (hA:AgV st s) {t:Nat} {x:Operand} {v:SV} (h:svK L st t x = some v):zfS s x = none:=by
 unfold svK at h
 split at h
 ·split at h
  ·rename_i i _ _ hx
   simp only [zfS]
   unfold ze5
   rw [zco hA hx]
  ·cases h
 ·rfl
 ·cases h
theorem zoQ {L:Lay} {st:VK} {s:VS} (hA:AgV st s) {t:Nat} {x:Operand} {v:AV} (h:mvK L st t x = some v):zfS s x = none:=by
 cases x with
 | tmp i =>
  simp only [mvK] at h
  split at h
  ·rename_i hx
   simp only [zfS]
   unfold ze5
   rw [zco hA hx]
  ·rename_i hx
   simp only [zfS]
   unfold ze5
   rw [zco hA hx]
  ·cases h
 | _ => rfl
theorem zmH {L:Lay} {st:VK} {s:VS} (hA:AgV st s) {t:Nat} {x:Operand} {kr:Nat × List (List AC)} (h:zjz L st t x = some kr):zfS s x = none:=by
 unfold zjz at h
 split at h
 ·rename_i hx; exact zmj hA hx
 ·cases h
theorem zm0 {L:Lay} {st:VK} {s:VS} (hA:AgV st s):∀ {xs:List Operand} {ts:List Nat} {r:List SV},zkV L st xs ts = some r → xs.any (fun x => (zfS s x).isSome) = false
 | [],[],_,_ => rfl
 | x :: xs,t :: ts,r,h => by
  unfold zkV at h
  simp only [Option.bind_eq_some_iff,zaw,Option.map_eq_some_iff] at h
  obtain ⟨v,h1,h2,vs,h3,rfl⟩:=h
  rw [List.any_cons,zmj hA h1,zm0 hA h3]
  rfl
 | [],_ :: _,_,h => by cases h
 | _ :: _,[],_,h => by cases h
theorem zur {L:Lay} {st:VK} {s:VS} (hA:AgV st s) {t:Nat} {x:Operand} {v:SV} (h:zxZ L st t x = some v):svA L s t x = some v:=by
 unfold zxZ at h
 unfold svA
 split at h
 ·rename_i hx
  rw [zeZ hA hx]
  exact h
 ·rw [zmj hA h]
  exact zeP hA h
theorem znw {L:Lay} {st:VK} {s:VS} (hA:AgV st s):∀ {xs:List Operand} {ts:List Nat} {r:List SV},zoq L st xs ts = some r → zlL L s xs ts = some r
 | [],[],_,h => h
 | x :: xs,t :: ts,r,h => by
  unfold zoq at h
  unfold zlL
  simp only [Option.bind_eq_some_iff,zaw,Option.map_eq_some_iff] at h ⊢
  obtain ⟨v,h1,h2,vs,h3,rfl⟩:=h
  refine ⟨v,zur hA h1,?_⟩
  rw [if_pos h2,znw hA h3]
  rfl
 | [],_ :: _,_,h => by cases h
 | _ :: _,[],_,h => by cases h
theorem zq1 {st:VK} {s:VS} (hA:AgV st s) {x:Operand} {p:Ptr} (h:znY st x = some p):zrV s x = zqS st x:=by
 unfold zrV zqS
 rw [zfV hA h,h]
 cases p <;> rfl
theorem zsj {o:Oper} {st:VK} {ρ:Type} {k:VK → Option ρ} {r:ρ} {s:VS} (h:ziJ X o st k = some r) (hi:zjb X o st = false) (hA:AgV st s):zd7 X.L o s = false:=by
 unfold zjb at hi
 unfold zd7
 split at hi
 ·rename_i x hop
  simp only [hop]
  simp only [ziJ,hop,Option.bind_eq_some_iff] at h
  obtain ⟨v,hv,_⟩:=h
  rw [zoQ hA hv]; rfl
 ·rename_i x hop
  simp only [hop]
  simp only [ziJ,hop,Option.bind_eq_some_iff] at h
  obtain ⟨v,hv,_⟩:=h
  rw [zoQ hA hv]; rfl
 ·rename_i t x hop
  simp only [hop]
  simp only [ziJ,hop,Option.bind_eq_some_iff] at h
  obtain ⟨_,_,p,hp,_⟩:=h
  rw [zq1 hA hp]; exact hi
 ·rename_i t x v hop
  simp only [hop]
  simp only [ziJ,hop,Option.bind_eq_some_iff] at h
  obtain ⟨_,_,p,hp,_⟩:=h
  rw [zq1 hA hp]; exact hi
 ·rename_i t x ix hop
  simp only [hop]
  simp only [ziJ,hop,Option.bind_eq_some_iff] at h
  obtain ⟨_,_,kr,hkr,_⟩:=h
  rw [zmH hA hkr]; rfl
 ·rename_i t x y hop
  simp only [hop]
  exact hi
 ·rename_i args ats hop
  simp only [hop]
  simp only [ziJ,hop] at h
  split at h
  ·rename_i x hx
   simp only [zaw,Option.bind_eq_some_iff] at h
   obtain ⟨_,_,_,kr,hkr,_⟩:=h
   rw [hx,List.any_cons,zmH hA hkr]; rfl
  ·cases h
 ·rename_i f args ats hop
  simp only [hop]
  simp only [ziJ,hop,Option.bind_eq_some_iff] at h
  obtain ⟨vs,hvs,_⟩:=h
  simp only [Bool.or_eq_false_iff] at hi
  rw [zm0 hA hvs,hi.1]; rfl
 ·rename_i h1 h2 h3 h4 h5 h6 h7 h8
  split <;> first | rfl | (rename_i hop; first | exact absurd hop (h1 _) | exact absurd hop (h2 _) | exact absurd hop (h3 _ _) | exact absurd hop (h4 _ _ _) | exact absurd hop (h5 _ _ _) | exact absurd hop (h6 _ _ _) | exact absurd hop (h7 _ _) | exact absurd hop (h8 _ _ _))
theorem ztr {ρ:Type} {x:Option AV} {tup:Bool} {fs:List Form} {k:AV → Option ρ} {r:ρ} (h:ztM x tup fs (zla (zaQ fs) fun cs => k (znH tup (zeB fs cs))) = some r):∃ v,x = some v ∧ zmU v = true ∧ k v = some r:=by
 unfold ztM at h
 split at h
 ·rw [zaw] at h
  obtain ⟨h1,h2⟩:=h
  obtain ⟨v,hv,hk⟩:=zmW h2
  cases hv
  exact ⟨_,rfl,h1,hk⟩
 ·cases h
theorem zsN {ρ:Type} {x:Option AV} {kk:Nat} {k:List (List AC) → Option ρ} {r:ρ} (h:zsq x kk k = some r):∃ rows,x = some (.v (.cell (.sl kk rows))) ∧ apR kk rows = true ∧ k rows = some r:=by
 unfold zsq at h
 split at h
 ·rw [zaw] at h
  simp only [Bool.and_eq_true,zgG] at h
  obtain ⟨⟨rfl,h1⟩,h2⟩:=h
  exact ⟨_,rfl,h1,h2⟩
 ·cases h
theorem zvC {st:VK} {s:VS} (hA:AgV st s) {xs:List Operand} (h:xs.any (fun x => (zlU st x).isSome) = true):xs.any (fun x => (zfS s x).isSome) = true:=by
 rw [List.any_eq_true] at h ⊢
 obtain ⟨x,hx,h⟩:=h
 obtain ⟨a,ha⟩:=Option.isSome_iff_exists.1 h
 exact ⟨x,hx,by rw [zeZ hA ha]; rfl⟩
theorem zwq {o:Oper} {st:VK} {ρ:Type} {k:VK → Option ρ} {r:ρ} {s:VS} (h:zxY X o st k = some r) (hia:zjb X o st = true) (hA:AgV st s) (hn:s.σ.length = X.fn.ntmps) (hd:dOk X o = true) :
  ∃ s' st',(zd7 X.L o s = true ∧ zeI X.L (V X.P X.L X.F X.E) o s = some s') ∧ AgV st' s' ∧ s'.σ.length = s.σ.length ∧ k st' = some r:=by
 have hd':∀ e,o.dst = some e → e < s.σ.length:=fun e he => by
  unfold dOk at hd
  rw [he] at hd
  simp only [Nat.blt_eq] at hd
  rw [hn]
  exact hd
 have fin:∀ x,k (st.put o.dst x) = some r → zd7 X.L o s = true ∧ zeI X.L (V X.P X.L X.F X.E) o s = some (s.put o.dst x) → ∃ s' st',(zd7 X.L o s = true ∧ zeI X.L (V X.P X.L X.F X.E) o s = some s') ∧ AgV st' s' ∧ s'.σ.length = s.σ.length ∧ k st' = some r :=
  fun x hk hv => ⟨_,_,hv,ziY hA hd',ze0 _ _ _,hk⟩
 have finP:∀ (d:Nat) (p:Ptr),o.dst = some d → k { o:=(d,.und) :: st.o,pe:=(d,p) :: (st.put (some d) .und).pe } = some r → zd7 X.L o s = true ∧ zeI X.L (V X.P X.L X.F X.E) o s = some { (s.put (some d) .und) with pe:=(d,p) :: (s.put (some d) .und).pe } → ∃ s' st',(zd7 X.L o s = true ∧ zeI X.L (V X.P X.L X.F X.E) o s = some s') ∧ AgV st' s' ∧ s'.σ.length = s.σ.length ∧ k st' = some r:=by
  intro d p hdd hk hv
  refine ⟨_,_,hv,⟨zkj hA.1 (hd' d hdd),?_⟩,by simp [VS.put],hk⟩
  simp only [VS.put,VK.put,hA.2]
 unfold zxY at h
 split at h <;> (try simp only [Option.bind_eq_some_iff] at h)
 ·rename_i x hop
  obtain ⟨⟨d0,kk,rr⟩,ha,h⟩:=h
  split at h
  ·rename_i d hdd
   simp only [zaw,Bool.not_eq_true',← Bool.not_eq_true,zgG] at h
   obtain ⟨hne,hk⟩:=h
   rw [← hdd] at hk
   refine fin _ hk ⟨by simp only [zd7,hop,zeZ hA ha,Option.isSome_some],?_⟩
   simp only [zeI,hop,zeZ hA ha,Option.bind_some,hdd]
   rw [if_pos hne]
  ·cases h
 ·rename_i x hop
  obtain ⟨⟨d0,kk,rr⟩,ha,h⟩:=h
  split at h
  ·rename_i d hdd
   simp only [zaw,Bool.not_eq_true',← Bool.not_eq_true,zgG] at h
   obtain ⟨hne,hk⟩:=h
   rw [← hdd] at hk
   refine fin _ hk ⟨by simp only [zd7,hop,zeZ hA ha,Option.isSome_some],?_⟩
   simp only [zeI,hop,zeZ hA ha,Option.bind_some,hdd]
   rw [if_pos hne]
  ·cases h
 ·rename_i t a hop
  obtain ⟨i,hi,p,hp,h⟩:=h
  split at h
  ·rename_i d0 kk n j
   split at h
   ·rename_i k' rr hx
    simp only [zaw,Bool.and_eq_true,zgG,Nat.ble_eq,elR,Nat.blt_eq] at h
    obtain ⟨⟨rfl,hj⟩,hlt,h⟩:=h
    have h:=zeO _ _ (fun cs => (mkV i cs).bind fun v => k (st.put o.dst (.v v))) h
    simp only [Option.bind_eq_some_iff] at h
    obtain ⟨v,hv,hk⟩:=h
    refine fin _ hk ⟨by simp only [zd7,hop,zrV,zfV hA hp],?_⟩
    simp only [zeI,hop,hi,zfV hA hp,Option.bind_some,zco hA hx]
    rw [if_pos ⟨trivial,hlt,hj⟩,hv]
    rfl
   ·cases h
  ·cases h
 ·rename_i t a x hop
  obtain ⟨i,hi,p,hp,v,hv,h⟩:=h
  split at h
  ·rename_i d0 kk n j
   split at h
   ·rename_i k' rr hx
    simp only [zaw,Bool.and_eq_true,zgG,Nat.ble_eq,zx9,Nat.blt_eq] at h
    obtain ⟨⟨⟨⟨rfl,hj⟩,hl⟩,hd0⟩,hlt,hk⟩:=h
    refine ⟨{ s with σ:=s.σ.set d0 (.arr kk (rr.set n (zbL (rr.getD n []) j v.cells))) },{ st with o:=(d0,.arr kk (rr.set n (zbL (rr.getD n []) j v.cells))) :: st.o },⟨by simp only [zd7,hop,zrV,zfV hA hp],?_⟩,⟨zkj hA.1 (by rw [hn]; exact hd0),hA.2⟩,by simp,hk⟩
    simp only [zeI,hop,hi,zfV hA hp,zeP hA hv,Option.bind_some,zco hA hx]
    rw [if_pos ⟨trivial,hlt,hj,hl⟩]
   ·cases h
  ·cases h
 ·rename_i t x ix hop
  obtain ⟨e,he,⟨d0,kk,rr⟩,ha,n,hn',h⟩:=h
  split at h
  ·rename_i d hdd
   simp only [zaw,Bool.and_eq_true,zgG,Bool.not_eq_true',← Bool.not_eq_true,zyP,zoT,decide_eq_true_eq] at h
   obtain ⟨⟨rfl,hne⟩,⟨h0,h1⟩,hk⟩:=h
   refine finP d _ hdd hk ⟨by simp only [zd7,hop,zeZ hA ha,Option.isSome_some],?_⟩
   simp only [zeI,hop,he,zeZ hA ha,zcR hA hn',Option.bind_some,hdd]
   rw [if_pos ⟨h0,h1,trivial⟩,if_pos ⟨hd' d hdd,hne⟩]
  ·cases h
 ·rename_i t l c hop
  obtain ⟨e,he,ll,hl,cc,hcc,h⟩:=h
  split at h
  ·rename_i d hdd
   simp only [zaw,Bool.and_eq_true,Nat.blt_eq,zvN,decide_eq_true_eq] at h
   obtain ⟨⟨hpos,hz⟩,hb,hk⟩:=h
   rw [← hdd] at hk
   refine fin _ hk ⟨by simpa only [zd7,hop,zjb] using hia,?_⟩
   simp only [zeI,hop,he,zcR hA hl,zcR hA hcc,Option.bind_some,hdd]
   rw [if_pos ⟨hb.1,hb.2.1,hb.2.2,hpos,hz⟩]
  ·cases h
 ·rename_i args ats hop
  split at h
  ·rename_i x hx
   simp only [Option.bind_eq_some_iff,zaw,zgG] at h
   obtain ⟨h1,e,he,⟨d0,kk,rr⟩,ha,hk⟩:=h
   refine fin _ hk ⟨by simp only [zd7,hop,hx,List.any_cons,zeZ hA ha,Option.isSome_some,Bool.true_or],?_⟩
   simp only [zeI,hop,hx,h1,if_true,he,zeZ hA ha,Option.bind_some,Option.map_some]
  ·cases h
 ·rename_i f args ats hop
  have hia':zd7 X.L o s = true:=by
   simp only [zjb,hop,Bool.or_eq_true] at hia
   simp only [zd7,hop,Bool.or_eq_true]
   exact hia.imp (fun h => h) (zvC hA)
  rcases hh:X.L.home (f + 1) o.dst with _ | _
  ·rw [hh] at h
   simp only [cond_false,zaw,Option.bind_eq_some_iff] at h
   obtain ⟨hl,vs,hvs,hk⟩:=h
   obtain ⟨v,hv,hf,hk⟩:=ztr (k:=fun v => k (st.put o.dst v)) hk
   refine fin _ hk ⟨hia',?_⟩
   simp only [zeI,hop,hh,Bool.false_eq_true,if_false,hl,if_true,znw hA hvs,Option.bind_some,hv,hf]
  ·rw [hh] at h
   simp only [cond_true,Option.bind_eq_some_iff] at h
   obtain ⟨vs,hvs,e,he,h⟩:=h
   split at h
   ·rename_i d hdd
    simp only [zaw,Nat.blt_eq] at h
    obtain ⟨hpos,h⟩:=h
    obtain ⟨rows,hv,hf,hk⟩:=zsN h
    rw [← hdd] at hk
    refine fin _ hk ⟨hia',?_⟩
    simp only [zeI,hop,hh,if_true,zjW hA hvs,Option.bind_some,hv,he]
    split
    ·rename_i d2 hd2
     rw [hdd] at hd2
     cases hd2
     rw [hdd,if_pos ⟨trivial,hf,hpos⟩]
    ·rename_i hd2
     rw [hdd] at hd2
     cases hd2
   ·cases h
 ·cases h
theorem zuc {o:Oper} {st:VK} {ρ:Type} {k:VK → Option ρ} {r:ρ} {s:VS} (h:opK X o st k = some r) (hA:AgV st s) (hn:s.σ.length = X.fn.ntmps) (hd:dOk X o = true) :
  ∃ s' st',vop X.L (V X.P X.L X.F X.E) o s = some s' ∧ AgV st' s' ∧ s'.σ.length = s.σ.length ∧ k st' = some r:=by
 unfold opK at h
 rcases hi:zjb X o st with _ | _
 ·rw [hi] at h
  simp only [cond_false] at h
  obtain ⟨s',st',h1,h2,h3,h4⟩:=zoF h hA hn hd
  refine ⟨s',st',?_,h2,h3,h4⟩
  unfold vop
  rw [zsj h hi hA]
  exact h1
 ·rw [hi] at h
  simp only [cond_true] at h
  obtain ⟨s',st',⟨h0,h1⟩,h2,h3,h4⟩:=zwq h hi hA hn hd
  refine ⟨s',st',?_,h2,h3,h4⟩
  unfold vop
  rw [h0]
  exact h1
theorem zlE {all:List Oper} {k:VK → Option AV} {r:AV}:∀ {ops:List Oper} {st:VK} {s:VS},zlv X all ops st k = some r → AgV st s → s.σ.length = X.fn.ntmps →
  ∃ s' st',zgY X.L (V X.P X.L X.F X.E) all ops s = some s' ∧ AgV st' s' ∧ s'.σ.length = s.σ.length ∧ k st' = some r
 | [],st,s,h,hA,_ => ⟨s,st,rfl,hA,rfl,h⟩
 | o :: rest,st,s,h,hA,hn => by
  unfold zlv at h
  unfold zgY
  rw [zaw] at h
  obtain ⟨hd,h⟩:=h
  have hd':∀ e,o.dst = some e → e < s.σ.length:=fun e he => by
   unfold dOk at hd
   rw [he] at hd
   simp only [Nat.blt_eq] at hd
   rw [hn]
   exact hd
  have skip:∀ {st:VK},zlv X all rest (st.put o.dst .und) k = some r → AgV st s → ∃ s' st',zgY X.L (V X.P X.L X.F X.E) all rest (s.put o.dst .und) = some s' ∧ AgV st' s' ∧ s'.σ.length = s.σ.length ∧ k st' = some r:=by
   intro st h hA
   obtain ⟨s',st',h1,h2,h3,h4⟩:=zlE h (ziY hA hd') (by rw [ze0]; exact hn)
   exact ⟨s',st',h1,h2,by rw [h3,ze0],h4⟩
  have take:∀ {st:VK},opK X o st (fun st' => zlv X all rest st' k) = some r → AgV st s → ∃ s' st',(vop X.L (V X.P X.L X.F X.E) o s).bind (zgY X.L (V X.P X.L X.F X.E) all rest) = some s' ∧ AgV st' s' ∧ s'.σ.length = s.σ.length ∧ k st' = some r:=by
   intro st h hA
   obtain ⟨s1,st1,h1,h2,h3,h4⟩:=zuc h hA hn hd
   obtain ⟨s',st',h5,h6,h7,h8⟩:=zlE h4 h2 (by rw [h3]; exact hn)
   exact ⟨s',st',by rw [h1]; exact h5,h6,by rw [h7,h3],h8⟩
  split at h
  ·rename_i hg
   rw [hg]
   exact take h hA
  ·rename_i g hg
   rw [hg]
   simp only
   split at h
   ·rename_i og hog
    split at h
    ·rename_i d hdd
     split at h
     ·rename_i b hb
      have hgv:zbV all s g = some (b == g.2):=by simp only [zbV,hog,hdd,zco hA hb]
      rw [hgv,Option.bind_some]
      have hA':∀ b',b' = b → AgV { st with o:=(d,.v (.cell (.bool b'))) :: st.o } s:=fun b' hb' => ⟨fun i x hx => by
       rw [zcl] at hx
       split at hx
       ·rename_i e
        subst e
        cases hx
        rw [hb']
        exact hA.1 _ _ hb
       ·exact hA.1 _ _ hx,hA.2⟩
      cases b
      ·simp only [cond_false] at h
       rcases hq:(false == g.2) with _ | _
       ·rw [hq] at h
        simp only [cond_false] at h
        simp only [Bool.false_eq_true,if_false,Option.bind_some]
        exact skip h (hA' _ rfl)
       ·rw [hq] at h
        simp only [cond_true] at h
        simp only [if_true]
        exact take h (hA' _ rfl)
      ·simp only [cond_true] at h
       rcases hq:(true == g.2) with _ | _
       ·rw [hq] at h
        simp only [cond_false] at h
        simp only [Bool.false_eq_true,if_false,Option.bind_some]
        exact skip h (hA' _ rfl)
       ·rw [hq] at h
        simp only [cond_true] at h
        simp only [if_true]
        exact take h (hA' _ rfl)
     ·rename_i hb
      have hgv:zbV all s g = some false:=by simp only [zbV,hog,hdd,zco hA hb]
      rw [hgv,Option.bind_some]
      simp only [Bool.false_eq_true,if_false,Option.bind_some]
      exact skip h hA
     ·cases h
    ·cases h
   ·cases h
theorem zjN {all:List Oper} {k:VK → Option AV} {r:AV}:∀ {ops:List Oper} {st:VK} {s:VS},zhS X all ops st k = some r → AgV st s → s.σ.length = X.fn.ntmps →
  ∃ s' st',zcX X.L (V X.P X.L X.F X.E) all ops s = some s' ∧ AgV st' s' ∧ s'.σ.length = s.σ.length ∧ k st' = some r
 | [],st,s,h,hA,_ => ⟨s,st,rfl,hA,rfl,h⟩
 | o :: rest,st,s,h,hA,hn => by
  unfold zhS at h
  unfold zcX
  rw [zaw] at h
  obtain ⟨hd,h⟩:=h
  have hd':∀ e,o.dst = some e → e < s.σ.length:=fun e he => by
   unfold dOk at hd
   rw [he] at hd
   simp only [Nat.blt_eq] at hd
   rw [hn]
   exact hd
  have skip:∀ {st:VK},zhS X all rest (st.put o.dst .und) k = some r → AgV st s → ∃ s' st',zcX X.L (V X.P X.L X.F X.E) all rest (s.put o.dst .und) = some s' ∧ AgV st' s' ∧ s'.σ.length = s.σ.length ∧ k st' = some r:=by
   intro st h hA
   obtain ⟨s',st',h1,h2,h3,h4⟩:=zjN h (ziY hA hd') (by rw [ze0]; exact hn)
   exact ⟨s',st',h1,h2,by rw [h3,ze0],h4⟩
  have take:∀ {st:VK},ziJ X o st (fun st' => zhS X all rest st' k) = some r → AgV st s → ∃ s' st',(zaz X.L (V X.P X.L X.F X.E) o s).bind (zcX X.L (V X.P X.L X.F X.E) all rest) = some s' ∧ AgV st' s' ∧ s'.σ.length = s.σ.length ∧ k st' = some r:=by
   intro st h hA
   obtain ⟨s1,st1,h1,h2,h3,h4⟩:=zoF h hA hn hd
   obtain ⟨s',st',h5,h6,h7,h8⟩:=zjN h4 h2 (by rw [h3]; exact hn)
   exact ⟨s',st',by rw [h1]; exact h5,h6,by rw [h7,h3],h8⟩
  split at h
  ·rename_i hg
   rw [hg]
   exact take h hA
  ·rename_i g hg
   rw [hg]
   simp only
   split at h
   ·rename_i og hog
    split at h
    ·rename_i d hdd
     split at h
     ·rename_i b hb
      have hgv:zbV all s g = some (b == g.2):=by simp only [zbV,hog,hdd,zco hA hb]
      rw [hgv,Option.bind_some]
      have hA':∀ b',b' = b → AgV { st with o:=(d,.v (.cell (.bool b'))) :: st.o } s:=fun b' hb' => ⟨fun i x hx => by
       rw [zcl] at hx
       split at hx
       ·rename_i e
        subst e
        cases hx
        rw [hb']
        exact hA.1 _ _ hb
       ·exact hA.1 _ _ hx,hA.2⟩
      cases b
      ·simp only [cond_false] at h
       rcases hq:(false == g.2) with _ | _
       ·rw [hq] at h
        simp only [cond_false] at h
        simp only [Bool.false_eq_true,if_false,Option.bind_some]
        exact skip h (hA' _ rfl)
       ·rw [hq] at h
        simp only [cond_true] at h
        simp only [if_true]
        exact take h (hA' _ rfl)
      ·simp only [cond_true] at h
       rcases hq:(true == g.2) with _ | _
       ·rw [hq] at h
        simp only [cond_false] at h
        simp only [Bool.false_eq_true,if_false,Option.bind_some]
        exact skip h (hA' _ rfl)
       ·rw [hq] at h
        simp only [cond_true] at h
        simp only [if_true]
        exact take h (hA' _ rfl)
     ·rename_i hb
      have hgv:zbV all s g = some false:=by simp only [zbV,hog,hdd,zco hA hb]
      rw [hgv,Option.bind_some]
      simp only [Bool.false_eq_true,if_false,Option.bind_some]
      exact skip h hA
     ·cases h
    ·cases h
   ·cases h
theorem zqV:∀ {o:Ov} {s:List AV},AgO o s → AgO (znp o) (zgH s)
 | [],_,_ => fun _ _ h => by cases h
 | (i,x) :: r,s,h => by
  have key:∀ (y:Option AV),(y.map fun x => if zbr x then AV.al zbu else x).getD .und = (bif zbr (y.getD .und) then .al zbu else y.getD .und):=fun y => by
   cases y with
   | none => rfl
   | some z =>
    simp only [Option.map_some,Option.getD_some]
    cases zbr z <;> rfl
  have hget:∀ j,(zgH s).getD j .und = bif zbr (s.getD j .und) then .al zbu else s.getD j .und:=fun j => by
   rw [List.getD_eq_getElem?_getD,List.getD_eq_getElem?_getD,zgH,List.getElem?_map]
   exact key _
  have hat:∀ (o:Ov) (j:Nat),(znp o).at j = (o.at j).map fun x => bif zbr x then .al zbu else x:=by
   intro o
   induction o with
   | nil => intro j; rfl
   | cons e o ih =>
    intro j
    obtain ⟨a,x⟩:=e
    simp only [znp,zcl]
    split
    ·rfl
    ·exact ih j
  intro j y hy
  rw [hat] at hy
  simp only [Option.map_eq_some_iff] at hy
  obtain ⟨z,hz,rfl⟩:=hy
  rw [hget,h j z hz]
theorem zob (i:Nat):∀ (o:Ov) (j:Nat) {y:AV},(zpi i o).at j = some y → j ≠ i ∧ o.at j = some y
 | [],_,_,h => by cases h
 | (k,x) :: r,j,y,h => by
  unfold zpi at h
  rcases hk:Nat.beq k i with _ | _
  ·rw [hk,cond_false,zcl] at h
   rw [zcl]
   split at h
   ·rename_i e
    subst e
    refine ⟨fun e => ?_,by rw [if_pos rfl]; exact h⟩
    subst e
    simp at hk
   ·rename_i e
    rw [if_neg e]
    exact zob i r j h
  ·rw [hk,cond_true] at h
   obtain ⟨h1,h2⟩:=zob i r j h
   refine ⟨h1,?_⟩
   rw [zcl,if_neg (fun e => h1 (by rw [← e]; exact Nat.eq_of_beq_eq_true hk))]
   exact h2
theorem zn6 {o:Ov} {s:List AV} (h:AgO o s):∀ (l:Ov) (j:Nat) {y:AV},(ziL o l).at j = some y → ∃ x,l.at j = some x ∧ zdz s x = y
 | [],_,_,h => by cases h
 | (i,x) :: r,j,y,hy => by
  have same:∀ z,(Ov.at ((i,z) :: ziL o r) j = some y) → zdz s x = z → ∃ x',Ov.at ((i,x) :: r) j = some x' ∧ zdz s x' = y:=fun z hz hv => by
   rw [zcl] at hz ⊢
   split at hz
   ·rename_i e
    rw [if_pos e]
    cases hz
    exact ⟨x,rfl,hv⟩
   ·rename_i e
    rw [if_neg e]
    exact zn6 h r j hz
  unfold ziL at hy
  split at hy
  ·exact same _ hy rfl
  ·rename_i d
   split at hy
   ·rename_i k rows hd
    exact same _ hy (by simp only [zdz,h d _ hd])
   ·rename_i z hne hd
    refine same _ hy ?_
    have hd':=h d _ hd
    cases z with
    | arr k r' => exact absurd rfl (hne k r')
    | _ => simp only [zdz,hd']
   ·obtain ⟨h1,h2⟩:=zob i _ j hy
    obtain ⟨x',g1,g2⟩:=zn6 h r j h2
    refine ⟨x',?_,g2⟩
    rw [zcl,if_neg (fun e => h1 e.symm)]
    exact g1
  ·rename_i hn1 hn2
   refine same _ hy ?_
   cases x with
   | arr k r => exact absurd rfl (hn1 k r)
   | al d => exact absurd rfl (hn2 d)
   | _ => rfl
theorem zrC (s:List AV) (j:Nat):(zhc s).getD j .und = zdz s (s.getD j .und):=by
 simp only [zhc,List.getD,List.getElem?_map]
 cases s[j]? <;> rfl
theorem ziG {f:Nat → AV → Option AV}:∀ {l l2:List AV} {n:Nat},zhR f n l = some l2 → l2.length = l.length ∧ ∀ i x,l[i]? = some x → ∃ y,l2[i]? = some y ∧ f (n + i) x = some y
 | [],l2,n,h => by cases h; exact ⟨rfl,fun i x hx => by simp at hx⟩
 | z :: l,l2,n,h => by
  simp only [zhR,Option.bind_eq_some_iff,Option.map_eq_some_iff] at h
  obtain ⟨y,h1,ys,h2,rfl⟩:=h
  obtain ⟨h3,h4⟩:=ziG h2
  refine ⟨by simp [h3],fun i x hx => ?_⟩
  cases i with
  | zero => simp at hx; subst hx; exact ⟨y,rfl,h1⟩
  | succ i =>
   obtain ⟨u,g1,g2⟩:=h4 i x (by simpa using hx)
   exact ⟨u,by simpa using g1,by rw [show n + (i + 1) = n + 1 + i by omega]; exact g2⟩
theorem zuY {o:Ov} {s:List AV} (h:AgO o s):AgO (ziL o o) (zhc s):=fun j y hy => by
 obtain ⟨x,h1,h2⟩:=zn6 h o j hy
 rw [zrC,h j x h1]
 exact h2
theorem zpJ {L:List Nat} {core:List Oper} {o:Oper} {o0:Ov} {s:List AV} (h0:AgO o0 s) {st1:VK} {s1:VS} (h1:AgV st1 s1) {t:Nat} (hf:core.find? (zhW t) = some o) {y:AV} (h:zsd L o o0 st1.o t = some y) (x:AV):zdi L core s s1 t x = some y:=by
 unfold zsd at h
 unfold zdi
 rw [hf]
 simp only
 have plain:(match st1.o.at t with
   | some (.v (.cell c)) => bif zjM c then some (.v (.cell c)) else some (.al zbu)
   | some .und => some .und
   | _ => none) = some y → (match s1.get t with
   | .v (.cell c) => if zjM c then some (AV.v (.cell c)) else some (.al zbu)
   | .und => some .und
   | _ => none) = some y:=fun h => by
  split at h
  ·rename_i c hc
   have:=h1.1 t _ hc
   rw [show s1.get t = _ from this]
   simp only
   rw [← Bool.cond_eq_ite]
   exact h
  ·rename_i hc
   have:=h1.1 t _ hc
   rw [show s1.get t = _ from this]
   exact h
  ·cases h
 split at h
 ·rename_i d z hm hg
  rw [hm,hg]
  simp only
  split at h
  ·rename_i k r k' r' hz ht
   have hz:=h0 z _ hz
   rw [show ze5 { σ:=s,pe:=[] } z = some (z,k,r) by simp only [ze5,VS.get,hz],show s1.get t = _ from h1.1 t _ ht]
   exact h
  ·rename_i e k' r' hz ht
   have hz:=h0 z _ hz
   split at h
   ·rename_i k r he
    have he:=h0 e _ he
    rw [show ze5 { σ:=s,pe:=[] } z = some (e,k,r) by simp only [ze5,VS.get,hz,he],show s1.get t = _ from h1.1 t _ ht]
    exact h
   ·cases h
  ·cases h
 ·rename_i hneg
  split
  ·rename_i d z hm hg
   exact (hneg d z hm hg).elim
  ·exact plain h
theorem zs2 {L:List Nat} {core:List Oper} {o0:Ov} {s:List AV} (h0:AgO o0 s) {st1:VK} {s1:VS} (h1:AgV st1 s1) {o2:Ov} (h:zlG L s.length core o0 st1.o core = some o2):∃ σ2,zhR (zdi L core s s1) 0 s = some σ2 ∧ AgO o2 σ2:=by
 have hall:∀ (l:List Oper) (o2:Ov),zlG L s.length core o0 st1.o l = some o2 → ∀ o ∈ l,∀ t,o.dst = some t → ∃ y,∀ x,zdi L core s s1 t x = some y:=by
  intro l
  induction l with
  | nil => intro o2 _ o ho; cases ho
  | cons a l ih =>
   intro o2 h o ho t ht
   simp only [zlG,Option.bind_eq_some_iff] at h
   obtain ⟨r,hr,h⟩:=h
   rcases List.mem_cons.1 ho with rfl | ho
   ·rw [ht] at h
    simp only at h
    split at h
    ·rename_i o' hf
     rw [zaw,Option.map_eq_some_iff] at h
     obtain ⟨_,y,hy,_⟩:=h
     exact ⟨y,fun x => zpJ h0 h1 hf hy x⟩
    ·cases h
   ·exact ih r hr o ho t ht
 have hsome:∀ t x,∃ y,zdi L core s s1 t x = some y:=fun t x => by
  cases hf:core.find? (zhW t) with
  | none => exact ⟨x,by unfold zdi; rw [hf]⟩
  | some o =>
   have hd:o.dst = some t:=by
    have:=List.find?_some hf
    unfold zhW at this
    split at this
    ·rename_i d hd
     rw [hd,Nat.eq_of_beq_eq_true this]
    ·cases this
   obtain ⟨y,hy⟩:=hall core o2 h o (List.mem_of_find?_eq_some hf) t hd
   exact ⟨y,hy x⟩
 have hback:∀ (l:List AV) (n:Nat),∃ l2,zhR (zdi L core s s1) n l = some l2:=by
  intro l
  induction l with
  | nil => intro n; exact ⟨[],rfl⟩
  | cons x l ih =>
   intro n
   obtain ⟨y,hy⟩:=hsome n x
   obtain ⟨l2,hl2⟩:=ih (n + 1)
   exact ⟨y :: l2,by simp only [zhR,hy,hl2,Option.bind_some,Option.map_some]⟩
 obtain ⟨σ2,hσ⟩:=hback s 0
 refine ⟨σ2,hσ,?_⟩
 obtain ⟨hl,hg⟩:=ziG hσ
 have hlen1:∀ t,t < s.length → ∀ y,(∀ x,zdi L core s s1 t x = some y) → σ2.getD t .und = y:=fun t ht y hy => by
  obtain ⟨u,hu,hf⟩:=hg t s[t] (List.getElem?_eq_getElem ht)
  rw [Nat.zero_add,hy] at hf
  cases hf
  simp [List.getD,hu]
 have hunw:∀ t,core.find? (zhW t) = none → σ2.getD t .und = s.getD t .und:=fun t hf => by
  rcases Nat.lt_or_ge t s.length with ht | ht
  ·obtain ⟨u,hu,hf'⟩:=hg t s[t] (List.getElem?_eq_getElem ht)
   unfold zdi at hf'
   rw [Nat.zero_add,hf] at hf'
   cases hf'
   simp [List.getD,hu,ht]
  ·simp [List.getD,List.getElem?_eq_none ht,List.getElem?_eq_none (show σ2.length ≤ t by omega)]
 have key:∀ (l:List Oper) (r:Ov),zlG L s.length core o0 st1.o l = some r → ∀ t y,r.at t = some y → (t < s.length ∧ ∀ x,zdi L core s s1 t x = some y) ∨ ((∀ o ∈ l,o.dst ≠ some t) ∧ o0.at t = some y):=by
  intro l
  induction l with
  | nil => intro r hr t y hy; cases hr; exact .inr ⟨fun o ho => (by cases ho),hy⟩
  | cons a l ih =>
   intro r hr t y hy
   simp only [zlG,Option.bind_eq_some_iff] at hr
   obtain ⟨r1,hr1,hr⟩:=hr
   split at hr
   ·rename_i hd
    cases hr
    rcases ih _ hr1 t y hy with g | ⟨g1,g2⟩
    ·exact .inl g
    ·refine .inr ⟨fun o ho => ?_,g2⟩
     rcases List.mem_cons.1 ho with rfl | ho
     ·rw [hd]; simp
     ·exact g1 o ho
   ·rename_i t' hd
    split at hr
    ·rename_i o' hf
     rw [zaw,Option.map_eq_some_iff] at hr
     obtain ⟨hlt,y',hy',rfl⟩:=hr
     rw [zcl] at hy
     split at hy
     ·rename_i e
      subst e
      cases hy
      exact .inl ⟨by simpa [Nat.blt_eq] using hlt,fun x => zpJ h0 h1 hf hy' x⟩
     ·rename_i e
      rcases ih _ hr1 t y hy with g | ⟨g1,g2⟩
      ·exact .inl g
      ·refine .inr ⟨fun o ho => ?_,g2⟩
       rcases List.mem_cons.1 ho with rfl | ho
       ·rw [hd]; intro he; cases he; exact e rfl
       ·exact g1 o ho
    ·cases hr
 intro t y hy
 rcases key core o2 h t y hy with ⟨g1,g2⟩ | ⟨g1,g2⟩
 ·exact hlen1 t g1 y g2
 ·rw [hunw t ?_,h0 t y g2]
  rw [List.find?_eq_none]
  intro o ho
  unfold zhW
  cases hd:o.dst with
  | none => simp
  | some d =>
   simp only [zgG]
   intro e
   exact g1 o ho (by rw [hd,e])
theorem zge {o:Ov} {s:List AV} (h:AgO o s):∀ {l:List Nat} {o':Ov},zjQ o l = some o' → AgO o' s
 | [],o',e => by cases e; intro i x hx; cases hx
 | j :: l,o',e => by
  simp only [zjQ,Option.bind_eq_some_iff,Option.map_eq_some_iff] at e
  obtain ⟨x,hx,o1,h1,rfl⟩:=e
  intro i y hy
  rw [zcl] at hy
  split at hy
  ·rename_i e
   subst e
   cases hy
   exact h _ _ hx
  ·exact zge h h1 i y hy
theorem zr5 {c:Code} {ks:List Fr} {o:Ov} {r:AV} (h:G X c ks o = some r) {s:List AV} (hs:s.length = X.fn.ntmps) (hA:AgO o s):(VC X.P X.L X.F X.E c s).bind (zfJ X ks) = some r:=by
 unfold G at h
 split at h
 ·rename_i hh
  cases h
  exact hh.choose_spec.2 s hs hA
 ·cases h
theorem zyW {c:Code} {ks:List Fr} {o:Ov} {r:AV} (hw:∃ s:List AV,s.length = X.fn.ntmps ∧ AgO o s) (h:∀ s:List AV,s.length = X.fn.ntmps → AgO o s → (VC X.P X.L X.F X.E c s).bind (zfJ X ks) = some r):G X c ks o = some r:=by
 unfold G
 have hh:∃ r,(∃ s:List AV,s.length = X.fn.ntmps ∧ AgO o s) ∧ ∀ s:List AV,s.length = X.fn.ntmps → AgO o s → (VC X.P X.L X.F X.E c s).bind (zfJ X ks) = some r:=⟨r,hw,h⟩
 rw [dif_pos hh]
 obtain ⟨s,hs,hA⟩:=hw
 rw [← hh.choose_spec.2 s hs hA,h s hs hA]
theorem zh4 {o:Ov} {s:List AV} (hA:AgO o s):∀ {rs:List ResultVar} {vs:List SV},zpP X o rs = some vs → zdy X.L s rs = some vs
 | [],_,h => h
 | rv :: rs,vs,h => by
  simp only [zpP,Option.bind_eq_some_iff,Option.map_eq_some_iff] at h
  obtain ⟨v,h1,vs',h2,rfl⟩:=h
  simp only [zdy,Option.bind_eq_some_iff,Option.map_eq_some_iff]
  refine ⟨v,?_,vs',zh4 hA h2,rfl⟩
  unfold zwJ at h1
  unfold zfL
  split at h1
  ·split at h1
   ·rename_i x hx
    cases h1
    simp only [hA _ _ hx]
   ·rename_i k r hx
    cases h1
    have hx:=hA _ _ hx
    simp only [hx,ze5,VS.get,Option.map_some]
   ·rename_i d hx
    have hx:=hA _ _ hx
    split at h1
    ·rename_i k r hd
     cases h1
     have hd:=hA _ _ hd
     simp only [hx,hd,ze5,VS.get,Option.map_some]
    ·cases h1
   ·cases h1
  ·split at h1
   ·rename_i cs hx
    simp only [hA _ _ hx]
    simp only [Option.bind_eq_some_iff,zaw,zgG] at h1 ⊢
    obtain ⟨i,hi,hl,hm⟩:=h1
    exact ⟨i,hi,by rw [if_pos hl]; exact hm⟩
   ·cases h1
theorem zcf:∀ (n:Nat) (m:Mode) (ks:List Fr) (o:Ov) (r:AV),evM X n m ks o = some r → ∀ s:List AV,s.length = X.fn.ntmps → AgO o s →
  (match m with | .run c => (VC X.P X.L X.F X.E c s).bind (zfJ X ks) | .ret e => zfJ X ks (e,s)) = some r
 | 0,_,_,_,_,h,_,_,_ => by cases h
 | n + 1,.run c,ks,o,r,h,s,hs,hA => by
  cases c <;> simp only [evM] at h <;> simp only
  case skip =>
   rw [zu4,Option.bind_some]
   exact zcf n _ _ _ _ h s hs hA
  case region id ops d =>
   cases d
   ·simp only [cond_false] at h
    obtain ⟨s',st',h1,h2,h3,h4⟩:=zlE (s:={ σ:=s,pe:=[] }) h ⟨hA,rfl⟩ hs
    rw [zrX,h1]
    simp only [Option.map_some,Option.bind_some]
    exact zcf n _ _ _ _ h4 s'.σ (by rw [h3]; exact hs) h2.1
   ·simp only [cond_true] at h
    rw [zsz]
    unfold zir
    cases hr:zuj X.L ops.toList
    ·rw [hr,cond_false] at h
     have hlm:(zgH s).length = X.fn.ntmps:=by simp [zgH,hs]
     obtain ⟨s',st',h1,h2,h3,h4⟩:=zjN (s:={ σ:=zgH s,pe:=[] }) h ⟨zqV hA,rfl⟩ hlm
     rw [if_neg (by simp),h1]
     simp only [Option.map_some,Option.bind_some]
     exact zcf n _ _ _ _ h4 s'.σ (by rw [h3]; exact hlm) h2.1
    ·rw [hr,cond_true] at h
     have hlm:(zhc s).length = X.fn.ntmps:=by simp [zhc,hs]
     obtain ⟨s1,st1,h1,h2,h3,h4⟩:=zjN (s:={ σ:=zhc s,pe:=[] }) h ⟨zuY hA,rfl⟩ hlm
     simp only [Option.bind_eq_some_iff] at h4
     obtain ⟨o2,ho2,h4⟩:=h4
     rw [← hs] at ho2
     obtain ⟨σ2,hσ,hA2⟩:=zs2 hA h2 ho2
     obtain ⟨s',st',k1,k2,k3,k4⟩:=zlE (s:={ σ:=σ2,pe:=[] }) h4 ⟨hA2,rfl⟩ (by rw [(ziG hσ).1]; exact hs)
     rw [if_pos rfl,h1,Option.bind_some,hσ,Option.bind_some,k1]
     simp only [Option.map_some,Option.bind_some]
     exact zcf n _ _ _ _ k4 s'.σ (by rw [k3]; simp only [(ziG hσ).1]; exact hs) k2.1
  case seq a b =>
   rw [zxo]
   have:=zcf n _ _ _ _ h s hs hA
   simp only at this
   rw [← this,Option.bind_assoc]
   congr 1
   funext x
   obtain ⟨e,s'⟩:=x
   cases e <;> simp [andThen,zfJ]
  case cond x a b =>
   simp only [Option.bind_eq_some_iff] at h
   obtain ⟨t,ht,h⟩:=h
   rw [zvh,zf9 (s:={ σ:=s,pe:=[] }) ⟨hA,rfl⟩ ht,Option.bind_some]
   cases t
   ·simp only [cond_false] at h
    simp only [Bool.false_eq_true,if_false]
    exact zcf n _ _ _ _ h s hs hA
   ·simp only [cond_true] at h
    simp only [if_true]
    exact zcf n _ _ _ _ h s hs hA
  case block id b =>
   rw [zsb]
   have:=zcf n _ _ _ _ h s hs hA
   simp only at this
   rw [← this]
   rcases VC X.P X.L X.F X.E b s with _ | x
   ·rfl
   ·simp [zfJ]
  case loop b =>
   simp only [Option.bind_eq_some_iff] at h
   obtain ⟨id,_,l,_,o',ho',h⟩:=h
   exact zr5 h hs (zge hA ho')
  case exit id =>
   rw [zuG,Option.bind_some]
   exact zcf n _ _ _ _ h s hs hA
  case ret =>
   rw [zxj,Option.bind_some]
   exact zcf n _ _ _ _ h s hs hA
  all_goals cases h
 | n + 1,.ret e,ks,o,r,h,s,hs,hA => by
  simp only
  rcases ks with _ | ⟨f,ks⟩
  ·simp only [evM] at h
   simp only [zfJ]
   have key:zxq X o = some r → e ≠ .norm ∧ (∀ i,e ≠ .exit i) ∨ e = .norm → ztV X.L X.fn (e,s) = some r:=by
    intro h _
    simp only [zxq,Option.map_eq_some_iff] at h
    obtain ⟨vs,h1,h2⟩:=h
    cases e with
    | norm => simp only [ztV,zh4 hA h1,Option.map_some]; exact congrArg some h2
    | exit i => simp_all
    | ret => simp only [ztV,zh4 hA h1,Option.map_some]; exact congrArg some h2
   cases e with
   | norm => exact key h (.inr rfl)
   | exit i => cases h
   | ret => exact key h (.inl ⟨(by simp),fun i => by simp⟩)
  ·cases f with
   | seq c =>
    cases e with
    | norm =>
     simp only [evM] at h
     simp only [zfJ]
     split at h
     ·exact zcf n _ _ _ _ h s hs hA
     ·simp only [Option.bind_eq_some_iff] at h
      obtain ⟨o',ho',h⟩:=h
      exact zr5 h hs (zge hA ho')
    | exit i => simp only [evM] at h; simp only [zfJ]; exact zcf n _ _ _ _ h s hs hA
    | ret => simp only [evM] at h; simp only [zfJ]; exact zcf n _ _ _ _ h s hs hA
   | blk id =>
    cases e with
    | norm => simp only [evM] at h; simp only [zfJ,zoY]; exact zcf n _ _ _ _ h s hs hA
    | exit i =>
     simp only [evM] at h
     simp only [zfJ,zoY]
     rcases hq:Nat.beq i id with _ | _
     ·rw [hq] at h
      simp only [cond_false] at h
      have:i ≠ id:=fun e => by rw [e] at hq; simp at hq
      rw [if_neg this]
      exact zcf n _ _ _ _ h s hs hA
     ·rw [hq] at h
      simp only [cond_true] at h
      rw [if_pos (Nat.eq_of_beq_eq_true hq)]
      exact zcf n _ _ _ _ h s hs hA
    | ret => simp only [evM] at h; simp only [zfJ,zoY]; exact zcf n _ _ _ _ h s hs hA
   | loop b =>
    cases e with
    | norm =>
     simp only [evM,Option.bind_eq_some_iff] at h
     obtain ⟨id,_,l,_,o',ho',h⟩:=h
     simp only [zfJ]
     exact zr5 h hs (zge hA ho')
    | exit i => simp only [evM] at h; simp only [zfJ]; exact zcf n _ _ _ _ h s hs hA
    | ret => simp only [evM] at h; simp only [zfJ]; exact zcf n _ _ _ _ h s hs hA
def zoH (n:Nat):Ov → Bool
 | [] => true
 | (i,_) :: r => Nat.blt i n && r.all (fun e => !Nat.beq e.1 i) && zoH n r
theorem zn1 {n:Nat}:∀ {o:Ov},zoH n o = true → ∃ s:List AV,s.length = n ∧ AgO o s
 | [],_ => ⟨List.replicate n .und,by simp,fun _ _ h => by cases h⟩
 | (i,x) :: r,h => by
  simp only [zoH,Bool.and_eq_true,Nat.blt_eq] at h
  obtain ⟨s,hs,hA⟩:=zn1 h.2
  exact ⟨s.set i x,by simpa using hs,zkj hA (by omega)⟩
theorem zwM {id:Nat} {o:Ov} {r:AV} {n:Nat} (hok:zoH X.fn.ntmps o = true) {b:Code} {ks:List Fr} (hl:(X.fn.body.bind fun c => zfl id c []) = some (.loop b,ks)) (h:evM X n (.run b) (.loop b :: ks) o = some r):GL X id o = some r:=by
 unfold GL
 rw [hl,Option.bind_some]
 refine zyW (zn1 hok) fun s hs hA => ?_
 have:=zcf n _ _ _ _ h s hs hA
 simp only at this
 rw [zuF,← this,Option.bind_assoc]
 congr 1
 funext x
 obtain ⟨e,s'⟩:=x
 cases e <;> simp [andThen,zfJ]
def zoi:Nat → List SV → Ov
 | _,[] => []
 | i,v :: vs => (i,.v v) :: zoi (i + 1) vs
theorem zoA (pre:List AV) (rest:List AV):∀ (vs:List SV),AgO (zoi pre.length vs) (pre ++ vs.map .v ++ rest)
 | [] => fun _ _ h => by cases h
 | v :: vs => by
  have ih:AgO (zoi (pre.length + 1) vs) (pre ++ (.v v :: vs.map .v) ++ rest):=by
   have h:=zoA (pre ++ [.v v]) rest vs
   simpa using h
  intro i x hx
  rw [zoi,zcl] at hx
  split at hx
  ·rename_i e
   subst e
   cases hx
   simp [List.getD]
  ·exact ih i x hx
theorem zyZ {f:FuncId} {c:Code} {x:List SV} {r:AV} {n:Nat} (hF:X.F f = true) (hf:X.P.funcs[f]? = some X.fn) (hb:X.fn.body = some c) (hx:x.length ≤ X.fn.ntmps) (h:evM X n (.run c) [] (zoi 0 x) = some r):V X.P X.L X.F X.E f x = some r:=by
 rw [zyU hF hf hb x hx]
 have:=zcf n _ _ _ _ h (x.map .v ++ List.replicate (X.fn.ntmps - x.length) .und) (by simp; omega) (by simpa using zoA [] _ x)
 simp only at this
 rw [← this]
 congr 1
end
end Go.Proofs.Ytcpcagdialnbeaa
