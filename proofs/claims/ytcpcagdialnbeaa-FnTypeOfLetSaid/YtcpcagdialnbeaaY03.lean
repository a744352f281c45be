/- Generic texts and models for the proofs of this seat: part 3. -/
import Derived.Test.YtcpcagdialnbeaaY02
set_option linter.unusedVariables false
set_option linter.unusedSimpArgs false
namespace Go.Proofs.Ytcpcagdialnbeaa
section
open Go
section
variable {X:Ctx}
def AgV (st:VK) (s:VS):Prop:=AgO st.o s.σ∧s.pe=st.pe
theorem zis {a b:Nat}:(Nat.beq a b=true)=(a=b):=propext ⟨Nat.eq_of_beq_eq_true,fun h=>by subst h;exact Nat.beq_refl a⟩
theorem zaB {α:Type}{b:Bool}{x:Option α}{r:α}:(bif b then x else none)=some r↔b=true∧x=some r:=by cases b <;> simp
theorem zcT (j:Nat) (x:AV) (r:Ov) (i:Nat):Ov.at ((j,x)::r) i=if j=i then some x else Ov.at r i:=by
 simp only[Ov.at,Bool.cond_eq_ite,zis]
theorem zmN {o:Ov}{s:List AV} (h:AgO o s) {d:Nat}{x:AV} (hd:d<s.length):AgO ((d,x)::o) (s.set d x):=fun i y hy=>by
 rw[zcT] at hy;split at hy
 ·rename_i e
  subst e;cases hy;simp[List.getD,hd]
 ·rename_i e
  have:=h i y hy
  simp only[List.getD,List.getElem?_set_ne e] at this ⊢;exact this
theorem zlN {st:VK}{s:VS} (h:AgV st s) {d:Option Nat}{x:AV} (hd:∀e,d=some e→e<s.σ.length):AgV (st.put d x) (s.put d x):=by
 cases d with
 | none=>exact h
 | some d=>exact⟨zmN h.1 (hd d rfl),by simp only[VS.put,VK.put,h.2]⟩
theorem zgb (s:VS) (d:Option Nat) (x:AV):(s.put d x).σ.length=s.σ.length:=by cases d <;> simp[VS.put]
theorem zc2 {st:VK}{s:VS} (h:AgV st s) {i:Nat}{x:AV} (hx:st.o.at i=some x):s.get i=x:=h.1 i x hx
theorem zf0 {L:Lay}{st:VK}{s:VS} (hA:AgV st s) {t:Nat}{x:Operand}{v:SV} (h:svK L st t x=some v):zhl L s t x=some v:=by
 unfold svK at h;unfold zhl;split at h
 ·split at h
  ·rename_i hx
   cases h;simp only[zc2 hA hx]
  ·cases h
 ·exact h
 ·cases h
theorem zv3 {L:Lay}{st:VK}{s:VS} (hA:AgV st s) {t:Nat}{x:Operand}{v:AV} (h:mvK L st t x=some v):zl0 L s t x=some v:=by
 cases x with
 | tmp i =>
  simp only[mvK] at h;split at h
  ·rename_i y hx
   cases h;simp only[zl0,zc2 hA hx]
  ·rename_i y hx
   cases h;simp only[zl0,zc2 hA hx]
  ·cases h
 | _ =>
  simp only[mvK,zzOm] at h;obtain⟨y,hy,rfl⟩:=h;simp only[zl0,zf0 hA hy,Option.map_some]
theorem zdu {L:Lay}{st:VK}{s:VS} (hA:AgV st s) {x:Operand}{n:Int} (h:zmG L st x=some n):ze9 L s x=some n:=by
 unfold zmG at h;split at h
 ·rename_i hx
  cases h;simp only[ze9,zf0 hA hx]
 ·cases h
theorem zhZ {L:Lay}{st:VK}{s:VS} (hA:AgV st s) {x:Operand}{n:Bool} (h:znM L st x=some n):zfk L s x=some n:=by
 unfold znM at h;split at h
 ·rename_i hx
  cases h;simp only[zfk,zf0 hA hx]
 ·cases h
theorem ztm {L:Lay}{s:VS}{x:Operand}{n:Int} (h:ze9 L s x=some n):zfk L s x=none:=by
 unfold ze9 at h;unfold zfk;split at h
 ·rename_i hx
  rw[hx]
 ·cases h
theorem zgi {L:Lay}{st:VK}{s:VS} (hA:AgV st s) {t:Nat}{x:Operand}{kr:Nat×List (List AC)} (h:zmp L st t x=some kr):zhL L s t x=some kr:=by
 unfold zmp at h;split at h
 ·rename_i hx
  cases h;simp only[zhL,zf0 hA hx]
 ·cases h
theorem zhb {st:VK}{s:VS} (hA:AgV st s) {x:Operand}{p:Ptr} (h:zsn st x=some p):zgU s x=some p:=by
 unfold zsn at h;unfold zgU;split at h
 ·rename_i i
  simp only[hA.2];split at h
  ·rename_i q hq
   rw[hq];exact h
  ·rename_i hq
   rw[hq];simp only;split at h
   ·rename_i cs hx
    rw[zc2 hA hx];exact h
   ·cases h
 ·cases h
theorem zrr {L:Lay}{st:VK}{s:VS} (hA:AgV st s) {i:TI}:∀{ps:List (Nat×Operand)}{cs cs':List AC},zsG L st i ps cs=some cs'→zig L s i ps cs=some cs'
 | [],_,_,h=>h
 | (f,x)::rest,cs,cs',h=>by
  unfold zsG at h;unfold zig;split at h
  ·rename_i off sz v hf hv
   rw[hf,zf0 hA hv];simp only[zaB,Bool.and_eq_true,zis,Nat.ble_eq] at h;simp only;rw[if_pos h.1];exact zrr hA h.2
  ·cases h
theorem zry {L:Lay}{st:VK}{s:VS} (hA:AgV st s) {k:Nat}:∀{ps:List (Nat×Operand)}{j:Nat}{r:List (List AC)},zsx L st k j ps=some r→zlB L s k j ps=some r
 | [],_,_,h=>h
 | (i,x)::rest,j,r,h=>by
  unfold zsx at h;unfold zlB;split at h
  ·rename_i v hv
   rw[zf0 hA hv];simp only[zaB,Bool.and_eq_true,zis,zzOm] at h;simp only;rw[if_pos h.1];obtain⟨_,r',h1,rfl⟩:=h;rw[zry hA h1];rfl
  ·cases h
theorem zmu {L:Lay}{st:VK}{s:VS} (hA:AgV st s):∀{xs:List Operand}{ts:List Nat}{r:List SV},znL L st xs ts=some r→ze4 L s xs ts=some r
 | [],[],_,h=>h
 | x::xs,t::ts,r,h=>by
  unfold znL at h;unfold ze4;simp only[zzOb,zaB,zzOm] at h ⊢;obtain⟨v,h1,h2,vs,h3,rfl⟩:=h;refine⟨v,zf0 hA h1,?_⟩
  rw[if_pos h2,zmu hA h3];rfl
 | [],_::_,_,h=>by cases h
 | _::_,[],_,h=>by cases h
theorem zfV {ρ:Type}{r:ρ}:∀(sh cs:List AC) (K:List AC→Option ρ),zi4 sh cs (zot sh K)=some r→K cs=some r
 | [],cs,K,h=>by
  unfold zi4 at h;split at h
  ·exact h
  ·cases h
 | .int _::sh,cs,K,h=>by
  unfold zi4 at h;split at h
  ·exact zfV sh _ (fun c=>K (.int _::c)) h
  ·cases h
 | .bool _::sh,cs,K,h=>by
  unfold zi4 at h;split at h
  ·exact zfV sh _ (fun c=>K (.bool _::c)) h
  ·cases h
 | .sl k _::sh,cs,K,h=>by
  unfold zi4 at h;split at h
  ·simp only[zaB,zis] at h
   obtain⟨rfl,h⟩:=h;exact zfV sh _ (fun c=>K (.sl _ _::c)) h
  ·cases h
theorem zjF:∀{fs:List Form}{vs:List SV},zk6 fs vs=true→zfu fs (vs.flatMap SV.cells)=vs
 | [],[],_=>rfl
 | [],_::_,h=>by cases h
 | _::_,[],h=>by cases h
 | (true,sh)::fs,.agg cs::vs,h=>by
  simp only[zk6,zwI,Bool.and_eq_true,zis] at h;simp only[zfu,List.flatMap_cons,SV.cells,h.1.symm,List.take_left,List.drop_left,zjF h.2]
 | (false,sh)::fs,.cell c::vs,h=>by
  simp only[zk6,zwI,Bool.and_eq_true,zis] at h;simp only[zfu,List.flatMap_cons,SV.cells,h.1,List.headD,List.cons_append,List.nil_append,List.drop_succ_cons,List.drop_zero,zjF h.2]
 | (true,_)::_,.cell _::_,h=>by cases h
 | (false,_)::_,.agg _::_,h=>by cases h
theorem zqD {ρ:Type}{x:Option AV}{tup:Bool}{fs:List Form}{k:AV→Option ρ}{r:ρ} (h:zaz x tup fs (zot (zaW fs) fun cs=>k (zrG tup (zfu fs cs)))=some r):∃v,x=some v∧k v=some r:=by
 unfold zaz at h;split at h
 ·rename_i v
  simp only[zaB,Bool.and_eq_true,Bool.not_eq_true'] at h;obtain⟨⟨rfl,h1⟩,h2⟩:=h;refine⟨_,rfl,?_⟩
  have h3:=zfV _ _ _ h2
  have h4:=zjF h1
  simp only[List.flatMap_cons,List.flatMap_nil,List.append_nil] at h4;rw[h4] at h3;exact h3
 ·rename_i vs
  simp only[zaB,Bool.and_eq_true] at h;obtain⟨⟨rfl,h1⟩,h2⟩:=h;refine⟨_,rfl,?_⟩
  have h3:=zfV _ _ _ h2
  rw[zjF h1] at h3;exact h3
 ·cases h
theorem zAA {ρ:Type}{op:BinOp}{a b:Int}{K:AC→Option ρ}{r:ρ} (h:zB2 op a b K=some r):∃c,zuj op a b=some c∧K c=some r:=by
 unfold zB2 at h;split at h
 ·unfold zqk at h
  rcases hb:(b==0) with _|_
  ·rw[hb] at h
   exact⟨_,by unfold zuj;simp only;rw[if_neg (by simpa using hb)],h⟩
  ·rw[hb] at h;cases h
 ·unfold zCY at h
  rcases hb:(b==0) with _|_
  ·rw[hb] at h
   exact⟨_,by unfold zuj;simp only;rw[if_neg (by simpa using hb)],h⟩
  ·rw[hb] at h;cases h
 ·simp only[zzOb] at h
  exact h
theorem zst {o:Oper}{st:VK}{ρ:Type}{k:VK→Option ρ}{r:ρ}{s:VS} (h:zk9 X o st k=some r) (hA:AgV st s) (hn:s.σ.length=X.fn.ntmps) (hd:dOk X o=true) :
  ∃s' st',zaK X.L (V X.P X.L X.F X.E) o s=some s'∧AgV st' s'∧s'.σ.length=s.σ.length∧k st'=some r:=by
 have hd':∀e,o.dst=some e→e<s.σ.length:=fun e he=>by
  unfold dOk at hd;rw[he] at hd;simp only[Nat.blt_eq] at hd;rw[hn];exact hd
 have fin:∀x,k (st.put o.dst x)=some r→zaK X.L (V X.P X.L X.F X.E) o s=some (s.put o.dst x)→∃s' st',zaK X.L (V X.P X.L X.F X.E) o s=some s'∧AgV st' s'∧s'.σ.length=s.σ.length∧k st'=some r :=
  fun x hk hv=>⟨_,_,hv,zlN hA hd',zgb _ _ _,hk⟩
 have finP:∀(d:Nat) (p:Ptr),o.dst=some d→k {o:=(d,.und)::st.o,pe:=(d,p)::(st.put (some d) .und).pe}=some r→zaK X.L (V X.P X.L X.F X.E) o s=some {(s.put (some d) .und) with pe:=(d,p)::(s.put (some d) .und).pe}→∃s' st',zaK X.L (V X.P X.L X.F X.E) o s=some s'∧AgV st' s'∧s'.σ.length=s.σ.length∧k st'=some r:=by
  intro d p hdd hk hv;refine⟨_,_,hv,⟨zmN hA.1 (hd' d hdd),?_⟩,by simp[VS.put],hk⟩
  simp only[VS.put,VK.put,hA.2]
 unfold zk9 at h;split at h <;> (try simp only[zzOb,zaB,Bool.and_eq_true,zis,Nat.ble_eq,Nat.blt_eq] at h)
 ·rename_i x hop
  obtain⟨v,hv,hk⟩:=h;exact fin _ hk (by simp only[zaK,hop,zv3 hA hv,Option.map_some])
 ·rename_i x hop
  obtain⟨v,hv,hk⟩:=h;exact fin _ hk (by simp only[zaK,hop,zv3 hA hv,Option.map_some])
 ·rename_i c a b hop
  obtain⟨t,ht,h⟩:=h;cases t
  ·simp only[cond_false,zzOb] at h
   obtain⟨v,hv,hk⟩:=h;exact fin _ hk (by simp only[zaK,hop,zhZ hA ht,zf0 hA hv,Option.map_some,Option.bind_some,Bool.false_eq_true,if_false])
  ·simp only[cond_true,zzOb] at h
   obtain⟨v,hv,hk⟩:=h;exact fin _ hk (by simp only[zaK,hop,zhZ hA ht,zf0 hA hv,Option.map_some,Option.bind_some,if_true])
 ·rename_i t hop
  obtain⟨i,hi,hk⟩:=h;exact fin _ hk (by simp only[zaK,hop,hi,Option.map_some])
 ·rename_i t x hop
  obtain⟨i,hi,v,hv,hl,hk⟩:=h;exact fin _ hk (by simp only[zaK,hop,hi,zf0 hA hv,Option.bind_some,hl,if_true])
 ·rename_i t ps hop
  obtain⟨i,hi,h3,cs,hb,hk⟩:=h;exact fin _ hk (by simp only[zaK,hop,hi,zrr hA hb,Option.bind_some,h3,if_true,Option.map_some])
 ·rename_i t n ps hop
  obtain⟨e,he,rr,hr,hc,hk⟩:=h;exact fin _ hk (by simp only[zaK,hop,he,zry hA hr,Option.bind_some];rw[if_pos ⟨hc.1.1.1,hc.1.1.2,by omega,hc.2⟩])
 ·rename_i t a hop
  obtain⟨i,hi,p,hp,h⟩:=h;split at h
  ·simp only[zaB,Nat.ble_eq,zzOb] at h
   obtain⟨hl,v,hv,hk⟩:=h;exact fin _ hk (by simp only[zaK,hop,hi,zhb hA hp,Option.bind_some,hl,if_true,hv,Option.map_some])
  ·split at h
   ·rename_i cs hx
    simp only[zaB,Nat.ble_eq,zzOb] at h;obtain⟨hl,v,hv,hk⟩:=h;exact fin _ hk (by simp only[zaK,hop,hi,zhb hA hp,Option.bind_some,zc2 hA hx,hl,if_true,hv,Option.map_some])
   ·cases h
  ·cases h
 ·rename_i t a x hop
  obtain⟨i,hi,p,hp,v,hv,h⟩:=h;split at h
  ·rename_i d off
   split at h
   ·rename_i cs hx
    simp only[zaB,Nat.ble_eq,Nat.blt_eq,zis,Bool.and_eq_true] at h;obtain⟨hc,hk⟩:=h;refine⟨{s with σ:=s.σ.set d (.box (zbY cs off v.cells))},{st with o:=(d,.box (zbY cs off v.cells))::st.o},?_,⟨zmN hA.1 (by rw[hn];exact hc.2),hA.2⟩,by simp,hk⟩
    simp only[zaK,hop,hi,zhb hA hp,zf0 hA hv,Option.bind_some,zc2 hA hx];rw[if_pos hc.1]
   ·cases h
  ·cases h
 ·rename_i op _ x y _ hop
  split at h
  ·rename_i a ha
   simp only[zzOb,zaB,zis] at h;obtain⟨i,hi,h1,b,hb,c,hc,hk⟩:=h;exact fin _ hk (by simp only[zaK,hop,zhZ hA ha,hi,h1,if_true,zhZ hA hb,hc,Option.bind_some,Option.map_some])
  ·simp only[zzOb] at h
   obtain⟨a,ha,b,hb,h⟩:=h;obtain⟨c,hc,hk⟩:=zAA h;exact fin _ hk (by simp only[zaK,hop,ztm (zdu hA ha),zdu hA ha,zdu hA hb,hc,Option.bind_some,Option.map_some])
 ·rename_i _ x hop
  obtain⟨b,hb,hk⟩:=h;exact fin _ hk (by simp only[zaK,hop,zhZ hA hb,Option.map_some])
 ·rename_i t x f hop
  obtain⟨i,hi,p,hp,fo,hf,h⟩:=h;split at h
  ·rename_i d hdd
   simp only[zaB,Bool.and_eq_true,Bool.not_eq_true',zis] at h;obtain⟨hc,hk⟩:=h;refine finP d _ hdd hk ?_
   simp only[zaK,hop,hi,zhb hA hp,hf,Option.bind_some,hdd];rw[if_pos ⟨hd' d hdd,hc.1.1,hc.1.2,hc.2⟩];cases p <;> rfl
  ·cases h
 ·rename_i t x ix hop
  obtain⟨e,he,kr,hkr,n,hix,h⟩:=h;split at h
  ·rename_i d hdd
   simp only[zaB,zei,ztN,Bool.and_eq_true,decide_eq_true_eq,zis] at h;obtain⟨hc,⟨h0,h1⟩,hk⟩:=h;refine finP d _ hdd (zfV _ _ _ hk) ?_
   obtain⟨kk,rr⟩:=kr;simp only[zaK,hop,he,zgi hA hkr,zdu hA hix,Option.bind_some,hdd];rw[if_pos ⟨h0,h1,hc⟩,if_pos (hd' d hdd)]
  ·cases h
 ·rename_i t x lo hi hop
  obtain⟨e,he,kr,hkr,l,hl,hh,hhi,hc,hk⟩:=h;simp only[zti,zaB,decide_eq_true_eq] at hk;obtain⟨hb,hk⟩:=hk;obtain⟨kk,rr⟩:=kr;refine fin _ hk ?_
  cases lo with
  | none =>
   cases hi with
   | none =>
    cases hl;cases hhi;simp only[zaK,hop,he,zgi hA hkr,Option.bind_some];rw[if_pos ⟨hb.1,hb.2.1,hb.2.2,hc⟩]
   | some y =>
    cases hl;simp only[zaK,hop,he,zgi hA hkr,Option.bind_some,zdu hA hhi];rw[if_pos ⟨hb.1,hb.2.1,hb.2.2,hc⟩]
  | some z =>
   cases hi with
   | none =>
    cases hhi;simp only[zaK,hop,he,zgi hA hkr,Option.bind_some,zdu hA hl];rw[if_pos ⟨hb.1,hb.2.1,hb.2.2,hc⟩]
   | some y =>
    simp only[zaK,hop,he,zgi hA hkr,Option.bind_some,zdu hA hl,zdu hA hhi];rw[if_pos ⟨hb.1,hb.2.1,hb.2.2,hc⟩]
 ·rename_i t i hop
  split at h
  ·rename_i vs hx
   simp only[zzOb] at h;obtain⟨v,hv,hk⟩:=h;exact fin _ hk (by simp only[zaK,hop,zc2 hA hx,hv,Option.map_some])
  ·cases h
 ·rename_i t l c hop
  obtain⟨e,he,ll,hl,cc,hcc,h0,hk⟩:=h;simp only[zzA,zaB,decide_eq_true_eq] at hk;obtain⟨hb,hk⟩:=hk;exact fin _ hk (by simp only[zaK,hop,he,zdu hA hl,zdu hA hcc,Option.bind_some];rw[if_pos ⟨hb.1,hb.2.1,hb.2.2,by omega⟩])
 ·rename_i args ats hop
  split at h
  ·rename_i x hx
   simp only[zzOb,zaB,zis] at h;obtain⟨h1,e,he,kr,hkr,hk⟩:=h;obtain⟨kk,rr⟩:=kr;exact fin _ hk (by simp only[zaK,hop,hx,h1,if_true,he,zgi hA hkr,Option.bind_some,Option.map_some])
  ·cases h
 ·rename_i args ats hop
  split at h
  ·rename_i x y hx
   simp only[zzOb,zaB,zis,Bool.and_eq_true,Nat.blt_eq] at h;obtain⟨e,he,kr,hkr,kr',hkr',hc,hk⟩:=h;obtain⟨kk,rr⟩:=kr;obtain⟨kk',rr'⟩:=kr';simp only[ze8,zaB,decide_eq_true_eq] at hk;obtain⟨hb,hk⟩:=hk;refine fin _ hk ?_
   simp only[zaK,hop,hx,he,zgi hA hkr,zgi hA hkr',Option.bind_some];rw[if_pos ⟨hc.1.1.1.1,hc.1.1.1.2,hc.1.1.2,hc.1.2,by omega,hb⟩]
  ·cases h
 ·rename_i args ats hop
  split at h
  ·rename_i x y hx
   simp only[zzOb] at h;obtain⟨m,hm,n,hn,hk⟩:=h;exact fin _ hk (by simp only[zaK,hop,hx,zdu hA hm,zdu hA hn,Option.bind_some,Option.map_some])
  ·cases h
 ·rename_i f args ats hop
  obtain⟨vs,hvs,hk⟩:=h;obtain⟨v,hv,hk⟩:=zqD (k:=fun v=>k (st.put o.dst v)) hk
  exact fin _ hk (by simp only[zaK,hop,zmu hA hvs,Option.bind_some,hv,Option.map_some])
 ·cases h
theorem zga {st:VK}{s:VS} (hA:AgV st s) {x:Operand}{a:Nat×Nat×List (List AC)} (h:zps st x=some a):zg5 s x=some a:=by
 cases x with
 | const c=>cases h
 | global c=>cases h
 | func c=>cases h
 | tmp i =>
 simp only[zps] at h;simp only[zg5];unfold zgg;split at h
 ·rename_i k r hx
  rw[zc2 hA hx];exact h
 ·rename_i d hx
  rw[zc2 hA hx];simp only;split at h
  ·rename_i k r hd
   rw[zc2 hA hd];exact h
  ·cases h
 ·cases h
theorem zpV {L:Lay}{st:VK}{s:VS} (hA:AgV st s) {t:Nat}{x:Operand}{v:SV} (h:svK L st t x=some v):zg5 s x=none:=by
 unfold svK at h;split at h
 ·split at h
  ·rename_i i _ _ hx
   simp only[zg5];unfold zgg;rw[zc2 hA hx]
  ·cases h
 ·rfl
 ·cases h
theorem ztR {L:Lay}{st:VK}{s:VS} (hA:AgV st s) {t:Nat}{x:Operand}{v:AV} (h:mvK L st t x=some v):zg5 s x=none:=by
 cases x with
 | tmp i =>
  simp only[mvK] at h;split at h
  ·rename_i hx
   simp only[zg5];unfold zgg;rw[zc2 hA hx]
  ·rename_i hx
   simp only[zg5];unfold zgg;rw[zc2 hA hx]
  ·cases h
 | _=>rfl
theorem zqq {L:Lay}{st:VK}{s:VS} (hA:AgV st s) {t:Nat}{x:Operand}{kr:Nat×List (List AC)} (h:zmp L st t x=some kr):zg5 s x=none:=by
 unfold zmp at h;split at h
 ·rename_i hx;exact zpV hA hx
 ·cases h
theorem zp3 {L:Lay}{st:VK}{s:VS} (hA:AgV st s):∀{xs:List Operand}{ts:List Nat}{r:List SV},znL L st xs ts=some r→xs.any (fun x=>(zg5 s x).isSome)=false
 | [],[],_,_=>rfl
 | x::xs,t::ts,r,h=>by
  unfold znL at h;simp only[zzOb,zaB,zzOm] at h;obtain⟨v,h1,h2,vs,h3,rfl⟩:=h;rw[List.any_cons,zpV hA h1,zp3 hA h3];rfl
 | [],_::_,_,h=>by cases h
 | _::_,[],_,h=>by cases h
theorem zAG {L:Lay}{st:VK}{s:VS} (hA:AgV st s) {t:Nat}{x:Operand}{v:SV} (h:zBm L st t x=some v):svA L s t x=some v:=by
 unfold zBm at h;unfold svA;split at h
 ·rename_i hx
  rw[zga hA hx];exact h
 ·rw[zpV hA h]
  exact zf0 hA h
theorem zq7 {L:Lay}{st:VK}{s:VS} (hA:AgV st s):∀{xs:List Operand}{ts:List Nat}{r:List SV},zrR L st xs ts=some r→zp5 L s xs ts=some r
 | [],[],_,h=>h
 | x::xs,t::ts,r,h=>by
  unfold zrR at h;unfold zp5;simp only[zzOb,zaB,zzOm] at h ⊢;obtain⟨v,h1,h2,vs,h3,rfl⟩:=h;refine⟨v,zAG hA h1,?_⟩
  rw[if_pos h2,zq7 hA h3];rfl
 | [],_::_,_,h=>by cases h
 | _::_,[],_,h=>by cases h
theorem zuU {st:VK}{s:VS} (hA:AgV st s) {x:Operand}{p:Ptr} (h:zsn st x=some p):zvB s x=zvc st x:=by
 unfold zvB zvc;rw[zhb hA h,h];cases p <;> rfl
theorem zw3 {o:Oper}{st:VK}{ρ:Type}{k:VK→Option ρ}{r:ρ}{s:VS} (h:zk9 X o st k=some r) (hi:zlM X o st=false) (hA:AgV st s):ze5 X.L o s=false:=by
 unfold zlM at hi;unfold ze5;split at hi
 ·rename_i x hop
  simp only[hop];simp only[zk9,hop,zzOb] at h;obtain⟨v,hv,_⟩:=h;rw[ztR hA hv];rfl
 ·rename_i x hop
  simp only[hop];simp only[zk9,hop,zzOb] at h;obtain⟨v,hv,_⟩:=h;rw[ztR hA hv];rfl
 ·rename_i t x hop
  simp only[hop];simp only[zk9,hop,zzOb] at h;obtain⟨_,_,p,hp,_⟩:=h;rw[zuU hA hp];exact hi
 ·rename_i t x v hop
  simp only[hop];simp only[zk9,hop,zzOb] at h;obtain⟨_,_,p,hp,_⟩:=h;rw[zuU hA hp];exact hi
 ·rename_i t x ix hop
  simp only[hop];simp only[zk9,hop,zzOb] at h;obtain⟨_,_,kr,hkr,_⟩:=h;rw[zqq hA hkr];rfl
 ·rename_i t x y hop
  simp only[hop];exact hi
 ·rename_i args ats hop
  simp only[hop];simp only[zk9,hop] at h;split at h
  ·rename_i x hx
   simp only[zaB,zzOb] at h;obtain⟨_,_,_,kr,hkr,_⟩:=h;rw[hx,List.any_cons,zqq hA hkr];rfl
  ·cases h
 ·rename_i f args ats hop
  simp only[hop];simp only[zk9,hop,zzOb] at h;obtain⟨vs,hvs,_⟩:=h;simp only[Bool.or_eq_false_iff] at hi;rw[zp3 hA hvs,hi.1];rfl
 ·rename_i h1 h2 h3 h4 h5 h6 h7 h8
  split <;> first|rfl|(rename_i hop;first|exact absurd hop (h1 _)|exact absurd hop (h2 _)|exact absurd hop (h3 _ _)|exact absurd hop (h4 _ _ _)|exact absurd hop (h5 _ _ _)|exact absurd hop (h6 _ _ _)|exact absurd hop (h7 _ _)|exact absurd hop (h8 _ _ _))
theorem zw5 {ρ:Type}{x:Option AV}{tup:Bool}{fs:List Form}{k:AV→Option ρ}{r:ρ} (h:zxy x tup fs (zot (zaW fs) fun cs=>k (zrG tup (zfu fs cs)))=some r):∃v,x=some v∧zqA v=true∧k v=some r:=by
 unfold zxy at h;split at h
 ·rw[zaB] at h
  obtain⟨h1,h2⟩:=h;obtain⟨v,hv,hk⟩:=zqD h2;cases hv;exact⟨_,rfl,h1,hk⟩
 ·cases h
theorem zxw {ρ:Type}{x:Option AV}{kk:Nat}{k:List (List AC)→Option ρ}{r:ρ} (h:zwP x kk k=some r):∃rows,x=some (.v (.cell (.sl kk rows)))∧apR kk rows=true∧k rows=some r:=by
 unfold zwP at h;split at h
 ·rw[zaB] at h
  simp only[Bool.and_eq_true,zis] at h;obtain⟨⟨rfl,h1⟩,h2⟩:=h;exact⟨_,rfl,h1,h2⟩
 ·cases h
theorem zzE {st:VK}{s:VS} (hA:AgV st s) {xs:List Operand} (h:xs.any (fun x=>(zps st x).isSome)=true):xs.any (fun x=>(zg5 s x).isSome)=true:=by
 rw[List.any_eq_true] at h ⊢;obtain⟨x,hx,h⟩:=h;obtain⟨a,ha⟩:=Option.isSome_iff_exists.1 h;exact⟨x,hx,by rw[zga hA ha];rfl⟩
theorem zzz {o:Oper}{st:VK}{ρ:Type}{k:VK→Option ρ}{r:ρ}{s:VS} (h:zBR X o st k=some r) (hia:zlM X o st=true) (hA:AgV st s) (hn:s.σ.length=X.fn.ntmps) (hd:dOk X o=true) :
  ∃s' st',(ze5 X.L o s=true∧zfI X.L (V X.P X.L X.F X.E) o s=some s')∧AgV st' s'∧s'.σ.length=s.σ.length∧k st'=some r:=by
 have hd':∀e,o.dst=some e→e<s.σ.length:=fun e he=>by
  unfold dOk at hd;rw[he] at hd;simp only[Nat.blt_eq] at hd;rw[hn];exact hd
 have fin:∀x,k (st.put o.dst x)=some r→ze5 X.L o s=true∧zfI X.L (V X.P X.L X.F X.E) o s=some (s.put o.dst x)→∃s' st',(ze5 X.L o s=true∧zfI X.L (V X.P X.L X.F X.E) o s=some s')∧AgV st' s'∧s'.σ.length=s.σ.length∧k st'=some r :=
  fun x hk hv=>⟨_,_,hv,zlN hA hd',zgb _ _ _,hk⟩
 have finP:∀(d:Nat) (p:Ptr),o.dst=some d→k {o:=(d,.und)::st.o,pe:=(d,p)::(st.put (some d) .und).pe}=some r→ze5 X.L o s=true∧zfI X.L (V X.P X.L X.F X.E) o s=some {(s.put (some d) .und) with pe:=(d,p)::(s.put (some d) .und).pe}→∃s' st',(ze5 X.L o s=true∧zfI X.L (V X.P X.L X.F X.E) o s=some s')∧AgV st' s'∧s'.σ.length=s.σ.length∧k st'=some r:=by
  intro d p hdd hk hv;refine⟨_,_,hv,⟨zmN hA.1 (hd' d hdd),?_⟩,by simp[VS.put],hk⟩
  simp only[VS.put,VK.put,hA.2]
 unfold zBR at h;split at h <;> (try simp only[zzOb] at h)
 ·rename_i x hop
  obtain⟨⟨d0,kk,rr⟩,ha,h⟩:=h;split at h
  ·rename_i d hdd
   simp only[zaB,Bool.not_eq_true',←Bool.not_eq_true,zis] at h;obtain⟨hne,hk⟩:=h;rw[←hdd] at hk;refine fin _ hk ⟨by simp only[ze5,hop,zga hA ha,Option.isSome_some],?_⟩
   simp only[zfI,hop,zga hA ha,Option.bind_some,hdd];rw[if_pos hne]
  ·cases h
 ·rename_i x hop
  obtain⟨⟨d0,kk,rr⟩,ha,h⟩:=h;split at h
  ·rename_i d hdd
   simp only[zaB,Bool.not_eq_true',←Bool.not_eq_true,zis] at h;obtain⟨hne,hk⟩:=h;rw[←hdd] at hk;refine fin _ hk ⟨by simp only[ze5,hop,zga hA ha,Option.isSome_some],?_⟩
   simp only[zfI,hop,zga hA ha,Option.bind_some,hdd];rw[if_pos hne]
  ·cases h
 ·rename_i t a hop
  obtain⟨i,hi,p,hp,h⟩:=h;split at h
  ·rename_i d0 kk n j
   split at h
   ·rename_i k' rr hx
    simp only[zaB,Bool.and_eq_true,zis,Nat.ble_eq,elR,Nat.blt_eq] at h;obtain⟨⟨rfl,hj⟩,hlt,h⟩:=h;have h:=zfV _ _ (fun cs=>(mkV i cs).bind fun v=>k (st.put o.dst (.v v))) h
    simp only[zzOb] at h;obtain⟨v,hv,hk⟩:=h;refine fin _ hk ⟨by simp only[ze5,hop,zvB,zhb hA hp],?_⟩
    simp only[zfI,hop,hi,zhb hA hp,Option.bind_some,zc2 hA hx];rw[if_pos ⟨trivial,hlt,hj⟩,hv];rfl
   ·cases h
  ·cases h
 ·rename_i t a x hop
  obtain⟨i,hi,p,hp,v,hv,h⟩:=h;split at h
  ·rename_i d0 kk n j
   split at h
   ·rename_i k' rr hx
    simp only[zaB,Bool.and_eq_true,zis,Nat.ble_eq,zCA,Nat.blt_eq] at h;obtain⟨⟨⟨⟨rfl,hj⟩,hl⟩,hd0⟩,hlt,hk⟩:=h;refine⟨{s with σ:=s.σ.set d0 (.arr kk (rr.set n (zbY (rr.getD n []) j v.cells)))},{st with o:=(d0,.arr kk (rr.set n (zbY (rr.getD n []) j v.cells)))::st.o},⟨by simp only[ze5,hop,zvB,zhb hA hp],?_⟩,⟨zmN hA.1 (by rw[hn];exact hd0),hA.2⟩,by simp,hk⟩
    simp only[zfI,hop,hi,zhb hA hp,zf0 hA hv,Option.bind_some,zc2 hA hx];rw[if_pos ⟨trivial,hlt,hj,hl⟩]
   ·cases h
  ·cases h
 ·rename_i t x ix hop
  obtain⟨e,he,⟨d0,kk,rr⟩,ha,n,hn',h⟩:=h;split at h
  ·rename_i d hdd
   simp only[zaB,Bool.and_eq_true,zis,Bool.not_eq_true',←Bool.not_eq_true,zC0,ztN,decide_eq_true_eq] at h;obtain⟨⟨rfl,hne⟩,⟨h0,h1⟩,hk⟩:=h;refine finP d _ hdd hk ⟨by simp only[ze5,hop,zga hA ha,Option.isSome_some],?_⟩
   simp only[zfI,hop,he,zga hA ha,zdu hA hn',Option.bind_some,hdd];rw[if_pos ⟨h0,h1,trivial⟩,if_pos ⟨hd' d hdd,hne⟩]
  ·cases h
 ·rename_i t l c hop
  obtain⟨e,he,ll,hl,cc,hcc,h⟩:=h;split at h
  ·rename_i d hdd
   simp only[zaB,Bool.and_eq_true,Nat.blt_eq,zzA,decide_eq_true_eq] at h;obtain⟨⟨hpos,hz⟩,hb,hk⟩:=h;rw[←hdd] at hk;refine fin _ hk ⟨by simpa only [ze5,hop,zlM] using hia,?_⟩
   simp only[zfI,hop,he,zdu hA hl,zdu hA hcc,Option.bind_some,hdd];rw[if_pos ⟨hb.1,hb.2.1,hb.2.2,hpos,hz⟩]
  ·cases h
 ·rename_i args ats hop
  split at h
  ·rename_i x hx
   simp only[zzOb,zaB,zis] at h;obtain⟨h1,e,he,⟨d0,kk,rr⟩,ha,hk⟩:=h;refine fin _ hk ⟨by simp only[ze5,hop,hx,List.any_cons,zga hA ha,Option.isSome_some,Bool.true_or],?_⟩
   simp only[zfI,hop,hx,h1,if_true,he,zga hA ha,Option.bind_some,Option.map_some]
  ·cases h
 ·rename_i f args ats hop
  have hia':ze5 X.L o s=true:=by
   simp only[zlM,hop,Bool.or_eq_true] at hia;simp only[ze5,hop,Bool.or_eq_true];exact hia.imp (fun h=>h) (zzE hA)
  rcases hh:X.L.home (f+1) o.dst with _|_
  ·rw[hh] at h
   simp only[cond_false,zaB,zzOb] at h;obtain⟨hl,vs,hvs,hk⟩:=h;obtain⟨v,hv,hf,hk⟩:=zw5 (k:=fun v=>k (st.put o.dst v)) hk
   refine fin _ hk ⟨hia',?_⟩
   simp only[zfI,hop,hh,Bool.false_eq_true,if_false,hl,if_true,zq7 hA hvs,Option.bind_some,hv,hf]
  ·rw[hh] at h
   simp only[cond_true,zzOb] at h;obtain⟨vs,hvs,e,he,h⟩:=h;split at h
   ·rename_i d hdd
    simp only[zaB,Nat.blt_eq] at h;obtain⟨hpos,h⟩:=h;obtain⟨rows,hv,hf,hk⟩:=zxw h;rw[←hdd] at hk;refine fin _ hk ⟨hia',?_⟩
    simp only[zfI,hop,hh,if_true,zmu hA hvs,Option.bind_some,hv,he];split
    ·rename_i d2 hd2
     rw[hdd] at hd2;cases hd2;rw[hdd,if_pos ⟨trivial,hf,hpos⟩]
    ·rename_i hd2
     rw[hdd] at hd2;cases hd2
   ·cases h
 ·cases h
theorem zxQ {o:Oper}{st:VK}{ρ:Type}{k:VK→Option ρ}{r:ρ}{s:VS} (h:opK X o st k=some r) (hA:AgV st s) (hn:s.σ.length=X.fn.ntmps) (hd:dOk X o=true) :
  ∃s' st',vop X.L (V X.P X.L X.F X.E) o s=some s'∧AgV st' s'∧s'.σ.length=s.σ.length∧k st'=some r:=by
 unfold opK at h;rcases hi:zlM X o st with _|_
 ·rw[hi] at h
  simp only[cond_false] at h;obtain⟨s',st',h1,h2,h3,h4⟩:=zst h hA hn hd;refine⟨s',st',?_,h2,h3,h4⟩
  unfold vop;rw[zw3 h hi hA];exact h1
 ·rw[hi] at h
  simp only[cond_true] at h;obtain⟨s',st',⟨h0,h1⟩,h2,h3,h4⟩:=zzz h hi hA hn hd;refine⟨s',st',?_,h2,h3,h4⟩
  unfold vop;rw[h0];exact h1
theorem zoT {all:List Oper}{k:VK→Option AV}{r:AV}:∀{ops:List Oper}{st:VK}{s:VS},zor X all ops st k=some r→AgV st s→s.σ.length=X.fn.ntmps →
  ∃s' st',ziW X.L (V X.P X.L X.F X.E) all ops s=some s'∧AgV st' s'∧s'.σ.length=s.σ.length∧k st'=some r
 | [],st,s,h,hA,_=>⟨s,st,rfl,hA,rfl,h⟩
 | o::rest,st,s,h,hA,hn=>by
  unfold zor at h;unfold ziW;rw[zaB] at h;obtain⟨hd,h⟩:=h;have hd':∀e,o.dst=some e→e<s.σ.length:=fun e he=>by
   unfold dOk at hd;rw[he] at hd;simp only[Nat.blt_eq] at hd;rw[hn];exact hd
  have skip:∀{st:VK},zor X all rest (st.put o.dst .und) k=some r→AgV st s→∃s' st',ziW X.L (V X.P X.L X.F X.E) all rest (s.put o.dst .und)=some s'∧AgV st' s'∧s'.σ.length=s.σ.length∧k st'=some r:=by
   intro st h hA;obtain⟨s',st',h1,h2,h3,h4⟩:=zoT h (zlN hA hd') (by rw[zgb];exact hn)
   exact⟨s',st',h1,h2,by rw[h3,zgb],h4⟩
  have take:∀{st:VK},opK X o st (fun st'=>zor X all rest st' k)=some r→AgV st s→∃s' st',(vop X.L (V X.P X.L X.F X.E) o s).bind (ziW X.L (V X.P X.L X.F X.E) all rest)=some s'∧AgV st' s'∧s'.σ.length=s.σ.length∧k st'=some r:=by
   intro st h hA;obtain⟨s1,st1,h1,h2,h3,h4⟩:=zxQ h hA hn hd;obtain⟨s',st',h5,h6,h7,h8⟩:=zoT h4 h2 (by rw[h3];exact hn)
   exact⟨s',st',by rw[h1];exact h5,h6,by rw[h7,h3],h8⟩
  split at h
  ·rename_i hg
   rw[hg];exact take h hA
  ·rename_i g hg
   rw[hg];simp only;split at h
   ·rename_i og hog
    split at h
    ·rename_i d hdd
     split at h
     ·rename_i b hb
      have hgv:zck all s g=some (b==g.2):=by simp only[zck,hog,hdd,zc2 hA hb]
      rw[hgv,Option.bind_some];have hA':∀b',b'=b→AgV {st with o:=(d,.v (.cell (.bool b')))::st.o} s:=fun b' hb'=>⟨fun i x hx=>by
       rw[zcT] at hx;split at hx
       ·rename_i e
        subst e;cases hx;rw[hb'];exact hA.1 _ _ hb
       ·exact hA.1 _ _ hx,hA.2⟩
      cases b
      ·simp only[cond_false] at h
       rcases hq:(false==g.2) with _|_
       ·rw[hq] at h
        simp only[cond_false] at h;simp only[Bool.false_eq_true,if_false,Option.bind_some];exact skip h (hA' _ rfl)
       ·rw[hq] at h
        simp only[cond_true] at h;simp only[if_true];exact take h (hA' _ rfl)
      ·simp only[cond_true] at h
       rcases hq:(true==g.2) with _|_
       ·rw[hq] at h
        simp only[cond_false] at h;simp only[Bool.false_eq_true,if_false,Option.bind_some];exact skip h (hA' _ rfl)
       ·rw[hq] at h
        simp only[cond_true] at h;simp only[if_true];exact take h (hA' _ rfl)
     ·rename_i hb
      have hgv:zck all s g=some false:=by simp only[zck,hog,hdd,zc2 hA hb]
      rw[hgv,Option.bind_some];simp only[Bool.false_eq_true,if_false,Option.bind_some];exact skip h hA
     ·cases h
    ·cases h
   ·cases h
theorem zlU {all:List Oper}{k:VK→Option AV}{r:AV}:∀{ops:List Oper}{st:VK}{s:VS},zjX X all ops st k=some r→AgV st s→s.σ.length=X.fn.ntmps →
  ∃s' st',zdC X.L (V X.P X.L X.F X.E) all ops s=some s'∧AgV st' s'∧s'.σ.length=s.σ.length∧k st'=some r
 | [],st,s,h,hA,_=>⟨s,st,rfl,hA,rfl,h⟩
 | o::rest,st,s,h,hA,hn=>by
  unfold zjX at h;unfold zdC;rw[zaB] at h;obtain⟨hd,h⟩:=h;have hd':∀e,o.dst=some e→e<s.σ.length:=fun e he=>by
   unfold dOk at hd;rw[he] at hd;simp only[Nat.blt_eq] at hd;rw[hn];exact hd
  have skip:∀{st:VK},zjX X all rest (st.put o.dst .und) k=some r→AgV st s→∃s' st',zdC X.L (V X.P X.L X.F X.E) all rest (s.put o.dst .und)=some s'∧AgV st' s'∧s'.σ.length=s.σ.length∧k st'=some r:=by
   intro st h hA;obtain⟨s',st',h1,h2,h3,h4⟩:=zlU h (zlN hA hd') (by rw[zgb];exact hn)
   exact⟨s',st',h1,h2,by rw[h3,zgb],h4⟩
  have take:∀{st:VK},zk9 X o st (fun st'=>zjX X all rest st' k)=some r→AgV st s→∃s' st',(zaK X.L (V X.P X.L X.F X.E) o s).bind (zdC X.L (V X.P X.L X.F X.E) all rest)=some s'∧AgV st' s'∧s'.σ.length=s.σ.length∧k st'=some r:=by
   intro st h hA;obtain⟨s1,st1,h1,h2,h3,h4⟩:=zst h hA hn hd;obtain⟨s',st',h5,h6,h7,h8⟩:=zlU h4 h2 (by rw[h3];exact hn)
   exact⟨s',st',by rw[h1];exact h5,h6,by rw[h7,h3],h8⟩
  split at h
  ·rename_i hg
   rw[hg];exact take h hA
  ·rename_i g hg
   rw[hg];simp only;split at h
   ·rename_i og hog
    split at h
    ·rename_i d hdd
     split at h
     ·rename_i b hb
      have hgv:zck all s g=some (b==g.2):=by simp only[zck,hog,hdd,zc2 hA hb]
      rw[hgv,Option.bind_some];have hA':∀b',b'=b→AgV {st with o:=(d,.v (.cell (.bool b')))::st.o} s:=fun b' hb'=>⟨fun i x hx=>by
       rw[zcT] at hx;split at hx
       ·rename_i e
        subst e;cases hx;rw[hb'];exact hA.1 _ _ hb
       ·exact hA.1 _ _ hx,hA.2⟩
      cases b
      ·simp only[cond_false] at h
       rcases hq:(false==g.2) with _|_
       ·rw[hq] at h
        simp only[cond_false] at h;simp only[Bool.false_eq_true,if_false,Option.bind_some];exact skip h (hA' _ rfl)
       ·rw[hq] at h
        simp only[cond_true] at h;simp only[if_true];exact take h (hA' _ rfl)
      ·simp only[cond_true] at h
       rcases hq:(true==g.2) with _|_
       ·rw[hq] at h
        simp only[cond_false] at h;simp only[Bool.false_eq_true,if_false,Option.bind_some];exact skip h (hA' _ rfl)
       ·rw[hq] at h
        simp only[cond_true] at h;simp only[if_true];exact take h (hA' _ rfl)
     ·rename_i hb
      have hgv:zck all s g=some false:=by simp only[zck,hog,hdd,zc2 hA hb]
      rw[hgv,Option.bind_some];simp only[Bool.false_eq_true,if_false,Option.bind_some];exact skip h hA
     ·cases h
    ·cases h
   ·cases h
theorem zu6:∀{o:Ov}{s:List AV},AgO o s→AgO (zrb o) (zit s)
 | [],_,_=>fun _ _ h=>by cases h
 | (i,x)::r,s,h=>by
  have key:∀(y:Option AV),(y.map fun x=>if zbH x then AV.al zbK else x).getD .und=(bif zbH (y.getD .und) then .al zbK else y.getD .und):=fun y=>by
   cases y with
   | none=>rfl
   | some z =>
    simp only[Option.map_some,Option.getD_some];cases zbH z <;> rfl
  have hget:∀j,(zit s).getD j .und=bif zbH (s.getD j .und) then .al zbK else s.getD j .und:=fun j=>by
   rw[List.getD_eq_getElem?_getD,List.getD_eq_getElem?_getD,zit,List.getElem?_map];exact key _
  have hat:∀(o:Ov) (j:Nat),(zrb o).at j=(o.at j).map fun x=>bif zbH x then .al zbK else x:=by
   intro o;induction o with
   | nil=>intro j;rfl
   | cons e o ih =>
    intro j;obtain⟨a,x⟩:=e;simp only[zrb,zcT];split
    ·rfl
    ·exact ih j
  intro j y hy;rw[hat] at hy;simp only[zzOm] at hy;obtain⟨z,hz,rfl⟩:=hy;rw[hget,h j z hz]
theorem zsE (i:Nat):∀(o:Ov) (j:Nat) {y:AV},(zsO i o).at j=some y→j≠i∧o.at j=some y
 | [],_,_,h=>by cases h
 | (k,x)::r,j,y,h=>by
  unfold zsO at h;rcases hk:Nat.beq k i with _|_
  ·rw[hk,cond_false,zcT] at h
   rw[zcT];split at h
   ·rename_i e
    subst e;refine⟨fun e=>?_,by rw[if_pos rfl];exact h⟩
    subst e;simp at hk
   ·rename_i e
    rw[if_neg e];exact zsE i r j h
  ·rw[hk,cond_true] at h
   obtain⟨h1,h2⟩:=zsE i r j h;refine⟨h1,?_⟩
   rw[zcT,if_neg (fun e=>h1 (by rw[←e];exact Nat.eq_of_beq_eq_true hk))]
   exact h2
theorem zrV {o:Ov}{s:List AV} (h:AgO o s):∀(l:Ov) (j:Nat) {y:AV},(zlj o l).at j=some y→∃x,l.at j=some x∧zey s x=y
 | [],_,_,h=>by cases h
 | (i,x)::r,j,y,hy=>by
  have same:∀z,(Ov.at ((i,z)::zlj o r) j=some y)→zey s x=z→∃x',Ov.at ((i,x)::r) j=some x'∧zey s x'=y:=fun z hz hv=>by
   rw[zcT] at hz ⊢;split at hz
   ·rename_i e
    rw[if_pos e];cases hz;exact⟨x,rfl,hv⟩
   ·rename_i e
    rw[if_neg e];exact zrV h r j hz
  unfold zlj at hy;split at hy
  ·exact same _ hy rfl
  ·rename_i d
   split at hy
   ·rename_i k rows hd
    exact same _ hy (by simp only[zey,h d _ hd])
   ·rename_i z hne hd
    refine same _ hy ?_
    have hd':=h d _ hd
    cases z with
    | arr k r'=>exact absurd rfl (hne k r')
    | _=>simp only[zey,hd']
   ·obtain⟨h1,h2⟩:=zsE i _ j hy
    obtain⟨x',g1,g2⟩:=zrV h r j h2;refine⟨x',?_,g2⟩
    rw[zcT,if_neg (fun e=>h1 e.symm)]
    exact g1
  ·rename_i hn1 hn2
   refine same _ hy ?_
   cases x with
   | arr k r=>exact absurd rfl (hn1 k r)
   | al d=>exact absurd rfl (hn2 d)
   | _=>rfl
theorem zvs (s:List AV) (j:Nat):(zjg s).getD j .und=zey s (s.getD j .und):=by
 simp only[zjg,List.getD,List.getElem?_map];cases s[j]? <;> rfl
theorem zk1 {f:Nat→AV→Option AV}:∀{l l2:List AV}{n:Nat},zjR f n l=some l2→l2.length=l.length∧∀i x,l[i]?=some x→∃y,l2[i]?=some y∧f (n+i) x=some y
 | [],l2,n,h=>by cases h;exact⟨rfl,fun i x hx=>by simp at hx⟩
 | z::l,l2,n,h=>by
  simp only[zjR,zzOb,zzOm] at h;obtain⟨y,h1,ys,h2,rfl⟩:=h;obtain⟨h3,h4⟩:=zk1 h2;refine⟨by simp[h3],fun i x hx=>?_⟩
  cases i with
  | zero=>simp at hx;subst hx;exact⟨y,rfl,h1⟩
  | succ i =>
   obtain⟨u,g1,g2⟩:=h4 i x (by simpa using hx)
   exact⟨u,by simpa using g1,by rw[show n+(i+1)=n+1+i by omega];exact g2⟩
theorem zyL {o:Ov}{s:List AV} (h:AgO o s):AgO (zlj o o) (zjg s):=fun j y hy=>by
 obtain⟨x,h1,h2⟩:=zrV h o j hy;rw[zvs,h j x h1];exact h2
theorem zs8 {L:List Nat}{core:List Oper}{o:Oper}{o0:Ov}{s:List AV} (h0:AgO o0 s) {st1:VK}{s1:VS} (h1:AgV st1 s1) {t:Nat} (hf:core.find? (zjY t)=some o) {y:AV} (h:zyd L o o0 st1.o t=some y) (x:AV):zd6 L core s s1 t x=some y:=by
 unfold zyd at h;unfold zd6;rw[hf];simp only;have plain:(match st1.o.at t with
   | some (.v (.cell c))=>bif zl5 c then some (.v (.cell c)) else some (.al zbK)
   | some .und=>some .und
   | _=>none)=some y→(match s1.get t with
   | .v (.cell c)=>if zl5 c then some (AV.v (.cell c)) else some (.al zbK)
   | .und=>some .und
   | _=>none)=some y:=fun h=>by
  split at h
  ·rename_i c hc
   have:=h1.1 t _ hc
   rw[show s1.get t=_ from this];simp only;rw[←Bool.cond_eq_ite];exact h
  ·rename_i hc
   have:=h1.1 t _ hc
   rw[show s1.get t=_ from this];exact h
  ·cases h
 split at h
 ·rename_i d z hm hg
  rw[hm,hg];simp only;split at h
  ·rename_i k r k' r' hz ht
   have hz:=h0 z _ hz
   rw[show zgg {σ:=s,pe:=[]} z=some (z,k,r) by simp only[zgg,VS.get,hz],show s1.get t=_ from h1.1 t _ ht]
   exact h
  ·rename_i e k' r' hz ht
   have hz:=h0 z _ hz
   split at h
   ·rename_i k r he
    have he:=h0 e _ he
    rw[show zgg {σ:=s,pe:=[]} z=some (e,k,r) by simp only[zgg,VS.get,hz,he],show s1.get t=_ from h1.1 t _ ht]
    exact h
   ·cases h
  ·cases h
 ·rename_i hneg
  split
  ·rename_i d z hm hg
   exact(hneg d z hm hg).elim
  ·exact plain h
theorem zxB {L:List Nat}{core:List Oper}{o0:Ov}{s:List AV} (h0:AgO o0 s) {st1:VK}{s1:VS} (h1:AgV st1 s1) {o2:Ov} (h:zpz L s.length core o0 st1.o core=some o2):∃σ2,zjR (zd6 L core s s1) 0 s=some σ2∧AgO o2 σ2:=by
 have hall:∀(l:List Oper) (o2:Ov),zpz L s.length core o0 st1.o l=some o2→∀o∈l,∀t,o.dst=some t→∃y,∀x,zd6 L core s s1 t x=some y:=by
  intro l;induction l with
  | nil=>intro o2 _ o ho;cases ho
  | cons a l ih =>
   intro o2 h o ho t ht;simp only[zpz,zzOb] at h;obtain⟨r,hr,h⟩:=h;rcases List.mem_cons.1 ho with rfl|ho
   ·rw[ht] at h
    simp only at h;split at h
    ·rename_i o' hf
     rw[zaB,zzOm] at h;obtain⟨_,y,hy,_⟩:=h;exact⟨y,fun x=>zs8 h0 h1 hf hy x⟩
    ·cases h
   ·exact ih r hr o ho t ht
 have hsome:∀t x,∃y,zd6 L core s s1 t x=some y:=fun t x=>by
  cases hf:core.find? (zjY t) with
  | none=>exact⟨x,by unfold zd6;rw[hf]⟩
  | some o =>
   have hd:o.dst=some t:=by
    have:=List.find?_some hf
    unfold zjY at this;split at this
    ·rename_i d hd
     rw[hd,Nat.eq_of_beq_eq_true this]
    ·cases this
   obtain⟨y,hy⟩:=hall core o2 h o (List.mem_of_find?_eq_some hf) t hd;exact⟨y,hy x⟩
 have hback:∀(l:List AV) (n:Nat),∃l2,zjR (zd6 L core s s1) n l=some l2:=by
  intro l;induction l with
  | nil=>intro n;exact⟨[],rfl⟩
  | cons x l ih =>
   intro n;obtain⟨y,hy⟩:=hsome n x;obtain⟨l2,hl2⟩:=ih (n+1);exact⟨y::l2,by simp only[zjR,hy,hl2,Option.bind_some,Option.map_some]⟩
 obtain⟨σ2,hσ⟩:=hback s 0;refine⟨σ2,hσ,?_⟩
 obtain⟨hl,hg⟩:=zk1 hσ;have hlen1:∀t,t<s.length→∀y,(∀x,zd6 L core s s1 t x=some y)→σ2.getD t .und=y:=fun t ht y hy=>by
  obtain⟨u,hu,hf⟩:=hg t s[t] (List.getElem?_eq_getElem ht);rw[Nat.zero_add,hy] at hf;cases hf;simp[List.getD,hu]
 have hunw:∀t,core.find? (zjY t)=none→σ2.getD t .und=s.getD t .und:=fun t hf=>by
  rcases Nat.lt_or_ge t s.length with ht|ht
  ·obtain⟨u,hu,hf'⟩:=hg t s[t] (List.getElem?_eq_getElem ht)
   unfold zd6 at hf';rw[Nat.zero_add,hf] at hf';cases hf';simp[List.getD,hu,ht]
  ·simp[List.getD,List.getElem?_eq_none ht,List.getElem?_eq_none (show σ2.length≤t by omega)]
 have key:∀(l:List Oper) (r:Ov),zpz L s.length core o0 st1.o l=some r→∀t y,r.at t=some y→(t<s.length∧∀x,zd6 L core s s1 t x=some y)∨((∀o∈l,o.dst≠some t)∧o0.at t=some y):=by
  intro l;induction l with
  | nil=>intro r hr t y hy;cases hr;exact .inr ⟨fun o ho=>(by cases ho),hy⟩
  | cons a l ih =>
   intro r hr t y hy;simp only[zpz,zzOb] at hr;obtain⟨r1,hr1,hr⟩:=hr;split at hr
   ·rename_i hd
    cases hr;rcases ih _ hr1 t y hy with g|⟨g1,g2⟩
    ·exact .inl g
    ·refine .inr ⟨fun o ho=>?_,g2⟩
     rcases List.mem_cons.1 ho with rfl|ho
     ·rw[hd];simp
     ·exact g1 o ho
   ·rename_i t' hd
    split at hr
    ·rename_i o' hf
     rw[zaB,zzOm] at hr;obtain⟨hlt,y',hy',rfl⟩:=hr;rw[zcT] at hy;split at hy
     ·rename_i e
      subst e;cases hy;exact .inl ⟨by simpa [Nat.blt_eq] using hlt,fun x=>zs8 h0 h1 hf hy' x⟩
     ·rename_i e
      rcases ih _ hr1 t y hy with g|⟨g1,g2⟩
      ·exact .inl g
      ·refine .inr ⟨fun o ho=>?_,g2⟩
       rcases List.mem_cons.1 ho with rfl|ho
       ·rw[hd];intro he;cases he;exact e rfl
       ·exact g1 o ho
    ·cases hr
 intro t y hy;rcases key core o2 h t y hy with ⟨g1,g2⟩|⟨g1,g2⟩
 ·exact hlen1 t g1 y g2
 ·rw[hunw t ?_,h0 t y g2]
  rw[List.find?_eq_none];intro o ho;unfold zjY;cases hd:o.dst with
  | none=>simp
  | some d =>
   simp only[zis];intro e;exact g1 o ho (by rw[hd,e])
theorem zib {o:Ov}{s:List AV} (h:AgO o s):∀{l:List Nat}{o':Ov},zmF o l=some o'→AgO o' s
 | [],o',e=>by cases e;intro i x hx;cases hx
 | j::l,o',e=>by
  simp only[zmF,zzOb,zzOm] at e;obtain⟨x,hx,o1,h1,rfl⟩:=e;intro i y hy;rw[zcT] at hy;split at hy
  ·rename_i e
   subst e;cases hy;exact h _ _ hx
  ·exact zib h h1 i y hy
theorem zya {c:Code}{ks:List Fr}{o:Ov}{r:AV} (h:G X c ks o=some r) {s:List AV} (hs:s.length=X.fn.ntmps) (hA:AgO o s):(VC X.P X.L X.F X.E c s).bind (zhg X ks)=some r:=by
 unfold G at h;split at h
 ·rename_i hh
  cases h;exact hh.choose_spec.2 s hs hA
 ·cases h
theorem zCm {c:Code}{ks:List Fr}{o:Ov}{r:AV} (hw:∃s:List AV,s.length=X.fn.ntmps∧AgO o s) (h:∀s:List AV,s.length=X.fn.ntmps→AgO o s→(VC X.P X.L X.F X.E c s).bind (zhg X ks)=some r):G X c ks o=some r:=by
 unfold G;have hh:∃r,(∃s:List AV,s.length=X.fn.ntmps∧AgO o s)∧∀s:List AV,s.length=X.fn.ntmps→AgO o s→(VC X.P X.L X.F X.E c s).bind (zhg X ks)=some r:=⟨r,hw,h⟩
 rw[dif_pos hh];obtain⟨s,hs,hA⟩:=hw;rw[←hh.choose_spec.2 s hs hA,h s hs hA]
theorem zkw {o:Ov}{s:List AV} (hA:AgO o s):∀{rs:List ResultVar}{vs:List SV},ztz X o rs=some vs→zeq X.L s rs=some vs
 | [],_,h=>h
 | rv::rs,vs,h=>by
  simp only[ztz,zzOb,zzOm] at h;obtain⟨v,h1,vs',h2,rfl⟩:=h;simp only[zeq,zzOb,zzOm];refine⟨v,?_,vs',zkw hA h2,rfl⟩
  unfold zAP at h1;unfold zhk;split at h1
  ·split at h1
   ·rename_i x hx
    cases h1;simp only[hA _ _ hx]
   ·rename_i k r hx
    cases h1;have hx:=hA _ _ hx
    simp only[hx,zgg,VS.get,Option.map_some]
   ·rename_i d hx
    have hx:=hA _ _ hx
    split at h1
    ·rename_i k r hd
     cases h1;have hd:=hA _ _ hd
     simp only[hx,hd,zgg,VS.get,Option.map_some]
    ·cases h1
   ·cases h1
  ·split at h1
   ·rename_i cs hx
    simp only[hA _ _ hx];simp only[zzOb,zaB,zis] at h1 ⊢;obtain⟨i,hi,hl,hm⟩:=h1;exact⟨i,hi,by rw[if_pos hl];exact hm⟩
   ·cases h1
theorem zcI:∀(n:Nat) (m:Mode) (ks:List Fr) (o:Ov) (r:AV),evM X n m ks o=some r→∀s:List AV,s.length=X.fn.ntmps→AgO o s →
  (match m with|.run c=>(VC X.P X.L X.F X.E c s).bind (zhg X ks)|.ret e=>zhg X ks (e,s))=some r
 | 0,_,_,_,_,h,_,_,_=>by cases h
 | n+1,.run c,ks,o,r,h,s,hs,hA=>by
  cases c <;> simp only[evM] at h <;> simp only
  case skip =>
   rw[zzx,Option.bind_some];exact zcI n _ _ _ _ h s hs hA
  case region id ops d =>
   cases d
   ·simp only[cond_false] at h
    obtain⟨s',st',h1,h2,h3,h4⟩:=zoT (s:={σ:=s,pe:=[]}) h ⟨hA,rfl⟩ hs;rw[zvV,h1];simp only[Option.map_some,Option.bind_some];exact zcI n _ _ _ _ h4 s'.σ (by rw[h3];exact hs) h2.1
   ·simp only[cond_true] at h
    rw[zv2];unfold zj9;cases hr:zza X.L ops.toList
    ·rw[hr,cond_false] at h
     have hlm:(zit s).length=X.fn.ntmps:=by simp[zit,hs]
     obtain⟨s',st',h1,h2,h3,h4⟩:=zlU (s:={σ:=zit s,pe:=[]}) h ⟨zu6 hA,rfl⟩ hlm;rw[if_neg (by simp),h1]
     simp only[Option.map_some,Option.bind_some];exact zcI n _ _ _ _ h4 s'.σ (by rw[h3];exact hlm) h2.1
    ·rw[hr,cond_true] at h
     have hlm:(zjg s).length=X.fn.ntmps:=by simp[zjg,hs]
     obtain⟨s1,st1,h1,h2,h3,h4⟩:=zlU (s:={σ:=zjg s,pe:=[]}) h ⟨zyL hA,rfl⟩ hlm;simp only[zzOb] at h4;obtain⟨o2,ho2,h4⟩:=h4;rw[←hs] at ho2;obtain⟨σ2,hσ,hA2⟩:=zxB hA h2 ho2;obtain⟨s',st',k1,k2,k3,k4⟩:=zoT (s:={σ:=σ2,pe:=[]}) h4 ⟨hA2,rfl⟩ (by rw[(zk1 hσ).1];exact hs)
     rw[if_pos rfl,h1,Option.bind_some,hσ,Option.bind_some,k1];simp only[Option.map_some,Option.bind_some];exact zcI n _ _ _ _ k4 s'.σ (by rw[k3];simp only[(zk1 hσ).1];exact hs) k2.1
  case seq a b =>
   rw[zBB];have:=zcI n _ _ _ _ h s hs hA
   simp only at this;rw[←this,Option.bind_assoc]
   congr 1
   funext x
   obtain⟨e,s'⟩:=x;cases e <;> simp[andThen,zhg]
  case cond x a b =>
   simp only[zzOb] at h;obtain⟨t,ht,h⟩:=h;rw[zyx,zhZ (s:={σ:=s,pe:=[]}) ⟨hA,rfl⟩ ht,Option.bind_some];cases t
   ·simp only[cond_false] at h
    simp only[Bool.false_eq_true,if_false];exact zcI n _ _ _ _ h s hs hA
   ·simp only[cond_true] at h
    simp only[if_true];exact zcI n _ _ _ _ h s hs hA
  case block id b =>
   rw[zwG];have:=zcI n _ _ _ _ h s hs hA
   simp only at this;rw[←this];rcases VC X.P X.L X.F X.E b s with _|x
   ·rfl
   ·simp[zhg]
  case loop b =>
   simp only[zzOb] at h;obtain⟨id,_,l,_,o',ho',h⟩:=h;exact zya h hs (zib hA ho')
  case exit id =>
   rw[zy2,Option.bind_some];exact zcI n _ _ _ _ h s hs hA
  case ret =>
   rw[zBS,Option.bind_some];exact zcI n _ _ _ _ h s hs hA
  all_goals cases h
 | n+1,.ret e,ks,o,r,h,s,hs,hA=>by
  simp only;rcases ks with _|⟨f,ks⟩
  ·simp only[evM] at h
   simp only[zhg];have key:zAX X o=some r→e≠.norm∧(∀i,e≠.exit i)∨e=.norm→zwp X.L X.fn (e,s)=some r:=by
    intro h _;simp only[zAX,zzOm] at h;obtain⟨vs,h1,h2⟩:=h;cases e with
    | norm=>simp only[zwp,zkw hA h1,Option.map_some];exact congrArg some h2
    | exit i=>simp_all
    | ret=>simp only[zwp,zkw hA h1,Option.map_some];exact congrArg some h2
   cases e with
   | norm=>exact key h (.inr rfl)
   | exit i=>cases h
   | ret=>exact key h (.inl ⟨(by simp),fun i=>by simp⟩)
  ·cases f with
   | seq c =>
    cases e with
    | norm =>
     simp only[evM] at h;simp only[zhg];split at h
     ·exact zcI n _ _ _ _ h s hs hA
     ·simp only[zzOb] at h
      obtain⟨o',ho',h⟩:=h;exact zya h hs (zib hA ho')
    | exit i=>simp only[evM] at h;simp only[zhg];exact zcI n _ _ _ _ h s hs hA
    | ret=>simp only[evM] at h;simp only[zhg];exact zcI n _ _ _ _ h s hs hA
   | blk id =>
    cases e with
    | norm=>simp only[evM] at h;simp only[zhg,zs6];exact zcI n _ _ _ _ h s hs hA
    | exit i =>
     simp only[evM] at h;simp only[zhg,zs6];rcases hq:Nat.beq i id with _|_
     ·rw[hq] at h
      simp only[cond_false] at h;have:i≠id:=fun e=>by rw[e] at hq;simp at hq
      rw[if_neg this];exact zcI n _ _ _ _ h s hs hA
     ·rw[hq] at h
      simp only[cond_true] at h;rw[if_pos (Nat.eq_of_beq_eq_true hq)];exact zcI n _ _ _ _ h s hs hA
    | ret=>simp only[evM] at h;simp only[zhg,zs6];exact zcI n _ _ _ _ h s hs hA
   | loop b =>
    cases e with
    | norm =>
     simp only[evM,zzOb] at h;obtain⟨id,_,l,_,o',ho',h⟩:=h;simp only[zhg];exact zya h hs (zib hA ho')
    | exit i=>simp only[evM] at h;simp only[zhg];exact zcI n _ _ _ _ h s hs hA
    | ret=>simp only[evM] at h;simp only[zhg];exact zcI n _ _ _ _ h s hs hA
def zqe (n:Nat):Ov→Bool
 | []=>true
 | (i,_)::r=>Nat.blt i n&&r.all (fun e=>!Nat.beq e.1 i)&&zqe n r
theorem zpS {n:Nat}:∀{o:Ov},zqe n o=true→∃s:List AV,s.length=n∧AgO o s
 | [],_=>⟨List.replicate n .und,by simp,fun _ _ h=>by cases h⟩
 | (i,x)::r,h=>by
  simp only[zqe,Bool.and_eq_true,Nat.blt_eq] at h;obtain⟨s,hs,hA⟩:=zpS h.2;exact⟨s.set i x,by simpa using hs,zmN hA (by omega)⟩
theorem zCs {id:Nat}{o:Ov}{r:AV}{n:Nat} (hok:zqe X.fn.ntmps o=true) {b:Code}{ks:List Fr} (hl:(X.fn.body.bind fun c=>ziq id c [])=some (.loop b,ks)) (h:evM X n (.run b) (.loop b::ks) o=some r):GL X id o=some r:=by
 unfold GL;rw[hl,Option.bind_some];refine zCm (zpS hok) fun s hs hA=>?_
 have:=zcI n _ _ _ _ h s hs hA
 simp only at this;rw[zyK,←this,Option.bind_assoc]
 congr 1
 funext x
 obtain⟨e,s'⟩:=x;cases e <;> simp[andThen,zhg]
theorem zC2 {id:Nat}{o:Ov}{r:AV}{n:Nat} (hok:zqe X.fn.ntmps o=true) {c:Code}{ks:List Fr} (hl:(X.fn.body.bind fun b=>zir id b [])=some (c,ks)) (h:evM X n (.run c) ks o=some r):GJ X id o=some r:=by
 unfold GJ;rw[hl,Option.bind_some];refine zCm (zpS hok) fun s hs hA=>?_
 exact zcI n _ _ _ _ h s hs hA
def zrS:Nat→List SV→Ov
 | _,[]=>[]
 | i,v::vs=>(i,.v v)::zrS (i+1) vs
theorem zrT (pre:List AV) (rest:List AV):∀(vs:List SV),AgO (zrS pre.length vs) (pre++vs.map .v++rest)
 | []=>fun _ _ h=>by cases h
 | v::vs=>by
  have ih:AgO (zrS (pre.length+1) vs) (pre++(.v v::vs.map .v)++rest):=by
   have h:=zrT (pre++[.v v]) rest vs
   simpa using h
  intro i x hx;rw[zrS,zcT] at hx;split at hx
  ·rename_i e
   subst e;cases hx;simp[List.getD]
  ·exact ih i x hx
theorem zDh {f:FuncId}{c:Code}{x:List SV}{r:AV}{n:Nat} (hF:X.F f=true) (hf:X.P.funcs[f]?=some X.fn) (hb:X.fn.body=some c) (hx:x.length≤X.fn.ntmps) (h:evM X n (.run c) [] (zrS 0 x)=some r):V X.P X.L X.F X.E f x=some r:=by
 rw[zDg hF hf hb x hx];have:=zcI n _ _ _ _ h (x.map .v++List.replicate (X.fn.ntmps-x.length) .und) (by simp;omega) (by simpa using zrT [] _ x)
 simp only at this;rw[←this]
 congr 1
end
end
end Go.Proofs.Ytcpcagdialnbeaa
