/- Generic texts and models for the proofs of this seat: part 19. -/
import Derived.Test.YtbodfaghedolbaaY18
set_option linter.unusedVariables false
set_option linter.unusedSimpArgs false
namespace Go.Proofs.Ytbodfaghedolbaa
open Go Go.RowKit
section
variable {P:Program} {L:Lay} {T:Nat → Bool} {call:Orc} {E:zkU} {all:List Oper} {bop:Oper → VS → Option VS}
theorem zun {c c':TOrc} (h:TOrc.le c c') {o:Oper} {t:TS} {r:AV × List AC} (hs:zj0 L c o t = some r):zj0 L c' o t = some r:=by
 unfold zj0 at hs ⊢
 split at hs
 ·split at hs
  ·split at hs
   ·rename_i hx
    rw [if_pos hx]
    simp only [Option.bind_eq_some_iff] at hs ⊢
    obtain ⟨vs,h1,h2⟩:=hs
    exact ⟨vs,h1,h _ _ _ _ h2⟩
   ·cases hs
  ·cases hs
 ·cases hs
theorem zs1 {c c':TOrc} (h:TOrc.le c c') {o:Oper} {t t':TS} (hs:zeJ bop L T c o t = some t'):zeJ bop L T c' o t = some t':=by
 unfold zeJ at hs ⊢
 split at hs
 ·rename_i hc
  rw [if_pos hc]
  simp only [Option.map_eq_some_iff] at hs ⊢
  obtain ⟨r,h1,h2⟩:=hs
  exact ⟨r,zun h h1,h2⟩
 ·rename_i hc
  rw [if_neg hc]
  exact hs
theorem zrJ {c c':TOrc} (h:TOrc.le c c') {o:Oper} {t t':TS} (hs:zcQ bop L T c all o t = some t'):zcQ bop L T c' all o t = some t':=by
 unfold zcQ at hs ⊢
 split at hs
 ·exact zs1 h hs
 ·simp only [Option.bind_eq_some_iff] at hs ⊢
  obtain ⟨u,hu,hs⟩:=hs
  refine ⟨u,hu,?_⟩
  cases u
  ·exact hs
  ·exact zs1 h hs
theorem zkN {c c':TOrc} (h:TOrc.le c c'):∀ {ops:List Oper} {t t':TS},zcW bop L T c all ops t = some t' → zcW bop L T c' all ops t = some t'
 | [],_,_,hs => hs
 | o :: rest,t,t',hs => by
  simp only [zcW,Option.bind_eq_some_iff] at hs ⊢
  obtain ⟨t1,h1,h2⟩:=hs
  exact ⟨t1,zrJ h h1,zkN h h2⟩
theorem zni {c c':TOrc} (h:TOrc.le c c') {ops:List Oper} {d:Bool} {x y:List AV × List AC} (hs:zjz L T call c ops d x = some y):zjz L T call c' ops d x = some y:=by
 unfold zjz at hs ⊢
 simp only [Option.bind_eq_some_iff] at hs ⊢
 obtain ⟨t,h1,h2⟩:=hs
 refine ⟨t,?_,h2⟩
 cases d
 ·exact zkN h h1
 ·exact zkN h h1
theorem zbR {c c':TOrc} (h:TOrc.le c c'):∀ {n m:Nat} {k:Code} {s:List AV × List AC} {r:Xt × (List AV × List AC)},n ≤ m → zaS L T call c n k s = some r → zaS L T call c' m k s = some r
 | 0,_,_,_,_,_,hs => by simp [zaS] at hs
 | n + 1,0,_,_,_,hm,_ => by omega
 | n + 1,m + 1,k,s,r,hm,hs => by
  have hm':n ≤ m:=by omega
  cases k <;> simp only [zaS] at hs ⊢ <;> try exact hs
  case region id ops d =>
   simp only [Option.map_eq_some_iff] at hs ⊢
   obtain ⟨s1,h1,h2⟩:=hs
   exact ⟨s1,zni h h1,h2⟩
  case seq a b =>
   simp only [Option.bind_eq_some_iff] at hs ⊢
   obtain ⟨⟨e,s1⟩,h1,h2⟩:=hs
   refine ⟨_,zbR h hm' h1,?_⟩
   cases e with
   | norm => exact zbR h hm' h2
   | exit i => exact h2
   | ret => exact h2
  case cond x a b =>
   simp only [Option.bind_eq_some_iff] at hs ⊢
   obtain ⟨t,h1,h2⟩:=hs
   refine ⟨t,h1,?_⟩
   cases t
   ·exact zbR h hm' h2
   ·exact zbR h hm' h2
  case block id b =>
   simp only [Option.map_eq_some_iff] at hs ⊢
   obtain ⟨r1,h1,h2⟩:=hs
   exact ⟨r1,zbR h hm' h1,h2⟩
  case loop b =>
   simp only [Option.bind_eq_some_iff] at hs ⊢
   obtain ⟨⟨e,s1⟩,h1,h2⟩:=hs
   refine ⟨_,zbR h hm' h1,?_⟩
   cases e with
   | norm => exact zbR h hm' h2
   | exit i => exact h2
   | ret => exact h2
theorem zv6 {c c':TOrc} (h:TOrc.le c c') {n m:Nat} {fn:Func} {q:List AC} {args:List SV} {r:AV × List AC} (hm:n ≤ m) (hs:zj2 L T call c n fn q args = some r):zj2 L T call c' m fn q args = some r:=by
 unfold zj2 at hs ⊢
 split at hs
 ·exact hs
 ·rename_i k hk
  split at hs
  ·rename_i hlen
   rw [if_pos hlen]
   simp only [Option.bind_eq_some_iff] at hs ⊢
   obtain ⟨r1,h1,h2⟩:=hs
   exact ⟨r1,zbR h hm h1,h2⟩
  ·cases hs
theorem zeo:∀ {n m:Nat},n ≤ m → TOrc.le (zdX P L T call E n) (zdX P L T call E m)
 | 0,_,_ => fun _ _ _ _ h => by simp [zdX] at h
 | n + 1,0,hm => by omega
 | n + 1,m + 1,hm => fun f q x r h => by
  have hm':n ≤ m:=by omega
  simp only [zdX] at h ⊢
  split at h
  ·rename_i hF
   rw [if_pos hF]
   split at h
   ·rename_i e he
    exact e.mono _ _ (zeo hm') _ _ _ h
   ·split at h
    ·exact zv6 (zeo hm') hm' h
    ·exact h
  ·cases h
noncomputable def TV (P:Program) (L:Lay) (T:Nat → Bool) (call:Orc) (E:zkU):TOrc:=fun f q x => lim fun n => zdX P L T call E n f q x
noncomputable def TVC (P:Program) (L:Lay) (T:Nat → Bool) (call:Orc) (E:zkU) (k:Code) (s:List AV × List AC):Option (Xt × (List AV × List AC)):=lim fun n => zaS L T call (zdX P L T call E n) n k s
theorem zwB (f:FuncId) (q:List AC) (x:List SV):zvT fun n => zdX P L T call E n f q x:=fun _ _ _ h hs => zeo h _ _ _ _ hs
theorem zuw (k:Code) (s:List AV × List AC):zvT fun n => zaS L T call (zdX P L T call E n) n k s:=fun _ _ _ h hs => zbR (zeo h) h hs
theorem TV_iff {f:FuncId} {q:List AC} {x:List SV} {r:AV × List AC}:TV P L T call E f q x = some r ↔ ∃ n,zdX P L T call E n f q x = some r:=zna (zwB f q x)
theorem TVC_iff {k:Code} {s:List AV × List AC} {r:Xt × (List AV × List AC)}:TVC P L T call E k s = some r ↔ ∃ n,zaS L T call (zdX P L T call E n) n k s = some r:=zna (zuw k s)
theorem zAc (n:Nat):TOrc.le (zdX P L T call E n) (TV P L T call E):=fun _ _ _ _ h => TV_iff.2 ⟨n,h⟩
theorem zxP (f:FuncId) (q:List AC) (x:List SV) (r:AV × List AC) (h:TV P L T call E f q x = some r):∃ n,zdX P L T call E n f q x = some r:=TV_iff.1 h
theorem zr5 {o:Oper} {t:TS} {r:AV × List AC} (hs:zj0 L (TV P L T call E) o t = some r):∃ n,zj0 L (zdX P L T call E n) o t = some r:=by
 unfold zj0 at hs ⊢
 split at hs
 ·split at hs
  ·split at hs
   ·rename_i hx
    simp only [if_pos hx]
    simp only [Option.bind_eq_some_iff] at hs ⊢
    obtain ⟨vs,h1,h2⟩:=hs
    obtain ⟨n,hn⟩:=TV_iff.1 h2
    exact ⟨n,vs,h1,hn⟩
   ·cases hs
  ·cases hs
 ·cases hs
theorem zpg {o:Oper} {t t':TS} (hs:zeJ bop L T (TV P L T call E) o t = some t'):∃ n,zeJ bop L T (zdX P L T call E n) o t = some t':=by
 unfold zeJ at hs ⊢
 split at hs
 ·rename_i hc
  simp only [if_pos hc]
  simp only [Option.map_eq_some_iff] at hs ⊢
  obtain ⟨r,h1,h2⟩:=hs
  obtain ⟨n,hn⟩:=zr5 h1
  exact ⟨n,r,hn,h2⟩
 ·rename_i hc
  simp only [if_neg hc]
  exact ⟨0,hs⟩
theorem zsj {o:Oper} {t t':TS} (hs:zcQ bop L T (TV P L T call E) all o t = some t'):∃ n,zcQ bop L T (zdX P L T call E n) all o t = some t':=by
 unfold zcQ at hs ⊢
 split at hs
 ·exact zpg hs
 ·simp only [Option.bind_eq_some_iff] at hs ⊢
  obtain ⟨u,hu,hs⟩:=hs
  cases u
  ·exact ⟨0,false,hu,hs⟩
  ·obtain ⟨n,hn⟩:=zpg hs
   exact ⟨n,true,hu,hn⟩
theorem zku:∀ {ops:List Oper} {t t':TS},zcW bop L T (TV P L T call E) all ops t = some t' → ∃ n,zcW bop L T (zdX P L T call E n) all ops t = some t'
 | [],_,_,hs => ⟨0,hs⟩
 | o :: rest,t,t',hs => by
  simp only [zcW,Option.bind_eq_some_iff] at hs ⊢
  obtain ⟨t1,h1,h2⟩:=hs
  obtain ⟨n1,h1⟩:=zsj h1
  obtain ⟨n2,h2⟩:=zku h2
  exact ⟨max n1 n2,t1,zrJ (zeo (Nat.le_max_left _ _)) h1,zkN (zeo (Nat.le_max_right _ _)) h2⟩
theorem zr6 {ops:List Oper} {d:Bool} {x y:List AV × List AC} (hs:zjz L T call (TV P L T call E) ops d x = some y):∃ n,zjz L T call (zdX P L T call E n) ops d x = some y:=by
 unfold zjz at hs ⊢
 simp only [Option.bind_eq_some_iff] at hs ⊢
 obtain ⟨t,h1,h2⟩:=hs
 cases d
 ·obtain ⟨n,hn⟩:=zku h1
  exact ⟨n,t,hn,h2⟩
 ·obtain ⟨n,hn⟩:=zku h1
  exact ⟨n,t,hn,h2⟩
theorem zyQ {f:FuncId} {e:zxY} (hT:T f = true) (he:E f = some e) {q:List AC} {x:List SV} {r:AV × List AC} (h:e.run (TV P L T call E) q x = some r):TV P L T call E f q x = some r:=by
 obtain ⟨n,hn⟩:=e.cont _ (zdX P L T call E) (fun _ _ h => zeo h) zxP _ _ _ h
 refine TV_iff.2 ⟨n + 1,?_⟩
 simp only [zdX,hT,if_true,he]
 exact hn
theorem zuE (s:List AV × List AC):TVC P L T call E .skip s = some (.norm,s):=TVC_iff.2 ⟨1,rfl⟩
theorem zt3 (id:Nat) (s:List AV × List AC):TVC P L T call E (.exit id) s = some (.exit id,s):=TVC_iff.2 ⟨1,rfl⟩
theorem zxz (s:List AV × List AC):TVC P L T call E .ret s = some (.ret,s):=TVC_iff.2 ⟨1,rfl⟩
theorem zsm (id:Nat) (ops:Array Oper) (d:Bool) (s:List AV × List AC) :
  TVC P L T call E (.region id ops d) s = (zjz L T call (TV P L T call E) ops.toList d s).map fun s => (.norm,s):=by
 refine ze0 fun r => ?_
 rw [TVC_iff]
 constructor
 ·rintro ⟨n,hn⟩
  cases n with
  | zero => simp [zaS] at hn
  | succ n =>
   simp only [zaS,Option.map_eq_some_iff] at hn ⊢
   obtain ⟨s1,h1,h2⟩:=hn
   exact ⟨s1,zni (zAc _) h1,h2⟩
 ·intro h
  simp only [Option.map_eq_some_iff] at h
  obtain ⟨s1,h1,h2⟩:=h
  obtain ⟨n,hn⟩:=zr6 h1
  refine ⟨n + 1,?_⟩
  simp only [zaS,Option.map_eq_some_iff]
  exact ⟨s1,zni (zeo (Nat.le_succ n)) hn,h2⟩
noncomputable def zg7 (P:Program) (L:Lay) (T:Nat → Bool) (call:Orc) (E:zkU) (k:Code):Xt × (List AV × List AC) → Option (Xt × (List AV × List AC))
 | (.norm,s) => TVC P L T call E k s
 | r => some r
theorem zhk {n:Nat} {k:Code} {s:List AV × List AC} {r:Xt × (List AV × List AC)} (h:zaS L T call (zdX P L T call E (n + 1)) n k s = some r):TVC P L T call E k s = some r :=
 TVC_iff.2 ⟨n + 1,zbR (fun _ _ _ _ h => h) (Nat.le_succ n) h⟩
theorem zhb {k:Code} {s:List AV × List AC} {r:Xt × (List AV × List AC)} (h:TVC P L T call E k s = some r):∃ n,∀ m,n ≤ m → zaS L T call (zdX P L T call E (m + 1)) m k s = some r:=by
 obtain ⟨n,hn⟩:=TVC_iff.1 h
 exact ⟨n,fun m hm => zbR (zeo (by omega)) hm hn⟩
theorem zs0 {a b:Code} {s:List AV × List AC} {c:Code} (hc:∀ n,zaS L T call (zdX P L T call E (n + 1)) (n + 1) c s = (zaS L T call (zdX P L T call E (n + 1)) n a s).bind fun r => match r with
   | (.norm,s') => zaS L T call (zdX P L T call E (n + 1)) n b s'
   | r => some r):TVC P L T call E c s = (TVC P L T call E a s).bind (zg7 P L T call E b):=by
 refine ze0 fun r => ?_
 simp only [Option.bind_eq_some_iff]
 constructor
 ·intro h
  obtain ⟨n,hn⟩:=TVC_iff.1 h
  have hn:=zbR (L:=L) (zeo (P:=P) (Nat.le_succ n)) (Nat.le_succ n) hn
  rw [hc] at hn
  simp only [Option.bind_eq_some_iff] at hn
  obtain ⟨⟨e,s1⟩,h1,h2⟩:=hn
  refine ⟨_,zhk h1,?_⟩
  cases e with
  | norm => exact zhk h2
  | exit i => exact h2
  | ret => exact h2
 ·rintro ⟨⟨e,s1⟩,h1,h2⟩
  obtain ⟨n1,h1⟩:=zhb h1
  cases e with
  | norm =>
   obtain ⟨n2,h2⟩:=zhb (P:=P) (L:=L) (k:=b) h2
   refine TVC_iff.2 ⟨max n1 n2 + 1,?_⟩
   rw [hc]
   simp only [Option.bind_eq_some_iff]
   exact ⟨_,h1 _ (Nat.le_max_left _ _),h2 _ (Nat.le_max_right _ _)⟩
  | exit i =>
   refine TVC_iff.2 ⟨n1 + 1,?_⟩
   rw [hc]
   simp only [Option.bind_eq_some_iff]
   exact ⟨_,h1 _ (Nat.le_refl _),h2⟩
  | ret =>
   refine TVC_iff.2 ⟨n1 + 1,?_⟩
   rw [hc]
   simp only [Option.bind_eq_some_iff]
   exact ⟨_,h1 _ (Nat.le_refl _),h2⟩
theorem zx5 (a b:Code) (s:List AV × List AC):TVC P L T call E (.seq a b) s = (TVC P L T call E a s).bind (zg7 P L T call E b):=zs0 fun _ => rfl
theorem zvg (b:Code) (s:List AV × List AC):TVC P L T call E (.loop b) s = (TVC P L T call E b s).bind (zg7 P L T call E (.loop b)):=zs0 fun _ => rfl
theorem zv4 (x:Operand) (a b:Code) (s:List AV × List AC) :
  TVC P L T call E (.cond x a b) s = (zeO L { σ:=s.1,pe:=[] } x).bind fun t => if t then TVC P L T call E a s else TVC P L T call E b s:=by
 refine ze0 fun r => ?_
 simp only [Option.bind_eq_some_iff]
 constructor
 ·intro h
  obtain ⟨n,hn⟩:=TVC_iff.1 h
  have hn:=zbR (L:=L) (zeo (P:=P) (Nat.le_succ n)) (Nat.le_succ n) hn
  simp only [zaS,Option.bind_eq_some_iff] at hn
  obtain ⟨t,h1,h2⟩:=hn
  refine ⟨t,h1,?_⟩
  cases t
  ·exact zhk h2
  ·exact zhk h2
 ·rintro ⟨t,h1,h2⟩
  cases t
  ·obtain ⟨n,h2⟩:=zhb (P:=P) (L:=L) (k:=b) h2
   refine TVC_iff.2 ⟨n + 1,?_⟩
   simp only [zaS,Option.bind_eq_some_iff]
   exact ⟨false,h1,h2 _ (Nat.le_refl _)⟩
  ·obtain ⟨n,h2⟩:=zhb (P:=P) (L:=L) (k:=a) h2
   refine TVC_iff.2 ⟨n + 1,?_⟩
   simp only [zaS,Option.bind_eq_some_iff]
   exact ⟨true,h1,h2 _ (Nat.le_refl _)⟩
def zlv (id:Nat):Xt × (List AV × List AC) → Xt × (List AV × List AC)
 | (.exit i,s) => if i = id then (.norm,s) else (.exit i,s)
 | r => r
theorem zt0 (id:Nat) (b:Code) (s:List AV × List AC):TVC P L T call E (.block id b) s = (TVC P L T call E b s).map (zlv id):=by
 refine ze0 fun r => ?_
 simp only [Option.map_eq_some_iff]
 constructor
 ·intro h
  obtain ⟨n,hn⟩:=TVC_iff.1 h
  have hn:=zbR (L:=L) (zeo (P:=P) (Nat.le_succ n)) (Nat.le_succ n) hn
  simp only [zaS,Option.map_eq_some_iff] at hn
  obtain ⟨t,h1,h2⟩:=hn
  exact ⟨t,zhk h1,h2⟩
 ·rintro ⟨t,h1,h2⟩
  obtain ⟨n,h1⟩:=zhb h1
  refine TVC_iff.2 ⟨n + 1,?_⟩
  simp only [zaS,Option.map_eq_some_iff]
  exact ⟨t,h1 _ (Nat.le_refl _),h2⟩
def zn1 (L:Lay) (fn:Func):Xt × (List AV × List AC) → Option (AV × List AC)
 | (.exit _,_) => none
 | (_,s) => (zd1 L s.1 fn.results.toList).map fun vs => (match vs with
   | [v] => .v v
   | vs => .tup vs,s.2)
theorem zAt {f:FuncId} {fn:Func} {c:Code} (hT:T f = true) (hE:E f = none) (hf:P.funcs[f]? = some fn) (hb:fn.body = some c) (q:List AC) (x:List SV) (hx:x.length + 1 ≤ fn.ntmps) :
  TV P L T call E f q x = (TVC P L T call E c (.und :: (x.map .v ++ List.replicate (fn.ntmps - (x.length + 1)) .und),q)).bind (zn1 L fn):=by
 refine ze0 fun r => ?_
 simp only [Option.bind_eq_some_iff]
 constructor
 ·intro h
  obtain ⟨n,hn⟩:=TV_iff.1 h
  cases n with
  | zero => simp [zdX] at hn
  | succ n =>
   simp only [zdX,hT,if_true,hE,hf,zj2,hb,if_pos hx,Option.bind_eq_some_iff] at hn
   obtain ⟨⟨e,s1⟩,h1,h2⟩:=hn
   exact ⟨_,TVC_iff.2 ⟨n,h1⟩,by cases e <;> exact h2⟩
 ·rintro ⟨⟨e,s1⟩,h1,h2⟩
  obtain ⟨n,hn⟩:=TVC_iff.1 h1
  refine TV_iff.2 ⟨n + 1,?_⟩
  simp only [zdX,hT,if_true,hE,hf,zj2,hb,if_pos hx,Option.bind_eq_some_iff]
  exact ⟨_,hn,by cases e <;> exact h2⟩
end
end Go.Proofs.Ytbodfaghedolbaa
namespace Go.Proofs.Ytbodfaghedolbaa
open Go Go.RowKit
def InvC (st:Stt) (p:Stb) (w:World) (m:Array Value) (x:List AV × List AC) (Own:Nat → Prop) (b:Nat):Prop:=Inv st p w m { σ:=x.1,pe:=[] } Own ∧ m.getD 0 undef = za6 b ∧ TK p w Own b x.2
abbrev EvoC (Own:Nat → Prop) (b:Nat) (p:Stb) (w:World) (p':Stb) (w':World):Prop:=Evo (fun c => Own c ∨ c = b) p w p' w'
theorem EvoC.refl (Own:Nat → Prop) (b:Nat) (p:Stb) (w:World):EvoC Own b p w p w:=Evo.refl _ _ _
theorem EvoC.trans {Own:Nat → Prop} {b:Nat} {p p' p'':Stb} {w w' w'':World} (h:EvoC Own b p w p' w') (k:EvoC Own b p' w' p'' w''):EvoC Own b p w p'' w'':=Evo.trans h k (fun _ _ h => h) (fun _ _ h => h)
section
variable {P:Program} {L:Lay} {S:Sig} {T:Nat → Bool} {call:Orc} {ct:TOrc} {Own:Nat → Prop} {bb:Nat}
theorem Le.c {st st':Stt} (h:Le st st') {p:Stb} {w:World} {m:Array Value} {x:List AV × List AC} (hI:InvC st p w m x Own bb):InvC st' p w m x Own bb:=⟨h _ _ _ _ _ hI.1 rfl,hI.2⟩
theorem zoj (hP:P.follows .mixedOrders = true) (hL:LayOk P L) (hC:za0 P S call) (hT:zcM P S T ct):∀ (n:Nat) (c:Code) (σ:List AV × List AC) (e:Xt) (σ':List AV × List AC) (st:Stt) (O:Out),zaS L T call ct n c σ = some (e,σ') → zca (zbp T) L S c st = some O →
  ∀ (p:Stb) (w:World) (a:Act),InvC st p w a.tmps σ Own bb → a.defers = [] → ∀ (Q:Exit → Act → World → Prop),
  (∀ st' a' w' p',O.at e = some st' → InvC st' p' w' a'.tmps σ' Own bb → EvoC Own bb p w p' w' → a'.defers = [] → Q (zi6 e) a' w') → c.wp P Q a w:=by
 intro n
 induction n with
 | zero => intro c σ e σ' st O hv; simp [zaS] at hv
 | succ n ih =>
  intro c σ e σ' st O hv ht p w a hI hd Q hQ
  have ett:∀ {p p' p'':Stb} {w w' w'':World},EvoC Own bb p w p' w' → EvoC Own bb p' w' p'' w'' → EvoC Own bb p w p'' w'':=fun h k => EvoC.trans h k
  cases c with
  | skip =>
   simp only [zaS,Option.some.injEq,Prod.mk.injEq] at hv
   obtain ⟨rfl,rfl⟩:=hv
   cases ht
   exact wp_skip (hQ st a w p rfl hI (EvoC.refl _ _ _ _) hd)
  | region id ops d =>
   simp only [zca] at ht
   simp only [zaS,Option.map_eq_some_iff,Prod.mk.injEq] at hv
   obtain ⟨y,hs,rfl,rfl⟩:=hv
   unfold zjz at hs
   simp only [Option.bind_eq_some_iff] at hs
   obtain ⟨t',hs,h0⟩:=hs
   split at h0
   case isFalse => cases h0
   rename_i hz0
   cases h0
   have hz:0 ∈ t'.tk:=by
    unfold zyq at hz0
    simp only [List.any_eq_true] at hz0
    obtain ⟨z,hz,he⟩:=hz0
    rw [← Nat.eq_of_beq_eq_true he]; exact hz
   obtain ⟨hI1,h00,hTK⟩:=hI
   cases d with
   | true =>
    simp only [if_true] at hs
    simp only [if_true,Option.map_eq_some_iff] at ht
    obtain ⟨st',hst,rfl⟩:=ht
    exact ztJ hP hL hC hT id ops (zhm σ.1) σ.2 Q hst hs (zoy σ.1) (zqk σ.1) hI1.masked h00 hTK fun a' w' p' g1 g2 g3 g4 g5 => hQ st' a' w' p' rfl ⟨g1,g2 0 hz,g3⟩ g4 (g5.trans hd)
   | false =>
    simp only [Bool.false_eq_true,if_false] at hs
    simp only [Bool.false_eq_true,if_false,Option.map_eq_some_iff] at ht
    obtain ⟨⟨b',st'⟩,hst,rfl⟩:=ht
    refine wp_region (zq3 hL hC hT (List.range ops.size) ops.toList ?_ _ b' st st' p w a ⟨{ σ:=σ.1,pe:=[] },[0],σ.2⟩ t' hI1 (zdr st) (fun x hx => by
     simp only [List.mem_singleton] at hx
     rw [hx]; exact h00) hTK hs hst fun a' w' p' g1 g2 g3 g4 g5 => hQ _ a' w' p' rfl ⟨g1.reset,g2 0 hz,g3⟩ g4 (g5.trans hd))
    apply List.ext_getElem?
    intro i
    simp only [List.getElem?_map,Array.getElem?_toList]
    rcases Nat.lt_or_ge i ops.size with hi | hi
    ·rw [List.getElem?_range hi]
     simp [hi]
    ·rw [List.getElem?_eq_none (by simpa using hi),Array.getElem?_eq_none hi]
     rfl
  | seq x y =>
   simp only [zaS,Option.bind_eq_some_iff] at hv
   obtain ⟨⟨e1,σ1⟩,h1,h2⟩:=hv
   simp only [zca,Option.bind_eq_some_iff] at ht
   obtain ⟨A,hA,ht⟩:=ht
   refine wp_seq (ih x σ e1 σ1 st A h1 hA p w a hI hd _ fun st1 a1 w1 p1 ha1 hI1 hev1 hd1 => zjD (fun he => ?_) (fun hne => ?_))
   ·subst he
    simp only at h2
    have ha1':A.norm = some st1:=ha1
    rw [ha1'] at ht
    simp only [Option.bind_eq_some_iff] at ht
    obtain ⟨B,hB,hj⟩:=ht
    refine ih y σ1 e σ' st1 B h2 hB p1 w1 a1 hI1 hd1 Q fun st2 a2 w2 p2 ha2 hI2 hev2 hd2 => ?_
    obtain ⟨st',h3,h4⟩:=(zc9 hj e).2 st2 ha2
    refine hQ st' a2 w2 p2 h3 ?_ (ett hev1 hev2) hd2
    rcases h4 with rfl | h4
    ·exact hI2
    ·exact Le.c h4 hI2
   ·have he:e1 = e ∧ σ1 = σ':=by
     cases e1 with
     | norm => exact absurd rfl hne
     | exit i => simp at h2; exact h2
     | ret => simp at h2; exact h2
    obtain ⟨rfl,rfl⟩:=he
    cases hAn:A.norm with
    | none =>
     rw [hAn] at ht
     cases ht
     exact hQ st1 a1 w1 p1 ha1 hI1 hev1 hd1
    | some s1 =>
     rw [hAn] at ht
     simp only [Option.bind_eq_some_iff] at ht
     obtain ⟨B,hB,hj⟩:=ht
     have ha1':Out.at { norm:=none,exits:=A.exits,ret:=A.ret } e1 = some st1:=by
      cases e1 with
      | norm => exact absurd rfl hne
      | exit i => exact ha1
      | ret => exact ha1
     obtain ⟨st',h3,h4⟩:=(zc9 hj e1).1 st1 ha1'
     refine hQ st' a1 w1 p1 h3 ?_ hev1 hd1
     rcases h4 with rfl | h4
     ·exact hI1
     ·exact Le.c h4 hI1
  | cond x y z =>
   simp only [zaS,Option.bind_eq_some_iff] at hv
   obtain ⟨t,ht',hv⟩:=hv
   simp only [zca,Option.bind_eq_some_iff] at ht
   obtain ⟨A,hA,B,hB,hj⟩:=ht
   have hc:a.eval x = .bool t:=zgE (p:=p) (w:=w) ht' (fun t _ => hI.1.slots t)
   refine wp_cond hc ?_
   cases t with
   | true =>
    simp only [if_true] at hv ⊢
    refine ih y σ e σ' st A hv hA p w a hI hd Q fun st2 a2 w2 p2 ha2 hI2 hev2 hd2 => ?_
    obtain ⟨st',h3,h4⟩:=(zc9 hj e).1 st2 ha2
    refine hQ st' a2 w2 p2 h3 ?_ hev2 hd2
    rcases h4 with rfl | h4
    ·exact hI2
    ·exact Le.c h4 hI2
   | false =>
    simp only [Bool.false_eq_true,if_false] at hv ⊢
    refine ih z σ e σ' st B hv hB p w a hI hd Q fun st2 a2 w2 p2 ha2 hI2 hev2 hd2 => ?_
    obtain ⟨st',h3,h4⟩:=(zc9 hj e).2 st2 ha2
    refine hQ st' a2 w2 p2 h3 ?_ hev2 hd2
    rcases h4 with rfl | h4
    ·exact hI2
    ·exact Le.c h4 hI2
  | block id b =>
   simp only [zaS,Option.map_eq_some_iff] at hv
   obtain ⟨⟨e1,σ1⟩,h1,h2⟩:=hv
   simp only [zca,Option.bind_eq_some_iff,Option.map_eq_some_iff] at ht
   obtain ⟨B,hB,n',hn,rfl⟩:=ht
   refine wp_block (ih b σ e1 σ1 st B h1 hB p w a hI hd _ fun st1 a1 w1 p1 ha1 hI1 hev1 hd1 => ?_)
   have fin:∀ st1',(∃ st',n' = some st' ∧ (st1' = st' ∨ Le st1' st')) → e = .norm → σ1 = σ' → st1' = st1 → Q .normal a1 w1:=by
    rintro st1' ⟨st',h3,h4⟩ rfl rfl rfl
    refine hQ st' a1 w1 p1 h3 ?_ hev1 hd1
    rcases h4 with rfl | h4
    ·exact hI1
    ·exact Le.c h4 hI1
   cases e1 with
   | norm =>
    simp only [Prod.mk.injEq] at h2
    exact fin st1 ((zgO hn).1 st1 ha1) h2.1.symm h2.2 rfl
   | exit i =>
    simp only at h2
    by_cases hi:i = id
    ·subst hi
     simp only [if_true,Prod.mk.injEq] at h2
     simp only [zi6,Exit.inBlock,if_true]
     exact fin st1 ((zgO hn).2 st1 ha1) h2.1.symm h2.2 rfl
    ·simp only [if_neg hi,Prod.mk.injEq] at h2
     obtain ⟨rfl,rfl⟩:=h2
     simp only [zi6,Exit.inBlock,if_neg hi]
     refine hQ st1 a1 w1 p1 ?_ hI1 hev1 hd1
     have ha1:B.exits.lookup i = some st1:=ha1
     show (B.exits.filter fun e => !(e.1 == id)).lookup i = some st1
     rw [← ha1]
     clear ha1 hn hB h1
     generalize B.exits = l
     induction l with
     | nil => rfl
     | cons y l ihl =>
      obtain ⟨k,v⟩:=y
      by_cases hk:k = id
      ·subst hk
       rw [List.filter_cons_of_neg (by simp),ihl]
       simp [List.lookup,show (i == k) = false by simpa using hi]
      ·rw [List.filter_cons_of_pos (by simpa using hk)]
       simp only [List.lookup]
       rw [ihl]
   | ret =>
    simp only [Prod.mk.injEq] at h2
    obtain ⟨rfl,rfl⟩:=h2
    exact hQ st1 a1 w1 p1 ha1 hI1 hev1 hd1
  | loop b =>
   simp only [zca,Option.bind_eq_some_iff] at ht
   obtain ⟨⟨J,O'⟩,htl,ht⟩:=ht
   simp only at ht
   split at ht
   case isFalse => cases ht
   rename_i hwk
   cases ht
   -- the invariant that was found
   have hJ:∀ (k:Nat) (J0:Stt),zpl (zca (zbp T) L S b) k J0 = some (J,O) → ∃ O1,zca (zbp T) L S b J = some O1 ∧ (∀ s1,O1.norm = some s1 → Le s1 J) ∧ (∀ e,e ≠ .norm → O.at e = O1.at e):=by
    intro k
    induction k with
    | zero => intro J0 h; cases h
    | succ k ihk =>
     intro J0 h
     simp only [zpl,Option.bind_eq_some_iff] at h
     obtain ⟨O1,hO1,h⟩:=h
     split at h
     ·rename_i hnone
      cases h
      exact ⟨_,hO1,(fun s1 h => by rw [hnone] at h; cases h),fun e _ => rfl⟩
     ·rename_i s1 hs1
      split at h
      ·rename_i hw
       cases h
       refine ⟨O1,hO1,fun s h => ?_,fun e he => ?_⟩
       ·rw [hs1] at h
        cases h
        exact zpw hw
       ·cases e with
        | norm => exact absurd rfl he
        | exit i => rfl
        | ret => rfl
      ·exact ihk _ h
   obtain ⟨O1,hO1,hnorm,hat⟩:=hJ _ _ htl
   let Pm:Act → World → Nat → Prop:=fun a1 w1 m => ∃ σ1 p1,m ≤ n + 1 ∧ zaS L T call ct m (.loop b) σ1 = some (e,σ') ∧ InvC J p1 w1 a1.tmps σ1 Own bb ∧ EvoC Own bb p w p1 w1 ∧ a1.defers = []
   have h0:Pm a w (n + 1):=⟨σ,p,Nat.le_refl _,hv,Le.c (zpw hwk) hI,EvoC.refl _ _ _ _,hd⟩
   refine wp_loop (fun a1 w1 => ∃ m,Pm a1 w1 m) (fun a1 w1 => zne (Pm a1 w1)) ⟨n + 1,h0⟩ ?_
   intro a1 w1 hex
   obtain ⟨σ1,p1,hle,hv1,hI1,hev1,hd1⟩:=(ziu hex).1
   generalize hm:zne (Pm a1 w1) = m at hle hv1 ⊢
   cases m with
   | zero => simp [zaS] at hv1
   | succ m =>
    simp only [zaS,Option.bind_eq_some_iff] at hv1
    obtain ⟨⟨e2,σ2⟩,hb,hr⟩:=hv1
    have hb':zaS L T call ct n b σ1 = some (e2,σ2):=zbR (fun _ _ _ _ h => h) (by omega) hb
    refine ih b σ1 e2 σ2 J O1 hb' hO1 p1 w1 a1 hI1 hd1 _ fun st2 a2 w2 p2 ha2 hI2 hev2 hd2 => zjD (fun he => ?_) (fun hne => ?_)
    ·subst he
     simp only at hr
     have hP:Pm a2 w2 m:=⟨σ2,p2,by omega,hr,Le.c (hnorm st2 ha2) hI2,ett hev1 hev2,hd2⟩
     exact ⟨⟨m,hP⟩,Nat.lt_succ_of_le ((ziu ⟨m,hP⟩).2 m hP)⟩
    ·have he:e2 = e ∧ σ2 = σ':=by
      cases e2 with
      | norm => exact absurd rfl hne
      | exit i => simp at hr; exact hr
      | ret => simp at hr; exact hr
     obtain ⟨rfl,rfl⟩:=he
     exact hQ st2 a2 w2 p2 (by rw [hat _ hne]; exact ha2) hI2 (ett hev1 hev2) hd2
  | exit id =>
   simp only [zaS,Option.some.injEq,Prod.mk.injEq] at hv
   obtain ⟨rfl,rfl⟩:=hv
   cases ht
   exact wp_exit (hQ st a w p (by simp [Out.at,List.lookup]) hI (EvoC.refl _ _ _ _) hd)
  | ret =>
   simp only [zaS,Option.some.injEq,Prod.mk.injEq] at hv
   obtain ⟨rfl,rfl⟩:=hv
   cases ht
   exact wp_ret (hQ st a w p rfl hI (EvoC.refl _ _ _ _) hd)
  | rangeFunc f ps x y => simp [zaS] at hv
  | scope b => simp [zaS] at hv
  | label l => simp [zaS] at hv
  | goto l => simp [zaS] at hv
  | refuse l => simp [zaS] at hv
theorem zup (hP:P.follows .mixedOrders = true) (hL:LayOk P L) (hC:za0 P S call) (hT:zcM P S T ct) {f:FuncId} {fn:Func} {sg:Sg} (hf:P.funcs[f]? = some fn) (hok:zav (zbp T) L S fn sg = true) (htk:sg.takes = []) {n:Nat} {q:List AC} {args:List SV} {r:AV × List AC} (hv:zj2 L T call ct n fn q args = some r)
  {p:Stb} {w:World} {b:Nat} {vals:List Value} (hreps:RepSs p w vals args) (hz:Zp p w) (hTK:TK p w (fun _ => False) b q) :
  Calls P f (za6 b :: vals).toArray w fun e w' => ∃ v,e = .returned v ∧ ∃ p',SR p' w' v r.1 ∧ (∀ cs,r.1 ≠ .box cs) ∧ r.1 ≠ .und ∧ Evo (· = b) p w p' w' ∧ Zp p' w' ∧ TK p' w' (fun _ => False) b r.2 ∧
   (∀ e ∈ sg.gives,∃ u,zay w' v e.1 = some u ∧ Rt p' w' u e.2 ∧ ∀ c,zau u = some c → w.heap.size ≤ c) ∧
   (∀ (e e':Nat × Nat) (u u':Value) (c:Nat),e ∈ sg.gives → e' ∈ sg.gives → e.1 ≠ e'.1 → zay w' v e.1 = some u → zay w' v e'.1 = some u' → zau u = some c → zau u' ≠ some c):=by
 unfold zav at hok
 simp only [Bool.and_eq_true,decide_eq_true_eq] at hok
 obtain ⟨⟨⟨_,htl⟩,hpn⟩,hok⟩:=hok
 unfold zj2 at hv
 cases hb:fn.body with
 | none => rw [hb] at hv; cases hv
 | some c =>
  rw [hb] at hv hok
  simp only at hv hok
  split at hv
  case isFalse => cases hv
  rename_i hnp
  simp only [Option.bind_eq_some_iff] at hv
  split at hok
  case h_2 => cases hok
  rename_i O hO
  simp only [Bool.and_eq_true] at hok
  obtain ⟨⟨e,σ'⟩,hrun,hres⟩:=hv
  have hlen:=hreps.length
  let Own:Nat → Prop:=fun c => w.heap.size ≤ c
  let m0:Array Value:=(za6 b :: vals).toArray ++ Array.replicate (fn.ntmps - (za6 b :: vals).toArray.size) undef
  have hm0:∀ t,m0.getD t undef = match (za6 b :: vals)[t]? with | some v => v | none => undef:=by
   intro t
   simp only [m0,Array.getD_eq_getD_getElem?,Array.getElem?_append,List.size_toArray,List.getElem?_toArray]
   rcases Nat.lt_or_ge t (za6 b :: vals).length with h | h
   ·rw [if_pos h,List.getElem?_eq_getElem h]; rfl
   ·rw [if_neg (by omega),List.getElem?_eq_none h,Array.getElem?_replicate]
    split <;> rfl
  have hst0:st0 sg fn.ntmps = { pid:=[],alive:=[],spe:=[],len:=fn.ntmps }:=by simp [st0,htk]
  have hg0:∀ t,VS.get { σ:=AV.und :: (args.map .v ++ List.replicate (fn.ntmps - (args.length + 1)) .und),pe:=[] } t = match t with | 0 => .und | t + 1 => (match args[t]? with | some x => .v x | none => .und):=fun t => by
   cases t with
   | zero => rfl
   | succ t => exact zrS args _ t
  have hI:Inv (st0 sg fn.ntmps) p w m0 { σ:=.und :: (args.map .v ++ List.replicate (fn.ntmps - (args.length + 1)) .und),pe:=[] } Own:=by
   have hnone:∀ t,zbB (VS.get { σ:=AV.und :: (args.map .v ++ List.replicate (fn.ntmps - (args.length + 1)) .und),pe:=[] } t) = false:=fun t => by
    rw [hg0]
    split
    ·rfl
    ·split <;> rfl
   have hnobox:∀ t cs,VS.get { σ:=AV.und :: (args.map .v ++ List.replicate (fn.ntmps - (args.length + 1)) .und),pe:=[] } t ≠ .box cs:=fun t cs h => by
    rw [hg0] at h
    split at h
    ·cases h
    ·split at h <;> cases h
   rw [hst0]
   refine ⟨by simp [m0]; omega,by simp; omega,fun t ht => (by cases ht),trivial,fun t => ⟨?_,fun q hq => by cases hq⟩,hz,trivial,⟨fun _ _ => rfl,fun _ _ _ h => by cases h⟩,fun b hb => hb,fun d cs h => absurd h (hnobox d cs),fun d d' cs cs' b _ h => absurd h (hnobox d cs),
    fun d k r b h => (by have:=hnone d; rw [h] at this; cases this),fun t d k r h => (by have:=hnone t; rw [h] at this; cases this),⟨fun t d h => (by have:=hnone t; rw [h] at this; cases this),fun d k r h => (by have:=hnone d; rw [h] at this; cases this)⟩,fun _ => undef,
    ⟨fun q id h => (by cases h),fun id k h => (by cases h),fun id k b h => (by cases h),fun id k id' k' b h => (by cases h),fun q id k d k' r b h => (by cases h)⟩⟩
   rw [hg0,hm0]
   cases t with
   | zero => intro c h; cases h
   | succ t =>
    simp only [List.getElem?_cons_succ]
    cases ha:args[t]? with
    | none =>
     have:vals[t]? = none:=by
      rw [List.getElem?_eq_none_iff] at ha ⊢
      omega
     rw [this]
     intro b hb
     cases hb
    | some x =>
     obtain ⟨v,hv,hr⟩:=hreps.get ha
     rw [hv]
     exact hr
  have h00:m0.getD 0 undef = za6 b:=by rw [hm0]; rfl
  have hTK0:TK p w Own b q:=hTK.own (fun h => by have:=hTK.lt; simp only [Own] at h; omega)
  refine calls_of_wp hf hb (zoj (Own:=Own) (bb:=b) hP hL hC hT n c _ e σ' _ O hrun hO p w { tmps:=m0,defers:=[] } ⟨hI,h00,hTK0⟩ rfl _ fun st' a' w' p' hat hIC hev' hd' => ?_)
  obtain ⟨hI',_,hTK'⟩:=hIC
  have hfin:(∀ i,e ≠ .exit i) → zrK st' fn.results.toList sg.gives = true → a'.defers = [] ∧ ∃ v,(results fn a'.tmps).run P w' = .ok v w' ∧ ∃ v',Ending.returned v = .returned v' ∧ ∃ p',SR p' w' v' r.1 ∧ (∀ cs,r.1 ≠ .box cs) ∧ r.1 ≠ .und ∧ Evo (· = b) p w p' w' ∧ Zp p' w' ∧ TK p' w' (fun _ => False) b r.2 ∧
   (∀ e ∈ sg.gives,∃ u,zay w' v' e.1 = some u ∧ Rt p' w' u e.2 ∧ ∀ c,zau u = some c → w.heap.size ≤ c) ∧
   (∀ (e e':Nat × Nat) (u u':Value) (c:Nat),e ∈ sg.gives → e' ∈ sg.gives → e.1 ≠ e'.1 → zay w' v' e.1 = some u → zay w' v' e'.1 = some u' → zau u = some c → zau u' ≠ some c):=by
   intro hne hro
   have hres':∃ vs,zd1 L σ'.1 fn.results.toList = some vs ∧ r = ((match vs with | [v] => .v v | vs => .tup vs),σ'.2):=by
    cases e with
    | exit i => exact absurd rfl (hne i)
    | norm =>
     simp only [Option.map_eq_some_iff] at hres
     obtain ⟨vs,h1,h2⟩:=hres
     exact ⟨vs,h1,h2.symm⟩
    | ret =>
     simp only [Option.map_eq_some_iff] at hres
     obtain ⟨vs,h1,h2⟩:=hres
     exact ⟨vs,h1,h2.symm⟩
   obtain ⟨vs,hvs,rfl⟩:=hres'
   obtain ⟨us,hu1,hu2,hu3⟩:=zi9 (P:=P) hL hI' fn.results.toList vs hvs
   have hul:=hu2.length
   have hrl:fn.results.toList.length = us.length:=by
    have:∀ (rs:List ResultVar) (vs:List SV),zd1 L σ'.1 rs = some vs → rs.length = vs.length:=by
     intro rs
     induction rs with
     | nil => intro vs h; cases h; rfl
     | cons r rs ih =>
      intro vs h
      simp only [zd1,Option.bind_eq_some_iff,Option.map_eq_some_iff] at h
      obtain ⟨_,_,vs',h,rfl⟩:=h
      simp [ih vs' h]
    rw [this _ _ hvs,hul]
   have hrunres:(results fn a'.tmps).run P w' = .ok (zeW us) w':=by
    have hr:results fn a'.tmps = (fn.results.mapM (zl6 a'.tmps) >>= fun vs => pure (if h:vs.size = 1 then vs[0] else .tuple vs)):=by
     unfold results
     congr 2
    have hmap:(fn.results.mapM (zl6 a'.tmps)).run P w' = .ok us.toArray w':=by
     rw [Array.mapM_eq_mapM_toList,map_eq_pure_bind]
     simp only [Sem.run_bind,hu1,Result.andThen,Sem.run_pure]
    rw [hr]
    simp only [Sem.run_bind,hmap,Result.andThen,Sem.run_pure]
    congr 1
    match us with
    | [] => rfl
    | [u] => rfl
    | _ :: _ :: _ => simp [zeW]
   -- the cells of the result
   have hcells:∀ (n:Nat) (q:Nat × Nat) (c:Value),zja fn.results.toList n = some q → zay w' (a'.tmps.getD q.1 undef) q.2 = some c → zay w' (zeW us) n = some c:=by
    intro n q c hq hc
    unfold zja at hq
    split at hq
    ·rename_i r hr
     cases hq
     have h1:us.length = 1:=by rw [← hrl,hr]; rfl
     match us,h1,hu3 with
     | [u],_,hu3 => exact hu3 0 r u n c (by rw [hr]; rfl) rfl hc
    ·rename_i hnone
     simp only [Option.map_eq_some_iff] at hq
     obtain ⟨r,hr,rfl⟩:=hq
     have h1:¬ us.length = 1:=by
      intro h1
      rw [← hrl] at h1
      match hl:fn.results.toList,h1 with
      | [r],_ => exact hnone r hl
     have hrv:zeW us = .tuple us.toArray:=by
      match us,h1 with
      | [],_ => rfl
      | [u],h1 => exact absurd rfl h1
      | _ :: _ :: _,_ => rfl
     rw [hrv]
     have hlt:n / 64 < us.length:=by rw [← hrl]; exact (List.getElem?_eq_some_iff.1 hr).1
     have hu:=hu3 (n / 64) r us[n / 64] (n % 64) c hr (List.getElem?_eq_getElem hlt) hc
     obtain ⟨x,hx⟩:∃ x,vs[n / 64]? = some x:=⟨vs[n / 64]'(by omega),List.getElem?_eq_getElem _⟩
     obtain ⟨u',hu',hru⟩:=hu2.get hx
     rw [List.getElem?_eq_getElem hlt] at hu'
     cases hu'
     rw [zbh hru] at hu
     show (us.toArray[n / 64]?).bind (fun u => u.cells[n % 64]?) = some c
     rw [List.getElem?_toArray,List.getElem?_eq_getElem hlt]
     exact hu
   obtain ⟨val,hR⟩:=hI'.rooms
   unfold zrK at hro
   simp only [Bool.and_eq_true,List.all_eq_true] at hro
   have hid:∀ e ∈ sg.gives,∃ id q,(q,id) ∈ st'.pid ∧ zrO st' fn.results.toList e.1 = some id ∧ (id,e.2) ∈ st'.alive ∧ zay w' (zeW us) e.1 = some (val id):=by
    intro e he
    have:=hro.1 e he
    split at this
    ·rename_i id hid
     have hid':=hid
     unfold zrO at hid'
     simp only [Option.bind_eq_some_iff] at hid'
     obtain ⟨q,hq,hl⟩:=hid'
     exact ⟨id,q,zaw hl,hid,za3 (by simpa using this),hcells _ q _ hq (hR.place _ _ (zaw hl)).1⟩
    ·cases this
   have hrt':∀ q id k,(q,id) ∈ st'.pid → (id,k) ∈ st'.alive → Rt (zdb p' a'.tmps { σ:=σ'.1,pe:=[] }) w' (val id) k:=fun q id k hq hal => by
    rcases hR.alive id k hal with e | ⟨b,off,len,cap,arr,T,e,h1,h2,h3,h4⟩
    ·exact .inl e
    ·refine .inr ⟨b,off,len,cap,arr,T,e,h1,h2,h3,?_⟩
     by_cases h:∃ n,zc3 a'.tmps { σ:=σ'.1,pe:=[] } b n
     ·obtain ⟨n,d,k',rows,hd,hdb,_⟩:=h
      obtain ⟨r1,r2,r3⟩:=hR.row q id k d k' rows b hq hal hd hdb (by rw [e]; rfl)
      have hv:a'.tmps.getD d undef = val id:=by
       have h5:=(hR.place q id hq).1
       have h6:a'.tmps.getD q.1 undef = a'.tmps.getD d undef:=by
        rcases r2 with r2 | r2
        ·rw [r2]
        ·exact hI'.al q.1 d k' rows r2 hd
       have hsr:=(hI'.slots d).1
       rw [hd] at hsr
       obtain ⟨ad,cp,hsl⟩:=zjG hsr
       rw [h6,r1,hsl] at h5
       rw [hsl]
       simpa [zay,Value.cells] using h5
      rw [znp hI' hd hdb,hv,e,← r3]
      exact ⟨Nat.le_refl _,h4.2⟩
     ·rw [zdk h]; exact h4
   have hnt:¬ ∃ n,zc3 a'.tmps { σ:=σ'.1,pe:=[] } b n:=fun ⟨n,hn⟩ => hTK'.not (zfl hI' hn).2.1
   refine ⟨hd',_,hrunres,_,rfl,zdb p' a'.tmps { σ:=σ'.1,pe:=[] },?_,?_,?_,(EvoC.trans hev' ((zbO hI').weaken (C:=fun c => Own c ∨ c = b) (fun c hc ⟨n,hn⟩ => .inl (zfl hI' hn).2.1))).weaken (fun c hc h => h.resolve_left (fun h => by simp only [Own] at h; omega)),zh7 hI',(hTK'.evo ((zbO hI').weaken (fun c hc ⟨n,hn⟩ => (zfl hI' hn).2.1))).own (fun h => h),fun e he => ?_,fun e e' u u' c he he' hne' hu hu' hbu => ?_⟩
   ·clear hrunres hcells hid hu3 hu1 hrl hvs
    match us,vs,hul,hu2 with
    | [],[],_,_ => exact ⟨_,rfl,trivial⟩
    | [u],[v],_,hu2 => exact hu2.1
    | u :: u' :: us,v :: v' :: vs,_,hu2 => exact ⟨_,rfl,by simpa using hu2⟩
   ·intro cs h
    simp only at h
    split at h <;> cases h
   ·intro h
    simp only at h
    split at h <;> cases h
   ·obtain ⟨id,q,hq,_,hm,hc⟩:=hid e he
    exact ⟨val id,hc,hrt' q id _ hq hm,fun b hb => (hR.own _ _ b hm hb).1⟩
   ·obtain ⟨id,q,_,hi,hm,hc⟩:=hid e he
    obtain ⟨id',q',_,hi',hm',hc'⟩:=hid e' he'
    rw [hc] at hu
    cases hu
    rw [hc'] at hu'
    cases hu'
    refine hR.apart id _ id' _ c hm hm' (fun hid => ?_) hbu
    have:=hro.2 e he e' he'
    rw [hi,hi',hid] at this
    simp at this
    exact hne' this
  cases e with
  | exit i => cases hres
  | norm =>
   have hat:O.norm = some st':=hat
   exact hfin (fun i h => by cases h) (by have:=hok.1; rw [hat] at this; exact this)
  | ret =>
   have hat:O.ret = some st':=hat
   exact hfin (fun i h => by cases h) (by have:=hok.2; rw [hat] at this; exact this)
theorem ztS {n:Nat} {fn:Func} {q:List AC} {args:List SV} {r:AV × List AC} (h:zj2 L T call ct n fn q args = some r):zht r.1 = true ∧ fn.body.isSome = true:=by
 unfold zj2 at h
 split at h
 ·cases h
 ·rename_i c hc
  split at h
  case isFalse => cases h
  simp only [Option.bind_eq_some_iff] at h
  obtain ⟨⟨e,s⟩,_,h⟩:=h
  split at h
  ·cases h
  ·simp only [Option.map_eq_some_iff] at h
   obtain ⟨vs,_,rfl⟩:=h
   exact ⟨by simp only; split <;> rfl,by rw [hc]; rfl⟩
structure zuL (P:Program) (L:Lay) (S:Sig) (T:Nat → Bool) (E:zkU):Prop where
 takes:∀ f,T f = true → (S.sg f).takes = []
 ext:∀ f e,T f = true → E f = some e → ∀ ct,zcM P S T ct → zoi P S f (e.run ct)
 fn:∀ f,T f = true → E f = none → ∃ fn,P.funcs[f]? = some fn ∧ zav (zbp T) L S fn (S.sg f) = true
theorem zm7 {E:zkU} (hP:P.follows .mixedOrders = true) (hL:LayOk P L) (hC:za0 P S call) (hA:zuL P L S T E):∀ n,zcM P S T (zdX P L T call E n)
 | 0 => fun f hf => ⟨hA.takes f hf,fun q args r h => by cases h⟩
 | n + 1 => by
  have ih:=zm7 hP hL hC hA n
  intro f hf
  refine ⟨hA.takes f hf,?_⟩
  cases he:E f with
  | some e =>
   have:zdX P L T call E (n + 1) f = e.run (zdX P L T call E n):=by
    funext q args
    simp only [zdX,hf,if_true,he]
   rw [this]
   exact hA.ext f e hf he _ ih
  | none =>
   intro q args r h
   simp only [zdX,hf,if_true,he] at h
   obtain ⟨fn,hfn,hok⟩:=hA.fn f hf he
   rw [hfn] at h
   simp only at h
   obtain ⟨h1,h2⟩:=ztS h
   refine ⟨⟨h1,fn,hfn,h2,?_⟩,fun p w b vals hreps hz hTK => zup hP hL hC ih hfn hok (hA.takes f hf) h hreps hz hTK⟩
   unfold zav at hok
   simp only [Bool.and_eq_true,Bool.not_eq_true'] at hok
   exact hok.1.1.1
theorem zAy {E:zkU} (hP:P.follows .mixedOrders = true) (hL:LayOk P L) (hC:za0 P S call) (hA:zuL P L S T E):zcM P S T (TV P L T call E):=fun f hf => ⟨hA.takes f hf,fun q args r h => by
 obtain ⟨n,hn⟩:=TV_iff.1 h
 exact (zm7 hP hL hC hA n f hf).2 q args r hn⟩
end
end Go.Proofs.Ytbodfaghedolbaa
