/- Generic texts and models for the proofs of this seat: part 21. -/
import Derived.Test.YtcpcagdialnbeaaGreatY20
import Derived.Laws.BitsAllLaws
import Derived.Laws.BitsLemmas
set_option linter.unusedVariables false
set_option linter.unusedSimpArgs false
namespace Go.Proofs.YtcpcagdialnbeaaGreat
open Go Go.RowKit Go.BigFrame
def zkN (ns:List Nat) (p:Nat) (m:Int):Int :=
 if m < 1 ∨ ns.length = 0 then 0
 else if p < ns.length then ((ns.getD p 0:Nat):Int) % m
 else bits .xor .i64 (((ns.getD (p % ns.length) 0:Nat):Int) * 131 + ((ns.getD ((p * 7 + 3) % ns.length) 0:Nat):Int) * 1117 + (p:Int) * 29 + ((p / ns.length:Nat):Int) * 53) ((((ns.getD (p % ns.length) 0:Nat):Int) * 131 + ((ns.getD ((p * 7 + 3) % ns.length) 0:Nat):Int) * 1117 + (p:Int) * 29 + ((p / ns.length:Nat):Int) * 53) / 64) % m
structure RdN (w:World) (g p:Nat) (ns:List Nat) (T:TypeId) (A:Option Addr) (c:Nat):Prop where
 made:∃ n,n ≤ 2000 ∧ n ≤ c ∧ w.heap[g]? = some (.cells #[.slice A n c,.int .i64 p] T (0,0)) ∧ ns.length = n ∧ (0 < n → ∃ b o,A = some ⟨b,o,none⟩ ∧ b ≠ g ∧ ∀ (i u:Nat),ns[i]? = some u → u ≤ 255 ∧ w.cell? ⟨b,o + i,none⟩ = some (.int .u8 (u:Int)))
theorem RdN.keep {w w':World} {g p:Nat} {ns:List Nat} {T:TypeId} {A:Option Addr} {c:Nat} (h:RdN w g p ns T A c) (s:∀ k:Nat,w'.heap[k]? = w.heap[k]?):RdN w' g p ns T A c:=by
 obtain ⟨n,h1,h2,hh,hl,hb⟩:=h.made
 refine ⟨n,h1,h2,(s g).trans hh,hl,fun hn => ?_⟩
 obtain ⟨b,o,e,hl,hc⟩:=hb hn
 refine ⟨b,o,e,hl,fun i u hi => ?_⟩
 obtain ⟨hu,hx⟩:=hc i u hi
 exact ⟨hu,(World.cell?_of_block (w:=w) (s b)).trans hx⟩
theorem RdN.step {w:World} {g p:Nat} {ns:List Nat} {T:TypeId} {A:Option Addr} {c:Nat} (h:RdN w g p ns T A c) (q:Nat):RdN (w.setCell ⟨g,1,none⟩ (.int .i64 q)) g q ns T A c:=by
 obtain ⟨n,h1,h2,hh,hl,hb⟩:=h.made
 refine ⟨n,h1,h2,?_,hl,fun hn => ?_⟩
 ·simp [World.setCell,Array.getElem?_modify,hh]
 ·obtain ⟨b,o,e,hl,hc⟩:=hb hn
  refine ⟨b,o,e,hl,fun i u hi => ?_⟩
  obtain ⟨hu,hx⟩:=hc i u hi
  exact ⟨hu,(World.cell?_setCell_other w _ _ _ (by intro e; injection e; omega)).trans hx⟩
theorem zjd {w:World} {g i:Nat} (u:Value):w.grownBy (w.setCell ⟨g,i,none⟩ u) (some g) :=
 ⟨rfl,rfl,rfl,by simp,fun k _ hk => Below.heap_setCell w _ _ _ (fun e => hk (by simp [e]))⟩
theorem zxq {a w:World} {row:Option Nat} (h:a.grownBy w row) (n:Nat):a.grownBy (w.drewN n) row:=⟨h.os,h.tape,h.output,h.size,h.block⟩
theorem zuN (a:Nat) (ha:a < 9223372036854775808):(BitVec.ofInt 64 (a:Int)).toNat = a:=by
 rw [BitVec.ofInt_natCast,BitVec.toNat_ofNat]; exact Nat.mod_eq_of_lt (by omega)
theorem zEu (a b:Nat) (ha:a < 9223372036854775808) (hb:b < 9223372036854775808):∃ k:Nat,k < 9223372036854775808 ∧ bits .xor .i64 (a:Int) (b:Int) = (k:Int):=by
 have hx:a ^^^ b < 2 ^ 63:=Nat.xor_lt_two_pow (by omega) (by omega)
 refine ⟨a ^^^ b,by omega,?_⟩
 show IntKind.i64.wrap ((BitVec.ofInt 64 (a:Int) ^^^ BitVec.ofInt 64 (b:Int)).toNat:Int) = _
 rw [BitVec.toNat_xor,zuN a ha,zuN b hb,IntKind.wrap_i64]
 omega
set_option maxHeartbeats 400000 in
theorem zC8 (m:Int) (g p:Nat) (ns:List Nat) (T:TypeId) (A:Option Addr) (c:Nat) (w:World) (hr:RdN w g p ns T A c) (hp:p ≤ 1000000) :
  Calls Tryz.prog 62 #[.pointer (some ⟨g,0,none⟩),.int .i64 m] w fun e w' => e = .returned (.int .i64 (zkN ns p m)) ∧ RdN w' g (p + 1) ns T A c ∧ w.grownBy w' (some g):=by
 have hr':=hr.step (p + 1)
 rw [show ((p + 1:Nat):Int) = (p:Int) + 1 by omega] at hr'
 obtain ⟨n,hn,hnc,hh,hln,hb⟩:=hr.made
 have c0:w.cell? ⟨g,0,none⟩ = some (.slice A n c):=by simp [World.cell?,hh]
 have c1:w.cell? ⟨g,1,none⟩ = some (.int .i64 p):=by simp [World.cell?,hh]
 have f1:w.frozen? ⟨g,1,none⟩ = false:=by simp [World.frozen?,hh]
 have hg:(⟨g,0,none⟩:Addr) ≠ ⟨g,1,none⟩:=by simp
 have Hr:=Lib.hid hr'
 clear hr hr' hh
 by_cases hm:m < 1
 ·go_enter Tryz.func62,Tryz.ntmps62
  go_wp2_with fail
  go_ret
  have hv:zkN ns p m = 0:=by unfold zkN; rw [if_pos (.inl hm)]
  exact ⟨(by first | rfl | exact congrArg (fun x => Ending.returned (Value.int .i64 x)) hv.symm),Hr.out,zjd _⟩
 ·by_cases hz:n = 0
  ·have hzb:((n:Int) == 0) = true:=by simp [hz]
   have hv:zkN ns p m = 0:=by unfold zkN; rw [if_pos (.inr (by omega))]
   clear hz hb hln
   go_enter Tryz.func62,Tryz.ntmps62
   go_wp2_with fail
   go_ret
   exact ⟨(by first | rfl | exact congrArg (fun x => Ending.returned (Value.int .i64 x)) hv.symm),Hr.out,zjd _⟩
  ·have hzb:((n:Int) == 0) = false:=by simp [hz]
   obtain ⟨b,o,rfl,hl,hc⟩:=hb (by omega)
   have hc:∀ i,i < n → ∃ u:Nat,ns.getD i 0 = u ∧ u ≤ 255 ∧ w.cell? ⟨b,o + i,none⟩ = some (.int .u8 (u:Int)):=fun i hi => by
    have hlt:i < ns.length:=hln ▸ hi
    obtain ⟨h1,h2⟩:=hc i (ns.getD i 0) (by rw [List.getD_eq_getElem?_getD,List.getElem?_eq_getElem hlt]; rfl)
    exact ⟨_,rfl,h1,h2⟩
   have hzn:¬ (m < 1 ∨ ns.length = 0):=fun h => h.elim hm (fun h => hz (hln.symm.trans h))
   by_cases hk:p < n
   ·obtain ⟨u,hun,hu,hx⟩:=hc p hk
    have hv:zkN ns p m = (u:Int) % m:=by unfold zkN; rw [if_neg hzn,if_pos (by omega),hun]
    have hne:(⟨b,o + p,none⟩:Addr) ≠ ⟨g,1,none⟩:=by intro e; injection e; omega
    have hne':(⟨g,1,none⟩:Addr) ≠ ⟨b,o + p,none⟩:=fun e => hne e.symm
    clear hc hz hln hzn hun
    go_enter Tryz.func62,Tryz.ntmps62
    go_wp2_with fail
    go_ret
    exact ⟨(by first | rfl | exact congrArg (fun x => Ending.returned (Value.int .i64 x)) hv.symm),Hr.out,zjd _⟩
   ·obtain ⟨i1,hi1⟩:∃ i:Nat,p % n = i:=⟨_,rfl⟩
    obtain ⟨i2,hi2⟩:∃ i:Nat,(p * 7 + 3) % n = i:=⟨_,rfl⟩
    have hi1n:i1 < n:=by rw [← hi1]; exact Nat.mod_lt _ (by omega)
    have hi2n:i2 < n:=by rw [← hi2]; exact Nat.mod_lt _ (by omega)
    obtain ⟨q,hq⟩:∃ q:Nat,p / n = q:=⟨_,rfl⟩
    have hd:q ≤ 1000000:=by rw [← hq]; exact Nat.le_trans (Nat.div_le_self _ _) hp
    obtain ⟨u1,hun1,hu1,hx1⟩:=hc i1 hi1n
    obtain ⟨u2,hun2,hu2,hx2⟩:=hc i2 hi2n
    have hv:zkN ns p m = bits .xor .i64 ((u1:Int) * 131 + (u2:Int) * 1117 + (p:Int) * 29 + (q:Int) * 53) (((u1:Int) * 131 + (u2:Int) * 1117 + (p:Int) * 29 + (q:Int) * 53) / 64) % m:=by
     unfold zkN
     rw [if_neg hzn,if_neg (by omega),hln,hi1,hi2,hq,hun1,hun2]
    have hne1:(⟨b,o + i1,none⟩:Addr) ≠ ⟨g,1,none⟩:=by intro e; injection e; omega
    have hne1':(⟨g,1,none⟩:Addr) ≠ ⟨b,o + i1,none⟩:=fun e => hne1 e.symm
    have hne2:(⟨b,o + i2,none⟩:Addr) ≠ ⟨g,1,none⟩:=by intro e; injection e; omega
    have hne2':(⟨g,1,none⟩:Addr) ≠ ⟨b,o + i2,none⟩:=fun e => hne2 e.symm
    have t1:((p:Int).tmod (n:Int)) = (i1:Int):=by rw [← hi1]; rfl
    have t2:(((p:Int) * 7 + 3).tmod (n:Int)) = (i2:Int):=by rw [← hi2]; rfl
    have t6:(p:Int) / (n:Int) = (q:Int):=by rw [← hq]; rfl
    have t4:(p:Int) % (n:Int) = (i1:Int):=by rw [← hi1]; rfl
    have t5:((p:Int) * 7 + 3) % (n:Int) = (i2:Int):=by rw [← hi2]; rfl
    clear hc hz hi1 hi2 hq hln hzn hun1 hun2
    go_enter Tryz.func62,Tryz.ntmps62
    go_wp2_with fail
    go_quiet (fail)
    clear t1 t2 t4 t5 t6
    obtain ⟨x0,hx0⟩:∃ x0:Nat,(u1:Int) * 131 + (u2:Int) * 1117 + (p:Int) * 29 + (q:Int) * 53 = x0:=⟨u1 * 131 + u2 * 1117 + p * 29 + q * 53,by omega⟩
    have hxl:x0 ≤ 1000000000:=by omega
    rw [hx0] at hv
    rw [hx0]
    clear hx0
    obtain ⟨y,hy,hy2⟩:=zEu x0 (x0 / 64) (by omega) (by omega)
    rw [show ((x0 / 64:Nat):Int) = (x0:Int) / 64 from rfl] at hy2
    go_wp2_with fail
    go_ret
    exact ⟨(by first | exact congrArg (fun x => Ending.returned (Value.int .i64 x)) (hv.trans (congrArg (· % m) hy2)).symm | exact congrArg (fun x => Ending.returned (Value.int .i64 (x % m))) hy2.symm | rfl),Hr.out.keep (fun _ => rfl),zxq (zjd _) _⟩
def zlM:List (List AC) → Option (List Nat)
 | [] => some []
 | [.bool true,.int u] :: rs => if 0 ≤ u then (zlM rs).map (u.toNat :: ·) else none
 | _ => none
theorem zmZ:∀ ns:List Nat,zlM (ns.map fun (u:Nat) => [.bool true,.int (u:Int)]) = some ns
 | [] => rfl
 | u :: ns => by simp [zlM,zmZ ns]
def zpt:List AC → List SV → Option (AV × List AC)
 | [.sl 1 rows,.int p],[.cell (.int m)] => (zlM rows).bind fun ns => if 0 ≤ p ∧ p ≤ 1000000 ∧ ns.length ≤ 2000 then some (.v (.cell (.int (zkN ns p.toNat m))),[.sl 1 rows,.int (p + 1)]) else none
 | _,_ => none
def zyo:zDN:={ run:=fun _ => zpt,mono:=fun _ _ _ _ _ _ h => h,cont:=fun _ _ _ _ _ _ _ h => ⟨0,h⟩ }
theorem zyN {p:Stb} {w:World} {b:Nat} (hpb:p b = 0) {v:Value} {rows:List (List AC)} {ns:List Nat} (hr:RepQ p w v (.sl 1 rows)) (hb:zlM rows = some ns) :
  ∃ A c,v = .slice A ns.length c ∧ ns.length ≤ c ∧ (0 < ns.length → ∃ d o,A = some ⟨d,o,none⟩ ∧ d ≠ b ∧ ∀ (i u:Nat),ns[i]? = some u → u ≤ 255 ∧ w.cell? ⟨d,o + i,none⟩ = some (.int .u8 (u:Int))):=by
 rcases hr with hr | ⟨A,n,cap,e,hc,ms,hl,hq,hx⟩
 ·have hnil:rows = [] → ns = []:=fun h => by
   rw [h] at hb
   simp only [zlM,Option.some.injEq] at hb
   exact hb.symm
  cases hr with
  | nil a k =>
   have:=hnil rfl
   subst this
   exact ⟨a,0,rfl,Nat.le_refl _,fun h => absurd h (Nat.lt_irrefl 0)⟩
  | sl d o cap k rows f hk hrows hd hp hok hcap hcc hrr =>
   cases rows with
   | nil =>
    have:=hnil rfl
    subst this
    exact ⟨some ⟨d,o,none⟩,cap,rfl,Nat.zero_le _,fun h => absurd h (Nat.lt_irrefl 0)⟩
   | cons x xs =>
    have h1:=hrows x List.mem_cons_self
    unfold zlM at hb
    split at hb
    ·rename_i heq; cases heq
    ·rename_i heq; cases heq; simp at h1
    ·cases hb
 ·injection hq with _ hq
  rw [hq,zmZ] at hb
  cases hb
  rw [hl,e]
  refine ⟨A,cap,rfl,hc,fun hn => ?_⟩
  obtain ⟨d,o,hA,hd,hp,_,hcell⟩:=hx hn
  exact ⟨d,o,hA,fun e => by subst e; omega,hcell⟩
theorem zCe {S:Sig} (hgv:(S.sg 62).gives = []):ztm Tryz.prog S 62 zpt:=by
 intro q args r h
 unfold zpt at h
 split at h
 case h_2 => cases h
 rename_i rows pos m
 simp only [Option.bind_eq_some_iff] at h
 obtain ⟨ns,hns,h⟩:=h
 split at h
 case isFalse => cases h
 rename_i hc
 cases h
 refine ⟨⟨rfl,_,Tryz.func62,by kernel_rfl,by kernel_rfl⟩,fun p w b vals hreps hz hTK => ?_⟩
 have hv:vals = [.int .i64 m]:=by
  match vals,hreps with
  | [v],hh =>
   obtain ⟨h1,_⟩:=hh
   have h1:Rep p w v (.int m):=h1
   cases h1
   rfl
  | [],hh => exact hh.elim
  | _ :: _ :: _,hh => exact hh.2.elim
 subst hv
 obtain ⟨pn,rfl⟩:∃ pn:Nat,pos = pn:=⟨pos.toNat,by omega⟩
 obtain ⟨arr,T,hh,hq⟩:=hTK.cells
 have harr:∃ v0,arr = #[v0,.int .i64 pn] ∧ RepQ p w v0 (.sl 1 rows):=by
  obtain ⟨l⟩:=arr
  match l,hq with
  | [v0,v1],hh =>
   obtain ⟨h0,h1,_⟩:=hh
   rcases h1 with h1 | ⟨_,_,_,_,_,_,_,hc,_⟩
   ·cases h1
    exact ⟨v0,rfl,h0⟩
   ·cases hc
  | [],hh => exact hh.elim
  | [_],hh => exact hh.2.elim
  | _ :: _ :: _ :: _,hh => exact hh.2.2.elim
 obtain ⟨v0,rfl,h0⟩:=harr
 obtain ⟨A,c,rfl,hlc,hby⟩:=zyN hTK.pz h0 hns
 have hrd:RdN w b pn ns T A c:=⟨ns.length,hc.2.2,hlc,hh,rfl,hby⟩
 refine (zC8 m b pn ns T A c w hrd (by omega)).mono ?_
 rintro e w' ⟨rfl,hrd',hg⟩
 obtain ⟨n',_,_,hh',hln',_⟩:=hrd'.made
 have hev:Evo (· = b) p w (okP p w 0) w':=⟨hg.os,hg.tape,hg.output,hg.size,fun c hc hne => hg.block c hc (by simpa using hne),fun _ _ => Nat.le_refl _,fun _ _ _ => rfl,fun c o hc ho => by
  have hne:c ≠ b:=fun e => by subst e; rw [hTK.pz] at ho; omega
  exact World.cell?_of_block (w:=w) (hg.block c hc (by simpa using hne)),fun c hc => zxF hc,fun _ h1 _ _ _ hi hj => zB1 h1 hi hj⟩
 have hcell0:RepQ (okP p w 0) w' (.slice A ns.length c) (.sl 1 rows):=h0.evo hev
 have hn:n' = ns.length:=hln'.symm
 subst hn
 refine ⟨.int .i64 (zkN ns pn m),rfl,okP p w 0,?_,?_,?_,hev,⟨fun c hc => hz.1 c (Nat.le_trans hg.size hc),fun c hc => hz.2 c (Nat.le_trans hg.size hc)⟩,?_,?_,?_⟩
 ·exact Rep.int _
 ·intro cs h; cases h
 ·intro h; cases h
 ·refine ⟨fun h => h,Nat.lt_of_lt_of_le hTK.lt hg.size,hTK.pz,_,_,hh',hcell0,.inl ?_,trivial⟩
  exact Rep.int _
 ·rw [hgv]; intro e he; cases he
 ·rw [hgv]; intro e e' u u' c he; cases he
end Go.Proofs.YtcpcagdialnbeaaGreat
namespace Go.Proofs.YtcpcagdialnbeaaGreat
open Go
def tt (f:Nat):Bool:=[62,39,40,73,75,76,78,104,105,106,107,108,124,125,126,131,132,133,135,136,139].any fun e => Nat.beq e f
def zg0 (f:Nat):Option zDN:=if Nat.beq f 62 then some zyo else none
theorem zBO:zar (zbH tt) lay sig Tryz.f39 (sig.sg 39) = true:=by kernel_rfl
theorem zA2:zar (zbH tt) lay sig Tryz.f40 (sig.sg 40) = true:=by kernel_rfl
theorem zzY:zar (zbH tt) lay sig Tryz.f73 (sig.sg 73) = true:=by kernel_rfl
theorem zBN:zar (zbH tt) lay sig Tryz.f75 (sig.sg 75) = true:=by kernel_rfl
theorem zAy:zar (zbH tt) lay sig Tryz.f76 (sig.sg 76) = true:=by kernel_rfl
theorem zB9:zar (zbH tt) lay sig Tryz.f78 (sig.sg 78) = true:=by kernel_rfl
theorem zyR:zar (zbH tt) lay sig Tryz.f104 (sig.sg 104) = true:=by kernel_rfl
theorem zy4:zar (zbH tt) lay sig Tryz.f105 (sig.sg 105) = true:=by kernel_rfl
theorem zzp:zar (zbH tt) lay sig Tryz.f106 (sig.sg 106) = true:=by kernel_rfl
theorem zzx:zar (zbH tt) lay sig Tryz.f107 (sig.sg 107) = true:=by kernel_rfl
theorem zyW:zar (zbH tt) lay sig Tryz.f108 (sig.sg 108) = true:=by kernel_rfl
theorem zzk:zar (zbH tt) lay sig Tryz.f124 (sig.sg 124) = true:=by kernel_rfl
theorem zzu:zar (zbH tt) lay sig Tryz.f125 (sig.sg 125) = true:=by kernel_rfl
theorem zy9:zar (zbH tt) lay sig Tryz.f126 (sig.sg 126) = true:=by kernel_rfl
theorem zy8:zar (zbH tt) lay sig Tryz.f131 (sig.sg 131) = true:=by kernel_rfl
theorem zzg:zar (zbH tt) lay sig Tryz.f132 (sig.sg 132) = true:=by kernel_rfl
theorem zzv:zar (zbH tt) lay sig Tryz.f133 (sig.sg 133) = true:=by kernel_rfl
theorem zzd:zar (zbH tt) lay sig Tryz.f135 (sig.sg 135) = true:=by kernel_rfl
theorem zze:zar (zbH tt) lay sig Tryz.f136 (sig.sg 136) = true:=by kernel_rfl
theorem zyL:zar (zbH tt) lay sig Tryz.f139 (sig.sg 139) = true:=by kernel_rfl
theorem zse {f:Nat} (h:tt f = true):f ∈ [62,39,40,73,75,76,78,104,105,106,107,108,124,125,126,131,132,133,135,136,139]:=by
 unfold tt at h
 simp only [List.any_eq_true] at h
 obtain ⟨e,he,hb⟩:=h
 rw [← Nat.eq_of_beq_eq_true hb]
 exact he
theorem zxA:zAp Tryz.prog lay sig tt zg0:=by
 refine ⟨fun f hf => ?_,fun f e hf he ct hct => ?_,fun f hf he => ?_⟩
 ·have hm:=zse hf
  simp only [List.mem_cons,List.not_mem_nil,or_false] at hm
  rcases hm with rfl | rfl | rfl | rfl | rfl | rfl | rfl | rfl | rfl | rfl | rfl | rfl | rfl | rfl | rfl | rfl | rfl | rfl | rfl | rfl | rfl
  ·exact (show (sig.sg 62).takes = [] by kernel_rfl)
  ·exact (show (sig.sg 39).takes = [] by kernel_rfl)
  ·exact (show (sig.sg 40).takes = [] by kernel_rfl)
  ·exact (show (sig.sg 73).takes = [] by kernel_rfl)
  ·exact (show (sig.sg 75).takes = [] by kernel_rfl)
  ·exact (show (sig.sg 76).takes = [] by kernel_rfl)
  ·exact (show (sig.sg 78).takes = [] by kernel_rfl)
  ·exact (show (sig.sg 104).takes = [] by kernel_rfl)
  ·exact (show (sig.sg 105).takes = [] by kernel_rfl)
  ·exact (show (sig.sg 106).takes = [] by kernel_rfl)
  ·exact (show (sig.sg 107).takes = [] by kernel_rfl)
  ·exact (show (sig.sg 108).takes = [] by kernel_rfl)
  ·exact (show (sig.sg 124).takes = [] by kernel_rfl)
  ·exact (show (sig.sg 125).takes = [] by kernel_rfl)
  ·exact (show (sig.sg 126).takes = [] by kernel_rfl)
  ·exact (show (sig.sg 131).takes = [] by kernel_rfl)
  ·exact (show (sig.sg 132).takes = [] by kernel_rfl)
  ·exact (show (sig.sg 133).takes = [] by kernel_rfl)
  ·exact (show (sig.sg 135).takes = [] by kernel_rfl)
  ·exact (show (sig.sg 136).takes = [] by kernel_rfl)
  ·exact (show (sig.sg 139).takes = [] by kernel_rfl)
 ·have hm:=zse hf
  simp only [List.mem_cons,List.not_mem_nil,or_false] at hm
  rcases hm with rfl | rfl | rfl | rfl | rfl | rfl | rfl | rfl | rfl | rfl | rfl | rfl | rfl | rfl | rfl | rfl | rfl | rfl | rfl | rfl | rfl
  ·have h:zg0 62 = some zyo:=by kernel_rfl
   rw [h] at he
   cases he
   exact zCe (by kernel_rfl)
  ·have h:zg0 39 = none:=by kernel_rfl
   rw [h] at he
   cases he
  ·have h:zg0 40 = none:=by kernel_rfl
   rw [h] at he
   cases he
  ·have h:zg0 73 = none:=by kernel_rfl
   rw [h] at he
   cases he
  ·have h:zg0 75 = none:=by kernel_rfl
   rw [h] at he
   cases he
  ·have h:zg0 76 = none:=by kernel_rfl
   rw [h] at he
   cases he
  ·have h:zg0 78 = none:=by kernel_rfl
   rw [h] at he
   cases he
  ·have h:zg0 104 = none:=by kernel_rfl
   rw [h] at he
   cases he
  ·have h:zg0 105 = none:=by kernel_rfl
   rw [h] at he
   cases he
  ·have h:zg0 106 = none:=by kernel_rfl
   rw [h] at he
   cases he
  ·have h:zg0 107 = none:=by kernel_rfl
   rw [h] at he
   cases he
  ·have h:zg0 108 = none:=by kernel_rfl
   rw [h] at he
   cases he
  ·have h:zg0 124 = none:=by kernel_rfl
   rw [h] at he
   cases he
  ·have h:zg0 125 = none:=by kernel_rfl
   rw [h] at he
   cases he
  ·have h:zg0 126 = none:=by kernel_rfl
   rw [h] at he
   cases he
  ·have h:zg0 131 = none:=by kernel_rfl
   rw [h] at he
   cases he
  ·have h:zg0 132 = none:=by kernel_rfl
   rw [h] at he
   cases he
  ·have h:zg0 133 = none:=by kernel_rfl
   rw [h] at he
   cases he
  ·have h:zg0 135 = none:=by kernel_rfl
   rw [h] at he
   cases he
  ·have h:zg0 136 = none:=by kernel_rfl
   rw [h] at he
   cases he
  ·have h:zg0 139 = none:=by kernel_rfl
   rw [h] at he
   cases he
 ·have hm:=zse hf
  simp only [List.mem_cons,List.not_mem_nil,or_false] at hm
  rcases hm with rfl | rfl | rfl | rfl | rfl | rfl | rfl | rfl | rfl | rfl | rfl | rfl | rfl | rfl | rfl | rfl | rfl | rfl | rfl | rfl | rfl
  ·have h:zg0 62 = some zyo:=by kernel_rfl
   rw [h] at he
   cases he
  ·exact ⟨_,Tryz.func39,zBO⟩
  ·exact ⟨_,Tryz.func40,zA2⟩
  ·exact ⟨_,Tryz.func73,zzY⟩
  ·exact ⟨_,Tryz.func75,zBN⟩
  ·exact ⟨_,Tryz.func76,zAy⟩
  ·exact ⟨_,Tryz.func78,zB9⟩
  ·exact ⟨_,Tryz.func104,zyR⟩
  ·exact ⟨_,Tryz.func105,zy4⟩
  ·exact ⟨_,Tryz.func106,zzp⟩
  ·exact ⟨_,Tryz.func107,zzx⟩
  ·exact ⟨_,Tryz.func108,zyW⟩
  ·exact ⟨_,Tryz.func124,zzk⟩
  ·exact ⟨_,Tryz.func125,zzu⟩
  ·exact ⟨_,Tryz.func126,zy9⟩
  ·exact ⟨_,Tryz.func131,zy8⟩
  ·exact ⟨_,Tryz.func132,zzg⟩
  ·exact ⟨_,Tryz.func133,zzv⟩
  ·exact ⟨_,Tryz.func135,zzd⟩
  ·exact ⟨_,Tryz.func136,zze⟩
  ·exact ⟨_,Tryz.func139,zyL⟩
end Go.Proofs.YtcpcagdialnbeaaGreat
