/- Generic texts and models for the proofs of this seat: part 36. -/
import Derived.Test.YtcpcagdialnbeaaGreatY35
set_option linter.unusedVariables false
set_option linter.unusedSimpArgs false
namespace Go.Proofs.YtcpcagdialnbeaaGreat
open Go Go.RowKit
def zlw (w:World) (B:Nat) (x0 x1:Value):World:=(w.setCell ⟨B,0,none⟩ x0).setCell ⟨B,1,none⟩ x1
theorem zjv {w:World} {B:Nat} {x0 x1 y0 y1:Value} {T:TypeId} (h:w.heap[B]? = some (.cells #[y0,y1] T (0,0))):(zlw w B x0 x1).heap[B]? = some (.cells #[x0,x1] T (0,0)) :=
 heap_setCell_same _ _ _ _ _ _ (heap_setCell_same _ _ _ _ _ _ h)
theorem zxf {w:World} {B b:Nat} {x0 x1:Value} (h:b ≠ B):(zlw w B x0 x1).heap[b]? = w.heap[b]?:=by
 unfold zlw
 rw [heap_setCell_other _ _ _ _ h,heap_setCell_other _ _ _ _ h]
theorem zyM {w:World} {B:Nat} {x0 x1:Value}:(zlw w B x0 x1).heap.size = w.heap.size:=by simp [zlw,World.setCell]
theorem zlp {w:World} {B:Nat} {x0 x1:Value} (p:Stb) (hp:p B = 0):Evo (· = B) p w p (zlw w B x0 x1):=by
 refine zcX hp zyM (fun y hy => zxf hy) ?_ ?_ ?_ <;> simp [zlw,World.setCell]
theorem zG6 {D:List DM} (hD:D ∈ zd5):apC 5 (.sl 3 (zaf D)) = true:=zyu D hD
def zod (ds fs:List (List AC)):Prop:=Fit .prog [.sl 3 ds,.sl 5 fs] ∧ ds.length ≤ 10 ∧ fs.length ≤ 10
section
variable {ns:List Nat} (hns:ns.length ≤ 2000) {w0:World} {p0:Stb} {b:Nat}
include hns
set_option maxHeartbeats 4000000 in
theorem zmx {pos:Nat} (hpos:pos + 110000 ≤ 800000) (hz:Zp p0 w0) (ht:TK p0 w0 (fun _ => False) b (Qr ns pos)):Calls Tryz.prog 39 #[zbi b] w0 fun e w' => ∃ D1 d1 d2 E1 e1 e2 p' ds fs pos',e = .returned (.agg #[.slice D1 d1 d2,.slice E1 e1 e2]) ∧ Rep p' w' (.slice D1 d1 d2) (.sl 3 ds) ∧ Rep p' w' (.slice E1 e1 e2) (.sl 5 fs) ∧ zod ds fs ∧
  Evo (· = b) p0 w0 p' w' ∧ Zp p' w' ∧ TK p' w' (fun _ => False) b (Qr ns pos') ∧ pos' ≤ pos + 58000:=by
 have hb:=ht.lt
 have hea:=zaO (p:=p0) (w:=w0) (.cells #[.slice none 0 0,.slice none 0 0] 26) 0 (· = b)
 have hz1:Zp (upP p0 w0.heap.size 0) (w0.alloc (.cells #[.slice none 0 0,.slice none 0 0] 26)):=⟨fun c hc => by
  rw [zby]
  split
  ·rfl
  ·exact hz.1 c (by simp at hc; omega),fun _ _ _ => trivial⟩
 have hcall:=zq8 hns (by omega) hz1 (ht.evo (zaO _ 0 _))
 go_enter Tryz.func39,Tryz.ntmps39
 go_wp2_with fail
 refine hcall.mono ?_
 rintro e w1 ⟨v,p1,D,R,pos1,rfl,hD,hR,hR2,hbd,hrep,hev,hz2,ht2,hp1,D1,d1,d2,B,o,cap,rfl,gB,okB,uq,a,T,xB,hl1,hl2⟩
 clear hcall
 obtain ⟨arr,harr,hl⟩:=hrep
 injection harr with harr
 subst harr
 obtain ⟨r0,r1,_⟩:Rep p1 w1 (.slice D1 d1 d2) (.sl 3 (zaf D)) ∧ Rep p1 w1 (.slice (some ⟨B,o,none⟩) R.length cap) (.sl 5 (zal R)) ∧ True:=hl
 obtain ⟨hne,hdf,hda,hdl⟩:=zus hD
 have hfit:∀ r ∈ zal R,Fit .func r:=fun r hr => by
  obtain ⟨x,hx,rfl⟩:=List.mem_map.1 hr
  exact (zv9 hR hx (hbd x hx).1).1
 have hap:∀ r ∈ zal R,apL 5 r = true:=fun r hr => by
  obtain ⟨x,hx,rfl⟩:=List.mem_map.1 hr
  exact zt4 (hbd x hx).1
 have hFP:FP (upP p0 w0.heap.size 0) (w0.alloc (.cells #[.slice none 0 0,.slice none 0 0] 26)) b B o R.length cap (zal R) (Qr ns pos1) p1 w1 :=
  ⟨r1,fun e => by have:=congrArg List.length e; simp [zal] at this; rw [this] at hR2; simp at hR2,⟨a,T,xB,hl2⟩,okB,uq,by simpa using gB,by simp; omega,hfit,hap,ht2,hz2,hev⟩
 have hsp:=zpP hns hFP r0 hdf (by omega) ((zG6 hD)) hR hbd (by omega)
 have hsz1:w0.heap.size < w1.heap.size:=by have:=hev.size; simp at this; omega
 have nb:w0.heap.size ≠ b:=by omega
 have HS:=Lib.hid hsp
 have HE:=Lib.hid hea
 clear hsp hea hFP hev r0 r1 hfit hap hdf hda
 go_wp2_with fail
 refine HS.out.mono ?_
 rintro e w2 ⟨v,p2,ds,fs,pos2,rfl,hrep,hf,hl3,hl4,hev,hz3,ht3,hp2⟩
 obtain ⟨arr,rfl,hl⟩:=hrep
 obtain ⟨l⟩:=arr
 match l,hl with
 | [u0,u1],⟨r0,r1,_⟩ =>
 obtain ⟨D1,d1,d2,rfl⟩:=zcc r0
 obtain ⟨E1,e1,e2,rfl⟩:=zcc r1
 have hx:=(hev.block w0.heap.size (by simp) nb).trans (heap_alloc_new w0 (.cells #[.slice none 0 0,.slice none 0 0] 26))
 have hpx:p2 w0.heap.size = 0:=by rw [hev.same w0.heap.size (by simp) nb,zby,if_pos rfl]
 have k0:=zam (j:=0) hx rfl
 have k1:=zam (j:=1) hx rfl
 have f0:=frozen_of_row w2 _ 0 _ _ hx
 have f1:=frozen_of_row w2 _ 1 _ _ hx
 have q1:=zjv (x0:=.slice D1 d1 d2) (x1:=.slice E1 e1 e2) hx
 have y0:=zam (j:=0) q1 rfl
 have y1:=zam (j:=1) q1 rfl
 have hevs:Evo (· = w0.heap.size) p2 w2 p2 (zlw w2 w0.heap.size (.slice D1 d1 d2) (.slice E1 e1 e2)):=zlp p2 hpx
 have hF:Evo (· = b) p0 w0 p2 (zlw w2 w0.heap.size (.slice D1 d1 d2) (.slice E1 e1 e2)) :=
  (HE.out.trans hev (C:=(· = b)) (fun _ _ e => e) (fun _ _ e => e)).trans hevs (fun _ _ e => e) (fun c hc e => absurd hc (by have:c = w0.heap.size:=e; omega))
 have hfin:=And.intro (r0.evo hevs) (And.intro (r1.evo hevs) (And.intro hF (And.intro (show Zp p2 (zlw w2 w0.heap.size (.slice D1 d1 d2) (.slice E1 e1 e2)) from ⟨fun c hc => hz3.1 c (Nat.le_trans hevs.size hc),fun _ _ _ => trivial⟩) ((ht3.own (Own':=(· = w0.heap.size)) (fun e => nb e.symm)).evo hevs))))
 have HF:=Lib.hid hfin
 clear hfin hevs hF hev hz3 ht3 r0 r1 q1 hx HE HS
 go_wp2_with fail
 refine bodyPost_ret (v:=.agg #[.slice D1 d1 d2,.slice E1 e1 e2]) ?_ rfl ⟨D1,d1,d2,E1,e1,e2,p2,ds,fs,pos2,rfl,HF.out.1,HF.out.2.1,⟨hf,hl3,hl4⟩,HF.out.2.2.1,HF.out.2.2.2.1,HF.out.2.2.2.2.own (fun h => h.elim),by omega⟩
 have y0':(((w2.setCell ⟨w0.heap.size,0,none⟩ (.slice D1 d1 d2)).setCell ⟨w0.heap.size,1,none⟩ (.slice E1 e1 e2))).cell? ⟨w0.heap.size,0,none⟩ = some (.slice D1 d1 d2):=y0
 have y1':(((w2.setCell ⟨w0.heap.size,0,none⟩ (.slice D1 d1 d2)).setCell ⟨w0.heap.size,1,none⟩ (.slice E1 e1 e2))).cell? ⟨w0.heap.size,1,none⟩ = some (.slice E1 e1 e2):=y1
 simp [results,Tryz.results39,go_sem,y0',y1']
end
end Go.Proofs.YtcpcagdialnbeaaGreat
namespace Go.Proofs.YtcpcagdialnbeaaGreat
open Go Go.RowKit Go.BigFrame
def zdY (w0:World) (v:Value) (w':World):Prop:=∃ N p' D1 d1 d2 E1 e1 e2 ds fs,v = .agg #[.slice D1 d1 d2,.slice E1 e1 e2] ∧ Rep p' w' (.slice D1 d1 d2) (.sl 3 ds) ∧ Rep p' w' (.slice E1 e1 e2) (.sl 5 fs) ∧ zod ds fs ∧ Evo (fun _ => False) (zkO w0.heap.size N) w0 p' w' ∧ Zp p' w'
end Go.Proofs.YtcpcagdialnbeaaGreat
namespace Go.Proofs.YtcpcagdialnbeaaGreat
open Go
def tyL (T:Nat → Int) (m:Nat):List Int:=(List.range m).map T
theorem zeg (T:Nat → Int) (m:Nat):(tyL T m).length = m:=by simp [tyL]
theorem zpb (T:Nat → Int) {m k:Nat} (h:k < m):(tyL T m).getD k 0 = T k:=by simp [tyL,List.getD,h]
theorem zvj (T:Nat → Int) {m k:Nat} (h:k < (tyL T m).length):(tyL T m)[k] = T k:=by simp [tyL]
section
variable {D:List DM} {R:List PM}
theorem zyZ (G M:List Int) (kids:List (List AC)) (hm:kids.length ≤ 68719476736) (T:Nat → Int) (hb:∀ k,k < kids.length → ∃ o n ks,kids.getD k [] = [.int o,.int n,.sl 3 ks])
  (hT:∀ k,k < kids.length → ∀ o n ks,kids.getD k [] = [.int o,.int n,.sl 3 ks] → zbz [.agg [.sl 3 (zaf D),.sl 5 (zal R)],.agg [.sl 1 (zad G),.sl 1 (zad M)],.agg [.int o,.int n,.sl 3 ks]] = rI (T k)) :
  zl8 [.agg [.sl 3 (zaf D),.sl 5 (zal R)],.agg [.sl 1 (zad G),.sl 1 (zad M)],.cell (.sl 3 kids)] = rL (tyL T kids.length):=by
 have key:∀ m k:Nat,k + m = kids.length → zfQ (zaf D) (zal R) (zad G) (zad M) (zad ((tyL T kids.length).take k)) kids ((kids.length:Nat):Int) (k:Int) = rL (tyL T kids.length):=by
  intro m
  induction m with
  | zero =>
   intro k hk
   refine zki (zaa (decide_eq_false (by omega)) ?_)
   rw [List.take_of_length_le (by rw [zeg]; omega)]
  | succ m ih =>
   intro k hk
   have hlt:k < kids.length:=by omega
   obtain ⟨o,n,ks,e⟩:=hb k hlt
   refine zki (zac (decide_eq_true (by omega)) (zcj hlt e (zay (hT k hlt _ _ _ e) (zb5 (by rw [zab,List.length_take,zeg]; simp; omega) ?_))))
   have hl:k < (tyL T kids.length).length:=by rw [zeg]; exact hlt
   have:=zpr hl
   rw [zvj] at this
   rw [this,wrk (by unfold zaE; omega)]
   exact ih (k + 1) (by omega)
 exact zrq (key kids.length 0 (by omega))
variable (V:List Int) (kids:List (List AC)) (hm:kids.length ≤ zaE) (T:Nat → Int) (hb:∀ k,k < kids.length → ∃ o n ks,kids.getD k [] = [.int o,.int n,.sl 3 ks])
  (hT:∀ k,k < kids.length → ∀ o n ks,kids.getD k [] = [.int o,.int n,.sl 3 ks] → zaK [.agg [.sl 3 (zaf D),.sl 5 (zal R)],.cell (.sl 1 (zad V)),.agg [.int o,.int n,.sl 3 ks]] = rI (T k))
include hm hb hT
theorem zvE (types:List Int):zjW [.agg [.sl 3 (zaf D),.sl 5 (zal R)],.cell (.sl 1 (zad V)),.cell (.sl 3 kids),.cell (.sl 1 (zad types))] = rB (decide (tyL T kids.length = types)):=by
 refine ztG ?_
 rw [zab]
 by_cases hl:kids.length = types.length
 rotate_left
 ·rw [decide_eq_false (fun h => hl (by rw [← h,zeg]))]
  exact zac (net (by omega)) rfl
 refine zaa (nef (by omega)) ?_
 have key:∀ m k:Nat,k + m = kids.length → zhW (zad V) kids (zad types) (zaf D) (zal R) (k:Int) = rB (decide ((tyL T kids.length).drop k = types.drop k)):=by
  intro m
  induction m with
  | zero =>
   intro k hk
   rw [List.drop_eq_nil_of_le (show (tyL T kids.length).length ≤ k by rw [zeg]; omega),List.drop_eq_nil_of_le (show types.length ≤ k by omega)]
   exact zlj (zaa (decide_eq_false (by rw [zab]; omega)) rfl)
  | succ m ih =>
   intro k hk
   have hlt:k < kids.length:=by omega
   have h2:k < types.length:=by omega
   have h3:k < (tyL T kids.length).length:=by rw [zeg]; exact hlt
   obtain ⟨o,n,ks,e⟩:=hb k hlt
   rw [List.drop_eq_getElem_cons h3,List.drop_eq_getElem_cons h2,zvj]
   refine zlj (zac (decide_eq_true (by rw [zab]; omega)) (zcj hlt e (zay (hT k hlt _ _ _ e) (zaR h2 ?_))))
   by_cases he:T k = types[k]
   ·refine zaa (nef he) ?_
    rw [wrk (by omega),ih (k + 1) (by omega)]
    simp only [he,List.cons.injEq,true_and]
   ·refine zac (net he) ?_
    simp only [List.cons.injEq]
    rw [decide_eq_false (fun h => he h.1)]
 exact key kids.length 0 (by omega)
theorem zuc (c:Nat):zja [.agg [.sl 3 (zaf D),.sl 5 (zal R)],.cell (.sl 1 (zad V)),.cell (.sl 3 kids),.cell (.int (c:Int))] = rB (decide (tyL T kids.length = List.replicate c 0)):=by
 refine zrw ?_
 by_cases hl:kids.length = c
 rotate_left
 ·rw [decide_eq_false (fun h => hl (by have:=congrArg List.length h; rw [zeg] at this; simpa using this))]
  exact zac (net (by omega)) rfl
 refine zaa (nef (by omega)) ?_
 have key:∀ m k:Nat,k + m = kids.length → zfW (zad V) kids (c:Int) (zaf D) (zal R) (k:Int) = rB (decide ((tyL T kids.length).drop k = List.replicate (c - k) 0)):=by
  intro m
  induction m with
  | zero =>
   intro k hk
   rw [List.drop_eq_nil_of_le (show (tyL T kids.length).length ≤ k by rw [zeg]; omega),show c - k = 0 by omega]
   exact zj4 (zaa (decide_eq_false (by omega)) rfl)
  | succ m ih =>
   intro k hk
   have hlt:k < kids.length:=by omega
   have h3:k < (tyL T kids.length).length:=by rw [zeg]; exact hlt
   obtain ⟨o,n,ks,e⟩:=hb k hlt
   rw [List.drop_eq_getElem_cons h3,zvj,show c - k = (c - (k + 1)) + 1 by omega,List.replicate_succ]
   refine zj4 (zac (decide_eq_true (by omega)) (zcj hlt e (zay (hT k hlt _ _ _ e) ?_)))
   by_cases he:T k = 0
   ·refine zaa (nef he) ?_
    rw [wrk (by omega),ih (k + 1) (by omega)]
    simp only [he,List.cons.injEq,true_and]
   ·refine zac (net he) ?_
    simp only [List.cons.injEq]
    rw [decide_eq_false (fun h => he h.1)]
 have:=key kids.length 0 (by omega)
 simpa using this
theorem ztA (hv:CP D R) (o n:Int):zle [.agg [.sl 3 (zaf D),.sl 5 (zal R)],.cell (.sl 1 (zad V)),.agg [.int o,.int n,.sl 3 kids]] = rI (if 0 ≤ n ∧ n < R.length then (if o = 9 then (if tyL T kids.length = (gP R n.toNat).ps then (gP R n.toNat).r else -1)
   else if (gP R n.toNat).ps.length = 0 then -1 else if tyL T kids.length = zvf (gP R n.toNat).ps then zio ((gP R n.toNat).ps.getD ((gP R n.toNat).ps.length - 1) 0) (gP R n.toNat).r D 0 else -1) else -1):=by
 have hR:=hv.rl
 refine zqd (zai (zdk _ _ _) ?_)
 have hw:zae ((((zal R).length:Nat):Int) - 1) = R.length - 1:=by rw [zaF]; exact wr (by omega) (by omega)
 rw [hw]
 by_cases h:0 ≤ n ∧ n < R.length
 rotate_left
 ·rw [if_neg h]
  refine zac ?_ rfl
  rw [Bool.not_eq_true',Bool.and_eq_false_iff,decide_eq_false_iff_not,decide_eq_false_iff_not]
  omega
 rw [if_pos h,decide_eq_true h.1,decide_eq_true (show n ≤ (R.length:Int) - 1 by omega)]
 have hp:=(hv.ps n.toNat (by omega)).1
 refine zaa rfl (zaH (k:=n.toNat) (by omega) (by omega) ?_)
 by_cases h9:o = 9
 ·rw [if_pos h9]
  refine zac (eqt h9) (zai (zvE V kids hm T hb hT _) ?_)
  by_cases hq:tyL T kids.length = (gP R n.toNat).ps
  ·rw [if_pos hq,decide_eq_true hq]
   exact zaa rfl rfl
  ·rw [if_neg hq,decide_eq_false hq]
   exact zac rfl rfl
 rw [if_neg h9]
 refine zaa (eqf h9) ?_
 rw [zab]
 by_cases h0:(gP R n.toNat).ps.length = 0
 ·rw [if_pos h0]
  exact zac (zr h0) rfl
 rw [if_neg h0]
 refine zaa (nz h0) ?_
 have w:zae ((((gP R n.toNat).ps.length:Nat):Int) - 1) = (((gP R n.toNat).ps.length - 1:Nat):Int):=by
  rw [wr (by omega) (by omega)]
  omega
 rw [w]
 refine zyc (by omega) (by omega) (by rw [zab]; omega) ?_
 rw [show ((zad (gP R n.toNat).ps).drop (0:Int).toNat).take ((((gP R n.toNat).ps.length - 1:Nat):Int).toNat - (0:Int).toNat) = zad (zvf (gP R n.toNat).ps) by simp [zvf,zs8]]
 refine zai (zvE V kids hm T hb hT _) ?_
 by_cases hq:tyL T kids.length = zvf (gP R n.toNat).ps
 ·rw [if_pos hq,decide_eq_true hq]
  exact zaa rfl (zkY rfl (by omega) (zay (zu0 D (by have:=hv.dv.len; omega) _ _) rfl))
 ·rw [if_neg hq,decide_eq_false hq]
  exact zac rfl rfl
end
end Go.Proofs.YtcpcagdialnbeaaGreat
namespace Go.Proofs.YtcpcagdialnbeaaGreat
open Go
theorem zwF {m:Nat} {P:Nat → Int → Prop} (h:∀ k,k < m → ∃ t,P k t):∃ T:Nat → Int,∀ k,k < m → P k (T k) :=
 ⟨fun k => open Classical in if hk:k < m then (h k hk).choose else 0,fun k hk => by
  simp only [dif_pos hk]
  exact (h k hk).choose_spec⟩
section
variable {D:List DM} {R:List PM} (hv:CP D R)
section
variable (V:List Int) (kids:List (List AC)) (hm:kids.length ≤ zaE) (T:Nat → Int) (hb:∀ k,k < kids.length → ∃ o n ks,kids.getD k [] = [.int o,.int n,.sl 3 ks])
  (hT:∀ k,k < kids.length → ∀ o n ks,kids.getD k [] = [.int o,.int n,.sl 3 ks] → zaK [.agg [.sl 3 (zaf D),.sl 5 (zal R)],.cell (.sl 1 (zad V)),.agg [.int o,.int n,.sl 3 ks]] = rI (T k))
include hm hb hT
theorem zyh (o n o':Int):zcH (zad V) (zaf D) (zal R) o n kids (n == 0) o' true = rI (if n = 0 ∧ tyL T kids.length = [0,0] then 0 else -1):=by
 refine zde (zac rfl ?_)
 by_cases hn:n = 0
 ·refine zac (eqt hn) (zai (zuc V kids hm T hb hT 2) ?_)
  by_cases hq:tyL T kids.length = [0,0]
  ·rw [if_pos ⟨hn,hq⟩,decide_eq_true (show tyL T kids.length = List.replicate 2 0 from hq)]
   exact zac rfl rfl
  ·rw [if_neg (fun h => hq h.2),decide_eq_false (show ¬ tyL T kids.length = List.replicate 2 0 from hq)]
   exact zaa rfl rfl
 ·rw [if_neg (fun h => hn h.1)]
  exact zaa (eqf hn) rfl
include hv
theorem zFc {o n:Int} (h:¬ (o = 1 ∨ o = 2 ∨ o = 3 ∨ o = 4)) (h0:o ≠ 0) (h13:o ≠ 13) (h7:o ≠ 7) (h8:o ≠ 8):zcH (zad V) (zaf D) (zal R) o n kids (n == 0) o false = rI (zp9 D R o n (tyL T kids.length)):=by
 refine zde (zaa rfl ?_)
 unfold zp9
 rw [if_neg h0,if_neg h]
 by_cases h5:o = 5
 ·rw [if_pos h5]
  refine zac (eqt h5) ?_
  by_cases hn:n = 0
  ·refine zac (eqt hn) (zai (zuc V kids hm T hb hT 1) ?_)
   by_cases hq:tyL T kids.length = [0]
   ·rw [if_pos ⟨hn,hq⟩,decide_eq_true (show tyL T kids.length = List.replicate 1 0 from hq)]
    exact zac rfl rfl
   ·rw [if_neg (fun h => hq h.2),decide_eq_false (show ¬ tyL T kids.length = List.replicate 1 0 from hq)]
    exact zaa rfl rfl
  ·rw [if_neg (fun h => hn h.1)]
   exact zaa (eqf hn) rfl
 rw [if_neg h5]
 refine zaa (eqf h5) ?_
 by_cases h6:o = 6
 ·rw [if_pos h6]
  refine zac (eqt h6) (zay (zqs hv.dv n) ?_)
  have hc:=zhs (D:=D) n
  by_cases hn:zjO D n < 0
  ·rw [if_pos hn]
   exact zaa (decide_eq_false (by omega)) rfl
  have h1:1 ≤ zjO D n:=by
   rcases hc with h0 | ⟨j,i,hj,he,_⟩ <;> omega
  have hf:=zkD hv.dv n
  rw [if_neg (by omega)] at hf
  rw [if_neg hn]
  refine zac (decide_eq_true (by omega)) (zan hf (zai (zvE V kids hm T hb hT _) ?_))
  by_cases hq:tyL T kids.length = fld D n
  ·rw [if_pos hq,decide_eq_true hq]
   exact zac rfl (zay (zqs hv.dv n) rfl)
  ·rw [if_neg hq,decide_eq_false hq]
   exact zaa rfl rfl
 rw [if_neg h6]
 refine zaa (eqf h6) (zaa (eqf h13) (zaa (eqf h7) (zaa (eqf h8) ?_)))
 by_cases h9:o = 9
 ·rw [if_pos h9]
  refine zac (eqt h9) (zf5 (zac (eqt h9) (zay (ztA V kids hm T hb hT hv o n) ?_)))
  simp only [h9,if_true]
  rfl
 rw [if_neg h9]
 refine zaa (eqf h9) ?_
 by_cases h10:o = 10
 ·rw [if_pos h10]
  refine zf5 (zac (eqt h10) (zay (ztA V kids hm T hb hT hv o n) ?_))
  simp only [if_neg h9]
  rfl
 rw [if_neg h10]
 refine zf5 (zaa (eqf h10) ?_)
 by_cases h11:o = 11
 rotate_left
 ·rw [if_neg h11]
  exact zaa (eqf h11) rfl
 rw [if_pos h11]
 refine zac (eqt h11) ?_
 by_cases hn:n = 0
 rotate_left
 ·rw [if_neg hn]
  exact zaa (eqf hn) rfl
 rw [if_pos hn]
 refine zac (eqt hn) ?_
 rw [zeg]
 by_cases h2:kids.length = 2
 rotate_left
 ·rw [if_neg (fun h => h2 h.1)]
  exact zaa (eqf (by omega)) rfl
 obtain ⟨o0,n0,k0,e0⟩:=hb 0 (by omega)
 obtain ⟨o1,n1,k1,e1⟩:=hb 1 (by omega)
 rw [zpb T (show 0 < kids.length by omega),zpb T (show 1 < kids.length by omega)]
 refine zac (eqt (by omega)) (zhh (by omega) e0 (zay (hT 0 (by omega) _ _ _ e0) (zai (zem (by have:=hv.dv.len; omega) _) ?_)))
 rcases ha:zog D (T 0) with _ | _
 ·rw [if_neg (fun h => by cases h.2.1)]
  exact zaa rfl rfl
 have hl:=hv.dv.len
 have hbd:0 < T 0 ∧ T 0 ≤ D.length:=by
  simp only [zog,Bool.and_eq_true,decide_eq_true_eq] at ha
  exact ⟨ha.1,(isTy_iff.1 ha.2.1).2⟩
 have w:zae (T 0 - 1) = (((T 0).toNat - 1:Nat):Int):=by rw [wr (by omega) (by omega)]; omega
 refine zac rfl (zcj (k:=1) (by omega) e1 (zay (hT 1 (by omega) _ _ _ e1) (zb2 (k:=(T 0).toNat - 1) w (by omega) ?_)))
 by_cases hq:T 1 = (gD D ((T 0).toNat - 1)).f
 ·rw [if_pos ⟨h2,rfl,hq⟩]
  exact zac (eqt hq) (zb2 (k:=(T 0).toNat - 1) w (by omega) rfl)
 ·rw [if_neg (fun h => hq h.2.2)]
  exact zaa (eqf hq) rfl
theorem zFt {o n:Int} (h12:o ≠ 12) (h13:o ≠ 13) (h7:o ≠ 7) (h8:o ≠ 8):zaK [.agg [.sl 3 (zaf D),.sl 5 (zal R)],.cell (.sl 1 (zad V)),.agg [.int o,.int n,.sl 3 kids]] = rI (zp9 D R o n (tyL T kids.length)):=by
 refine zdX ?_
 by_cases h0:o = 0
 ·refine zac (eqt h0) ?_
  unfold zp9
  rw [if_pos h0,zeg]
  by_cases hl:kids.length = 0
  ·refine zac (zr hl) (zai (zdk _ _ _) ?_)
   by_cases hn:-999 ≤ n ∧ n ≤ 999
   ·rw [if_pos ⟨hn,hl⟩,decide_eq_true hn.1,decide_eq_true hn.2]
    exact zac rfl rfl
   ·rw [if_neg (fun h => hn h.1)]
    refine zaa ?_ rfl
    rw [Bool.and_eq_false_iff,decide_eq_false_iff_not,decide_eq_false_iff_not]
    omega
  ·rw [if_neg (fun h => hl h.2)]
   exact zaa (nz hl) rfl
 refine zaa (eqf h0) (zaa (eqf h12) ?_)
 by_cases h:o = 1 ∨ o = 2 ∨ o = 3 ∨ o = 4
 ·have e:zp9 D R o n (tyL T kids.length) = (if n = 0 ∧ tyL T kids.length = [0,0] then 0 else -1):=by
   unfold zp9
   rw [if_neg h0,if_pos h]
  rw [e]
  rcases h with rfl | rfl | rfl | rfl
  ·exact zac rfl (zyh V kids hm T hb hT _ _ _)
  ·exact zaa rfl (zac rfl (zyh V kids hm T hb hT _ _ _))
  ·exact zaa rfl (zaa rfl (zac rfl (zyh V kids hm T hb hT _ _ _)))
  ·exact zaa rfl (zaa rfl (zaa rfl (zyh V kids hm T hb hT _ _ _)))
 ·refine zaa (eqf (fun h' => h (.inl h'))) (zaa (eqf (fun h' => h (.inr (.inl h')))) (zaa (eqf (fun h' => h (.inr (.inr (.inl h'))))) ?_))
  rw [eqf (show o ≠ 4 from fun h' => h (.inr (.inr (.inr h'))))]
  exact zFc hv V kids hm T hb hT h h0 h13 h7 h8
end
end
end Go.Proofs.YtcpcagdialnbeaaGreat
namespace Go.Proofs.YtcpcagdialnbeaaGreat
open Go
section
variable {D:List DM} {R:List PM}
noncomputable abbrev iTy (D:List DM) (R:List PM) (G M:List Int) (x:List AC):Option AV:=zbz [.agg [.sl 3 (zaf D),.sl 5 (zal R)],.agg [.sl 1 (zad G),.sl 1 (zad M)],.agg x]
noncomputable abbrev sTy (D:List DM) (R:List PM) (V:List Int) (x:List AC):Option AV:=zaK [.agg [.sl 3 (zaf D),.sl 5 (zal R)],.cell (.sl 1 (zad V)),.agg x]
inductive Nm (m:Nat):List AC → Prop
 | node (o n:Int) (kids:List (List AC)) (h:o = 9 ∨ o = 10 → 0 ≤ n ∧ n < m) (hk:∀ k,k < kids.length → Nm m (kids.getD k [])):Nm m [.int o,.int n,.sl 3 kids]
def zyq (D:List DM) (R:List PM) (G M:List Int) (x:List AC) (t:Int):Prop:=okT D t ∧ iTy D R G M x = rI t ∧ sTy D R (G ++ M) x = rI t ∧ (0 ≤ t → Nm R.length x)
theorem ziD {P:Prop} (h:0 ≤ (-1:Int)):P:=absurd h (by decide)
theorem zx8 {T:Nat → Int} {t0:Int}:∀ m k,0 ≤ chk T t0 m k → 0 ≤ t0 ∧ ∀ i,k ≤ i → i < k + m → T i = t0
 | 0,k,h => ⟨h,fun i h1 h2 => by omega⟩
 | m + 1,k,h => by
  unfold chk at h
  split at h
  ·rename_i e
   obtain ⟨h0,h1⟩:=zx8 m (k + 1) h
   refine ⟨h0,fun i g1 g2 => ?_⟩
   by_cases hi:i = k
   ·rw [hi]; exact e
   ·exact h1 i (by omega) (by omega)
  ·exact ziD h
theorem zpx {T:Nat → Int} {m:Nat} {types:List Int} (h:tyL T m = types) (hp:∀ t ∈ types,0 ≤ t):∀ k,k < m → 0 ≤ T k:=fun k hk => by
 have h1:k < (tyL T m).length:=by rw [zeg]; exact hk
 have h2:=List.getElem_mem h1
 rw [zvj] at h2
 rw [h] at h2
 exact hp _ h2
theorem zwJ {D:List DM} {R:List PM} (hv:CP D R) {o n:Int} {T:Nat → Int} {m:Nat} (h:0 ≤ zp9 D R o n (tyL T m)):(o = 9 ∨ o = 10 → 0 ≤ n ∧ n < R.length) ∧ ∀ k,k < m → 0 ≤ T k:=by
 unfold zp9 at h
 split at h
 ·rename_i h0
  refine ⟨by omega,fun k hk => ?_⟩
  split at h
  ·rename_i hc
   rw [zeg] at hc
   omega
  ·exact ziD h
 split at h
 ·refine ⟨by omega,?_⟩
  split at h
  ·rename_i hc
   exact zpx hc.2 (by simp)
  ·exact ziD h
 split at h
 ·refine ⟨by omega,?_⟩
  split at h
  ·rename_i hc
   exact zpx hc.2 (by simp)
  ·exact ziD h
 split at h
 ·refine ⟨by omega,?_⟩
  split at h
  ·exact ziD h
  ·rename_i hn
   split at h
   ·rename_i hc
    exact zpx hc fun t ht => ((zAf hv hn).2 t ht).1
   ·exact ziD h
 split at h
 ·split at h
  ·rename_i hc
   refine ⟨fun _ => hc,?_⟩
   split at h
   ·rename_i hq
    exact zpx hq fun t ht => ((hv.ps n.toNat (by omega)).2 t ht).1
   ·exact ziD h
  ·exact ziD h
 split at h
 ·split at h
  ·rename_i hc
   refine ⟨fun _ => hc,?_⟩
   split at h
   ·exact ziD h
   ·split at h
    ·rename_i hq
     exact zpx hq fun t ht => ((hv.ps n.toNat (by omega)).2 t (List.mem_of_mem_take ht)).1
    ·exact ziD h
  ·exact ziD h
 split at h
 ·rename_i h9 h10 _
  refine ⟨fun h' => by omega,?_⟩
  split at h
  ·split at h
   ·rename_i hc
    rw [zeg] at hc
    intro k hk
    have ha:=hc.2.1
    have hb:=hc.2.2
    rw [zpb T (by omega)] at ha
    rw [zpb T (show 1 < m by omega),zpb T (show 0 < m by omega)] at hb
    simp only [zog,Bool.and_eq_true,decide_eq_true_eq,beq_iff_eq] at ha
    have h2:=isTy_iff.1 ha.2.1
    have:=(hv.dv.arr ((T 0).toNat - 1) (by omega) ha.2.2).1
    rcases (by omega:k = 0 ∨ k = 1) with rfl | rfl
    ·omega
    ·omega
   ·exact ziD h
  ·exact ziD h
 ·exact ziD h
theorem zB3 (G M:List Int) (hM:M.length ≤ 2147483648) (o n:Int) (kids:List (List AC)) (fs:List (List Int)) (T:Nat → Int) (hl:fs.length + 1 = kids.length) (hm:kids.length ≤ 1048576) (h3:∀ k,k < fs.length → (fs.getD k []).length ≤ 3)
  (hb:∀ k,k < kids.length → ∃ o n ks,kids.getD k [] = [.int o,.int n,.sl 3 ks])
  (hT:∀ k,k < fs.length → iTy D R G (M ++ fs.getD k []) (kids.getD (1 + k) []) = rI (T k)) (t0:Int) :
  ∀ m k:Nat,k + m = fs.length → zcO (zaf D) (zal R) (zad G) (zad M) o n kids (zdq fs) t0 (k:Int) = rI (chk T t0 m k):=by
 intro m
 induction m with
 | zero =>
  intro k hk
  exact zhg (zaa (decide_eq_false (by rw [za7]; omega)) rfl)
 | succ m ih =>
  intro k hk
  have hlt:k < fs.length:=by omega
  obtain ⟨o',n',ks,e⟩:=hb (1 + k) (by omega)
  have ht:=hT k hlt
  rw [e] at ht
  have w:zae (1 + (k:Int)) = ((1 + k:Nat):Int):=by rw [wr (by omega) (by omega)]; omega
  refine zhg (zac (decide_eq_true (by rw [za7]; omega)) (zn9 (k:=k) rfl (by omega) (zx4 (zxi G M _ (by have:=h3 k hlt; omega)) ?_)))
  rw [w]
  refine zcj (k:=1 + k) (by omega) e (zay ht ?_)
  unfold chk
  by_cases hq:T k = t0
  ·rw [if_pos hq,wrk (by unfold zaE; omega)]
   exact zaa (nef hq) (ih (k + 1) (by omega))
  ·rw [if_neg hq]
   exact zac (net hq) rfl
theorem zBu (hv:CP D R) (V:List Int) (hV:V.length ≤ 2147483648) (o n:Int) (kids:List (List AC)) (j:Nat) (hj:j < D.length) (T:Nat → Int) (hl:(gD D j).cs.length + 1 = kids.length)
  (hb:∀ k,k < kids.length → ∃ o n ks,kids.getD k [] = [.int o,.int n,.sl 3 ks])
  (hT:∀ k,k < (gD D j).cs.length → sTy D R (V ++ (gD D j).cs.getD k []) (kids.getD (1 + k) []) = rI (T k)) (t0:Int) :
  ∀ m k:Nat,k + m = (gD D j).cs.length → zdy (zad V) (zaf D) (zal R) o n kids (zad (cL D j)) t0 (k:Int) = rI (chk T t0 m k):=by
 have hc:=hv.dv.cs j hj
 intro m
 induction m with
 | zero =>
  intro k hk
  exact zih (zaa (decide_eq_false (by rw [zab,zmb]; omega)) rfl)
 | succ m ih =>
  intro k hk
  have hlt:k < (gD D j).cs.length:=by omega
  obtain ⟨o',n',ks,e⟩:=hb (1 + k) (by omega)
  have ht:=hT k hlt
  rw [e] at ht
  obtain ⟨c1,c2⟩:=zw0 (D:=D) hj hlt
  have hf:=zkD hv.dv ((zbM (D.take j) + k:Nat):Int)
  rw [if_neg (by omega),c2] at hf
  have h3:=(hv.dv.c j hj _ (zfH hlt [])).1
  have w:zae (1 + (k:Int)) = ((1 + k:Nat):Int):=by rw [wr (by omega) (by omega)]; omega
  refine zih (zac (decide_eq_true (by rw [zab,zmb]; omega)) (zkY (k:=k) rfl (by rw [zmb]; exact hlt) ?_))
  rw [zxk hlt,w]
  refine zan hf (zan (zm4 V _ (by omega)) (zcj (k:=1 + k) (by omega) e (zay ht ?_)))
  unfold chk
  by_cases hq:T k = t0
  ·rw [if_pos hq,wrk (by unfold zaE; omega)]
   exact zaa (nef hq) (ih (k + 1) (by omega))
  ·rw [if_neg hq]
   exact zac (net hq) rfl
theorem zCJ (hv:CP D R):∀ (s:Nat) (o n:Int) (kids:List (List AC)),Fit .expr [.int o,.int n,.sl 3 kids] → cS [.int o,.int n,.sl 3 kids] < s → s ≤ 31 → ∀ G M:List Int,(∀ t ∈ G ++ M,0 ≤ t ∧ t ≤ D.length) → (G ++ M).length + 3 * s ≤ 1048576 →
  ∃ t,zyq D R G M [.int o,.int n,.sl 3 kids] t:=by
 intro s
 induction s with
 | zero => intro o n kids _ h; omega
 | succ s ihs =>
  intro o n kids hf hs hs31 G M hV hlen
  obtain ⟨_,hn,hml,hk⟩:=zlR hf
  have hcs:=zeL o n kids
  have hm:kids.length ≤ 1048576:=by omega
  have hb:∀ k,k < kids.length → ∃ o n ks,kids.getD k [] = [.int o,.int n,.sl 3 ks]:=fun k hlt => by
   obtain ⟨o',n',ks,e,_⟩:=zez hk hlt
   exact ⟨o',n',ks,e⟩
  -- a kid in a scope
  have kid:∀ k,k < kids.length → ∀ X:List Int,X.length ≤ 3 → (∀ t ∈ X,0 ≤ t ∧ t ≤ D.length) → ∃ t,zyq D R G (M ++ X) (kids.getD k []) t:=fun k hlt X hX hXt => by
   obtain ⟨o',n',ks,e,hf'⟩:=zez hk hlt
   have h1:=zlE hlt (o:=o) (n:=n)
   rw [e] at h1 ⊢
   refine ihs o' n' ks hf' (by omega) (by omega) G (M ++ X) (fun t ht => ?_) (by rw [← List.append_assoc,List.length_append]; omega)
   rw [← List.append_assoc] at ht
   rcases List.mem_append.1 ht with ht | ht
   ·exact hV t ht
   ·exact hXt t ht
  obtain ⟨T,hT⟩:=zwF (fun k hlt => kid k hlt [] (by simp) (fun t ht => by cases ht))
  simp only [List.append_nil] at hT
  have hTi:∀ k,k < kids.length → ∀ o n ks,kids.getD k [] = [.int o,.int n,.sl 3 ks] → iTy D R G M [.int o,.int n,.sl 3 ks] = rI (T k):=fun k hlt o n ks e => by
   have:=(hT k hlt).2.1
   rw [e] at this
   exact this
  have hTs:∀ k,k < kids.length → ∀ o n ks,kids.getD k [] = [.int o,.int n,.sl 3 ks] → sTy D R (G ++ M) [.int o,.int n,.sl 3 ks] = rI (T k):=fun k hlt o n ks e => by
   have:=(hT k hlt).2.2.1
   rw [e] at this
   exact this
  have hGM:G.length + M.length ≤ 1048576:=by rw [List.length_append] at hlen; omega
  by_cases h12:o = 12
  ·subst h12
   by_cases h0:kids.length = 0
   rotate_left
   ·exact ⟨-1,.inl rfl,zd3 (zac rfl (zac (decide_eq_true (by omega)) rfl)),zdX (zaa rfl (zac rfl (zaa (nz h0) rfl))),ziD⟩
   refine ⟨tv (G ++ M) n,?_,zd3 (zac rfl (zaa (decide_eq_false (by omega)) (zay (zv2 G M (by omega) (by omega) hn) rfl))),zdX (zaa rfl (zac rfl (zac (zr h0) (zai (zdk _ _ _) ?_)))),fun _ => .node _ _ _ (fun h => by omega) (fun k hk => by omega)⟩
   ·unfold tv
    split
    ·rename_i hc
     exact .inr (hV _ (zfH (by omega) 0))
    ·exact .inl rfl
   ·have hw:zae ((((zad (G ++ M)).length:Nat):Int) - 1) = ((G ++ M).length:Int) - 1:=by rw [zab,List.length_append]; exact wr (by omega) (by omega)
    rw [hw]
    unfold tv
    by_cases hc:0 ≤ n ∧ n < (G ++ M).length
    ·rw [if_pos hc,decide_eq_true hc.1,decide_eq_true (show n ≤ ((G ++ M).length:Int) - 1 by omega)]
     exact zac rfl (zkY (k:=n.toNat) (by omega) (by omega) rfl)
    ·rw [if_neg hc]
     refine zaa ?_ rfl
     rw [Bool.and_eq_false_iff,decide_eq_false_iff_not,decide_eq_false_iff_not]
     omega
  by_cases h13:o = 13
  ·subst h13
   have hi:∀ r,zjG [.agg [.sl 3 (zaf D),.sl 5 (zal R)],.agg [.sl 1 (zad G),.sl 1 (zad M)],.agg [.int 13,.int n,.sl 3 kids]] = rI r → iTy D R G M [.int 13,.int n,.sl 3 kids] = rI r:=fun r h => zd3 (zaa rfl (zac rfl (zay h rfl)))
   have hsp:∀ r,(bif (n == 0) then
        bif (((kids.length:Nat):Int) == 2) then
         zdZ kids 0 [.int 0,.int 0,.sl 3 []] fun n25 n26 l27 =>
         zao (zaK [.agg [.sl 3 (zaf D),.sl 5 (zal R)],.cell (.sl 1 (zad (G ++ M))),.agg [.int n25,.int n26,.sl 3 l27]]) false [(false,[.int 0])] fun n28 =>
         bif (decide (n28 ≥ 0)) then
          zao (zbI [.cell (.sl 1 (zad (G ++ M))),.cell (.sl 1 [[.int n28]])]) false [(false,[.sl 1 []])] fun l29 =>
          zdZ kids 1 [.int 0,.int 0,.sl 3 []] fun n30 n31 l32 =>
          zao (zaK [.agg [.sl 3 (zaf D),.sl 5 (zal R)],.cell (.sl 1 l29),.agg [.int n30,.int n31,.sl 3 l32]]) false [(false,[.int 0])] fun n33 =>
          some (.v (.cell (.int n33)))
         else
          some (.v (.cell (.int (-1))))
        else
         some (.v (.cell (.int (-1))))
       else
        some (.v (.cell (.int (-1)))):Option AV) = rI r → sTy D R (G ++ M) [.int 13,.int n,.sl 3 kids] = rI r:=fun r h => zdX (zaa rfl (zaa rfl (zaa rfl (zaa rfl (zaa rfl (zde (zaa rfl (zaa rfl (zaa rfl (zac rfl h))))))))))
   by_cases h0:n = 0
   rotate_left
   ·exact ⟨-1,.inl rfl,hi _ (zeP (zac (net h0) rfl)),hsp _ (zaa (eqf h0) rfl),ziD⟩
   by_cases h2:kids.length = 2
   rotate_left
   ·exact ⟨-1,.inl rfl,hi _ (zeP (zaa (nef h0) (zac (net (by omega)) rfl))),hsp _ (zac (eqt h0) (zaa (eqf (by omega)) rfl)),ziD⟩
   obtain ⟨o0,n0,k0,e0⟩:=hb 0 (by omega)
   obtain ⟨o1,n1,k1,e1⟩:=hb 1 (by omega)
   have t0i:=hTi 0 (by omega) _ _ _ e0
   have t0s:=hTs 0 (by omega) _ _ _ e0
   have t0o:=(hT 0 (by omega)).1
   by_cases hn0:T 0 < 0
   ·exact ⟨-1,.inl rfl,hi _ (zeP (zaa (nef h0) (zaa (nef (by omega)) (zhh (by omega) e0 (zay t0i (zac (decide_eq_true hn0) rfl)))))),
     hsp _ (zac (eqt h0) (zac (eqt (by omega)) (zhh (by omega) e0 (zay t0s (zaa (decide_eq_false (by omega)) rfl))))),ziD⟩
   obtain ⟨t,ht1,ht2,ht3,ht4⟩:=kid 1 (by omega) [T 0] (by simp) (fun x hx => by
    simp only [List.mem_singleton] at hx
    subst hx
    rcases t0o with h | h <;> omega)
   rw [e1] at ht2 ht3 ht4
   rw [← List.append_assoc] at ht3
   exact ⟨t,ht1,hi _ (zeP (zaa (nef h0) (zaa (nef (by omega)) (zhh (by omega) e0 (zay t0i (zaa (decide_eq_false hn0) (zx4 (zxi G M [T 0] (by simp; omega)) (zcj (k:=1) (by omega) e1 (zay ht2 rfl))))))))),
    hsp _ (zac (eqt h0) (zac (eqt (by omega)) (zhh (by omega) e0 (zay t0s (zac (decide_eq_true (by omega)) (zan (zm4 (G ++ M) [T 0] (by simp; omega)) (zcj (k:=1) (by omega) e1 (zay ht3 rfl)))))))),fun h => .node _ _ _ (fun h => by omega) (fun k hk => by
     rcases (by omega:k = 0 ∨ k = 1) with rfl | rfl
     ·exact (hT 0 (by omega)).2.2.2 (by omega)
     ·rw [e1]; exact ht4 h)⟩
  by_cases h7:o = 7
  ·subst h7
   have hi:∀ r,zk7 [.agg [.sl 3 (zaf D),.sl 5 (zal R)],.agg [.sl 1 (zad G),.sl 1 (zad M)],.agg [.int 7,.int n,.sl 3 kids]] = rI r → iTy D R G M [.int 7,.int n,.sl 3 kids] = rI r:=fun r h => zd3 (zaa rfl (zaa rfl (zac rfl (zay h rfl))))
   have hsp:∀ r,(bif (n == 0) then
        bif (((kids.length:Nat):Int) == 3) then
          zdZ kids 0 [.int 0,.int 0,.sl 3 []] fun n34 n35 l36 =>
          zao (zaK [.agg [.sl 3 (zaf D),.sl 5 (zal R)],.cell (.sl 1 (zad (G ++ M))),.agg [.int n34,.int n35,.sl 3 l36]]) false [(false,[.int 0])] fun n37 =>
          bif (n37 == 0) then
           zdZ kids 1 [.int 0,.int 0,.sl 3 []] fun n38 n39 l40 =>
           zao (zaK [.agg [.sl 3 (zaf D),.sl 5 (zal R)],.cell (.sl 1 (zad (G ++ M))),.agg [.int n38,.int n39,.sl 3 l40]]) false [(false,[.int 0])] fun n41 =>
           zdZ kids 2 [.int 0,.int 0,.sl 3 []] fun n42 n43 l44 =>
           zao (zaK [.agg [.sl 3 (zaf D),.sl 5 (zal R)],.cell (.sl 1 (zad (G ++ M))),.agg [.int n42,.int n43,.sl 3 l44]]) false [(false,[.int 0])] fun n45 =>
           bif (n45 == n41) then
            some (.v (.cell (.int n41)))
           else
            some (.v (.cell (.int (-1))))
          else
           some (.v (.cell (.int (-1))))
         else
          some (.v (.cell (.int (-1))))
       else
        some (.v (.cell (.int (-1)))):Option AV) = rI r → sTy D R (G ++ M) [.int 7,.int n,.sl 3 kids] = rI r:=fun r h => zdX (zaa rfl (zaa rfl (zaa rfl (zaa rfl (zaa rfl (zde (zaa rfl (zaa rfl (zaa rfl (zaa rfl (zac rfl h)))))))))))
   by_cases h0:n = 0
   rotate_left
   ·exact ⟨-1,.inl rfl,hi _ (zhB (zac (net h0) rfl)),hsp _ (zaa (eqf h0) rfl),ziD⟩
   by_cases h2:kids.length = 3
   rotate_left
   ·exact ⟨-1,.inl rfl,hi _ (zhB (zaa (nef h0) (zac (net (by omega)) rfl))),hsp _ (zac (eqt h0) (zaa (eqf (by omega)) rfl)),ziD⟩
   obtain ⟨o0,n0,k0,e0⟩:=hb 0 (by omega)
   obtain ⟨o1,n1,k1,e1⟩:=hb 1 (by omega)
   obtain ⟨o2,n2,k2,e2⟩:=hb 2 (by omega)
   have pre:∀ r,(bif T 0 != 0 then rI (-1) else bif T 2 != T 1 then rI (-1) else rI (T 1)) = rI r → iTy D R G M [.int 7,.int n,.sl 3 kids] = rI r:=fun r h => by
    refine hi _ (zhB (zaa (nef h0) (zaa (nef (by omega)) (zcj (k:=1) (by omega) e1 (zay (hTi 1 (by omega) _ _ _ e1) (zhh (by omega) e0 (zay (hTi 0 (by omega) _ _ _ e0) ?_)))))))
    by_cases hq:T 0 = 0
    ·rw [nef hq] at h
     refine zaa (nef hq) (zcj (k:=2) (by omega) e2 (zay (hTi 2 (by omega) _ _ _ e2) ?_))
     exact h
    ·rw [net hq] at h
     exact zac (net hq) h
   have prs:∀ r,(bif T 0 == 0 then (bif T 2 == T 1 then rI (T 1) else rI (-1)) else rI (-1)) = rI r → sTy D R (G ++ M) [.int 7,.int n,.sl 3 kids] = rI r:=fun r h => by
    refine hsp _ (zac (eqt h0) (zac (eqt (by omega)) (zhh (by omega) e0 (zay (hTs 0 (by omega) _ _ _ e0) ?_))))
    by_cases hq:T 0 = 0
    ·rw [eqt hq] at h
     exact zac (eqt hq) (zcj (k:=1) (by omega) e1 (zay (hTs 1 (by omega) _ _ _ e1) (zcj (k:=2) (by omega) e2 (zay (hTs 2 (by omega) _ _ _ e2) h))))
    ·rw [eqf hq] at h
     exact zaa (eqf hq) h
   by_cases hq:T 0 = 0
   rotate_left
   ·exact ⟨-1,.inl rfl,pre _ (zac (net hq) rfl),prs _ (zaa (eqf hq) rfl),ziD⟩
   by_cases hq2:T 2 = T 1
   ·exact ⟨T 1,(hT 1 (by omega)).1,pre _ (zaa (nef hq) (zaa (nef hq2) rfl)),prs _ (zac (eqt hq) (zac (eqt hq2) rfl)),fun h => .node _ _ _ (fun h => by omega) (fun k hk => (hT k hk).2.2.2 (by
     rcases (by omega:k = 0 ∨ k = 1 ∨ k = 2) with rfl | rfl | rfl <;> omega))⟩
   ·exact ⟨-1,.inl rfl,pre _ (zaa (nef hq) (zac (net hq2) rfl)),prs _ (zac (eqt hq) (zaa (eqf hq2) rfl)),ziD⟩
  by_cases h8:o = 8
  ·subst h8
   have hi:∀ r,zhD [.agg [.sl 3 (zaf D),.sl 5 (zal R)],.agg [.sl 1 (zad G),.sl 1 (zad M)],.agg [.int 8,.int n,.sl 3 kids]] = rI r → iTy D R G M [.int 8,.int n,.sl 3 kids] = rI r:=fun r h => zd3 (zaa rfl (zaa rfl (zaa rfl (zac rfl (zay h rfl)))))
   have hsp:∀ r,zkt [.agg [.sl 3 (zaf D),.sl 5 (zal R)],.cell (.sl 1 (zad (G ++ M))),.agg [.int 8,.int n,.sl 3 kids]] = rI r → sTy D R (G ++ M) [.int 8,.int n,.sl 3 kids] = rI r:=fun r h => zdX (zaa rfl (zaa rfl (zaa rfl (zaa rfl (zaa rfl (zde (zaa rfl (zaa rfl (zaa rfl (zaa rfl (zaa rfl (zac rfl (zay h rfl)))))))))))))
   have hl4:=hv.dv.len
   rcases hd:zzF D n with _ | _
   ·refine ⟨-1,.inl rfl,hi _ (zi1 (zai (zwS (by omega) n) (by rw [hd]; exact zac rfl rfl))),hsp _ (zkE (zan (zwQ hv.dv n) ?_)),ziD⟩
    refine zac ?_ rfl
    rw [zab]
    refine zr ?_
    split
    ·rename_i hc
     rw [zmb]
     unfold zzF at hd
     rw [decide_eq_true (show 0 < n by omega),isTy_iff.2 (show 0 ≤ n ∧ n ≤ (D.length:Int) by omega)] at hd
     simp only [Bool.true_and,decide_eq_false_iff_not] at hd
     omega
    ·rfl
   have hda:(1 ≤ n ∧ n ≤ D.length) ∧ 0 < (gD D (n.toNat - 1)).cs.length:=by
    unfold zzF at hd
    simp only [Bool.and_eq_true,decide_eq_true_eq] at hd
    have:=isTy_iff.1 hd.2.1
    exact ⟨by omega,hd.2.2⟩
   have hco:=zwQ hv.dv n
   rw [if_pos hda.1] at hco
   have hj:n.toNat - 1 < D.length:=by omega
   have w:zae (n - 1) = ((n.toNat - 1:Nat):Int):=by rw [wr (by omega) (by omega)]; omega
   generalize hjd:n.toNat - 1 = j at hj w hco hda
   have hc3:=hv.dv.cs j hj
   have hfs:∀ k,k < (gD D j).cs.length → ((gD D j).cs.getD k []).length ≤ 3 ∧ ∀ t ∈ (gD D j).cs.getD k [],0 ≤ t ∧ t ≤ D.length:=fun k hk => hv.dv.c j hj _ (zfH hk [])
   have wl:zae (1 + ((((gD D j).cs.length:Nat)):Int)) = ((1 + (gD D j).cs.length:Nat):Int):=by rw [wr (by omega) (by omega)]; omega
   have prei:∀ r,(bif (((kids.length:Nat):Int) != ((1 + (gD D j).cs.length:Nat):Int)) then rI (-1) else
     zdZ kids 0 [.int 0,.int 0,.sl 3 []] fun n12 n13 l14 =>
     zao (zbz [.agg [.sl 3 (zaf D),.sl 5 (zal R)],.agg [.sl 1 (zad G),.sl 1 (zad M)],.agg [.int n12,.int n13,.sl 3 l14]]) false [(false,[.int 0])] fun n15 =>
     bif (n15 != n) then
      some (.v (.cell (.int (-1))))
     else
      zdZ (zdq (gD D j).cs) 0 [.sl 1 []] fun l16 =>
      zao (zjA [.agg [.sl 1 (zad G),.sl 1 (zad M)],.cell (.sl 1 l16)]) false [(true,[.sl 1 [],.sl 1 []])] fun l17 l18 =>
      zdZ kids 1 [.int 0,.int 0,.sl 3 []] fun n19 n20 l21 =>
      zao (zbz [.agg [.sl 3 (zaf D),.sl 5 (zal R)],.agg [.sl 1 l17,.sl 1 l18],.agg [.int n19,.int n20,.sl 3 l21]]) false [(false,[.int 0])] fun n22 =>
      zcO (zaf D) (zal R) (zad G) (zad M) 8 n kids (zdq (gD D j).cs) n22 1:Option AV) = rI r → iTy D R G M [.int 8,.int n,.sl 3 kids] = rI r:=fun r h => by
    refine hi _ (zi1 (zai (zwS (by omega) n) ?_))
    rw [hd]
    refine zaa rfl (zb2 (k:=j) w hj ?_)
    rw [za7,wl]
    exact h
   have pres:∀ r,(bif (((kids.length:Nat):Int) != ((1 + (gD D j).cs.length:Nat):Int)) then rI (-1) else
     zdZ kids 0 [.int 0,.int 0,.sl 3 []] fun n8 n9 l10 =>
     zao (zaK [.agg [.sl 3 (zaf D),.sl 5 (zal R)],.cell (.sl 1 (zad (G ++ M))),.agg [.int n8,.int n9,.sl 3 l10]]) false [(false,[.int 0])] fun n11 =>
     bif (n11 != n) then
      some (.v (.cell (.int (-1))))
     else
      zdZ (zad (cL D j)) 0 [.int 0] fun n12 =>
      zao (zaG [.cell (.sl 3 (zaf D)),.cell (.int n12)]) false [(false,[.sl 1 []])] fun l13 =>
      zao (zbI [.cell (.sl 1 (zad (G ++ M))),.cell (.sl 1 l13)]) false [(false,[.sl 1 []])] fun l14 =>
      zdZ kids 1 [.int 0,.int 0,.sl 3 []] fun n15 n16 l17 =>
      zao (zaK [.agg [.sl 3 (zaf D),.sl 5 (zal R)],.cell (.sl 1 l14),.agg [.int n15,.int n16,.sl 3 l17]]) false [(false,[.int 0])] fun n18 =>
      zdy (zad (G ++ M)) (zaf D) (zal R) 8 n kids (zad (cL D j)) n18 1:Option AV) = rI r → sTy D R (G ++ M) [.int 8,.int n,.sl 3 kids] = rI r:=fun r h => by
    refine hsp _ (zkE (zan hco ?_))
    rw [zab,zmb,wl]
    exact zaa (nz (by omega)) h
   by_cases hl:kids.length = 1 + (gD D j).cs.length
   rotate_left
   ·exact ⟨-1,.inl rfl,prei _ (zac (net (by omega)) rfl),pres _ (zac (net (by omega)) rfl),ziD⟩
   obtain ⟨o0,n0,k0,e0⟩:=hb 0 (by omega)
   by_cases hq:T 0 = n
   rotate_left
   ·exact ⟨-1,.inl rfl,prei _ (zaa (nef (by omega)) (zhh (by omega) e0 (zay (hTi 0 (by omega) _ _ _ e0) (zac (net hq) rfl)))),
     pres _ (zaa (nef (by omega)) (zhh (by omega) e0 (zay (hTs 0 (by omega) _ _ _ e0) (zac (net hq) rfl)))),ziD⟩
   obtain ⟨S,hS⟩:=zwF (m:=(gD D j).cs.length) (fun k hlt => kid (1 + k) (by omega) ((gD D j).cs.getD k []) (hfs k hlt).1 (hfs k hlt).2)
   have hSs:∀ k,k < (gD D j).cs.length → sTy D R ((G ++ M) ++ (gD D j).cs.getD k []) (kids.getD (1 + k) []) = rI (S k):=fun k hk => by
    rw [List.append_assoc]
    exact (hS k hk).2.2.1
   obtain ⟨o1,n1,k1,e1⟩:=hb 1 (by omega)
   have s0i:=(hS 0 hda.2).2.1
   have s0s:=hSs 0 hda.2
   rw [e1] at s0i s0s
   have li:=zB3 (D:=D) (R:=R) G M (by omega) 8 n kids (gD D j).cs S (by omega) hm (fun k hk => (hfs k hk).1) hb (fun k hk => (hS k hk).2.1) (S 0) ((gD D j).cs.length - 1) 1 (by omega)
   have ls:=zBu hv (G ++ M) (by rw [List.length_append]; omega) 8 n kids j hj S (by omega) hb hSs (S 0) ((gD D j).cs.length - 1) 1 (by omega)
   obtain ⟨c1,c2⟩:=zw0 (D:=D) hj hda.2
   have hfl:=zkD hv.dv ((zbM (D.take j) + 0:Nat):Int)
   rw [if_neg (by omega),c2] at hfl
   have hb0:M.length + ((gD D j).cs.getD 0 []).length ≤ 68719476736:=by
    have:=(hfs 0 hda.2).1
    omega
   have hb1:(G ++ M).length + ((gD D j).cs.getD 0 []).length ≤ 68719476736:=by
    have:=(hfs 0 hda.2).1
    rw [List.length_append]
    omega
   refine ⟨chk S (S 0) ((gD D j).cs.length - 1) 1,zAj (hS 0 hda.2).1 _ _,prei _ (zaa (nef (by omega)) (zhh (by omega) e0 (zay (hTi 0 (by omega) _ _ _ e0) (zaa (nef hq) (zn9 (k:=0) rfl hda.2 (zx4 (zxi G M _ hb0) (zcj (k:=1) (by omega) e1 (zay s0i li)))))))),?_,fun h => .node _ _ _ (fun h => by omega) (fun k hk => ?_)⟩
   rotate_left
   ·obtain ⟨g1,g2⟩:=zx8 _ _ h
    by_cases h0:k = 0
    ·subst h0; exact (hT 0 (by omega)).2.2.2 (by omega)
    ·have hk':k - 1 < (gD D j).cs.length:=by omega
     have:=(hS (k - 1) hk').2.2.2 (by
      by_cases h1:k - 1 = 0
      ·rw [h1]; exact g1
      ·rw [g2 (k - 1) (by omega) (by omega)]; exact g1)
     rw [show 1 + (k - 1) = k by omega] at this
     exact this
   refine pres _ (zaa (nef (by omega)) (zhh (by omega) e0 (zay (hTs 0 (by omega) _ _ _ e0) (zaa (nef hq) (zkY (k:=0) rfl (by rw [zmb]; exact hda.2) ?_)))))
   rw [zxk hda.2]
   exact zan hfl (zan (zm4 (G ++ M) _ hb1) (zcj (k:=1) (by omega) e1 (zay s0s ls)))
  exact ⟨zp9 D R o n (tyL T kids.length),zEy hv o n _,zd3 (zaa (eqf h12) (zaa (eqf h13) (zaa (eqf h7) (zaa (eqf h8) (zan (zyZ G M kids (by omega) T hb hTi) (zay (zw8 hv o n _ (by rw [zeg]; exact hml)) rfl)))))),
   zFt hv (G ++ M) kids hml T hb hTs h12 h13 h7 h8,fun h => .node _ _ _ (zwJ hv h).1 (fun k hk => (hT k hk).2.2.2 ((zwJ hv h).2 k hk))⟩
end
end Go.Proofs.YtcpcagdialnbeaaGreat
