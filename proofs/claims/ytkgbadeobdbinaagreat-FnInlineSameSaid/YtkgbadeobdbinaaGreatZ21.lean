/- Generic texts and models for the proofs of this seat: part 21. -/
import Derived.Test.YtkgbadeobdbinaaGreatZ20
import Derived.Laws.BitsAllLaws
import Derived.Laws.BitsLemmas
set_option linter.unusedVariables false
set_option linter.unusedSimpArgs false
namespace Go.Proofs.YtkgbadeobdbinaaGreat
section
open Go Go.RowKit Go.BigFrame
def zkR (ns:List Nat) (p:Nat) (m:Int):Int :=
 if m<1∨ns.length=0 then 0
 else if p<ns.length then((ns.getD p 0:Nat):Int) % m
 else bits .xor .i64 (((ns.getD (p % ns.length) 0:Nat):Int)*131+((ns.getD ((p*7+3) % ns.length) 0:Nat):Int)*1117+(p:Int)*29+((p / ns.length:Nat):Int)*53) ((((ns.getD (p % ns.length) 0:Nat):Int)*131+((ns.getD ((p*7+3) % ns.length) 0:Nat):Int)*1117+(p:Int)*29+((p / ns.length:Nat):Int)*53) / 64) % m
structure RdN (w:World) (g p:Nat) (ns:List Nat) (T:TypeId) (A:Option Addr) (c:Nat):Prop where
 made:∃n,n≤2000∧n≤c∧w.heap[g]?=some (.cells #[.slice A n c,.int .i64 p] T (0,0))∧ns.length=n∧(0<n→∃b o,A=some ⟨b,o,none⟩∧b≠g∧∀(i u:Nat),ns[i]?=some u→u≤255∧w.cell? ⟨b,o+i,none⟩=some (.int .u8 (u:Int)))
theorem RdN.keep {w w':World}{g p:Nat}{ns:List Nat}{T:TypeId}{A:Option Addr}{c:Nat} (h:RdN w g p ns T A c) (s:∀k:Nat,w'.heap[k]?=w.heap[k]?):RdN w' g p ns T A c:=by
 obtain⟨n,h1,h2,hh,hl,hb⟩:=h.made;refine⟨n,h1,h2,(s g).trans hh,hl,fun hn=>?_⟩
 obtain⟨b,o,e,hl,hc⟩:=hb hn;refine⟨b,o,e,hl,fun i u hi=>?_⟩
 obtain⟨hu,hx⟩:=hc i u hi;exact⟨hu,(World.cell?_of_block (w:=w) (s b)).trans hx⟩
theorem RdN.step {w:World}{g p:Nat}{ns:List Nat}{T:TypeId}{A:Option Addr}{c:Nat} (h:RdN w g p ns T A c) (q:Nat):RdN (w.setCell ⟨g,1,none⟩ (.int .i64 q)) g q ns T A c:=by
 obtain⟨n,h1,h2,hh,hl,hb⟩:=h.made;refine⟨n,h1,h2,?_,hl,fun hn=>?_⟩
 ·simp[World.setCell,Array.getElem?_modify,hh]
 ·obtain⟨b,o,e,hl,hc⟩:=hb hn
  refine⟨b,o,e,hl,fun i u hi=>?_⟩
  obtain⟨hu,hx⟩:=hc i u hi;exact⟨hu,(World.cell?_setCell_other w _ _ _ (by intro e;injection e;omega)).trans hx⟩
theorem zjd {w:World}{g i:Nat} (u:Value):w.grownBy (w.setCell ⟨g,i,none⟩ u) (some g) :=
 ⟨rfl,rfl,rfl,by simp,fun k _ hk=>Below.heap_setCell w _ _ _ (fun e=>hk (by simp[e]))⟩
theorem zxM {a w:World}{row:Option Nat} (h:a.grownBy w row) (n:Nat):a.grownBy (w.drewN n) row:=⟨h.os,h.tape,h.output,h.size,h.block⟩
theorem zuG (a:Nat) (ha:a<9223372036854775808):(BitVec.ofInt 64 (a:Int)).toNat=a:=by
 rw[BitVec.ofInt_natCast,BitVec.toNat_ofNat];exact Nat.mod_eq_of_lt (by omega)
theorem zC5 (a b:Nat) (ha:a<9223372036854775808) (hb:b<9223372036854775808):∃k:Nat,k<9223372036854775808∧bits .xor .i64 (a:Int) (b:Int)=(k:Int):=by
 have hx:a ^^^ b<2 ^ 63:=Nat.xor_lt_two_pow (by omega) (by omega)
 refine⟨a ^^^ b,by omega,?_⟩
 show IntKind.i64.wrap ((BitVec.ofInt 64 (a:Int) ^^^ BitVec.ofInt 64 (b:Int)).toNat:Int)=_
 rw[BitVec.toNat_xor,zuG a ha,zuG b hb,IntKind.wrap_i64];omega
set_option maxHeartbeats 400000 in
theorem zD8 (m:Int) (g p:Nat) (ns:List Nat) (T:TypeId) (A:Option Addr) (c:Nat) (w:World) (hr:RdN w g p ns T A c) (hp:p≤1000000) :
  Calls Tryz.prog 79 #[.pointer (some ⟨g,0,none⟩),.int .i64 m] w fun e w'=>e=.returned (.int .i64 (zkR ns p m))∧RdN w' g (p+1) ns T A c∧w.grownBy w' (some g):=by
 have hr':=hr.step (p+1)
 rw[show((p+1:Nat):Int)=(p:Int)+1 by omega] at hr'
 obtain⟨n,hn,hnc,hh,hln,hb⟩:=hr.made;have c0:w.cell? ⟨g,0,none⟩=some (.slice A n c):=by simp[World.cell?,hh]
 have c1:w.cell? ⟨g,1,none⟩=some (.int .i64 p):=by simp[World.cell?,hh]
 have f1:w.frozen? ⟨g,1,none⟩=false:=by simp[World.frozen?,hh]
 have hg:(⟨g,0,none⟩:Addr)≠⟨g,1,none⟩:=by simp
 have Hr:=Lib.hid hr'
 clear hr hr' hh;by_cases hm:m<1
 ·go_enter Tryz.func79,Tryz.ntmps79
  go_wp2_with fail
  go_ret
  have hv:zkR ns p m=0:=by unfold zkR;rw[if_pos (.inl hm)]
  exact⟨(by first|rfl|exact congrArg (fun x=>Ending.returned (Value.int .i64 x)) hv.symm),Hr.out,zjd _⟩
 ·by_cases hz:n=0
  ·have hzb:((n:Int)==0)=true:=by simp[hz]
   have hv:zkR ns p m=0:=by unfold zkR;rw[if_pos (.inr (by omega))]
   clear hz hb hln
   go_enter Tryz.func79,Tryz.ntmps79
   go_wp2_with fail
   go_ret
   exact⟨(by first|rfl|exact congrArg (fun x=>Ending.returned (Value.int .i64 x)) hv.symm),Hr.out,zjd _⟩
  ·have hzb:((n:Int)==0)=false:=by simp[hz]
   obtain⟨b,o,rfl,hl,hc⟩:=hb (by omega)
   have hc:∀i,i<n→∃u:Nat,ns.getD i 0=u∧u≤255∧w.cell? ⟨b,o+i,none⟩=some (.int .u8 (u:Int)):=fun i hi=>by
    have hlt:i<ns.length:=hln▸hi
    obtain⟨h1,h2⟩:=hc i (ns.getD i 0) (by rw[List.getD_eq_getElem?_getD,List.getElem?_eq_getElem hlt];rfl)
    exact⟨_,rfl,h1,h2⟩
   have hzn:¬(m<1∨ns.length=0):=fun h=>h.elim hm (fun h=>hz (hln.symm.trans h))
   by_cases hk:p<n
   ·obtain⟨u,hun,hu,hx⟩:=hc p hk
    have hv:zkR ns p m=(u:Int) % m:=by unfold zkR;rw[if_neg hzn,if_pos (by omega),hun]
    have hne:(⟨b,o+p,none⟩:Addr)≠⟨g,1,none⟩:=by intro e;injection e;omega
    have hne':(⟨g,1,none⟩:Addr)≠⟨b,o+p,none⟩:=fun e=>hne e.symm
    clear hc hz hln hzn hun
    go_enter Tryz.func79,Tryz.ntmps79
    go_wp2_with fail
    go_ret
    exact⟨(by first|rfl|exact congrArg (fun x=>Ending.returned (Value.int .i64 x)) hv.symm),Hr.out,zjd _⟩
   ·obtain⟨i1,hi1⟩:∃i:Nat,p % n=i:=⟨_,rfl⟩
    obtain⟨i2,hi2⟩:∃i:Nat,(p*7+3) % n=i:=⟨_,rfl⟩;have hi1n:i1<n:=by rw[←hi1];exact Nat.mod_lt _ (by omega)
    have hi2n:i2<n:=by rw[←hi2];exact Nat.mod_lt _ (by omega)
    obtain⟨q,hq⟩:∃q:Nat,p / n=q:=⟨_,rfl⟩;have hd:q≤1000000:=by rw[←hq];exact Nat.le_trans (Nat.div_le_self _ _) hp
    obtain⟨u1,hun1,hu1,hx1⟩:=hc i1 hi1n;obtain⟨u2,hun2,hu2,hx2⟩:=hc i2 hi2n;have hv:zkR ns p m=bits .xor .i64 ((u1:Int)*131+(u2:Int)*1117+(p:Int)*29+(q:Int)*53) (((u1:Int)*131+(u2:Int)*1117+(p:Int)*29+(q:Int)*53) / 64) % m:=by
     unfold zkR;rw[if_neg hzn,if_neg (by omega),hln,hi1,hi2,hq,hun1,hun2]
    have hne1:(⟨b,o+i1,none⟩:Addr)≠⟨g,1,none⟩:=by intro e;injection e;omega
    have hne1':(⟨g,1,none⟩:Addr)≠⟨b,o+i1,none⟩:=fun e=>hne1 e.symm
    have hne2:(⟨b,o+i2,none⟩:Addr)≠⟨g,1,none⟩:=by intro e;injection e;omega
    have hne2':(⟨g,1,none⟩:Addr)≠⟨b,o+i2,none⟩:=fun e=>hne2 e.symm
    have t1:((p:Int).tmod (n:Int))=(i1:Int):=by rw[←hi1];rfl
    have t2:(((p:Int)*7+3).tmod (n:Int))=(i2:Int):=by rw[←hi2];rfl
    have t6:(p:Int) / (n:Int)=(q:Int):=by rw[←hq];rfl
    have t4:(p:Int) % (n:Int)=(i1:Int):=by rw[←hi1];rfl
    have t5:((p:Int)*7+3) % (n:Int)=(i2:Int):=by rw[←hi2];rfl
    clear hc hz hi1 hi2 hq hln hzn hun1 hun2
    go_enter Tryz.func79,Tryz.ntmps79
    go_wp2_with fail
    go_quiet (fail)
    clear t1 t2 t4 t5 t6;obtain⟨x0,hx0⟩:∃x0:Nat,(u1:Int)*131+(u2:Int)*1117+(p:Int)*29+(q:Int)*53=x0:=⟨u1*131+u2*1117+p*29+q*53,by omega⟩
    have hxl:x0≤1000000000:=by omega
    rw[hx0] at hv;rw[hx0];clear hx0;obtain⟨y,hy,hy2⟩:=zC5 x0 (x0 / 64) (by omega) (by omega)
    rw[show((x0 / 64:Nat):Int)=(x0:Int) / 64 from rfl] at hy2
    go_wp2_with fail
    go_ret
    exact⟨(by first|exact congrArg (fun x=>Ending.returned (Value.int .i64 x)) (hv.trans (congrArg (· % m) hy2)).symm|exact congrArg (fun x=>Ending.returned (Value.int .i64 (x % m))) hy2.symm|rfl),Hr.out.keep (fun _=>rfl),zxM (zjd _) _⟩
def zl0:List (List AC)→Option (List Nat)
 | []=>some []
 | [.bool true,.int u]::rs=>if 0≤u then(zl0 rs).map (u.toNat::·) else none
 | _=>none
theorem zm5:∀ns:List Nat,zl0 (ns.map fun(u:Nat)=>[.bool true,.int (u:Int)])=some ns
 | []=>rfl
 | u::ns=>by simp[zl0,zm5 ns]
def zoS:List AC→List SV→Option (AV×List AC)
 | [.sl 1 rows,.int p],[.cell (.int m)]=>(zl0 rows).bind fun ns=>if 0≤p∧p≤1000000∧ns.length≤2000 then some (.v (.cell (.int (zkR ns p.toNat m))),[.sl 1 rows,.int (p+1)]) else none
 | _,_=>none
def zyk:zDd:={run:=fun _=>zoS,mono:=fun _ _ _ _ _ _ h=>h,cont:=fun _ _ _ _ _ _ _ h=>⟨0,h⟩}
theorem zyX {p:Stb}{w:World}{b:Nat} (hpb:p b=0) {v:Value}{rows:List (List AC)}{ns:List Nat} (hr:RepQ p w v (.sl 1 rows)) (hb:zl0 rows=some ns) :
  ∃A c,v=.slice A ns.length c∧ns.length≤c∧(0<ns.length→∃d o,A=some ⟨d,o,none⟩∧d≠b∧∀(i u:Nat),ns[i]?=some u→u≤255∧w.cell? ⟨d,o+i,none⟩=some (.int .u8 (u:Int))):=by
 rcases hr with hr|⟨A,n,cap,e,hc,ms,hl,hq,hx⟩
 ·have hnil:rows=[]→ns=[]:=fun h=>by
   rw[h] at hb;simp only[zl0,Option.some.injEq] at hb;exact hb.symm
  cases hr with
  | nil a k =>
   have:=hnil rfl
   subst this;exact⟨a,0,rfl,Nat.le_refl _,fun h=>absurd h (Nat.lt_irrefl 0)⟩
  | sl d o cap k rows f hk hrows hd hp hok hcap hcc hrr =>
   cases rows with
   | nil =>
    have:=hnil rfl
    subst this;exact⟨some ⟨d,o,none⟩,cap,rfl,Nat.zero_le _,fun h=>absurd h (Nat.lt_irrefl 0)⟩
   | cons x xs =>
    have h1:=hrows x List.mem_cons_self
    unfold zl0 at hb;split at hb
    ·rename_i heq;cases heq
    ·rename_i heq;cases heq;simp at h1
    ·cases hb
 ·injection hq with _ hq
  rw[hq,zm5] at hb;cases hb;rw[hl,e];refine⟨A,cap,rfl,hc,fun hn=>?_⟩
  obtain⟨d,o,hA,hd,hp,_,hcell⟩:=hx hn;exact⟨d,o,hA,fun e=>by subst e;omega,hcell⟩
theorem zDe {S:Sig} (hgv:(S.sg 79).gives=[]):zsp Tryz.prog S 79 zoS:=by
 intro q args r h;unfold zoS at h;split at h
 case h_2=>cases h
 rename_i rows pos m;simp only[zzOb] at h;obtain⟨ns,hns,h⟩:=h;split at h
 case isFalse=>cases h
 rename_i hc;cases h;refine⟨⟨rfl,_,Tryz.func79,by kernel_rfl,by kernel_rfl⟩,fun p w b vals hreps hz hTK=>?_⟩
 have hv:vals=[.int .i64 m]:=by
  match vals,hreps with
  | [v],hh =>
   obtain⟨h1,_⟩:=hh;have h1:Rep p w v (.int m):=h1
   cases h1;rfl
  | [],hh=>exact hh.elim
  | _::_::_,hh=>exact hh.2.elim
 subst hv;obtain⟨pn,rfl⟩:∃pn:Nat,pos=pn:=⟨pos.toNat,by omega⟩
 obtain⟨arr,T,hh,hq⟩:=hTK.cells;have harr:∃v0,arr=#[v0,.int .i64 pn]∧RepQ p w v0 (.sl 1 rows):=by
  obtain⟨l⟩:=arr
  match l,hq with
  | [v0,v1],hh =>
   obtain⟨h0,h1,_⟩:=hh;rcases h1 with h1|⟨_,_,_,_,_,_,_,hc,_⟩
   ·cases h1
    exact⟨v0,rfl,h0⟩
   ·cases hc
  | [],hh=>exact hh.elim
  | [_],hh=>exact hh.2.elim
  | _::_::_::_,hh=>exact hh.2.2.elim
 obtain⟨v0,rfl,h0⟩:=harr;obtain⟨A,c,rfl,hlc,hby⟩:=zyX hTK.pz h0 hns;have hrd:RdN w b pn ns T A c:=⟨ns.length,hc.2.2,hlc,hh,rfl,hby⟩
 refine(zD8 m b pn ns T A c w hrd (by omega)).mono ?_
 rintro e w' ⟨rfl,hrd',hg⟩
 obtain⟨n',_,_,hh',hln',_⟩:=hrd'.made;have hev:Evo (·=b) p w (okP p w 0) w':=⟨hg.os,hg.tape,hg.output,hg.size,fun c hc hne=>hg.block c hc (by simpa using hne),fun _ _=>Nat.le_refl _,fun _ _ _=>rfl,fun c o hc ho=>by
  have hne:c≠b:=fun e=>by subst e;rw[hTK.pz] at ho;omega
  exact World.cell?_of_block (w:=w) (hg.block c hc (by simpa using hne)),fun c hc=>zxk hc,fun _ h1 _ _ _ hi hj=>zCu h1 hi hj⟩
 have hcell0:RepQ (okP p w 0) w' (.slice A ns.length c) (.sl 1 rows):=h0.evo hev
 have hn:n'=ns.length:=hln'.symm
 subst hn;refine⟨.int .i64 (zkR ns pn m),rfl,okP p w 0,?_,?_,?_,hev,⟨fun c hc=>hz.1 c (Nat.le_trans hg.size hc),fun c hc=>hz.2 c (Nat.le_trans hg.size hc)⟩,?_,?_,?_⟩
 ·exact Rep.int _
 ·intro cs h;cases h
 ·intro h;cases h
 ·refine⟨fun h=>h,Nat.lt_of_lt_of_le hTK.lt hg.size,hTK.pz,_,_,hh',hcell0,.inl ?_,trivial⟩
  exact Rep.int _
 ·rw[hgv];intro e he;cases he
 ·rw[hgv];intro e e' u u' c he;cases he
end
section
open Go
def tt (f:Nat):Bool:=[79,25,65,80,82,83,85,117,118,119,120,121,138,139,140,144,145,146,148,149,152].any fun e=>Nat.beq e f
def zgA (f:Nat):Option zDd:=if Nat.beq f 79 then some zyk else none
theorem zz2:zao (zbH tt) lay sig Tryz.f25 (sig.sg 25)=true:=by kernel_rfl
theorem zBq:zao (zbH tt) lay sig Tryz.f65 (sig.sg 65)=true:=by kernel_rfl
theorem zCn:zao (zbH tt) lay sig Tryz.f80 (sig.sg 80)=true:=by kernel_rfl
theorem zBo:zao (zbH tt) lay sig Tryz.f82 (sig.sg 82)=true:=by kernel_rfl
theorem zB7:zao (zbH tt) lay sig Tryz.f83 (sig.sg 83)=true:=by kernel_rfl
theorem zAO:zao (zbH tt) lay sig Tryz.f85 (sig.sg 85)=true:=by kernel_rfl
theorem zzW:zao (zbH tt) lay sig Tryz.f117 (sig.sg 117)=true:=by kernel_rfl
theorem zzb:zao (zbH tt) lay sig Tryz.f118 (sig.sg 118)=true:=by kernel_rfl
theorem zzr:zao (zbH tt) lay sig Tryz.f119 (sig.sg 119)=true:=by kernel_rfl
theorem zy5:zao (zbH tt) lay sig Tryz.f120 (sig.sg 120)=true:=by kernel_rfl
theorem zy8:zao (zbH tt) lay sig Tryz.f121 (sig.sg 121)=true:=by kernel_rfl
theorem zzE:zao (zbH tt) lay sig Tryz.f138 (sig.sg 138)=true:=by kernel_rfl
theorem zzD:zao (zbH tt) lay sig Tryz.f139 (sig.sg 139)=true:=by kernel_rfl
theorem zze:zao (zbH tt) lay sig Tryz.f140 (sig.sg 140)=true:=by kernel_rfl
theorem zzL:zao (zbH tt) lay sig Tryz.f144 (sig.sg 144)=true:=by kernel_rfl
theorem zzI:zao (zbH tt) lay sig Tryz.f145 (sig.sg 145)=true:=by kernel_rfl
theorem zzp:zao (zbH tt) lay sig Tryz.f146 (sig.sg 146)=true:=by kernel_rfl
theorem zza:zao (zbH tt) lay sig Tryz.f148 (sig.sg 148)=true:=by kernel_rfl
theorem zzw:zao (zbH tt) lay sig Tryz.f149 (sig.sg 149)=true:=by kernel_rfl
theorem zzA:zao (zbH tt) lay sig Tryz.f152 (sig.sg 152)=true:=by kernel_rfl
theorem zto {f:Nat} (h:tt f=true):f∈[79,25,65,80,82,83,85,117,118,119,120,121,138,139,140,144,145,146,148,149,152]:=by
 unfold tt at h;simp only[List.any_eq_true] at h;obtain⟨e,he,hb⟩:=h;rw[←Nat.eq_of_beq_eq_true hb];exact he
theorem zx1:zAs Tryz.prog lay sig tt zgA:=by
 refine⟨fun f hf=>?_,fun f e hf he ct hct=>?_,fun f hf he=>?_⟩
 ·have hm:=zto hf
  simp only[List.mem_cons,List.not_mem_nil,or_false] at hm;rcases hm with rfl|rfl|rfl|rfl|rfl|rfl|rfl|rfl|rfl|rfl|rfl|rfl|rfl|rfl|rfl|rfl|rfl|rfl|rfl|rfl|rfl
  ·exact(show(sig.sg 79).takes=[] by kernel_rfl)
  ·exact(show(sig.sg 25).takes=[] by kernel_rfl)
  ·exact(show(sig.sg 65).takes=[] by kernel_rfl)
  ·exact(show(sig.sg 80).takes=[] by kernel_rfl)
  ·exact(show(sig.sg 82).takes=[] by kernel_rfl)
  ·exact(show(sig.sg 83).takes=[] by kernel_rfl)
  ·exact(show(sig.sg 85).takes=[] by kernel_rfl)
  ·exact(show(sig.sg 117).takes=[] by kernel_rfl)
  ·exact(show(sig.sg 118).takes=[] by kernel_rfl)
  ·exact(show(sig.sg 119).takes=[] by kernel_rfl)
  ·exact(show(sig.sg 120).takes=[] by kernel_rfl)
  ·exact(show(sig.sg 121).takes=[] by kernel_rfl)
  ·exact(show(sig.sg 138).takes=[] by kernel_rfl)
  ·exact(show(sig.sg 139).takes=[] by kernel_rfl)
  ·exact(show(sig.sg 140).takes=[] by kernel_rfl)
  ·exact(show(sig.sg 144).takes=[] by kernel_rfl)
  ·exact(show(sig.sg 145).takes=[] by kernel_rfl)
  ·exact(show(sig.sg 146).takes=[] by kernel_rfl)
  ·exact(show(sig.sg 148).takes=[] by kernel_rfl)
  ·exact(show(sig.sg 149).takes=[] by kernel_rfl)
  ·exact(show(sig.sg 152).takes=[] by kernel_rfl)
 ·have hm:=zto hf
  simp only[List.mem_cons,List.not_mem_nil,or_false] at hm;rcases hm with rfl|rfl|rfl|rfl|rfl|rfl|rfl|rfl|rfl|rfl|rfl|rfl|rfl|rfl|rfl|rfl|rfl|rfl|rfl|rfl|rfl
  ·have h:zgA 79=some zyk:=by kernel_rfl
   rw[h] at he;cases he;exact zDe (by kernel_rfl)
  ·have h:zgA 25=none:=by kernel_rfl
   rw[h] at he;cases he
  ·have h:zgA 65=none:=by kernel_rfl
   rw[h] at he;cases he
  ·have h:zgA 80=none:=by kernel_rfl
   rw[h] at he;cases he
  ·have h:zgA 82=none:=by kernel_rfl
   rw[h] at he;cases he
  ·have h:zgA 83=none:=by kernel_rfl
   rw[h] at he;cases he
  ·have h:zgA 85=none:=by kernel_rfl
   rw[h] at he;cases he
  ·have h:zgA 117=none:=by kernel_rfl
   rw[h] at he;cases he
  ·have h:zgA 118=none:=by kernel_rfl
   rw[h] at he;cases he
  ·have h:zgA 119=none:=by kernel_rfl
   rw[h] at he;cases he
  ·have h:zgA 120=none:=by kernel_rfl
   rw[h] at he;cases he
  ·have h:zgA 121=none:=by kernel_rfl
   rw[h] at he;cases he
  ·have h:zgA 138=none:=by kernel_rfl
   rw[h] at he;cases he
  ·have h:zgA 139=none:=by kernel_rfl
   rw[h] at he;cases he
  ·have h:zgA 140=none:=by kernel_rfl
   rw[h] at he;cases he
  ·have h:zgA 144=none:=by kernel_rfl
   rw[h] at he;cases he
  ·have h:zgA 145=none:=by kernel_rfl
   rw[h] at he;cases he
  ·have h:zgA 146=none:=by kernel_rfl
   rw[h] at he;cases he
  ·have h:zgA 148=none:=by kernel_rfl
   rw[h] at he;cases he
  ·have h:zgA 149=none:=by kernel_rfl
   rw[h] at he;cases he
  ·have h:zgA 152=none:=by kernel_rfl
   rw[h] at he;cases he
 ·have hm:=zto hf
  simp only[List.mem_cons,List.not_mem_nil,or_false] at hm;rcases hm with rfl|rfl|rfl|rfl|rfl|rfl|rfl|rfl|rfl|rfl|rfl|rfl|rfl|rfl|rfl|rfl|rfl|rfl|rfl|rfl|rfl
  ·have h:zgA 79=some zyk:=by kernel_rfl
   rw[h] at he;cases he
  ·exact⟨_,Tryz.func25,zz2⟩
  ·exact⟨_,Tryz.func65,zBq⟩
  ·exact⟨_,Tryz.func80,zCn⟩
  ·exact⟨_,Tryz.func82,zBo⟩
  ·exact⟨_,Tryz.func83,zB7⟩
  ·exact⟨_,Tryz.func85,zAO⟩
  ·exact⟨_,Tryz.func117,zzW⟩
  ·exact⟨_,Tryz.func118,zzb⟩
  ·exact⟨_,Tryz.func119,zzr⟩
  ·exact⟨_,Tryz.func120,zy5⟩
  ·exact⟨_,Tryz.func121,zy8⟩
  ·exact⟨_,Tryz.func138,zzE⟩
  ·exact⟨_,Tryz.func139,zzD⟩
  ·exact⟨_,Tryz.func140,zze⟩
  ·exact⟨_,Tryz.func144,zzL⟩
  ·exact⟨_,Tryz.func145,zzI⟩
  ·exact⟨_,Tryz.func146,zzp⟩
  ·exact⟨_,Tryz.func148,zza⟩
  ·exact⟨_,Tryz.func149,zzw⟩
  ·exact⟨_,Tryz.func152,zzA⟩
end
end Go.Proofs.YtkgbadeobdbinaaGreat
