import PyProof.Rows.All
import Wide.All
import OpenK.AllK
import Wide.FinOn
import HandS.ForMost
import HandS.Defaults
import HandS.TupMul
import HandS.TupAny
import HandS.IsInst
import HandS.Conv
import KE.SortData
import KE.GoesMore
import HandS.Style
import PySem.Challenge.RW_pairfolds_k09_brackets_read
set_option Elab.async false
set_option linter.all false
set_option maxRecDepth 100000
set_option maxHeartbeats 4000000
namespace Pf
open PySem PySem.Spec PyProof.Rows L2

/-! ### a def that may be called: its promise, its name, its binding -/
structure Ca (P : Program) (w : World) (K : PySem.W.Frag) (mg : Str → Option Value) (base : Heap) (k : Nat) (x : Str) (ps : List Str) (sp : Sp) : Prop where
  ex : ∃ f fd, FnOk P w K mg base CX0 k f fd ps sp ∧ mg x = some (.ref f) ∧ PySem.W.keepIn K (.ref f) = true ∧ Binds K fd ps []
structure CaK (P : Program) (w : World) (K : PySem.W.Frag) (mg : Str → Option Value) (base : Heap) (k : Nat) (x : Str) (ps ks : List Str) (gV : List V → List V → List V) (sp : Sp) : Prop where
  ex : ∃ f fd g, FnOk P w K mg base CX0 k f fd ps sp ∧ mg x = some (.ref f) ∧ PySem.W.keepIn K (.ref f) = true ∧ KBn K fd ps 0 ks g gV
section
variable {X : Cx} {k : Nat} {x : Str} {ps ks : List Str} {sp : Sp} {p pos : Pos} {e : Expr} {es : List Expr} {kws : List Keyword} {t tk : TA} {gV : List V → List V → List V}
theorem pe_ca (c : Ca X.prog X.w X.K X.mg X.base k x ps sp) (hr : Room k X.A) (hg : Gl X x) (ha : PA X (e :: es) t) (hdb : (x == ("__debug__" : Str)) = false := by decide)
    (he : starEach (e :: es) X.env = (false, eval e X.env) :: starEach es X.env := by rfl) (hpl : (backTo pos (starEach es X.env)).any (·.1) = false := by rfl) :
    PE X (.Call (.Name x p) (e :: es) [] pos) (tCall sp [] E0 t) := by
  obtain ⟨f, fd, F, hm, hk, hb⟩ := c.ex
  exact pe_call F hr hg hm hk hb .nil pass0 ha hdb he hpl
theorem pe_ca0 (c : Ca X.prog X.w X.K X.mg X.base k x ps sp) (hr : Room k X.A) (hg : Gl X x) (hdb : (x == ("__debug__" : Str)) = false := by decide) :
    PE X (.Call (.Name x p) [] [] pos) (tCall sp [] E0 tNil) := by
  obtain ⟨f, fd, F, hm, hk, hb⟩ := c.ex
  exact pe_call0 F hr hg hm hk hb .nil pass0 hdb
/-- f(k = v, ..), by names alone -/
theorem pe_caK (c : CaK X.prog X.w X.K X.mg X.base k x ps ks gV sp) (hr : Room k X.A) (hg : Gl X x) (hkw : PK X kws tk)
    (hall : (backToKw pos (keywordEach kws X.env)).all (·.1.isSome) = true := by rfl) (hks : (backToKw pos (keywordEach kws X.env)).filterMap (·.1) = ks := by rfl) (hdb : (x == ("__debug__" : Str)) = false := by decide)
    (hpl : ((backTo pos (starEach [] X.env)).any (·.1) || (backToKw pos (keywordEach kws X.env)).any (·.1.isNone)) = false := by rfl) :
    PE X (.Call (.Name x p) [] kws pos) (tCallN 0 ks.length sp gV E0 tNil tk) := by
  obtain ⟨f, fd, g, F, hm, hk, hb⟩ := c.ex
  refine ⟨fun pins s σ H Q I h => ?_⟩
  refine wpAny_Call_Name_kw (ld_glob I hg hm ?_ hdb)
  refine PySem.W.callWith_KW0 (h₀ := X.base) I.ok.mod.kin hk hall ?_ hpl
  refine thn (hkw.run pos pins s σ H _ I h) fun ws s2 ⟨zs, H2, I2, rz, l1, l2, q2⟩ => ⟨I2.kIn, ?_⟩
  rw [hks]
  exact run_fnN (us := []) (vs := []) F hr hb pass0 I2 .nil rz rfl l2 q2
end

/-! ### rules that read a list or a tuple, the written part by its letter -/
theorem ixL (K : PySem.W.Frag) {X : Cx} (h : X.K = K := by rfl) : IxR X (rIxL K) := h ▸ ix_list
theorem ixT (K : PySem.W.Frag) {X : Cx} (h : X.K = K := by rfl) : IxR X (rIxT K) := h ▸ ix_tup
theorem ixA (K : PySem.W.Frag) {X : Cx} (h : X.K = K := by rfl) : IxR X (rIx K) := h ▸ ix_seq
def rLenA (K : PySem.W.Frag) : List V → Hp → VK → Prop := fun xs H Q => ∃ x n, xs = [x] ∧ LenV K x H n ∧ Q (.int n) H
theorem lenA (K : PySem.W.Frag) {X : Cx} (h : X.K = K := by rfl) : CallR X (.builtin "len") (rLenA K) := by
  subst h
  exact call_len
theorem repT (K : PySem.W.Frag) {X : Cx} (h : X.K = K := by rfl) : OpR X (binaryOp .Mult) (rRepT K) := h ▸ op_repT
theorem slL (K : PySem.W.Frag) {X : Cx} (h : X.K = K := by rfl) : SlR X (rSlL K) := h ▸ sl_list
theorem slT (K : PySem.W.Frag) {X : Cx} (h : X.K = K := by rfl) : SlR X (rSlT K) := h ▸ sl_tup
theorem eqD (K : PySem.W.Frag) {X : Cx} (hu : X.A.units + 64 < cLine) (h : X.K = K := by rfl) : OpR X (compareOp .Eq) (rEqD K) := h ▸ op_eqD hu
theorem neD (K : PySem.W.Frag) {X : Cx} (hu : X.A.units + 64 < cLine) (h : X.K = K := by rfl) : OpR X (compareOp .NotEq) (rNeD K) := h ▸ op_neD hu
theorem catT (K : PySem.W.Frag) {X : Cx} (h : X.K = K := by rfl) : OpR X (binaryOp .Add) (rCatT K) := h ▸ op_catT
theorem catA (K : PySem.W.Frag) {X : Cx} (h : X.K = K := by rfl) : OpR X (binaryOp .Add) (rCatA K) := h ▸ op_catA
theorem slA (K : PySem.W.Frag) {X : Cx} (h : X.K = K := by rfl) : SlR X (rSlA K) := h ▸ sl_tupA
theorem isi1 (K : PySem.W.Frag) {X : Cx} (h : X.K = K := by rfl) : CallR X (.builtin "isinstance") (rIsi K) := h ▸ call_isi
theorem pgT (K : PySem.W.Frag) {X : Cx} {es : List Expr} {k n : Nat} {t : TGs} {pos : Pos} (hc : X.calm = true) (h : PGs X es t) (hK : X.K = K := by rfl) (hn : (assignEach es X.env).length = n := by rfl) (hst : (assignEach es X.env).findIdx? (·.1) = none := by rfl) :
    PG X (.Tuple es k pos) (gTup K n t) := by
  subst hK
  exact pg_tup hc h hn hst
def rLen (K : PySem.W.Frag) : List V → Hp → VK → Prop := fun xs H Q => ∃ p ys, xs = [.ref p] ∧ (SqL K H p ys ∨ SqT K H p ys) ∧ Q (.int ys.length) H
theorem lenQ (K : PySem.W.Frag) {X : Cx} (h : X.K = K := by rfl) : CallR X (.builtin "len") (rLen K) := by
  subst h
  exact call_len_seq
def rListOf (K : PySem.W.Frag) : List V → Hp → VK → Prop := fun xs H Q => ∃ p ys, xs = [.ref p] ∧ (SqL K H p ys ∨ SqT K H p ys) ∧ ∀ l, H l = none → Q (.ref l) (upd H l (.lst ys))
theorem listOf (K : PySem.W.Frag) {X : Cx} (h : X.K = K := by rfl) : CallR X (.type "list") (rListOf K) := by
  subst h
  exact call_list_of
def rTupleOf (K : PySem.W.Frag) : List V → Hp → VK → Prop := fun xs H Q => ∃ p ys, xs = [.ref p] ∧ ((SqL K H p ys ∧ ∀ l, H l = none → Q (.ref l) (upd H l (.tup ys))) ∨ (SqT K H p ys ∧ Q (.ref p) H))
theorem tupleOf (K : PySem.W.Frag) {X : Cx} (h : X.K = K := by rfl) : CallR X (.type "tuple") (rTupleOf K) := by
  subst h
  exact call_tuple_of

/-! ### repr of a plain thing -/
def repV : V → Str
  | .non => "None"
  | .bl b => if b then "True" else "False"
  | .int i => toString i
  | _ => ""
def RepOk : V → Prop
  | .non => True
  | .bl _ => True
  | .int i => i.natAbs.log2 < 1920
  | _ => False
theorem call_repr {X : Cx} : CallR X (.builtin "repr") (fun xs H Q => ∃ v, xs = [v] ∧ RepOk v ∧ Q (.str (repV v)) H) := by
  intro pins s σ H xs us Q I r h
  obtain ⟨v, rfl, hz, q⟩ := h
  cases v with
  | non =>
    obtain ⟨u, rfl, rfl⟩ := vals1 r
    exact PySem.P.repr_of_none ⟨.str _, H, I.tok _, ⟨_, rfl⟩, q⟩
  | bl b =>
    obtain ⟨u, rfl, rfl⟩ := vals1 r
    exact PySem.P.repr_of_bool ⟨.str _, H, I.tok _, ⟨_, rfl⟩, by cases b <;> exact q⟩
  | int i =>
    obtain ⟨u, rfl, t, rfl⟩ := vals1 r
    exact PySem.P.repr_of_int hz ⟨.str _, H, I.tok _, ⟨_, rfl⟩, q⟩
  | str _ => exact hz.elim
  | byt _ => exact hz.elim
  | flt _ => exact hz.elim
  | ref _ => exact hz.elim
  | ty _ => exact hz.elim

/-! ### texts of small letters -/
def Small (x : Str) : Prop := ∀ c ∈ x.cps.toList, 97 ≤ c ∧ c ≤ 122
theorem Small.app {a b : Str} (ha : Small a) (hb : Small b) : Small (a ++ b) := fun c h => by
  rw [Str.cps_append, Array.toList_append, List.mem_append] at h
  rcases h with h | h
  · exact ha c h
  · exact hb c h
theorem Small.one {c : Nat} (h : 97 ≤ c ∧ c ≤ 122) : Small ⟨#[c]⟩ := fun d hd => by
  have e : d = c := by simpa using hd
  subst e
  exact h
theorem Small.at {x : Str} (h : Small x) {i c : Nat} (hi : x.cps[i]? = some c) : 97 ≤ c ∧ c ≤ 122 := by
  refine h c ?_
  have := Array.mem_of_getElem? hi
  exact Array.mem_toList_iff.mpr this
theorem Small.ok {x : Str} (h : Small x) : PyData.strOk x = true := by
  show x.cps.all (· < 0x110000) = true
  rw [Array.all_eq_true_iff_forall_mem]
  intro c hc
  have := h c (Array.mem_toList_iff.mpr hc)
  exact decide_eq_true (by omega)
/-! ### a chain of three comparisons -/
def tChain3 (r1 r2 r3 : R2) (ta tb tc td : TE) : TE := fun σ H Q => ta σ H fun x H1 => tb σ H1 fun y H2 => r1 x y H2 fun z H3 => ∃ k, z = .bl k ∧
  (if k = true then tc σ H3 fun u H4 => r2 y u H4 fun z2 H5 => ∃ k2, z2 = .bl k2 ∧ (if k2 = true then td σ H5 fun v H6 => r3 u v H6 Q else Q (.bl false) H5) else Q (.bl false) H3)
theorem pt_chain3 {X : Cx} {o1 o2 o3 : CmpOp} {r1 r2 r3 : R2} {a b c d : Expr} {ta tb tc td : TE} {pos : Pos} (h1 : OpR X (compareOp o1) r1) (h2 : OpR X (compareOp o2) r2) (h3 : OpR X (compareOp o3) r3)
    (ha : PE X a ta) (hb : PE X b tb) (hc : PE X c tc) (hd : PE X d td) (hm : lastMarks [o1, o2, o3] [b, c, d] = false := by with_unfolding_all rfl) :
    PT X (.Compare a [o1, o2, o3] [b, c, d] pos) (tTest (tChain3 r1 r2 r3 ta tb tc td)) := by
  refine ⟨fun pins s σ H Q I h => isTrue_chain (thn (ha.run pins s σ H _ I h) fun v s1 ⟨x, H1, I1, e1, q1⟩ => test_link ?_) hm⟩
  refine thn (hb.run pins s1 σ H1 _ I1 q1) fun u s2 ⟨y, H2, I2, e2, q2⟩ => ?_
  refine thn (h1 pins s2 σ H2 x y v u _ I2 e1 e2 q2) fun dv s3 ⟨z, H3, I3, e3, k, ek, q3⟩ => ?_
  subst ek
  cases e3
  refine wpAny_truthy_bool ?_
  cases k with
  | false =>
    obtain ⟨k', e', q'⟩ := q3
    cases e'
    exact ite_ff ⟨H3, I3, q'⟩
  | true =>
    refine ite_tt (test_link ?_)
    refine thn (hc.run pins s3 σ H3 _ I3 q3) fun u4 s4 ⟨y4, H4, I4, e4, q4⟩ => ?_
    refine thn (h2 pins s4 σ H4 y y4 u u4 _ I4 e2 e4 q4) fun dv5 s5 ⟨z5, H5, I5, e5, k5, ek5, q5⟩ => ?_
    subst ek5
    cases e5
    refine wpAny_truthy_bool ?_
    cases k5 with
    | false =>
      obtain ⟨k', e', q'⟩ := q5
      cases e'
      exact ite_ff ⟨H5, I5, q'⟩
    | true =>
      refine ite_tt (test_last ?_)
      refine thn (hd.run pins s5 σ H5 _ I5 q5) fun u6 s6 ⟨y6, H6, I6, e6, q6⟩ => ?_
      refine thn (h3 pins s6 σ H6 y4 y6 u4 u6 _ I6 e4 e6 q6) fun dv7 s7 ⟨z7, H7, I7, e7, k7, ek7, q7⟩ => ?_
      subst ek7
      cases e7
      exact wpAny_truthy_bool ⟨H7, I7, q7⟩
theorem inSeq (K : PySem.W.Frag) {X : Cx} (h : X.K = K := by rfl) : OpR X (compareOp .In) (rIn K false) := h ▸ op_in_seq
theorem notInSeq (K : PySem.W.Frag) {X : Cx} (h : X.K = K := by rfl) : OpR X (compareOp .NotIn) (rIn K true) := h ▸ op_notIn_seq
/-! ### join with nothing between -/
theorem join_str (ys : List Str) : Txt.join "" ys = Str.join "" ys := eq_of_beq (join_closes (ys := ys) rfl)
theorem sjoin_le {m : Nat} : ∀ {ys : List Str}, (∀ y ∈ ys, y.length ≤ m) → (Str.join "" ys).length ≤ ys.length * m
  | [], _ => Nat.zero_le _
  | [y], h => by
    have := h y (List.mem_cons_self ..)
    show y.length ≤ 1 * m
    omega
  | y :: z :: r, h => by
    have h1 := h y (List.mem_cons_self ..)
    have h2 := sjoin_le (ys := z :: r) fun x hx => h x (List.mem_cons_of_mem _ hx)
    show (y ++ "" ++ Str.join "" (z :: r)).length ≤ _
    rw [Str.length_append, Str.length_append, List.length_cons, Nat.succ_mul]
    show y.length + 0 + _ ≤ _
    omega
theorem small_nil : Small "" := by
  unfold Small
  decide +kernel
theorem sjoin_small : ∀ {ys : List Str}, (∀ y ∈ ys, Small y) → Small (Str.join "" ys)
  | [], _ => small_nil
  | [y], h => h y (List.mem_cons_self ..)
  | y :: z :: r, h => ((h y (List.mem_cons_self ..)).app small_nil).app (sjoin_small (ys := z :: r) fun x hx => h x (List.mem_cons_of_mem _ hx))
theorem join_le {m : Nat} {ys : List Str} (h : ∀ y ∈ ys, y.length ≤ m) : (Txt.join "" ys).length ≤ ys.length * m := by
  rw [join_str]
  exact sjoin_le h
theorem join_small {ys : List Str} (h : ∀ y ∈ ys, Small y) : Small (Txt.join "" ys) := by
  rw [join_str]
  exact sjoin_small h

/-! ### a walk over a text's signs -/
theorem for_str {x : Str} {g : TG} {tb : TS} {D : Ends} {σ : L2.St} {H : Hp} (Pv : Nat → L2.St → Hp → Prop) (h0 : Pv 0 σ H)
    (hs : ∀ i c σ H, x.cps[i]? = some c → Pv i σ H → g (.str ⟨#[c]⟩) σ H fun σ2 H2 => tb { D with nx := Pv (i + 1), ct := Pv (i + 1), bk := D.nx } σ2 H2) (hd : ∀ σ H, Pv x.cps.size σ H → D.nx σ H) :
    ∃ W : Nat → Nat → L2.St → Hp → Prop, (∃ m, W 0 m σ H) ∧ ∀ i m σ H, W i m σ H →
      ((Its x).stop i H ∧ D.nx σ H) ∨ ((Its x).go i H ∧ ∃ N : L2.St → Hp → Prop, (∀ σ' H', N σ' H' → ∃ m', m' < m ∧ W (i + 1) m' σ' H') ∧ ∀ y H', (Its x).yld i H y H' → g y σ H' fun σ2 H2 => tb { D with nx := N, ct := N, bk := D.nx } σ2 H2) := by
  refine ⟨fun i m σ H => m = x.cps.size - i ∧ i ≤ x.cps.size ∧ Pv i σ H, ⟨x.cps.size, by simp, Nat.zero_le _, h0⟩, ?_⟩
  rintro i m σ H ⟨rfl, hi, p⟩
  by_cases hlt : i < x.cps.size
  · refine .inr ⟨hlt, Pv (i + 1), fun σ' H' p' => ⟨x.cps.size - (i + 1), by omega, rfl, hlt, p'⟩, fun y H' z => ?_⟩
    obtain ⟨e, c, hc, ev⟩ := z
    subst e ev
    exact hs i c σ _ hc p
  · have e : i = x.cps.size := by omega
    subst e
    exact .inl ⟨Nat.le_refl _, hd σ H p⟩
theorem lc_str {x : Str} {g : TG} {tt : TT} {te : TE} {vs : List Nat} {σ : L2.St} {H1 : Hp} {D : Addr} {Qd : Hp → Prop} (Pv : Nat → Hp → Prop) (h0 : Pv 0 (upd H1 D (.lst [])))
    (hs : ∀ i c H, x.cps[i]? = some c → Pv i H → g (.str ⟨#[c]⟩) (wipe σ vs) H fun σ2 H2 => wipe σ2 vs = wipe σ vs ∧ tt σ2 H2 fun b H3 =>
      if b = true then te σ2 H3 fun y H4 => ∃ acc, H4 D = some (.lst acc) ∧ acc.length < sizeLine ∧ Pv (i + 1) (upd H4 D (.lst (acc ++ [y]))) else Pv (i + 1) H3) (hd : ∀ H, Pv x.cps.size H → Qd H) :
    ∃ W : Nat → Nat → Hp → Prop, (∃ m, W 0 m (upd H1 D (.lst []))) ∧ ∀ i m H, W i m H →
      ((Its x).stop i H ∧ Qd H) ∨ ((Its x).go i H ∧ ∃ Nx : Hp → Prop, (∀ H', Nx H' → ∃ m', m' < m ∧ W (i + 1) m' H') ∧ ∀ y H', (Its x).yld i H y H' → g y (wipe σ vs) H' fun σ2 H2 => wipe σ2 vs = wipe σ vs ∧ tt σ2 H2 fun b H3 =>
        if b = true then te σ2 H3 fun y H4 => ∃ acc, H4 D = some (.lst acc) ∧ acc.length < sizeLine ∧ Nx (upd H4 D (.lst (acc ++ [y]))) else Nx H3) := by
  refine ⟨fun i m H => m = x.cps.size - i ∧ i ≤ x.cps.size ∧ Pv i H, ⟨x.cps.size, by simp, Nat.zero_le _, h0⟩, ?_⟩
  rintro i m H ⟨rfl, hi, p⟩
  by_cases hlt : i < x.cps.size
  · refine .inr ⟨hlt, Pv (i + 1), fun H' p' => ⟨x.cps.size - (i + 1), by omega, rfl, hlt, p'⟩, fun y H' z => ?_⟩
    obtain ⟨e, c, hc, ev⟩ := z
    subst e ev
    exact hs i c _ hc p
  · have e : i = x.cps.size := by omega
    subst e
    exact .inl ⟨Nat.le_refl _, hd H p⟩

/-! ### what stays in the heap, but the thing at p -/
def Kp (p : Addr) (H H' : Hp) : Prop := ∀ b o, b ≠ p → H b = some o → H' b = some o
theorem Kp.refl {p : Addr} {H : Hp} : Kp p H H := fun _ _ _ e => e
theorem Kp.trans {p : Addr} {H H1 H2 : Hp} (a : Kp p H H1) (b : Kp p H1 H2) : Kp p H H2 := fun c o n e => b c o n (a c o n e)
theorem Kp.new {p q : Addr} {H : Hp} {o : HO} (h : H q = none) : Kp p H (upd H q o) := fun b x _ e => by
  rw [upd_ne (ne_of_none e h)]
  exact e
theorem Kp.at {p : Addr} {H : Hp} {o : HO} : Kp p H (upd H p o) := fun b x n e => by
  rw [upd_ne n]
  exact e
/-- a change of what stood nowhere in H -/
theorem Kp.put {p q : Addr} {H H1 : Hp} {o : HO} (k : Kp p H H1) (h : H q = none) : Kp p H (upd H1 q o) := fun b x n e => by
  rw [upd_ne (ne_of_none e h)]
  exact k b x n e
theorem Kp.tup {p : Addr} {H H' : Hp} {ys : List V} {b : Addr} {xs : List V} (k : Kp p H H') (hp : H p = some (.lst ys)) (h : H b = some (.tup xs)) : H' b = some (.tup xs) :=
  k b _ (ne_of h hp (by intro z; cases z)) h
theorem Kp.some {p : Addr} {H H' : Hp} (k : Kp p H H') (hp : ∃ o, H' p = some o) {b : Addr} (h : H' b = none) : H b = none := by
  cases e : H b with
  | none => rfl
  | some o =>
    by_cases n : b = p
    · subst n
      obtain ⟨o', e'⟩ := hp
      rw [e'] at h
      cases h
    · rw [k b o n e] at h
      cases h

/-! ### arguments by names, in another order -/
def permV (js : List Nat) : List V → List V → List V := fun _ zs => js.map fun j => zs.getD j .non
def permU (js : List Nat) : List Value → List Value → List Value := fun _ ws => js.map fun j => ws.getD j .none
theorem vals_getD : ∀ {zs : List V} {ws : List Value} (j : Nat), Vals zs ws → RelV (zs.getD j .non) (ws.getD j .none)
  | _, _, _, .nil => rfl
  | _, _, 0, .cons r _ => r
  | _, _, j + 1, .cons _ t => vals_getD j t
theorem perm_rel {zs : List V} {ws : List Value} (r : Vals zs ws) : ∀ js : List Nat, Vals (js.map fun j => zs.getD j .non) (js.map fun j => ws.getD j .none)
  | [] => .nil
  | j :: js => .cons (vals_getD j r) (perm_rel r js)
theorem kbn_of {K : PySem.W.Frag} {fd : FuncData} {ps ks : List Str} (js : List Nat) (h : ∀ ws : List Value, ws.length = ks.length → bindArgs fd ⟨[], ks.zip ws⟩ = pure (ps.zip (js.map fun j => ws.getD j .none))) :
    KBn K fd ps 0 ks (permU js) (permV js) where
  to := fun s us ws _ hu hw => by
    obtain rfl := List.length_eq_zero_iff.mp hu
    exact .of_eq (h ws hw)
  rel := fun _ r => perm_rel r js
/-! ### what is added, and nothing changed -/
def Ext (H H' : Hp) : Prop := ∀ b o, H b = some o → H' b = some o
theorem Ext.refl {H : Hp} : Ext H H := fun _ _ e => e
theorem Ext.trans {H H1 H2 : Hp} (a : Ext H H1) (b : Ext H1 H2) : Ext H H2 := fun c o e => b c o (a c o e)
theorem Ext.new {q : Addr} {H : Hp} {o : HO} (h : H q = none) : Ext H (upd H q o) := fun b x e => by
  rw [upd_ne (ne_of_none e h)]
  exact e
theorem Ext.put {q : Addr} {H H1 : Hp} {o : HO} (k : Ext H H1) (h : H q = none) : Ext H (upd H1 q o) := fun b x e => by
  rw [upd_ne (ne_of_none e h)]
  exact k b x e
theorem Ext.none {H H' : Hp} (k : Ext H H') {q : Addr} (h : H' q = none) : H q = none := by
  cases e : H q with
  | none => rfl
  | some o =>
    rw [k q o e] at h
    cases h

theorem atI_get {α : Type} {xs : List α} {i : Int} (h0 : 0 ≤ i) (h1 : i < xs.length) : atI xs i = some (xs[i.toNat]'(by omega)) := by
  unfold atI ixN
  rw [if_pos h0, if_pos h1]
  exact List.getElem?_eq_getElem _
theorem atI_ints {ns : List Int} {i : Int} (h0 : 0 ≤ i) (h1 : i < ns.length) : ∃ z, z ∈ ns ∧ atI (ns.map V.int) i = some (.int z) := by
  have h2 : i < (ns.map V.int).length := by rw [List.length_map]; exact h1
  refine ⟨ns[i.toNat]'(by omega), List.getElem_mem _, ?_⟩
  rw [atI_get h0 h2, List.getElem_map]
theorem atI_mem {α : Type} {xs : List α} {i : Int} (h0 : 0 ≤ i) (h1 : i < xs.length) : ∃ v, v ∈ xs ∧ atI xs i = some v :=
  ⟨xs[i.toNat]'(by omega), List.getElem_mem _, atI_get h0 h1⟩
theorem len_pos {x : Str} (h : ¬ x = "") : 1 ≤ x.length := by
  obtain ⟨⟨l⟩⟩ := x
  cases l with
  | nil => exact absurd (by decide +kernel) h
  | cons a r =>
    show 1 ≤ (a :: r).length
    exact Nat.succ_pos _
theorem natAbs_lt_of {i : Int} {n : Nat} (h0 : -(n : Int) < i) (h1 : i < n) : i.natAbs < n := by omega
theorem log2_small {i : Int} (h : i.natAbs < 2 ^ 64) : i.natAbs.log2 < 1920 := by
  by_cases z : i.natAbs = 0
  · rw [z]
    decide
  · exact (Nat.log2_lt z).mpr (Nat.lt_of_lt_of_le h (Nat.pow_le_pow_right (by decide) (by decide)))
theorem szL {n : Nat} (h : n ≤ 1000000) : n ≤ sizeLine := by
  rw [sizeLine_eq]
  omega
theorem szLt {n : Nat} (h : n < 1000000) : n < sizeLine := by
  rw [sizeLine_eq]
  omega
end Pf


namespace Pf
open PySem PySem.Spec PyProof.Rows L2
/-! ### the law's own call: made by nobody, nothing being shown meanwhile -/
structure FnG (P : Program) (w : World) (K : PySem.W.Frag) (mg : Str → Option Value) (base : Heap) (f : Addr) (fd : FuncData) (ps : List Str) (sp : Sp) : Prop where
  run : ∀ (s : Shared) (H : Hp) (args : Args) (us : List Value) (vs : List V) (Q : VK) (E : XK), Env0 P w K mg base callerA [] s H → BindsTo s fd args (ps.zip us) → Vals vs us → sp vs H Q E →
    codeAny (model P w) callerA (.call (.ref f) args) (CR CX0 [] P w H s Q E) s
theorem FnG.of {P : Program} {w : World} {K : PySem.W.Frag} {mg : Str → Option Value} {base : Heap} {k : Nat} {f : Addr} {fd : FuncData} {x qual : Str} {st : Stmt} {N ps : List Str} {sp : Sp} (F : Fun K x qual st f fd) (S : FnScope N ps (defScope st))
    (room : Room (k + 1) callerA) (len : ∀ vs H Q E, sp vs H Q E → vs.length = ps.length)
    (body : ∀ (cdv : Value) (s : Shared) (H : Hp) (vs : List V) (Q : VK) (E : XK), Room k (callerA.deeper (envOfC qual (defScope st) s.heap.objs.size f cdv)) → (callerA.deeper (envOfC qual (defScope st) s.heap.objs.size f cdv)).guards = some [] → sp vs H Q E →
      ∃ t, PSs (cxOf CX0 P w K mg base N qual (defScope st) f cdv callerA [] s H E).nox (defBody st) t ∧ t { nx := fun _ H' => Q .non H', rt := Q } (start N vs) H) : FnG P w K mg base f fd ps sp := by
  obtain ⟨oc, od, kV, doc, pm, an, cdv, ct, osl, rfl, lk, hcd⟩ := F.ex
  refine ⟨fun s H args us vs Q E env0 bnd rel hsp => ?_⟩
  have inS : K.In s.heap := env0.mod.kin.keeps fun b o e => (env0.bs b o e).1
  have limS : s.heap.NoLimit := env0.mod.nolimit.keeps fun b o e => (env0.bs b o e).1
  have kinds : ∀ y ∈ ps.zip us, (defScope st).names.lookup y.1 = some .local ∨ ((defScope st).names.lookup y.1 = some .cell ∧ ((cellsFrom (s.heap.objs.size + 1) (defScope st).names []).lookup y.1).isSome = true) := by
    rintro ⟨n, v⟩ hy
    cases S.par n (List.of_mem_zip hy).1 with
    | inl q => exact .inl q
    | inr q => exact .inr ⟨q, PySem.W.cellsFrom_some _ _ _ (.inl q)⟩
  refine codeAny_call_function room.depth (inS _ _ lk) rfl S.co S.gen rfl (PySem.W.codeRec_of inS hcd) (bnd _ _ _ _ ?_)
  refine wpAny_newFunctionEnv_cells S.kind kinds fun env0' he s1 inC => ?_
  subst he
  refine ⟨limS.keeps inC.toInCall.keep, codeAny_func ?_⟩
  obtain ⟨t, ht, hq⟩ := body cdv s H vs Q E (room.deeper _) rfl hsp
  have I0 : Inv (cxOf CX0 P w K mg base N qual (defScope st) f cdv callerA [] s H E) [] (start N vs) H s1 := inv_start S room.hd env0 (len _ _ _ _ hsp) rel inC
  refine wpAny_mono (ht.nox.run [] s1 (start N vs) H _ I0 hq) (fun fl s' hs => ?_) fun _ _ z => z
  cases fl with
  | ret u =>
    obtain ⟨v, σ', H', J, rv, q⟩ := hs
    exact ⟨v, H', J.os, J.bare, J.base, J.hok, rv, q⟩
  | next =>
    obtain ⟨σ', H', J, q⟩ := hs
    exact ⟨.non, H', J.os, J.bare, J.base, J.hok, rfl, q⟩
  | brk => exact False.elim (by obtain ⟨_, _, _, q⟩ := hs; exact q)
  | cont => exact False.elim (by obtain ⟨_, _, _, q⟩ := hs; exact q)
/-- its end: from an abstract heap that holds the script or nothing -/
theorem FnG.ends {P : Program} {w : World} {K : PySem.W.Frag} {mg mb : Str → Option Value} {fa a : Addr} {fd : FuncData} {x : Str} {sp : Sp} {s1 : Shared} {vs : List Value} {ns : List Int}
    (inK : K.In s1.heap) (gl : s1.heap.Ns mainGlobals mg) (bl : s1.heap.Ns builtinsNs mb) (bb : ∀ x : Str, x ≠ "__name__" → mb x = bootBuiltins x) (lim : s1.heap.NoLimit) (gens : s1.gens = #[])
    (hscr : s1.heap.get? a = some { cls := .type "list", data := .seq vs.toArray }) (hin : IntsAre vs ns) (F : ∀ base : Heap, K.In base → base.Ns mainGlobals mg → FnG P w K mg base fa fd [x] sp) (bnd : ∀ (s : Shared) (u : Value), BindsTo s fd ⟨[u], []⟩ [(x, u)])
    {H : Hp} (only : Only H) (hsp : sp [.ref a] H (fun v _ => v = .bl true) fun _ _ _ => False) (hok : HOk P w H s1.heap) (hA : ∀ b, H b ≠ none → b = a) (hK : H a ≠ none → K.lookup a = none) :
    codeAny (model P w) callerA (.call (.ref fa) ⟨[.ref a], []⟩) (fun r s' => r = .ok (.ret (.bool true)) ∧ OldK s1.heap s'.heap ∧ s'.os = s1.os ∧ AllBare s'.gens) s1 := by
  have isA : ∀ {b : Addr} {u : HO}, H b = some u → b = a := fun {b u} q => hA b (by rw [q]; exact Option.some_ne_none _)
  have hid : ∀ {b : Addr} {o : Obj}, s1.heap.get? b = some o → H b = none → (hidT s1.heap H).get? b = some o := fun e n => hidT_get e n
  have dictN : ∀ {b : Addr} {o : Obj} {es : Array DictEntry} {ep : Nat}, s1.heap.get? b = some o → o.data = .dict es ep → H b = none := by
    intro b o es ep e d
    cases q : H b with
    | none => rfl
    | some u =>
      obtain rfl := isA q
      rw [hscr] at e
      cases e
      exact nomatch d
  have nsH : ∀ {b : Addr} {m : Str → Option Value}, s1.heap.Ns b m → (hidT s1.heap H).Ns b m := by
    rintro b m ⟨o, es, ep, e, d, r⟩
    exact ⟨o, es, ep, hid e (dictN e d), d, r⟩
  have inB : K.In (hidT s1.heap H) := by
    intro b o e
    refine hid (inK b o e) ?_
    cases q : H b with
    | none => rfl
    | some u =>
      obtain rfl := isA q
      rw [hK (by rw [q]; exact Option.some_ne_none _)] at e
      cases e
  have limB : (hidT s1.heap H).NoLimit := by
    obtain ⟨mc, h1, h2⟩ := lim
    exact ⟨mc, nsH h1, h2⟩
  have env0 : Env0 P w K mg (hidT s1.heap H) callerA [] s1 H :=
    ⟨rfl, ⟨inB, nsH gl, ⟨mb, nsH bl, bb⟩, limB⟩, fun b o e => of_hidT e, Nat.le_of_eq (hidT_size _ _), trivial, fun b hb => (nomatch (show b ∈ ([] : List Addr) from hb)), hok, .of_eq gens⟩
  refine codeAny_mono ((F _ inB (nsH gl)).run s1 H ⟨[.ref a], []⟩ [.ref a] [.ref a] _ _ env0 (bnd s1 (.ref a)) (.cons rfl .nil) hsp) fun r s' h => ?_
  match r, h with
  | .error _, h => exact False.elim h
  | .ok .next, h => exact False.elim h
  | .ok .brk, h => exact False.elim h
  | .ok .cont, h => exact False.elim h
  | .ok (.ret u), h =>
    obtain ⟨v, H', os, bare, un, hok', rel, q⟩ := h
    obtain rfl : v = .bl true := q
    obtain rfl : u = Value.bool true := rel
    refine ⟨rfl, OldK.of_keep fun b o e => ?_, os, bare⟩
    cases q : H b with
    | none => exact un.keep b o e q (fun z => (nomatch (show b ∈ ([] : List Addr) from z))) (by simp)
    | some u =>
      cases only b with
      | inl z => rw [q] at z; cases z
      | inr z =>
        obtain ⟨ob, xs, z⟩ := z
        have kept := (hok' b _ (un.frzs b ob _ z)).1
        have was := (hok b _ z).1
        rw [e] at was
        cases was
        exact kept
theorem walk_g {l : PySem.W.OpenLaw} {n : Nat} {q : Program} {loose : List Str} {XP : (Str → Option Value) → Heap → Prop} {YP : World → Heap → Prop} {d : DefRec} {K : Params → PySem.W.Frag} {sp : World → Sp} {x : Str}
    (hn : l.most = some n) (hn2 : n ≤ sizeLine) (hdf : d.params.defaults = []) (hY : ∀ (w : World) (h : Heap), YP w h → (K w.params).In h)
    (F : ∀ (w : World) (mg : Str → Option Value) (fa : Addr) (h : Heap), (K w.params).In h → h.Ns mainGlobals mg → mg d.name = some (.ref fa) →
      ∃ fd : FuncData, (∀ (s : Shared) (u : Value), BindsTo s fd ⟨[u], []⟩ [(x, u)]) ∧ ∀ base : Heap, (K w.params).In base → base.Ns mainGlobals mg → FnG l.prog w (K w.params) mg base fa fd [x] (sp w))
    (hsp : ∀ (w : World) (H : Hp) (a : Addr) (ns : List Int), ns.length ≤ n → SqL (K w.params) H a (ns.map V.int) → sp w [.ref a] H (fun v _ => v = .bl true) fun _ _ _ => False) :
    PySem.W.WalkO q loose XP YP l.row.toRowW d [] (fun f vs => PySem.call f vs) := by
  refine Att.attach_call hn hdf fun w s0 s1 mg mb fa o pm cd doc a vs ns G Y ho hd hcd hmg hobj hints hlen hg => ?_
  have inK := hY w _ Y
  obtain ⟨fd, bnd, hF⟩ := F w mg fa _ inK G.T.g hmg
  have szs : ns.length ≤ sizeLine := Nat.le_trans hlen hn2
  have vals := vals_ints hints
  cases hk : (K w.params).lookup a with
  | some ob =>
    have e := inK a ob hk
    rw [hobj] at e
    cases e
    have here : SqL (K w.params) (fun _ => none) a (ns.map V.int) := .inr ⟨_, vs.toArray, _, hk, rfl, rfl, rfl, by rw [List.size_toArray, hints.length]; exact szs, by simpa using vals⟩
    exact FnG.ends inK G.T.g G.T.b G.T.builtins G.T.nolimit hg hobj hints hF bnd (fun _ => .inl rfl) (hsp w _ a ns hlen here) (fun _ _ z => (nomatch z)) (fun b z => absurd rfl z) fun z => absurd rfl z
  | none =>
    have here : SqL (K w.params) (fun b => if b = a then some (.frz { cls := .type "list", data := .seq vs.toArray } (.lst (ns.map V.int))) else none) a (ns.map V.int) := .inl (.inr ⟨_, if_pos rfl⟩)
    refine FnG.ends inK G.T.g G.T.b G.T.builtins G.T.nolimit hg hobj hints hF bnd (fun b => ?_) (hsp w _ a ns hlen here) (fun b u z => ?_) (fun b z => ?_) fun _ => hk
    · exact if h : b = a then .inr ⟨_, _, if_pos h⟩ else .inl (if_neg h)
    · by_cases h : b = a
      · rw [if_pos h] at z
        cases z
        subst h
        exact ⟨hobj, by rw [List.length_map]; exact szs, vs, _, vals, hobj⟩
      · rw [if_neg h] at z
        cases z
    · by_cases h : b = a
      · exact h
      · exact absurd (if_neg h) z
/-! ### data that are small: how much they weigh, how deep they are -/
structure Sm (m k : Nat) (d : PyData) : Prop where
  lay : d.canLay0 = true
  sho : d.showable = true
  ish : d.intsShort 13 = true
  wt : d.weight ≤ m
  dep : d.depth ≤ k
theorem Sm.le {m k m' k' : Nat} {d : PyData} (h : Sm m k d) (hm : m ≤ m') (hk : k ≤ k') : Sm m' k' d := ⟨h.lay, h.sho, h.ish, Nat.le_trans h.wt hm, Nat.le_trans h.dep hk⟩
theorem Sm.non : Sm 0 0 .none := ⟨by simp [PyData.canLay0], by simp [PyData.showable], by simp [PyData.intsShort], by simp [PyData.weight], by simp [PyData.depth]⟩
theorem Sm.bl (b : Bool) : Sm 0 0 (.bool b) := ⟨by simp [PyData.canLay0], by simp [PyData.showable], by simp [PyData.intsShort], by simp [PyData.weight], by simp [PyData.depth]⟩
theorem Sm.int {i : Int} (h0 : -1000000000 < i) (h1 : i < 1000000000) : Sm 64 0 (.int i) := by
  have hb : i.natAbs < 2 ^ 64 := by omega
  have hl : i.natAbs.log2 < 64 := by
    by_cases z : i.natAbs = 0
    · rw [z]
      decide
    · exact (Nat.log2_lt z).mpr hb
  refine ⟨by simp [PyData.canLay0], ?_, ?_, ?_, by simp [PyData.depth]⟩
  · simp only [PyData.showable]
    exact decide_eq_true (by omega)
  · simp only [PyData.intsShort, PyData.shown]
    refine decide_eq_true ?_
    by_cases hn : i < 0
    · rw [len_text_neg hn]
      have := toString_length_le (v := 0 - i) (k := 9) (by omega) (by decide) (by omega)
      omega
    · have := toString_length_le (v := i) (k := 9) (by omega) (by decide) (by omega)
      omega
  · simp only [PyData.weight]
    split <;> omega
theorem Sm.str {x : Str} {n : Nat} (h : PyData.strOk x = true) (hn : x.length ≤ n) : Sm n 0 (.str x) :=
  ⟨by simpa only [PyData.canLay0] using h, by simp [PyData.showable], by simp [PyData.intsShort], by simp only [PyData.weight]; exact hn, by simp [PyData.depth]⟩
structure SmA (n m k : Nat) (ds : List PyData) : Prop where
  lay : PyData.canLayAll0 ds = true
  sho : PyData.showableAll ds = true
  ish : PyData.intsShortAll 13 ds = true
  wt : PyData.weightAll ds ≤ ds.length * (m + 1)
  dep : PyData.depthAll ds ≤ k
theorem SmA.of {m k : Nat} : ∀ {ds : List PyData}, (∀ d ∈ ds, Sm m k d) → SmA ds.length m k ds
  | [], _ => ⟨by simp [PyData.canLayAll0], by simp [PyData.showableAll], by simp [PyData.intsShortAll], by simp [PyData.weightAll], by simp [PyData.depthAll]⟩
  | d :: ds, h => by
    have h1 := h d (List.mem_cons_self ..)
    have h2 := SmA.of (ds := ds) fun x hx => h x (List.mem_cons_of_mem _ hx)
    refine ⟨by simp [PyData.canLayAll0, h1.lay, h2.lay], by simp [PyData.showableAll, h1.sho, h2.sho], by simp [PyData.intsShortAll, h1.ish, h2.ish], ?_, ?_⟩
    · have e1 := h1.wt
      have e2 := h2.wt
      simp only [PyData.weightAll, List.length_cons, Nat.succ_mul]
      omega
    · simp only [PyData.depthAll]
      exact Nat.max_le.mpr ⟨h1.dep, h2.dep⟩
theorem Sm.lst {n m k M : Nat} {ds : List PyData} (hn : ds.length ≤ n) (h : ∀ d ∈ ds, Sm m k d) (hM : n * (m + 1) ≤ M) : Sm M (k + 1) (.list ds) := by
  have a := SmA.of h
  have hw : ds.length * (m + 1) ≤ n * (m + 1) := Nat.mul_le_mul_right _ hn
  exact ⟨by simpa only [PyData.canLay0] using a.lay, by simpa only [PyData.showable] using a.sho, by simpa only [PyData.intsShort] using a.ish, by simp only [PyData.weight]; exact Nat.le_trans a.wt (Nat.le_trans hw hM), by simp only [PyData.depth]; exact Nat.succ_le_succ a.dep⟩
theorem Sm.tup {n m k M : Nat} {ds : List PyData} (hn : ds.length ≤ n) (h : ∀ d ∈ ds, Sm m k d) (hM : n * (m + 1) ≤ M) : Sm M (k + 1) (.tuple ds) := by
  have a := SmA.of h
  have hw : ds.length * (m + 1) ≤ n * (m + 1) := Nat.mul_le_mul_right _ hn
  exact ⟨by simpa only [PyData.canLay0] using a.lay, by simpa only [PyData.showable] using a.sho, by simpa only [PyData.intsShort] using a.ish, by simp only [PyData.weight]; exact Nat.le_trans a.wt (Nat.le_trans hw hM), by simp only [PyData.depth]; exact Nat.succ_le_succ a.dep⟩
theorem Sm.shaped {m k : Nat} {d : PyData} (h : Sm m k d) (hk : k ≤ 50) : SeqAt.shaped d = true := by
  show (d.canLay0 && decide (d.depth ≤ 64)) = true
  rw [h.lay, decide_eq_true (show d.depth ≤ 64 from Nat.le_trans h.dep (by omega))]
  rfl
theorem Sm.short {m k : Nat} {d : PyData} (h : Sm m k d) (hm : m ≤ 1000000) (hk : k ≤ 50) : d.shown.length ≤ sizeLine := by
  have e : PyData.layable0 d = true := by
    show (d.canLay0 && decide (d.depth ≤ 64) && decide (d.weight ≤ 2 ^ 20)) = true
    rw [h.lay, decide_eq_true (show d.depth ≤ 64 from Nat.le_trans h.dep (by omega)), decide_eq_true (show d.weight ≤ 2 ^ 20 from Nat.le_trans h.wt (by omega))]
    rfl
  have := shown_le13 e h.ish
  rw [sizeLine_eq]
  omega
/-! ### repr of data at any depth -/
def rShow (K : PySem.W.Frag) : List V → Hp → VK → Prop := fun xs H Q => ∃ v d m k, xs = [v] ∧ Dp K H v d ∧ Sm m k d ∧ m ≤ 1000000 ∧ k ≤ 50 ∧ Q (.str d.shown) H
theorem call_show (K : PySem.W.Frag) {X : Cx} (hg : X.A.guards = some []) (hu : X.A.units + 64 < cLine) (hK : X.K = K := by rfl) : CallR X (.builtin "repr") (rShow K) := by
  subst hK
  intro pins s σ H xs us Q I r h
  obtain ⟨v, d, m, k, rfl, hd, sh, hm, hk, q⟩ := h
  have hdep := sh.dep
  have hz := sh.short hm hk
  cases hd with
  | non =>
    obtain ⟨u, rfl, rfl⟩ := vals1 r
    exact PySem.P.repr_of_none ⟨.str _, H, I.tok _, ⟨_, rfl⟩, by simpa only [PyData.shown] using q⟩
  | bl b =>
    obtain ⟨u, rfl, rfl⟩ := vals1 r
    refine PySem.P.repr_of_bool ⟨.str _, H, I.tok _, ⟨_, rfl⟩, ?_⟩
    simp only [PyData.shown] at q
    cases b <;> exact q
  | int i =>
    obtain ⟨u, rfl, t, rfl⟩ := vals1 r
    have hi : i.natAbs.log2 < 1920 := by simpa [PyData.showable] using sh.sho
    exact PySem.P.repr_of_int hi ⟨.str _, H, I.tok _, ⟨_, rfl⟩, by simpa only [PyData.shown] using q⟩
  | str x =>
    obtain ⟨u, rfl, t, rfl⟩ := vals1 r
    simp only [PyData.shown] at q hz
    exact PySem.P.repr_of_str ⟨.str _, H, I.tok _, ⟨_, rfl⟩, q⟩ hz
  | @lst a ys ds hs hds =>
    obtain ⟨u, rfl, rfl⟩ := vals1 r
    obtain ⟨as, rd⟩ := Dp.reads I _ _ _ (Dp.lst hs hds) (show RelV (.ref a) (.ref a) from rfl)
    exact PySem.repr_of_reads' rd sh.sho (PyData.noDict_hsm (PyData.hasDict_of_canLay _ sh.lay)) hg (by omega) (fun _ _ e => e) (fun h' u tk keep => ⟨.str _, H, I.kept keep, ⟨_, rfl⟩, q⟩) hz
  | @tup a ys ds hs hds =>
    obtain ⟨u, rfl, rfl⟩ := vals1 r
    obtain ⟨as, rd⟩ := Dp.reads I _ _ _ (Dp.tup hs hds) (show RelV (.ref a) (.ref a) from rfl)
    exact PySem.repr_of_reads' rd sh.sho (PyData.noDict_hsm (PyData.hasDict_of_canLay _ sh.lay)) hg (by omega) (fun _ _ e => e) (fun h' u tk keep => ⟨.str _, H, I.kept keep, ⟨_, rfl⟩, q⟩) hz
/-! ### sorted of data -/
def rSortD (K : PySem.W.Frag) : List V → Hp → VK → Prop := fun vs H Q => ∃ (β : Type) (v : β → V) (d : β → PyData) (a : Addr) (bs : List β), vs = [.ref a] ∧ SqL K H a (bs.map v) ∧ (∀ b ∈ bs, Dp K H (v b) (d b) ∧ (d b).depth ≤ 50) ∧
  PySem.W.AllAlike (bs.map d) ∧ PySem.W.Sortable (bs.map d) ∧ ∀ p, H p = none → Q (.ref p) (upd H p (.lst ((bs.mergeSort (PySem.W.dataLe false d)).map v)))
section
variable {β : Type} {v : β → V} {d : β → PyData}
theorem each_vals : ∀ {bs : List β} {its : List Value}, Vals (bs.map v) its → PySem.W.EachIs (fun (u : Value) (b : β) => RelV (v b) u) its bs
  | [], _, .nil => .nil
  | _ :: _, _, .cons r t => .cons r (each_vals t)
theorem vals_each : ∀ {bs : List β} {its : List Value}, PySem.W.EachIs (fun (u : Value) (b : β) => RelV (v b) u) its bs → Vals (bs.map v) its
  | [], _, .nil => .nil
  | _ :: _, _, .cons r t => .cons r (vals_each t)
theorem each_reads {X : Cx} {pins : List (Addr × Obj)} {σ : L2.St} {H : Hp} {s : Shared} (I : Inv X pins σ H s) : ∀ {bs : List β} {its : List Value}, Vals (bs.map v) its → (∀ b ∈ bs, Dp X.K H (v b) (d b)) → PySem.W.EachIs (fun (u : Value) (b : β) => ∃ as, Reads s.heap u (d b) as) its bs
  | [], _, .nil, _ => .nil
  | b :: _, _, .cons r t, h => .cons (Dp.reads I _ _ _ (h b (List.mem_cons_self ..)) r) (each_reads I t fun x hx => h x (List.mem_cons_of_mem _ hx))
end
theorem cr_sortD (K : PySem.W.Frag) {X : Cx} (hu : X.A.units + 64 < cLine) (hK : X.K = K := by rfl) : CallR X (.builtin "sorted") (rSortD K) := by
  subst hK
  intro pins s σ H vs us Q I r h
  obtain ⟨β, v, d, a, bs, rfl, hs, hd, al, so, q⟩ := h
  obtain ⟨u, rfl, rfl⟩ := vals1 r
  obtain ⟨its, rv, hl, hz⟩ := I.list hs
  rw [List.length_map] at hz
  refine PySem.W.sorted_data (enc := d) (R := fun (u : Value) (b : β) => RelV (v b) u) hl.isList (each_vals rv) (each_reads I rv fun b hb => (hd b hb).1) al so hz (fun b hb => ?_) fun out hlen he => ?_
  · have := (hd b hb).2
    omega
  · obtain ⟨ep, he'⟩ := PyProof.Rows.sortedAll_at s.heap its out.toArray
    have hlen2 : ((bs.mergeSort (PySem.W.dataLe false d)).map v).length ≤ sizeLine := by
      rw [List.length_map, List.length_mergeSort]
      exact hz
    exact ⟨.ref _, upd H (s.heap.objs.size + 1) (.lst ((bs.mergeSort (PySem.W.dataLe false d)).map v)), I.laid (t' := s.toks) (fun _ _ => PyProof.Rows.sortedAll_old) (Nat.le_succ _) ⟨hlen2, out, ep, vals_each he, by simpa using he'⟩, rfl, q _ (I.hok.fresh (Nat.le_succ _))⟩
end Pf


namespace Pf
open PySem PySem.Spec PyProof.Rows L2
/-! ### tuples stay -/
def TupK (H H' : Hp) : Prop := ∀ b xs, H b = some (.tup xs) → H' b = some (.tup xs)
theorem TupK.refl {H : Hp} : TupK H H := fun _ _ e => e
theorem TupK.trans {H H1 H2 : Hp} (a : TupK H H1) (b : TupK H1 H2) : TupK H H2 := fun c xs e => b c xs (a c xs e)
theorem TupK.ext {H H' : Hp} (k : Ext H H') : TupK H H' := fun b _ e => k b _ e
theorem TupK.new {q : Addr} {H : Hp} {o : HO} (h : H q = none) : TupK H (upd H q o) := TupK.ext (Ext.new h)
theorem TupK.lst {q : Addr} {H : Hp} {o : HO} {ys : List V} (h : H q = some (.lst ys)) : TupK H (upd H q o) := fun b xs e => by
  rw [upd_ne (ne_of e h (by intro z; cases z))]
  exact e
theorem paired_imp {α β : Type} {R S : α → β → Prop} (h : ∀ a b, R a b → S a b) : ∀ {xs : List α} {ys : List β}, Paired R xs ys → Paired S xs ys
  | _, _, .nil => .nil
  | _, _, .cons r t => .cons (h _ _ r) (paired_imp h t)
theorem paired_get {α β : Type} {R : α → β → Prop} : ∀ {xs : List α} {ys : List β} {i : Nat} {x : α}, Paired R xs ys → xs[i]? = some x → ∃ y, ys[i]? = some y ∧ R x y
  | _, _, _, _, .nil, e => by simp at e
  | _, _, 0, _, .cons r _, e => by
    simp at e
    subst e
    exact ⟨_, rfl, r⟩
  | _, _, i + 1, x, .cons _ t, e => by
    obtain ⟨y, h1, h2⟩ := paired_get (i := i) (x := x) t (by simpa using e)
    exact ⟨y, by simpa using h1, h2⟩
theorem paired_len {α β : Type} {R : α → β → Prop} : ∀ {xs : List α} {ys : List β}, Paired R xs ys → xs.length = ys.length
  | _, _, .nil => rfl
  | _, _, .cons _ t => by rw [List.length_cons, List.length_cons, paired_len t]
theorem paired_app {α β : Type} {R : α → β → Prop} : ∀ {xs xs' : List α} {ys ys' : List β}, Paired R xs ys → Paired R xs' ys' → Paired R (xs ++ xs') (ys ++ ys')
  | _, _, _, _, .nil, s => s
  | _, _, _, _, .cons r t, s => .cons r (paired_app t s)
/-! ### things as they lie in the heap -/
def PairAt (H : Hp) (v : V) (x : Str × Int) : Prop := ∃ a, v = .ref a ∧ H a = some (.tup [.str x.1, .int x.2])
def StackAt (H : Hp) (v : V) (x : Str × Str × Int) : Prop := ∃ a, v = .ref a ∧ H a = some (.tup [.str x.1, .str x.2.1, .int x.2.2])
def TwoAt (H : Hp) (v : V) (x : Int × Int) : Prop := ∃ a, v = .ref a ∧ H a = some (.tup [.int x.1, .int x.2])
def TupOf {α : Type} (R : Hp → V → α → Prop) (H : Hp) (v : V) (xs : List α) : Prop := ∃ a vs, v = .ref a ∧ H a = some (.tup vs) ∧ Paired (R H) vs xs
def Mono {α : Type} (R : Hp → V → α → Prop) : Prop := ∀ H H' v x, TupK H H' → R H v x → R H' v x
theorem PairAt.mono : Mono PairAt := fun H H' v x k ⟨a, e, h⟩ => ⟨a, e, k _ _ h⟩
theorem StackAt.mono : Mono StackAt := fun H H' v x k ⟨a, e, h⟩ => ⟨a, e, k _ _ h⟩
theorem TwoAt.mono : Mono TwoAt := fun H H' v x k ⟨a, e, h⟩ => ⟨a, e, k _ _ h⟩
theorem TupOf.mono {α : Type} {R : Hp → V → α → Prop} (m : Mono R) : Mono (TupOf R) := fun H H' v x k ⟨a, vs, e, h, r⟩ => ⟨a, vs, e, k _ _ h, paired_imp (fun _ _ => m _ _ _ _ k) r⟩
def IntAt (_ : Hp) (v : V) (x : Int) : Prop := v = .int x
theorem IntAt.mono : Mono IntAt := fun _ _ _ _ _ e => e
theorem paired_ints {H : Hp} : ∀ ns : List Int, Paired (IntAt H) (ns.map V.int) ns
  | [] => .nil
  | _ :: r => .cons rfl (paired_ints r)
structure Rl where
  letters : Str
  prs : List (Str × Int)
  span : Int
  loops : List Int
  stk : List (Str × Str × Int)
def RulesAt (H : Hp) (v : V) (r : Rl) : Prop := ∃ a vp vl vs, v = .ref a ∧ H a = some (.tup [.str r.letters, vp, .int r.span, vl, vs]) ∧ TupOf PairAt H vp r.prs ∧ TupOf IntAt H vl r.loops ∧ TupOf StackAt H vs r.stk
theorem RulesAt.mono : Mono RulesAt := fun H H' v x k ⟨a, vp, vl, vs, e, h, h1, h2, h3⟩ => ⟨a, vp, vl, vs, e, k _ _ h, TupOf.mono PairAt.mono _ _ _ _ k h1, TupOf.mono IntAt.mono _ _ _ _ k h2, TupOf.mono StackAt.mono _ _ _ _ k h3⟩
def Two (t : Str) : Prop := t.length = 2 ∧ Small t
structure RlOk (r : Rl) : Prop where
  let6 : r.letters.length ≤ 6
  let1 : 1 ≤ r.letters.length
  small : Small r.letters
  prs : r.prs.length ≤ 12
  pr : ∀ x ∈ r.prs, Two x.1 ∧ -99 ≤ x.2 ∧ x.2 ≤ 99
  sp0 : 0 ≤ r.span
  sp3 : r.span ≤ 3
  lo9 : r.loops.length = 9
  lo : ∀ x ∈ r.loops, -99 ≤ x ∧ x ≤ 99
  stk : r.stk.length ≤ 12
  st : ∀ x ∈ r.stk, Two x.1 ∧ Two x.2.1 ∧ -99 ≤ x.2.2 ∧ x.2.2 ≤ 99
  nd : (r.stk.map fun x => (x.1, x.2.1)).Nodup
/-! ### a dict by two texts -/
def encE (x : Str × Str × Int) : List Key × V := ([.inr x.1, .inr x.2.1], .int x.2.2)
def putE (es : List (Str × Str × Int)) (a b : Str) (i : Int) : List (Str × Str × Int) :=
  if (es.any fun x => decide (x.1 = a ∧ x.2.1 = b)) = true then es.map (fun x => if x.1 = a ∧ x.2.1 = b then (x.1, x.2.1, i) else x) else es ++ [(a, b, i)]
theorem encE_key (x : Str × Str × Int) (a b : Str) : ((encE x).1 = [Sum.inr a, Sum.inr b]) ↔ (x.1 = a ∧ x.2.1 = b) := by
  unfold encE
  constructor
  · intro h
    injection h with h1 h2
    injection h2 with h3 _
    exact ⟨Sum.inr.inj h1, Sum.inr.inj h3⟩
  · rintro ⟨h1, h2⟩
    rw [h1, h2]
theorem put_enc (es : List (Str × Str × Int)) (a b : Str) (i : Int) : putK (es.map encE) [Sum.inr a, Sum.inr b] (.int i) = (putE es a b i).map encE := by
  have hany : ((es.map encE).any fun kv => decide (kv.1 = [Sum.inr a, Sum.inr b])) = es.any fun x => decide (x.1 = a ∧ x.2.1 = b) := by
    rw [List.any_map]
    congr 1
    funext x
    exact decide_eq_decide.mpr (encE_key x a b)
  unfold putK putE
  rw [hany]
  by_cases h : (es.any fun x => decide (x.1 = a ∧ x.2.1 = b)) = true
  · rw [if_pos h, if_pos h, List.map_map, List.map_map]
    refine List.map_congr_left fun x _ => ?_
    show (if (encE x).1 = [Sum.inr a, Sum.inr b] then ((encE x).1, V.int i) else encE x) = encE (if x.1 = a ∧ x.2.1 = b then (x.1, x.2.1, i) else x)
    by_cases e : x.1 = a ∧ x.2.1 = b
    · rw [if_pos ((encE_key x a b).mpr e), if_pos e]
      rfl
    · rw [if_neg (fun z => e ((encE_key x a b).mp z)), if_neg e]
  · rw [if_neg h, if_neg h, List.map_append]
    rfl
theorem putE_keys (es : List (Str × Str × Int)) (a b : Str) (i : Int) (hn : (es.map fun x => (x.1, x.2.1)).Nodup) : ((putE es a b i).map fun x => (x.1, x.2.1)).Nodup := by
  unfold putE
  split
  · rw [List.map_map]
    have e : ((fun x : Str × Str × Int => (x.1, x.2.1)) ∘ fun x => if x.1 = a ∧ x.2.1 = b then (x.1, x.2.1, i) else x) = fun x => (x.1, x.2.1) := by
      funext x
      show (fun x : Str × Str × Int => (x.1, x.2.1)) (if x.1 = a ∧ x.2.1 = b then (x.1, x.2.1, i) else x) = _
      split <;> rfl
    rw [e]
    exact hn
  · rename_i h
    rw [List.map_append]
    refine List.nodup_append.mpr ⟨hn, by simp, fun x hx y hy e => ?_⟩
    obtain ⟨z, hz, rfl⟩ := List.mem_map.mp hx
    have hy' : y = (a, b) := by simpa using hy
    rw [hy'] at e
    injection e with e1 e2
    exact h (List.any_eq_true.mpr ⟨z, hz, decide_eq_true ⟨e1, e2⟩⟩)
theorem putE_len (es : List (Str × Str × Int)) (a b : Str) (i : Int) : (putE es a b i).length ≤ es.length + 1 := by
  unfold putE
  split
  · rw [List.length_map]
    omega
  · rw [List.length_append]
    exact Nat.le_refl _
theorem putE_all {Pd : Str × Str × Int → Prop} {es : List (Str × Str × Int)} {a b : Str} {i : Int} (h : ∀ x ∈ es, Pd x) (hn : Pd (a, b, i)) : ∀ x ∈ putE es a b i, Pd x := by
  intro x hx
  unfold putE at hx
  split at hx
  · obtain ⟨y, hy, rfl⟩ := List.mem_map.mp hx
    split
    · rename_i e
      rw [e.1, e.2]
      exact hn
    · exact h y hy
  · rcases List.mem_append.mp hx with hx | hx
    · exact h x hx
    · rw [List.mem_singleton.mp hx]
      exact hn
theorem val_enc {es : List (Str × Str × Int)} {a b : Str} {i : Int} (hn : (es.map fun x => (x.1, x.2.1)).Nodup) (h : (a, b, i) ∈ es) : valV (es.map encE) [Sum.inr a, Sum.inr b] = some (.int i) := by
  induction es with
  | nil => cases h
  | cons y r ih =>
    rw [List.map_cons]
    rw [List.map_cons, List.nodup_cons] at hn
    by_cases e : y.1 = a ∧ y.2.1 = b
    · rw [valV_pos ((encE_key y a b).mpr e)]
      rcases List.mem_cons.mp h with z | z
      · rw [← z]
        rfl
      · exact absurd (List.mem_map.mpr ⟨_, z, by rw [e.1, e.2]⟩) hn.1
    · rw [valV_neg (fun z => e ((encE_key y a b).mp z))]
      rcases List.mem_cons.mp h with z | z
      · rw [← z] at e
        exact absurd ⟨rfl, rfl⟩ e
      · exact ih hn.2 z
theorem map_erase {α β : Type} (f : α → β) : ∀ (xs : List α) (k : Nat), (xs.map f).eraseIdx k = (xs.eraseIdx k).map f
  | [], _ => rfl
  | _ :: _, 0 => rfl
  | x :: r, k + 1 => by
    show f x :: (r.map f).eraseIdx k = f x :: (r.eraseIdx k).map f
    rw [map_erase f r k]
theorem dpStrs {K : PySem.W.Frag} {H : Hp} : ∀ us : List Str, DpAll K H (us.map V.str) (us.map PyData.str)
  | [] => .nil
  | _ :: r => .cons (.str _) (dpStrs r)
theorem sm_strs {us : List Str} {n m : Nat} (hn : us.length ≤ n) (h : ∀ t ∈ us, Small t ∧ t.length ≤ m) (hM : n * (m + 1) ≤ 1000000) : Sm 1000000 1 (.list (us.map PyData.str)) := by
  refine Sm.lst (n := n) (m := m) (k := 0) (by rw [List.length_map]; exact hn) (fun d hd => ?_) hM
  obtain ⟨t, ht, rfl⟩ := List.mem_map.mp hd
  exact Sm.str (h t ht).1.ok (h t ht).2
theorem keys_zip {H : Hp} : ∀ {es : List (Str × Str × Int)} {bs : List Addr}, IsKeys H (es.map encE) bs → ∃ bes : List (Addr × (Str × Str × Int)), bes.map (·.1) = bs ∧ bes.map (·.2) = es ∧ ∀ x ∈ bes, H x.1 = some (.tup [.str x.2.1, .str x.2.2.1])
  | [], _, .nil => ⟨[], rfl, rfl, fun x h => by cases h⟩
  | e :: es, b :: bs, .cons r t => by
    obtain ⟨bes, h1, h2, h3⟩ := keys_zip (es := es) t
    refine ⟨(b, e) :: bes, by rw [List.map_cons, h1], by rw [List.map_cons, h2], fun x hx => ?_⟩
    rcases List.mem_cons.mp hx with rfl | hx
    · exact r
    · exact h3 x hx
theorem ixN_in {n : Nat} {i : Int} (h0 : 0 ≤ i) (h1 : i < n) : seqIndex? i n = some i.toNat := by
  refine (ixN_seq ?_).1
  unfold ixN
  rw [if_pos h0, if_pos h1]
end Pf


namespace Pf
open PySem PySem.Spec PyProof.Rows L2
/-! ### enumerate of a text -/
def ItES (x : Str) : It :=
  ⟨fun i _ => i < x.cps.size, fun i H v H' => ∃ T c, v = .ref T ∧ H T = none ∧ H' = upd H T (.tup [.int (i : Nat), .str ⟨#[c]⟩]) ∧ x.cps[i]? = some c, fun i _ => i = x.cps.size⟩
theorem turn_es {P : Program} {w : World} {K : PySem.W.Frag} {elts : List Expr} {kk : Nat} {tpos : Pos} (x : Str) (t : Tok) (e it : Addr) :
    Turn P w K (.Tuple elts kk tpos) (ItES x) [e, it] e (fun i h => (∃ old, IsEnum h e it ((i : Nat) : Int) old) ∧ h.IsStrIter it (strIterType x) x t i ∧ e ≠ it) where
  mem := by simp
  obj := fun i h st b hb => by
    obtain ⟨⟨old, he⟩, ⟨o, ho, hc, hd⟩, _⟩ := st
    have e' : b = e ∨ b = it := by simpa using hb
    cases e' with
    | inl z =>
      rw [z]
      exact ⟨_, he, fun v q => nomatch q⟩
    | inr z =>
      rw [z]
      exact ⟨o, ho, fun v q => by rw [hd] at q; cases q⟩
  keep := fun i h h' st k => by
    obtain ⟨⟨old, he⟩, ⟨o, ho, r⟩, hne⟩ := st
    exact ⟨⟨old, k e (by simp) _ he⟩, ⟨o, k it (by simp) o ho, r⟩, hne⟩
  item := by
    intro X hP hw hK hc i pins s σ H E I hf st hg
    subst hP hw hK
    obtain ⟨⟨old, he⟩, hit, hne⟩ := st
    have hel : e < s.heap.objs.size := Heap.lt_size he
    have hil : it < s.heap.objs.size := by
      obtain ⟨_, q, _⟩ := hit
      exact Heap.lt_size q
    have D := Draws.text (prog := X.prog) (w := X.w) (A := X.A.in1) (show X.A.in1.handled = none from I.ok.hd hc) it x t
    refine wpAny_pyNext_enum_itemD D he hit hg hne (by simpa using hne) fun u h' tk hu ho hit' hT hsz hk => ?_
    obtain ⟨c, t2, hcx, rfl⟩ := hu
    refine ⟨_, rfl, wpAny_letOwnedTupleGo_enum (s := { s with heap := h', toks := tk + 1 }) ho fun h'' he' sb => ?_⟩
    have hT2 := (sb.2 _ (Nat.ne_of_gt hel)).trans hT
    have new : ObjOk X.prog X.w (upd H s.heap.objs.size (.tup [.int (i : Nat), .str ⟨#[c]⟩])) h'' s.heap.objs.size (.tup [.int (i : Nat), .str ⟨#[c]⟩]) :=
      ⟨by show 2 ≤ sizeLine; decide, [.int i tk, .str ⟨#[c]⟩ t2], .cons ⟨_, rfl⟩ (.cons ⟨_, rfl⟩ .nil), ⟨_, hT2, rfl, _, rfl⟩⟩
    have I1 : Inv X pins σ (upd H s.heap.objs.size (.tup [.int (i : Nat), .str ⟨#[c]⟩])) { s with heap := h'', toks := tk + 1 } :=
      I.turnedNew (ch := [e, it]) (fun b ob hb q => (sb.2 b (fun z => hb (by simp [z]))).trans (hk b ob (fun z => hb (by simp [z])) (fun z => hb (by simp [z])) q)) hf (Nat.le_refl _) new
    obtain ⟨oi, hoi, ri⟩ := hit'
    refine ⟨.ref s.heap.objs.size, _, I1, rfl, ⟨_, c, rfl, I.hok.fresh (Nat.le_refl _), rfl, hcx⟩, ⟨⟨.str ⟨#[c]⟩ t2, ?_⟩, ⟨oi, (sb.2 it (Ne.symm hne)).trans hoi, ri⟩, hne⟩, fun b hb => ?_⟩
    · have e1 : ((i + 1 : Nat) : Int) = (i : Int) + 1 := by omega
      rw [e1]
      exact he'
    · have hb' : b < s.heap.objs.size := by
        have e' : b = e ∨ b = it := by simpa using hb
        cases e' with
        | inl z => rw [z]; exact hel
        | inr z => rw [z]; exact hil
      rw [upd_ne (Nat.ne_of_lt hb')]
      exact (hf b hb).1
  done := by
    intro X hP hw hK hc i pins s σ H E I hf st hg
    subst hP hw hK
    obtain ⟨⟨old, he⟩, hit, hne⟩ := st
    have hi : i = x.cps.size := hg
    subst hi
    obtain ⟨f0, f1, f2, f3, f4, f5⟩ := hf it (by simp)
    have D := Draws.text (prog := X.prog) (w := X.w) (A := X.A.in1) (show X.A.in1.handled = none from I.ok.hd hc) it x t
    exact wpAny_pyNext_enum_endD D he hit fun h' eb => ⟨rfl, I.turned (t' := s.toks) (fun b o hb q => eb b o hb q) f0 f1 f3 f4 f5⟩
  self := fun A i s Q E st h => by
    obtain ⟨⟨_, he⟩, _⟩ := st
    exact wpAny_pyIter_enum he h
def iEnumS (ta : TA) : TI := fun σ H R => ta σ H fun vs H1 => ∃ x, vs = [.str x] ∧ R (ItES x) H1
theorem pi_enumS {X : Cx} {e : Expr} {ta : TA} {p pos tpos : Pos} {elts : List Expr} {kk : Nat} (hg : Gl X "enumerate") (hm : X.mg "enumerate" = none) (ha : PA X [e] ta) (hs : starEach [e] X.env = [(false, eval e X.env)] := by rfl) :
    PI X (.Tuple elts kk tpos) (.Call (.Name "enumerate" p) [e] [] pos) (iEnumS ta) := by
  refine ⟨fun pins s σ H R I h => ?_⟩
  refine Call_ (ld_blt I hg hm boot_enumerate (PyProof.Rows.callWith_type1 (thn (ha.run pos pins s σ H _ I h) fun us s1 ⟨vs, H1, I1, r1, q1⟩ => ?_) hs rfl))
  obtain ⟨x, rfl, q⟩ := q1
  obtain ⟨u, rfl, t, rfl⟩ := vals1 r1
  refine call_enumerate_str fun h' he hit hsz hk => wpAny_pyIter_enum he ?_
  refine ⟨s1.heap.objs.size + 1, [s1.heap.objs.size + 1, s1.heap.objs.size], _, _, H1, rfl, I1.kept (t' := s1.toks) hk, turn_es x t (s1.heap.objs.size + 1) s1.heap.objs.size, ⟨⟨.none, he⟩, hit, Nat.succ_ne_self _⟩, fun b hb => ?_, q⟩
  have e' : b = s1.heap.objs.size + 1 ∨ b = s1.heap.objs.size := by simpa using hb
  have hle : s1.heap.objs.size ≤ b := by
    cases e' with
    | inl z => rw [z]; exact Nat.le_add_right _ _
    | inr z => rw [z]; exact Nat.le_refl _
  exact I1.fpOk hle (I1.hok.fresh hle)
theorem for_es {x : Str} {g : TG} {tb : TS} {D : Ends} {σ : L2.St} {H : Hp} (Pv : Nat → L2.St → Hp → Prop) (h0 : Pv 0 σ H)
    (hs : ∀ i c T σ H, x.cps[i]? = some c → Pv i σ H → H T = none → g (.ref T) σ (upd H T (.tup [.int (i : Nat), .str ⟨#[c]⟩])) fun σ2 H2 => tb { D with nx := Pv (i + 1), ct := Pv (i + 1), bk := D.nx } σ2 H2) (hd : ∀ σ H, Pv x.cps.size σ H → D.nx σ H) :
    ∃ W : Nat → Nat → L2.St → Hp → Prop, (∃ m, W 0 m σ H) ∧ ∀ i m σ H, W i m σ H →
      ((ItES x).stop i H ∧ D.nx σ H) ∨ ((ItES x).go i H ∧ ∃ N : L2.St → Hp → Prop, (∀ σ' H', N σ' H' → ∃ m', m' < m ∧ W (i + 1) m' σ' H') ∧ ∀ y H', (ItES x).yld i H y H' → g y σ H' fun σ2 H2 => tb { D with nx := N, ct := N, bk := D.nx } σ2 H2) := by
  refine ⟨fun i m σ H => m = x.cps.size - i ∧ i ≤ x.cps.size ∧ Pv i σ H, ⟨x.cps.size, by simp, Nat.zero_le _, h0⟩, ?_⟩
  rintro i m σ H ⟨rfl, hi, p⟩
  by_cases hlt : i < x.cps.size
  · refine .inr ⟨hlt, Pv (i + 1), fun σ' H' p' => ⟨x.cps.size - (i + 1), by omega, rfl, hlt, p'⟩, fun y H' z => ?_⟩
    obtain ⟨T, c, rfl, hT, rfl, hc⟩ := z
    exact hs i c T σ _ hc p hT
  · have e : i = x.cps.size := by omega
    subst e
    exact .inl ⟨rfl, hd σ H p⟩
theorem lc_es {x : Str} {g : TG} {tt : TT} {te : TE} {vs : List Nat} {σ : L2.St} {H1 : Hp} {D : Addr} {Qd : Hp → Prop} (Pv : Nat → Hp → Prop) (h0 : Pv 0 (upd H1 D (.lst [])))
    (hs : ∀ i c T H, x.cps[i]? = some c → Pv i H → H T = none → g (.ref T) (wipe σ vs) (upd H T (.tup [.int (i : Nat), .str ⟨#[c]⟩])) fun σ2 H2 => wipe σ2 vs = wipe σ vs ∧ tt σ2 H2 fun b H3 =>
      if b = true then te σ2 H3 fun y H4 => ∃ acc, H4 D = some (.lst acc) ∧ acc.length < sizeLine ∧ Pv (i + 1) (upd H4 D (.lst (acc ++ [y]))) else Pv (i + 1) H3) (hd : ∀ H, Pv x.cps.size H → Qd H) :
    ∃ W : Nat → Nat → Hp → Prop, (∃ m, W 0 m (upd H1 D (.lst []))) ∧ ∀ i m H, W i m H →
      ((ItES x).stop i H ∧ Qd H) ∨ ((ItES x).go i H ∧ ∃ Nx : Hp → Prop, (∀ H', Nx H' → ∃ m', m' < m ∧ W (i + 1) m' H') ∧ ∀ y H', (ItES x).yld i H y H' → g y (wipe σ vs) H' fun σ2 H2 => wipe σ2 vs = wipe σ vs ∧ tt σ2 H2 fun b H3 =>
        if b = true then te σ2 H3 fun y H4 => ∃ acc, H4 D = some (.lst acc) ∧ acc.length < sizeLine ∧ Nx (upd H4 D (.lst (acc ++ [y]))) else Nx H3) := by
  refine ⟨fun i m H => m = x.cps.size - i ∧ i ≤ x.cps.size ∧ Pv i H, ⟨x.cps.size, by simp, Nat.zero_le _, h0⟩, ?_⟩
  rintro i m H ⟨rfl, hi, p⟩
  by_cases hlt : i < x.cps.size
  · refine .inr ⟨hlt, Pv (i + 1), fun H' p' => ⟨x.cps.size - (i + 1), by omega, rfl, hlt, p'⟩, fun y H' z => ?_⟩
    obtain ⟨T, c, rfl, hT, rfl, hc⟩ := z
    exact hs i c T _ hc p hT
  · have e : i = x.cps.size := by omega
    subst e
    exact .inl ⟨rfl, hd H p⟩
/-! ### a text backwards: some text, no longer -/
def tRevS (te : TE) : TE := fun σ H Q => te σ H fun x H1 => ∃ z : Str, x = .str z ∧ z.length ≤ sizeLine ∧ ∀ y : Str, y.length ≤ z.length → (∀ c ∈ y.cps.toList, c ∈ z.cps.toList) → Q (.str y) H1
theorem sliceBy_mem (x : Str) (l u : Option (Int × Tok)) (st : Int × Tok) : ∀ c ∈ (Txt.sliceBy x l u st).cps.toList, c ∈ x.cps.toList := by
  intro c hc
  unfold Txt.sliceBy at hc
  split at hc
  · exact hc
  · have hc : c ∈ List.filterMap (x.cps[·]?) _ := hc
    obtain ⟨i, _, hi⟩ := List.mem_filterMap.mp hc
    exact Array.mem_toList_iff.mpr (Array.mem_of_getElem? hi)
theorem pe_revS {X : Cx} {e : Expr} {te : TE} {k : Nat} {p1 p2 p3 pos : Pos} (he : PE X e te) : PE X (.Subscript e (.Slice none none (some (.UnaryOp .USub (.Constant (.int 1) k p1) p2)) p3) pos) (tRevS te) := by
  refine ⟨fun pins s σ H Q I h => ?_⟩
  refine Subscript_ (thn (he.run pins s σ H _ I h) fun v s1 ⟨x, H1, I1, r1, q1⟩ => ?_)
  obtain ⟨z, rfl, hz, q⟩ := q1
  obtain ⟨t, rfl⟩ := r1
  have hst : PO X (some (.UnaryOp .USub (.Constant (.int 1) k p1) p2)) (tPart (tUn (rU fun i => .int (-i)) (tC (.int 1)))) := po_some (pe_un un_neg pe_int)
  refine wpAny_Slice (thn (po_none.run pins s1 σ H1 (fun o H2 => o = none ∧ H2 = H1) I1 ⟨rfl, rfl⟩) fun vl s2 ⟨l, H2, I2, pl, el, e2⟩ => ?_)
  subst el e2
  refine thn (po_none.run pins s2 σ H2 (fun o H3 => o = none ∧ H3 = H2) I2 ⟨rfl, rfl⟩) fun vu s3 ⟨u, H3, I3, pu, eu, e3⟩ => ?_
  subst eu e3
  refine thn (hst.run pins s3 σ H3 (fun o H4 => o = some (-1) ∧ H4 = H3) I3 ⟨1, rfl, -1, rfl, rfl, rfl⟩) fun vs s4 ⟨o, H4, I4, ps, eo, e4⟩ => ?_
  subst eo e4
  cases pl
  cases pu
  cases ps with
  | int i t5 =>
    refine tail_any (ops := [.str z t, .ref s4.heap.objs.size]) (typeIs_str _ _ _) (PySem.F.slot_str_getitem.lookup) ?_ (by with_unfolding_all rfl)
    refine wpAny_getItem_str_slice (l := none) (u := none) (st := some (-1, t5)) ⟨_, Heap.get?_push_size _ rfl, rfl, rfl⟩ rfl ?_
    refine post_val_or_str ⟨Nat.le_trans (Txt.sliceBy_le z none none (-1, t5) (show (-1 : Int) ≠ 0 by decide)) hz, fun t6 tk => ?_⟩
    exact ⟨.str _, H4, (I4.kept (t' := tk) fun b ob q => Heap.get?_push_of_some _ q), ⟨_, rfl⟩, q _ (Txt.sliceBy_le z none none (-1, t5) (show (-1 : Int) ≠ 0 by decide)) (sliceBy_mem z none none (-1, t5))⟩
end Pf


namespace Pf
open PySem PySem.Spec PyProof.Rows L2
def topS (i : Nat) : Stmt := PySem.Challenge.pw_pairfolds_k09_brackets_read.main.body.getD i (.Pass ⟨0, 0, 0, 0⟩)
/-! ### the pen: a dict of cells, a place, what is left -/
def penK (c : Addr) (a r : Int) : List (Key × V) := [(.inr "cells", .ref c), (.inr "at", .int a), (.inr "left", .int r)]
theorem pen_cells (c : Addr) (a r : Int) : valV (penK c a r) (.inr "cells") = some (.ref c) := by
  unfold penK
  rw [valV_pos rfl]
theorem pen_at (c : Addr) (a r : Int) : valV (penK c a r) (.inr "at") = some (.int a) := by
  unfold penK
  rw [valV_neg (show ¬ (Sum.inr ("cells" : Str) : Key) = Sum.inr ("at" : Str) by decide +kernel), valV_pos rfl]
theorem pen_left (c : Addr) (a r : Int) : valV (penK c a r) (.inr "left") = some (.int r) := by
  unfold penK
  rw [valV_neg (show ¬ (Sum.inr ("cells" : Str) : Key) = Sum.inr ("left" : Str) by decide +kernel), valV_neg (show ¬ (Sum.inr ("at" : Str) : Key) = Sum.inr ("left" : Str) by decide +kernel), valV_pos rfl]
theorem put_at (c : Addr) (a r b : Int) : putK (penK c a r) (.inr "at") (.int b) = penK c b r := by
  have h1 : ¬ (Sum.inr ("cells" : Str) : Key) = Sum.inr ("at" : Str) := by decide +kernel
  have h2 : ¬ (Sum.inr ("left" : Str) : Key) = Sum.inr ("at" : Str) := by decide +kernel
  simp [penK, putK, h1, h2]
theorem put_left (c : Addr) (a r b : Int) : putK (penK c a r) (.inr "left") (.int b) = penK c a b := by
  have h1 : ¬ (Sum.inr ("cells" : Str) : Key) = Sum.inr ("left" : Str) := by decide +kernel
  have h2 : ¬ (Sum.inr ("at" : Str) : Key) = Sum.inr ("left" : Str) := by decide +kernel
  simp [penK, putK, h1, h2]
section
variable {H : Hp} {p c q : Addr} {a r v : Int} {n m : Nat} {o : HO}
theorem get_cells (h : H p = some (.dK (penK c a r))) : DGet H p (.str "cells") (some (.ref c)) := pen_cells c a r ▸ DGet.k (k := .inr "cells") h
theorem get_at (h : H p = some (.dK (penK c a r))) : DGet H p (.str "at") (some (.int a)) := pen_at c a r ▸ DGet.k (k := .inr "at") h
theorem get_left (h : H p = some (.dK (penK c a r))) : DGet H p (.str "left") (some (.int r)) := pen_left c a r ▸ DGet.k (k := .inr "left") h
theorem dput_at (h : H p = some (.dK (penK c a r))) : DPut H p (.str "at") (.int v) (upd H p (.dK (penK c v r))) := put_at c a r v ▸ DPut.k (k := .inr "at") h (szLt (show 3 < 1000000 by decide))
theorem dput_left (h : H p = some (.dK (penK c a r))) : DPut H p (.str "left") (.int v) (upd H p (.dK (penK c a v))) := put_left c a r v ▸ DPut.k (k := .inr "left") h (szLt (show 3 < 1000000 by decide))
def Pen (H : Hp) (p c : Addr) (n : Nat) : Prop := ∃ (cells : List Int) (a r : Int), H p = some (.dK (penK c a r)) ∧ H c = some (.lst (cells.map V.int)) ∧ 0 ≤ a ∧ a ≤ n ∧ 0 ≤ r ∧ cells.length ≤ 63
theorem Pen.mono (h : Pen H p c n) (l : n ≤ m) : Pen H p c m := by
  obtain ⟨cells, a, r, h1, h2, h3, h4, h5, h6⟩ := h
  exact ⟨cells, a, r, h1, h2, h3, by omega, h5, h6⟩
theorem Pen.put (h : Pen H p c n) (hp : q ≠ p) (hc : q ≠ c) : Pen (upd H q o) p c n := by
  obtain ⟨cells, a, r, h1, h2, h3⟩ := h
  exact ⟨cells, a, r, by rw [upd_ne hp.symm]; exact h1, by rw [upd_ne hc.symm]; exact h2, h3⟩
theorem Pen.ne (h : Pen H p c n) (hq : H q = none) : q ≠ p ∧ q ≠ c := by
  obtain ⟨cells, a, r, h1, h2, h3⟩ := h
  exact ⟨(ne_of_none h1 hq).symm, (ne_of_none h2 hq).symm⟩
theorem Pen.new (h : Pen H p c n) (hq : H q = none) : Pen (upd H q o) p c n := h.put (h.ne hq).1 (h.ne hq).2
theorem Pen.tup (h : Pen H p c n) {b : Addr} {xs : List V} (e : H b = some (.tup xs)) : b ≠ p := by
  obtain ⟨cells, a, r, h1, _⟩ := h
  exact ne_of e h1 (by intro z; cases z)
theorem Pen.lst (h : Pen H p c n) {b : Addr} {xs : List V} (e : H b = some (.lst xs)) : b ≠ p := by
  obtain ⟨cells, a, r, h1, _⟩ := h
  exact ne_of e h1 (by intro z; cases z)
theorem Pen.ext {H' : Hp} (h : Pen H p c n) (k : Ext H H') : Pen H' p c n := by
  obtain ⟨cells, a, r, h1, h2, h3⟩ := h
  exact ⟨cells, a, r, k _ _ h1, k _ _ h2, h3⟩
end
section
variable {P : Program} {w : World} {K : PySem.W.Frag} {mg : Str → Option Value} {base : Heap}
/-! ### take -/
abbrev s_law_take : Stmt := topS 4
theorem sc_law_take : FnScope ["_law_pen_here", "_law_size", "_law_cells", "_law_found", "_law_at", "_law_raw", "_law_number"] ["_law_pen_here", "_law_size"] (defScope s_law_take) :=
  ⟨rfl, rfl, rfl, by decide +kernel, rfl, by decide +kernel, by decide +kernel⟩
def spTake : Sp := fun vs H Q _ => ∃ (p c : Addr) (m : Int) (n : Nat), vs = [.ref p, .int m] ∧ Pen H p c n ∧ n < 1000000 ∧ 0 < m ∧ m < 1000000 ∧
  ∀ r H', 0 ≤ r → r < m → Kp p H H' → Pen H' p c (n + 1) → Q (.int r) H'
theorem take_b0 (z : Int) : -(2 ^ 64) < z % 2147483563 ∧ z % 2147483563 < 2147483563 := by
  have h3 := Int.emod_nonneg z (show (2147483563 : Int) ≠ 0 by decide)
  have h4 := Int.emod_lt_of_pos z (show (0 : Int) < 2147483563 by decide)
  omega
theorem take_m (z m : Int) (h : 0 < m) (h2 : m < 2 ^ 64) : -(2 ^ 64) < z % m ∧ z % m < 2 ^ 64 := by
  have h3 := Int.emod_nonneg z (show m ≠ 0 by omega)
  have h4 := Int.emod_lt_of_pos z h
  omega
theorem take_q (z : Int) : -(2 ^ 64) < z % 10 ^ (17 : Int).toNat ∧ z % 10 ^ (17 : Int).toNat < 2 ^ 64 := take_m z _ (by decide) (by decide)
theorem ok_take {f : Addr} {fd : FuncData} {k : Nat} (F : Fun K "_law_take" "_law_take" s_law_take f fd) (mlen : mg "len" = none) (mabs : mg "abs" = none) : FnOk P w K mg base CX0 (k + 1) f fd ["_law_pen_here", "_law_size"] spTake := by
  refine F.ok sc_law_take (fun vs H Q E h => ?_) (fun cdv A outer s H vs Q E hr h => ?_)
  · obtain ⟨p, c, m, n, rfl, _⟩ := h
    rfl
  · obtain ⟨p, c, m, n, rfl, hP, hn, m0, m1, q⟩ := h
    obtain ⟨cells, a, r, hp, hc, a0, a1, r0, cl⟩ := hP
    refine ⟨_, (pss_cons (ps_set (i := 2) sc_law_take.nd rfl (.inl rfl) (pe_dget (hu_of hr) (pv 0) pe_str (fun _ _ => rfl)))
      (pss_cons (ps_if (pt_cmpR op_gt (pe_dget (hu_of hr) (pv 0) pe_str (fun _ _ => rfl)) pe_int (nomark _)) (pss_cons (ps_set (i := 3) sc_law_take.nd rfl (.inl rfl) (pe_op op_mod (pe_dget (hu_of hr) (pv 0) pe_str (fun _ _ => rfl)) (pv 1)))
      (pss_cons (ps_dput (hu_of hr) (pv 0) pe_str (pe_op op_fdiv (pe_dget (hu_of hr) (pv 0) pe_str (fun _ _ => rfl)) (pv 1)) rfl)
      (pss_one (ps_ret (pv 3))))) pss_nil)
      (pss_cons (ps_set (i := 4) sc_law_take.nd rfl (.inl rfl) (pe_dget (hu_of hr) (pv 0) pe_str (fun _ _ => rfl)))
      (pss_cons (ps_dput (hu_of hr) (pv 0) pe_str (pe_op op_add (pv 4) pe_int) rfl)
      (pss_cons (ps_set (i := 5) sc_law_take.nd rfl (.inl rfl) (pe_op op_add (pe_op op_add (pe_op op_mul (pe_op op_mul pe_int (pv 4)) (pv 4)) (pe_op op_mul pe_int (pv 4))) pe_int))
      (pss_cons (ps_if (pt_cmpR op_lt (pv 4) (pe_callB (lenQ K) (by rfl) mlen (by decide +kernel) (pa_cons (pv 2) pa_nil)) (nomark _)) (pss_cons (ps_set (i := 5) sc_law_take.nd rfl (.inl rfl) (pe_ix (ixL K) (pv 2) (pv 4) (fun _ _ => rfl)))
      (pss_one (ps_if (pt_cmpR op_ge (pe_callB call_abs (by rfl) mabs (by decide +kernel) (pa_cons (pv 5) pa_nil)) (pe_op op_pow pe_int pe_int) (nomark _)) (pss_cons (ps_dput (hu_of hr) (pv 0) pe_str (pe_op op_fdiv (pe_callB call_abs (by rfl) mabs (by decide +kernel) (pa_cons (pv 5) pa_nil)) (pv 1)) rfl)
      (pss_one (ps_ret (pe_op op_mod (pe_callB call_abs (by rfl) mabs (by decide +kernel) (pa_cons (pv 5) pa_nil)) (pv 1))))) pss_nil))) (pss_one (ps_if (pt_cmpR op_gt (pe_callB (lenQ K) (by rfl) mlen (by decide +kernel) (pa_cons (pv 2) pa_nil)) pe_int (nomark _)) (pss_one (ps_set (i := 5) sc_law_take.nd rfl (.inl rfl) (pe_op op_add (pe_op op_mod (pe_ix (ixL K) (pv 2) (pe_op op_mod (pv 4) (pe_callB (lenQ K) (by rfl) mlen (by decide +kernel) (pa_cons (pv 2) pa_nil))) (fun _ _ => rfl)) (pe_op op_pow pe_int pe_int)) (pe_op op_mul pe_int (pv 4))))) pss_nil)))
      (pss_cons (ps_set (i := 6) sc_law_take.nd rfl (.inl rfl) (pe_op op_mod (pe_op op_mul (pe_op op_add (pe_op op_add (pe_op op_mod (pv 5) pe_int) (pe_op op_mul pe_int (pv 4))) pe_int) pe_int) pe_int))
      (pss_cons (ps_set (i := 6) sc_law_take.nd rfl (.inl rfl) (pe_op op_mod (pe_op op_add (pe_op op_mul (pv 6) (pe_op op_add (pe_op op_mod (pv 6) pe_int) pe_int)) (pe_op op_mul pe_int (pv 4))) pe_int))
      (pss_one (ps_ret (pe_op op_mod (pe_op op_fdiv (pe_op op_mod (pe_op op_mul (pv 6) (pe_op op_add (pe_op op_mod (pv 6) pe_int) pe_int)) pe_int) pe_int) (pv 1)))))))))))), ?_⟩
    have ncp : c ≠ p := ne_of hc hp (by intro z; cases z)
    refine ⟨_, rfl, p, _, rfl, get_cells hp, ?_⟩
    refine ⟨_, rfl, p, _, rfl, get_left hp, r, 0, rfl, rfl, _, rfl, ite2 (fun e => ?_) (fun e => ?_)⟩
    · refine ⟨_, rfl, p, _, rfl, get_left hp, _, rfl, r, m, rfl, rfl, m0, ?_⟩
      refine ⟨_, rfl, p, _, rfl, get_left hp, _, rfl, r, m, rfl, rfl, ⟨m0, by omega⟩, _, rfl, p, _, rfl, dput_left hp, ?_⟩
      refine ⟨_, rfl, q _ _ (Int.emod_nonneg _ (by omega)) (Int.emod_lt_of_pos _ m0) Kp.at ⟨cells, a, r / m, upd_same, ?_, a0, by omega, Int.ediv_nonneg r0 (by omega), cl⟩⟩
      rw [upd_ne ncp]
      exact hc
    · refine ⟨_, rfl, p, _, rfl, get_at hp, ?_⟩
      refine ⟨_, rfl, a, 1, rfl, rfl, _, rfl, p, _, rfl, dput_at hp, ?_⟩
      have hp1 : (upd H p (.dK (penK c (a + 1) r))) p = some (.dK (penK c (a + 1) r)) := upd_same
      have hc1 : (upd H p (.dK (penK c (a + 1) r))) c = some (.lst (cells.map V.int)) := by
        rw [upd_ne ncp]
        exact hc
      have k1 : Kp p H (upd H p (.dK (penK c (a + 1) r))) := Kp.at
      -- raw
      refine ⟨_, rfl, 30059, a, rfl, rfl, .inl ⟨by decide, by decide⟩, _, rfl, _, a, rfl, rfl, .inl ⟨by omega, by omega⟩, _, rfl, 101, a, rfl, rfl, .inl ⟨by decide, by decide⟩, _, _, rfl, rfl, _, 37, rfl, rfl, ?_⟩
      refine ⟨_, rfl, _, rfl, c, _, rfl, .inl (SqL.of hc1), _, _, rfl, rfl, _, rfl, ite2 (fun e1 => ?_) (fun e1 => ?_)⟩
      · have e1 : a < ((cells.map V.int).length : Int) := of_decide_eq_true e1
        rw [List.length_map] at e1
        obtain ⟨z, _, hat⟩ := atI_ints (ns := cells) a0 e1
        refine ⟨_, rfl, _, rfl, c, _, a, _, rfl, rfl, SqL.of hc1, hat, ?_⟩
        refine ⟨_, rfl, z, rfl, 10, 18, rfl, rfl, ⟨by decide, by decide, by decide⟩, _, _, rfl, rfl, _, rfl, ite2 (fun e3 => ?_) (fun e3 => ?_)⟩
        · refine ⟨_, rfl, z, rfl, _, rfl, _, m, rfl, rfl, ⟨m0, by omega⟩, _, rfl, p, _, rfl, dput_left hp1, ?_⟩
          refine ⟨_, rfl, z, rfl, _, rfl, _, m, rfl, rfl, m0, q _ _ (Int.emod_nonneg _ (by omega)) (Int.emod_lt_of_pos _ m0) (k1.trans Kp.at) ⟨cells, a + 1, _, upd_same, ?_, by omega, by omega, Int.ediv_nonneg ?_ (by omega), cl⟩⟩
          · rw [upd_ne ncp]
            exact hc1
          · split <;> omega
        refine ⟨_, rfl, _, 2147483563, rfl, rfl, (show (0 : Int) < 2147483563 by decide), _, rfl, 41039, a, rfl, rfl, .inl ⟨by decide, by decide⟩, _, _, rfl, rfl, _, 29, rfl, rfl, _, 69621, rfl, rfl, .inr ⟨by decide, by decide⟩, _, 2147483629, rfl, rfl, (show (0 : Int) < 2147483629 by decide), ?_⟩
        refine ⟨_, rfl, _, rfl, _, 65419, rfl, rfl, (show (0 : Int) < 65419 by decide), _, 11, rfl, rfl, _, _, rfl, rfl, .inl (take_m _ 2147483629 (by decide) (by decide)), _, rfl, 48271, a, rfl, rfl, .inl ⟨by decide, by decide⟩, _, _, rfl, rfl, _, 2147483587, rfl, rfl, (show (0 : Int) < 2147483587 by decide), ?_⟩
        refine ⟨_, rfl, _, rfl, _, 9883, rfl, rfl, (show (0 : Int) < 9883 by decide), _, 7, rfl, rfl, _, _, rfl, rfl, .inl (take_m _ 2147483587 (by decide) (by decide)), _, 2147483549, rfl, rfl, (show (0 : Int) < 2147483549 by decide), _, 64, rfl, rfl, ⟨by decide, by decide⟩, _, rfl, _, m, rfl, rfl, m0, q _ _ (Int.emod_nonneg _ (by omega)) (Int.emod_lt_of_pos _ m0) k1 ⟨cells, a + 1, r, hp1, hc1, by omega, by omega, r0, cl⟩⟩
      · refine ⟨_, rfl, c, _, rfl, .inl (SqL.of hc1), _, _, rfl, rfl, _, rfl, ite2 (fun e2 => ?_) (fun e2 => ?_)⟩
        · have e2 : (0 : Int) < ((cells.map V.int).length : Int) := of_decide_eq_true e2
          have hl1 : ((cells.map V.int).length : Int) = cells.length := by rw [List.length_map]
          obtain ⟨z, _, hat⟩ := atI_ints (ns := cells) (Int.emod_nonneg a (show ((cells.map V.int).length : Int) ≠ 0 by omega)) (by
            have := Int.emod_lt_of_pos a (show (0 : Int) < ((cells.map V.int).length : Int) by omega)
            omega)
          refine ⟨_, rfl, _, rfl, _, rfl, c, _, rfl, .inl (SqL.of hc1), _, _, rfl, rfl, e2, c, _, _, _, rfl, rfl, SqL.of hc1, hat, 10, 17, rfl, rfl, ⟨by decide, by decide, by decide⟩, _, _, rfl, rfl, (show (0 : Int) < 10 ^ (17 : Int).toNat by decide), _, rfl, 60089, a, rfl, rfl, .inl ⟨by decide, by decide⟩, _, _, rfl, rfl, ?_⟩
          refine ⟨_, rfl, _, 2147483563, rfl, rfl, (show (0 : Int) < 2147483563 by decide), _, rfl, 41039, a, rfl, rfl, .inl ⟨by decide, by decide⟩, _, _, rfl, rfl, _, 29, rfl, rfl, _, 69621, rfl, rfl, .inr ⟨by decide, by decide⟩, _, 2147483629, rfl, rfl, (show (0 : Int) < 2147483629 by decide), ?_⟩
          refine ⟨_, rfl, _, rfl, _, 65419, rfl, rfl, (show (0 : Int) < 65419 by decide), _, 11, rfl, rfl, _, _, rfl, rfl, .inl (take_m _ 2147483629 (by decide) (by decide)), _, rfl, 48271, a, rfl, rfl, .inl ⟨by decide, by decide⟩, _, _, rfl, rfl, _, 2147483587, rfl, rfl, (show (0 : Int) < 2147483587 by decide), ?_⟩
          refine ⟨_, rfl, _, rfl, _, 9883, rfl, rfl, (show (0 : Int) < 9883 by decide), _, 7, rfl, rfl, _, _, rfl, rfl, .inl (take_m _ 2147483587 (by decide) (by decide)), _, 2147483549, rfl, rfl, (show (0 : Int) < 2147483549 by decide), _, 64, rfl, rfl, ⟨by decide, by decide⟩, _, rfl, _, m, rfl, rfl, m0, q _ _ (Int.emod_nonneg _ (by omega)) (Int.emod_lt_of_pos _ m0) k1 ⟨cells, a + 1, r, hp1, hc1, by omega, by omega, r0, cl⟩⟩
        · refine ⟨_, rfl, _, 2147483563, rfl, rfl, (show (0 : Int) < 2147483563 by decide), _, rfl, 41039, a, rfl, rfl, .inl ⟨by decide, by decide⟩, _, _, rfl, rfl, _, 29, rfl, rfl, _, 69621, rfl, rfl, .inr ⟨by decide, by decide⟩, _, 2147483629, rfl, rfl, (show (0 : Int) < 2147483629 by decide), ?_⟩
          refine ⟨_, rfl, _, rfl, _, 65419, rfl, rfl, (show (0 : Int) < 65419 by decide), _, 11, rfl, rfl, _, _, rfl, rfl, .inl (take_m _ 2147483629 (by decide) (by decide)), _, rfl, 48271, a, rfl, rfl, .inl ⟨by decide, by decide⟩, _, _, rfl, rfl, _, 2147483587, rfl, rfl, (show (0 : Int) < 2147483587 by decide), ?_⟩
          refine ⟨_, rfl, _, rfl, _, 9883, rfl, rfl, (show (0 : Int) < 9883 by decide), _, 7, rfl, rfl, _, _, rfl, rfl, .inl (take_m _ 2147483587 (by decide) (by decide)), _, 2147483549, rfl, rfl, (show (0 : Int) < 2147483549 by decide), _, 64, rfl, rfl, ⟨by decide, by decide⟩, _, rfl, _, m, rfl, rfl, m0, q _ _ (Int.emod_nonneg _ (by omega)) (Int.emod_lt_of_pos _ m0) k1 ⟨cells, a + 1, r, hp1, hc1, by omega, by omega, r0, cl⟩⟩
end
end Pf


namespace Pf
open PySem PySem.Spec PyProof.Rows L2
/-- a list, a tuple or a text, by its items -/
def SeqOf (H : Hp) (v : V) (xs : List V) : Prop := (∃ a, v = .ref a ∧ H a = some (.lst xs)) ∨ (∃ a, v = .ref a ∧ H a = some (.tup xs)) ∨ ∃ z : Str, v = .str z ∧ xs = z.cps.toList.map fun c => V.str ⟨#[c]⟩
section
variable {P : Program} {w : World} {K : PySem.W.Frag} {mg : Str → Option Value} {base : Heap}
abbrev CTake (P : Program) (w : World) (K : PySem.W.Frag) (mg : Str → Option Value) (base : Heap) : Prop := Ca P w K mg base 1 "_law_take" ["_law_pen_here", "_law_size"] spTake
abbrev s_law_pick : Stmt := topS 5
theorem sc_law_pick : FnScope ["_law_pen_here", "_law_some"] ["_law_pen_here", "_law_some"] (defScope s_law_pick) :=
  ⟨rfl, rfl, rfl, by decide +kernel, rfl, by decide +kernel, by decide +kernel⟩
def spPick : Sp := fun vs H Q _ => ∃ (p c : Addr) (v : V) (xs : List V) (n : Nat), vs = [.ref p, v] ∧ SeqOf H v xs ∧ 0 < xs.length ∧ xs.length < 1000000 ∧ Pen H p c n ∧ n < 1000000 ∧
  ∀ x H', x ∈ xs → Kp p H H' → Pen H' p c (n + 1) → Q x H'
theorem ok_pick {f : Addr} {fd : FuncData} (F : Fun K "_law_pick" "_law_pick" s_law_pick f fd) (c_law_take : CTake P w K mg base) (mlen : mg "len" = none) : FnOk P w K mg base CX0 2 f fd ["_law_pen_here", "_law_some"] spPick := by
  refine F.ok sc_law_pick (fun vs H Q E h => ?_) (fun cdv A outer s H vs Q E hr h => ?_)
  · obtain ⟨p, c, v, xs, n, rfl, _⟩ := h
    rfl
  · obtain ⟨p, c, v, xs, n, rfl, hv, x0, x1, hP, hn, q⟩ := h
    refine ⟨_, (pss_one (ps_ret (pe_ix (ixA K) (pv 1) (pe_ca c_law_take (hr.mono (by decide)) (by rfl) (pa_cons (pv 0) (pa_cons (pe_callB (lenA K) (by rfl) mlen (by decide +kernel) (pa_cons (pv 1) pa_nil)) pa_nil))) (fun _ _ => rfl)))), ?_⟩
    rcases hv with ⟨a, rfl, ha⟩ | ⟨a, rfl, ha⟩ | ⟨z, rfl, ez⟩
    · refine ⟨_, rfl, _, rfl, _, rfl, _, xs.length, rfl, .inl ⟨xs, SqL.of ha, rfl⟩, p, c, xs.length, n, rfl, hP, hn, by omega, by omega, fun r H' r0 r1 k hP' => ?_⟩
      obtain ⟨x, hx, hat⟩ := atI_mem r0 r1
      exact .inl ⟨a, xs, r, x, rfl, rfl, SqL.of (k _ _ (hP.lst ha) ha), hat, q x H' hx k hP'⟩
    · refine ⟨_, rfl, _, rfl, _, rfl, _, xs.length, rfl, .inr ⟨xs, SqT.of ha, rfl⟩, p, c, xs.length, n, rfl, hP, hn, by omega, by omega, fun r H' r0 r1 k hP' => ?_⟩
      obtain ⟨x, hx, hat⟩ := atI_mem r0 r1
      exact .inr (.inl ⟨a, xs, r, x, rfl, rfl, SqT.of (k _ _ (hP.tup ha) ha), hat, q x H' hx k hP'⟩)
    · have hz : xs.length = z.length := by
        rw [ez, List.length_map, Array.length_toList]
        rfl
      refine ⟨_, rfl, _, rfl, _, rfl, _, z.length, rfl, ⟨szL (by omega), rfl⟩, p, c, z.length, n, rfl, hP, hn, by omega, by omega, fun r H' r0 r1 k hP' => ?_⟩
      obtain ⟨x, hx, hat⟩ := atI_mem (xs := z.cps.toList) r0 (by rw [Array.length_toList]; exact r1)
      exact .inr (.inr ⟨z, r, x, rfl, rfl, szL (by omega), hat, q _ H' (by rw [ez]; exact List.mem_map.mpr ⟨x, hx, rfl⟩) k hP'⟩)
abbrev CPick (P : Program) (w : World) (K : PySem.W.Frag) (mg : Str → Option Value) (base : Heap) : Prop := Ca P w K mg base 2 "_law_pick" ["_law_pen_here", "_law_some"] spPick
abbrev s_law_worth : Stmt := topS 6
theorem sc_law_worth : FnScope ["_law_pen_here", "_law_some"] ["_law_pen_here"] (defScope s_law_worth) :=
  ⟨rfl, rfl, rfl, by decide +kernel, rfl, by decide +kernel, by decide +kernel⟩
def spWorth : Sp := fun vs H Q _ => ∃ (p c : Addr) (n : Nat), vs = [.ref p] ∧ Pen H p c n ∧ n + 3 < 1000000 ∧
  ∀ (i : Int) H', -99 ≤ i → i ≤ 99 → Kp p H H' → Pen H' p c (n + 4) → Q (.int i) H'
theorem ok_worth {f : Addr} {fd : FuncData} (F : Fun K "_law_worth" "_law_worth" s_law_worth f fd) (c_law_take : CTake P w K mg base) (c_law_pick : CPick P w K mg base) : FnOk P w K mg base CX0 3 f fd ["_law_pen_here"] spWorth := by
  refine F.ok sc_law_worth (fun vs H Q E h => ?_) (fun cdv A outer s H vs Q E hr h => ?_)
  · obtain ⟨p, c, n, rfl, _⟩ := h
    rfl
  · obtain ⟨p, c, n, rfl, hP, hn, q⟩ := h
    refine ⟨_, (pss_cons (ps_set (i := 1) sc_law_worth.nd rfl (.inl rfl) (pe_lst (pa_cons pe_int (pa_cons (pe_un un_neg pe_int) (pa_cons (pe_un un_neg pe_int) (pa_cons pe_int (pa_cons (pe_op op_sub (pe_ca c_law_take (hr.mono (by decide)) (by rfl) (pa_cons (pv 0) (pa_cons pe_int pa_nil))) pe_int) (pa_cons (pe_op op_sub (pe_ca c_law_take (hr.mono (by decide)) (by rfl) (pa_cons (pv 0) (pa_cons pe_int pa_nil))) pe_int) (pa_cons pe_int (pa_cons (pe_un un_neg pe_int) (pa_cons (pe_op op_sub (pe_ca c_law_take (hr.mono (by decide)) (by rfl) (pa_cons (pv 0) (pa_cons pe_int pa_nil))) pe_int) pa_nil)))))))))))
      (pss_one (ps_ret (pe_ca c_law_pick (hr.mono (by decide)) (by rfl) (pa_cons (pv 0) (pa_cons (pv 1) pa_nil)))))), ?_⟩
    refine ⟨1, rfl, 2, rfl, _, rfl, p, c, 9, n, rfl, hP, by omega, by decide, by decide, fun r1 H1 r1a r1b k1 hP1 => ⟨r1, 6, rfl, rfl, ?_⟩⟩
    refine ⟨_, rfl, p, c, 7, n + 1, rfl, hP1, by omega, by decide, by decide, fun r2 H2 r2a r2b k2 hP2 => ⟨r2, 3, rfl, rfl, 99, rfl, ?_⟩⟩
    refine ⟨_, rfl, p, c, 199, n + 2, rfl, hP2, by omega, by decide, by decide, fun r3 H3 r3a r3b k3 hP3 => ⟨r3, 99, rfl, rfl, ?_⟩⟩
    refine ⟨szL (show 9 ≤ 1000000 by decide), fun l hl => ?_⟩
    refine ⟨_, rfl, _, rfl, p, c, .ref l, [0, -1, -2, 1, r1 - 6, r2 - 3, 99, -99, r3 - 99].map V.int, n + 3, rfl, .inl ⟨l, rfl, upd_same⟩, (show 0 < 9 by decide), (show 9 < 1000000 by decide), hP3.new hl, by omega, fun x H4 hx k4 hP4 => ?_⟩
    obtain ⟨z, hz, rfl⟩ := List.mem_map.mp hx
    have hz2 : -99 ≤ z ∧ z ≤ 99 := by
      simp only [List.mem_cons, List.not_mem_nil, or_false] at hz
      omega
    exact q _ _ hz2.1 hz2.2 (((k1.trans k2).trans k3).trans ((Kp.new hl).trans k4)) hP4
abbrev CWorth (P : Program) (w : World) (K : PySem.W.Frag) (mg : Str → Option Value) (base : Heap) : Prop := Ca P w K mg base 3 "_law_worth" ["_law_pen_here"] spWorth
end
end Pf


namespace Pf
open PySem PySem.Spec PyProof.Rows L2
theorem take_filter {α : Type} {xs : List α} {i : Nat} {x : α} (f : α → Bool) (h : xs[i]? = some x) : (xs.take (i + 1)).filter f = (xs.take i).filter f ++ if f x = true then [x] else [] := by
  rw [List.take_add_one, h, List.filter_append]
  congr 1
  cases e : f x <;> simp [List.filter, e]
def dTwo (x : Int × Int) : PyData := .tuple [.int x.1, .int x.2]
theorem dpTwos {K : PySem.W.Frag} {H : Hp} : ∀ {vs : List V} {ps : List (Int × Int)}, Paired (TwoAt H) vs ps → DpAll K H vs (ps.map dTwo)
  | _, _, .nil => .nil
  | _, _, .cons ⟨_, e, h⟩ t => .cons (e ▸ .tup (SqT.of h) (.cons (.int _) (.cons (.int _) .nil))) (dpTwos t)
def Near (ps : List (Int × Int)) : Prop := ∀ x ∈ ps, (-1000000 < x.1 ∧ x.1 < 1000000) ∧ -1000000 < x.2 ∧ x.2 < 1000000
theorem sm_two {x : Int × Int} (h : (-1000000 < x.1 ∧ x.1 < 1000000) ∧ -1000000 < x.2 ∧ x.2 < 1000000) : Sm 130 1 (dTwo x) := by
  refine Sm.tup (n := 2) (m := 64) (k := 0) (Nat.le_refl _) (fun d hd => ?_) (by decide)
  simp only [List.mem_cons, List.not_mem_nil, or_false] at hd
  rcases hd with rfl | rfl <;> exact Sm.int (by omega) (by omega)
theorem sm_twos {ps : List (Int × Int)} (hn : ps.length ≤ 100) (h : Near ps) : Sm 20000 2 (.list (ps.map dTwo)) := by
  refine Sm.lst (n := 100) (m := 130) (k := 1) (by rw [List.length_map]; exact hn) (fun d hd => ?_) (by decide)
  obtain ⟨x, hx, rfl⟩ := List.mem_map.mp hd
  exact sm_two (h x hx)
theorem eqv_nil (ps : List (Int × Int)) : PyData.eqv (.list (ps.map dTwo)) (.list []) = ps.isEmpty := by
  cases ps <;> simp [PyData.eqv, PyData.eqvAll]
section
variable {P : Program} {w : World} {K : PySem.W.Frag} {mg : Str → Option Value} {base : Heap}
/-! ### the pen is made -/
abbrev s_law_pen : Stmt := topS 3
theorem sc_law_pen : FnScope ["_law_script"] ["_law_script"] (defScope s_law_pen) :=
  ⟨rfl, rfl, rfl, by decide +kernel, rfl, by decide +kernel, by decide +kernel⟩
theorem merge_pen (c : Addr) (a r : Int) : mergeK [] (penK c a r) = penK c a r := by
  have h1 : ¬ (Sum.inr ("cells" : Str) : Key) = Sum.inr ("at" : Str) := by decide +kernel
  have h2 : ¬ (Sum.inr ("cells" : Str) : Key) = Sum.inr ("left" : Str) := by decide +kernel
  have h3 : ¬ (Sum.inr ("at" : Str) : Key) = Sum.inr ("left" : Str) := by decide +kernel
  simp [penK, mergeK, putK, h1, h2, h3]
theorem cut_ints (ns : List Int) (lo hi : Option Int) : ∃ cs : List Int, cutV (ns.map V.int) lo hi = cs.map V.int ∧ cs.length ≤ ns.length := by
  unfold cutV
  refine ⟨(ns.drop _).take _, by rw [List.map_take, List.map_drop], ?_⟩
  rw [List.length_take, List.length_drop]
  omega
def spPen (K : PySem.W.Frag) : Sp := fun vs H Q _ => ∃ (a : Addr) (ns : List Int), vs = [.ref a] ∧ SqL K H a (ns.map V.int) ∧ ns.length ≤ 63 ∧ ∀ p c H', Pen H' p c 0 → Q (.ref p) H'
theorem ok_pen {f : Addr} {fd : FuncData} {k : Nat} (F : Fun K "_law_pen" "_law_pen" s_law_pen f fd) : FnOk P w K mg base CX0 (k + 1) f fd ["_law_script"] (spPen K) := by
  refine F.ok sc_law_pen (fun vs H Q E h => ?_) (fun cdv A outer s H vs Q E hr h => ?_)
  · obtain ⟨a, ns, rfl, _⟩ := h
    rfl
  · obtain ⟨a, ns, rfl, hS, hns, q⟩ := h
    refine ⟨_, (pss_one (ps_ret (pe_disp (pps_cons pe_str (pe_slice (slL K) (pv 0) po_none (po_some pe_int)) (pps_cons pe_str pe_int (pps_cons pe_str pe_int pps_nil))) (by rfl) (by rfl) (fun z => by cases z) (by decide)))), ?_⟩
    obtain ⟨cs, hcs, hcl⟩ := cut_ints ns none (some 63)
    refine fun p hp => ?_
    have hS1 : SqL K (upd H p (.dK [])) a (ns.map V.int) := by
      rcases hS with (h | ⟨o, h⟩) | h
      · exact .inl (.inl (Ext.new hp _ _ h))
      · exact .inl (.inr ⟨o, Ext.new hp _ _ h⟩)
      · exact .inr h
    refine ⟨_, rfl, 63, rfl, a, _, rfl, hS1, fun c hc => ?_⟩
    have hpc : p ≠ c := fun z => by
      rw [← z, upd_same] at hc
      cases hc
    refine ⟨by rw [upd_ne hpc, upd_same], penK c 0 0, rfl, (show 3 ≤ 15 by decide), ?_⟩
    refine q p c _ ⟨cs, 0, 0, ?_, ?_, by decide, by decide, by decide, by omega⟩
    · rw [upd_same, merge_pen]
    · rw [upd_ne hpc.symm, upd_same, hcs]
end
end Pf


namespace Pf
open PySem PySem.Spec PyProof.Rows L2
/-! ### pairs of brackets that match: by a pile, by innermost ones -/
def run : List Int → List (Nat × Int) → Option (List (Int × Int))
  | b, [] => if b = [] then some [] else none
  | b, (c, i) :: r => if c = 40 then run (i :: b) r else if c = 41 then (match b with
    | [] => none
    | p :: b' => (run b' r).map ((p, i) :: ·)) else none
theorem run_nil (b : List Int) : run b [] = if b = [] then some [] else none := by
  rw [run.eq_def]
theorem run_cons (b : List Int) (c : Nat) (i : Int) (r : List (Nat × Int)) : run b ((c, i) :: r) = if c = 40 then run (i :: b) r else if c = 41 then (match b with
    | [] => none
    | p :: b' => (run b' r).map ((p, i) :: ·)) else none := by
  rw [run.eq_def]
def toks : Nat → List Nat → List (Nat × Int)
  | _, [] => []
  | k, c :: r => if c = 46 then toks (k + 1) r else (c, (k : Int)) :: toks (k + 1) r
theorem run_cut {p q : Int} {Y : List (Nat × Int)} : ∀ (X : List (Nat × Int)) (b : List Int), (run b (X ++ Y) = none → run b (X ++ (40, p) :: (41, q) :: Y) = none) ∧ ∀ ps, run b (X ++ Y) = some ps → ∃ ps', run b (X ++ (40, p) :: (41, q) :: Y) = some ps' ∧ ps'.Perm ((p, q) :: ps)
  | [], b => by
    have e : run b ([] ++ (40, p) :: (41, q) :: Y) = (run b Y).map ((p, q) :: ·) := by
      rw [List.nil_append, run_cons, if_pos rfl, run_cons, if_neg (by decide), if_pos rfl]
    rw [e, List.nil_append]
    refine ⟨fun h => by rw [h]; rfl, fun ps h => ⟨(p, q) :: ps, by rw [h]; rfl, List.Perm.refl _⟩⟩
  | (c, i) :: X, b => by
    rw [List.cons_append, List.cons_append, run_cons, run_cons]
    by_cases h1 : c = 40
    · rw [if_pos h1, if_pos h1]
      exact run_cut X (i :: b)
    · rw [if_neg h1, if_neg h1]
      by_cases h2 : c = 41
      · rw [if_pos h2, if_pos h2]
        cases b with
        | nil => exact ⟨fun _ => rfl, fun ps h => by cases h⟩
        | cons z b' =>
          have ih := run_cut (p := p) (q := q) (Y := Y) X b'
          dsimp only
          refine ⟨fun h => ?_, fun ps h => ?_⟩
          · cases e : run b' (X ++ Y) with
            | none => show (run b' _).map _ = none; rw [ih.1 e]; rfl
            | some r => rw [e] at h; cases h
          · cases e : run b' (X ++ Y) with
            | none => rw [e] at h; cases h
            | some r =>
              rw [e] at h
              obtain ⟨ps', h1, h2⟩ := ih.2 r e
              have hp : ps = (z, i) :: r := (Option.some.inj h).symm
              refine ⟨(z, i) :: ps', by show (run b' _).map _ = _; rw [h1]; rfl, ?_⟩
              rw [hp]
              exact (List.Perm.cons _ h2).trans (List.Perm.swap _ _ _)
      · rw [if_neg h2, if_neg h2]
        exact ⟨fun _ => rfl, fun ps h => by cases h⟩
def NoAdj (L : List (Nat × Int)) : Prop := ∀ (k : Nat) (x y : Nat × Int), L[k]? = some x → L[k + 1]? = some y → ¬ (x.1 = 40 ∧ y.1 = 41)
theorem run_dead : ∀ (L : List (Nat × Int)) (b : List Int), L ≠ [] → NoAdj L → (b = [] ∨ ∀ x, L[0]? = some x → x.1 ≠ 41) → run b L = none
  | [], _, h, _, _ => absurd rfl h
  | (c, i) :: r, b, _, hN, hb => by
    rw [run_cons]
    by_cases h1 : c = 40
    · rw [if_pos h1]
      cases r with
      | nil => rw [run_nil, if_neg (by intro z; cases z)]
      | cons y r' =>
        refine run_dead (y :: r') (i :: b) (by intro z; cases z) (fun k x z hx hz => hN (k + 1) x z hx hz) (.inr fun x hx e => ?_)
        exact hN 0 (c, i) x rfl hx ⟨h1, e⟩
    · rw [if_neg h1]
      by_cases h2 : c = 41
      · rw [if_pos h2]
        rcases hb with rfl | hb
        · rfl
        · exact absurd h2 (hb (c, i) rfl)
      · rw [if_neg h2]
def le2 (p q : Int × Int) : Bool := decide (p.1 < q.1 ∨ (p.1 = q.1 ∧ p.2 ≤ q.2))
def srt (ps : List (Int × Int)) : List (Int × Int) := ps.mergeSort le2
theorem le2_trans (a b c : Int × Int) (h1 : le2 a b = true) (h2 : le2 b c = true) : le2 a c = true := by
  have h1 := of_decide_eq_true h1
  have h2 := of_decide_eq_true h2
  exact decide_eq_true (by omega)
theorem le2_total (a b : Int × Int) : (le2 a b || le2 b a) = true := by
  rw [Bool.or_eq_true]
  by_cases h : a.1 < b.1 ∨ (a.1 = b.1 ∧ a.2 ≤ b.2)
  · exact .inl (decide_eq_true h)
  · exact .inr (decide_eq_true (by omega))
theorem srt_unique {L M : List (Int × Int)} (h1 : L.Pairwise (fun a b => le2 a b = true)) (h2 : M.Pairwise (fun a b => le2 a b = true)) (h : L.Perm M) : L = M :=
  List.Perm.eq_of_pairwise (fun a b _ _ x y => by
    have x := of_decide_eq_true x
    have y := of_decide_eq_true y
    exact Prod.ext (by omega) (by omega)) h1 h2 h
theorem srt_pw (ps : List (Int × Int)) : (srt ps).Pairwise (fun a b => le2 a b = true) := List.pairwise_mergeSort le2_trans le2_total ps
theorem srt_perm {F ps : List (Int × Int)} (h : F.Perm ps) : srt F = srt ps :=
  srt_unique (srt_pw F) (srt_pw ps) (((List.mergeSort_perm F le2).trans h).trans (List.mergeSort_perm ps le2).symm)
theorem twos_zip {H : Hp} : ∀ {vs : List V} {ps : List (Int × Int)}, Paired (TwoAt H) vs ps → ∃ bes : List (Addr × (Int × Int)), bes.map (fun x => V.ref x.1) = vs ∧ bes.map (·.2) = ps ∧ ∀ x ∈ bes, H x.1 = some (.tup [.int x.2.1, .int x.2.2])
  | _, _, .nil => ⟨[], rfl, rfl, fun x h => by cases h⟩
  | _, _, .cons (b := y) ⟨a, e, ha⟩ t => by
    obtain ⟨bes, h1, h2, h3⟩ := twos_zip t
    refine ⟨(a, y) :: bes, by rw [List.map_cons, h1, e], by rw [List.map_cons, h2], fun x hx => ?_⟩
    rcases List.mem_cons.mp hx with rfl | hx
    · exact ha
    · exact h3 x hx
theorem paired_of {H : Hp} : ∀ {bes : List (Addr × (Int × Int))}, (∀ x ∈ bes, H x.1 = some (.tup [.int x.2.1, .int x.2.2])) → Paired (TwoAt H) (bes.map fun x => V.ref x.1) (bes.map (·.2))
  | [], _ => .nil
  | x :: r, h => .cons ⟨x.1, rfl, h x (List.mem_cons_self ..)⟩ (paired_of fun y hy => h y (List.mem_cons_of_mem _ hy))
/-- sorted(pairs), as cr_sortD asks it -/
theorem sort_twos {K : PySem.W.Frag} {H : Hp} {l : Addr} {vs : List V} {ps : List (Int × Int)} {Q : VK} (hL : H l = some (.lst vs)) (hPr : Paired (TwoAt H) vs ps) (q : ∀ (p : Addr) (us : List V), H p = none → Paired (TwoAt (upd H p (.lst us))) us (srt ps) → us.length = vs.length → Q (.ref p) (upd H p (.lst us))) : rSortD K [.ref l] H Q := by
  obtain ⟨bes, h1, h2, h3⟩ := twos_zip hPr
  refine ⟨_, fun x => V.ref x.1, fun x => .tuple [.int x.2.1, .int x.2.2], l, bes, rfl, SqL.of (by rw [h1]; exact hL), fun x hx => ⟨.tup (SqT.of (h3 x hx)) (.cons (.int _) (.cons (.int _) .nil)), by simp [PyData.depth, PyData.depthAll]⟩, ?_, .inl ?_, fun p hp => ?_⟩
  · intro d1 e1 d2 e2
    obtain ⟨x1, _, rfl⟩ := List.mem_map.mp e1
    obtain ⟨x2, _, rfl⟩ := List.mem_map.mp e2
    simp [PySem.W.alike, PySem.W.alikeAll]
  · intro d1 e1
    obtain ⟨x1, _, rfl⟩ := List.mem_map.mp e1
    exact ⟨_, _, rfl⟩
  · have ele : PySem.W.dataLe false (fun x : Addr × (Int × Int) => PyData.tuple [.int x.2.1, .int x.2.2]) = fun p q => le2 p.2 q.2 := PySem.W.dataLe_ii (fun x : Addr × (Int × Int) => x.2.1) (fun x : Addr × (Int × Int) => x.2.2)
    rw [ele]
    have hp0 : (bes.mergeSort fun p q => le2 p.2 q.2).Perm bes := List.mergeSort_perm _ _
    have hp1 : ((bes.mergeSort fun p q => le2 p.2 q.2).map (·.2)).Perm ps := by
      have z := hp0.map (fun x : Addr × (Int × Int) => x.2)
      rw [h2] at z
      exact z
    have hpw : ((bes.mergeSort fun p q => le2 p.2 q.2).map (·.2)).Pairwise (fun a b => le2 a b = true) := by
      rw [List.pairwise_map]
      exact List.pairwise_mergeSort (fun a b c => le2_trans a.2 b.2 c.2) (fun a b => le2_total a.2 b.2) bes
    have hs : (bes.mergeSort fun p q => le2 p.2 q.2).map (·.2) = srt ps := srt_unique hpw (srt_pw ps) (hp1.trans (List.mergeSort_perm ps le2).symm)
    refine q p _ hp ?_ ?_
    · rw [← hs]
      exact paired_of fun x hx => Ext.new hp _ _ (h3 x (hp0.mem_iff.mp hx))
    · rw [List.length_map, List.length_mergeSort, ← h1, List.length_map]
def ResAt (H : Hp) (v : V) (o : Option (List (Int × Int))) : Prop := match o with
  | none => v = .non
  | some qs => TupOf TwoAt H v qs
def ask (x : Str) : Option (List (Int × Int)) := (run [] (toks 0 x.cps.toList)).map srt
theorem one_is (c d : Nat) : (decide ((V.str ⟨#[c]⟩ : V) = V.str ⟨#[d]⟩)) = decide (c = d) := by
  by_cases h : c = d
  · rw [h]
    simp
  · rw [decide_eq_false h, decide_eq_false]
    intro z
    injection z with z
    injection z with z
    injection z with z
    injection z with z
    exact h z
theorem sign_o : (Str.ofString "(") = ⟨#[40]⟩ := by decide +kernel
theorem sign_c : (Str.ofString ")") = ⟨#[41]⟩ := by decide +kernel
theorem sign_d : (Str.ofString ".") = ⟨#[46]⟩ := by decide +kernel
theorem drop_at {x : Str} {i c : Nat} (h : x.cps[i]? = some c) : x.cps.toList.drop i = c :: x.cps.toList.drop (i + 1) := by
  have h2 : x.cps.toList[i]? = some c := by
    rw [Array.getElem?_toList]
    exact h
  obtain ⟨hi, e⟩ := List.getElem?_eq_some_iff.mp h2
  rw [List.drop_eq_getElem_cons hi, e]
section
variable {P : Program} {w : World} {K : PySem.W.Frag} {mg : Str → Option Value} {base : Heap}
abbrev s_pairs_in : Stmt := topS 1
theorem sc_pairs_in : FnScope ["text", "begun", "pairs", "at", "sign"] ["text"] (defScope s_pairs_in) :=
  ⟨rfl, rfl, rfl, by decide +kernel, rfl, by decide +kernel, by decide +kernel⟩
def spPin : Sp := fun vs H Q _ => ∃ x : Str, vs = [.str x] ∧ x.length ≤ 1000 ∧ ∀ v H', Ext H H' → ResAt H' v (ask x) → Q v H'
theorem ok_pin {f : Addr} {fd : FuncData} {k : Nat} (F : Fun K "pairs_in" "pairs_in" s_pairs_in f fd) (menumerate : mg "enumerate" = none) (mtuple : mg "tuple" = none) (msorted : mg "sorted" = none) : FnOk P w K mg base CX0 (k + 1) f fd ["text"] spPin := by
  refine F.ok sc_pairs_in (fun vs H Q E h => ?_) (fun cdv A outer s H vs Q E hr h => ?_)
  · obtain ⟨x, rfl, _⟩ := h
    rfl
  · obtain ⟨x, rfl, hx, q⟩ := h
    refine ⟨_, (pss_cons (ps_set (i := 1) sc_pairs_in.nd rfl (.inl rfl) (pe_lst pa_nil))
      (pss_cons (ps_set (i := 2) sc_pairs_in.nd rfl (.inl rfl) (pe_lst pa_nil))
      (pss_cons (ps_for PassesOwn.never rfl (pi_enumS (by rfl) menumerate (pa_cons (pv 0) pa_nil)) (pg_tup rfl (pgs_cons (pg_name (i := 3) sc_pairs_in.nd rfl (.inl rfl)) (pgs_cons (pg_name (i := 4) sc_pairs_in.nd rfl (.inl rfl)) pgs_nil))) (pss_one (ps_if (pt_cmpR op_eq (pv 4) pe_str (nomark _)) (pss_one (ps_expr (pe_bm PySem.F.plainAttrs_list PySem.F.slot_list_append PySem.F.type_list_append mt_append (pv 1) (pa_cons (pv 3) pa_nil)))) (pss_one (ps_if (PW.pt (pw_and (pt_cmpR op_eq (pv 4) pe_str (nomark _)) (pw_and1 (pt_truth (pv 1) (by intro _; rfl))))) (pss_one (ps_expr (pe_bm PySem.F.plainAttrs_list PySem.F.slot_list_append PySem.F.type_list_append mt_append (pv 2) (pa_cons (pe_tup (pa_cons (pe_bm0 PySem.F.plainAttrs_list PySem.F.slot_list_pop PySem.F.type_list_pop mt_pop (pv 1)) (pa_cons (pv 3) pa_nil))) pa_nil)))) (pss_one (ps_if (pt_cmpR op_ne (pv 4) pe_str (nomark _)) (pss_one (ps_ret pe_non)) pss_nil)))))))
      (pss_one (ps_ret (pe_ifExp (pt_truth (pv 1) (by intro _; rfl)) pe_non (pe_callTy (tupleOf K) (by rfl) mtuple (by decide +kernel) (pa_cons (pe_callB (cr_sortD K hr.units) (by rfl) msorted (by decide +kernel) (pa_cons (pv 2) pa_nil)) pa_nil)))))))), ?_⟩
    refine ⟨Nat.zero_le _, fun lb hlb => ⟨Nat.zero_le _, fun lp hlp => ?_⟩⟩
    have e0 := (Ext.new (o := .lst []) hlb).trans (Ext.new (o := .lst []) hlp)
    have nbp : lb ≠ lp := fun z => by
      rw [← z, upd_same] at hlp
      cases hlp
    have hlp0 : H lp = none := Ext.none (Ext.new hlb) hlp
    refine ⟨_, rfl, x, rfl, for_es (fun i σ H2 => ∃ (y3 y4 : Option V) (b : List Int) (vs : List V) (ps : List (Int × Int)), σ = [some (.str x), some (.ref lb), some (.ref lp), y3, y4] ∧ H2 lb = some (.lst (b.reverse.map V.int)) ∧ H2 lp = some (.lst vs) ∧ Paired (TwoAt H2) vs ps ∧ b.length ≤ i ∧ vs.length ≤ i ∧ Ext H H2 ∧ run [] (toks 0 x.cps.toList) = (run b (toks i (x.cps.toList.drop i))).map (ps ++ ·))
      ⟨none, none, [], [], [], rfl, by rw [upd_ne nbp, upd_same]; rfl, upd_same, .nil, Nat.le_refl _, Nat.le_refl _, e0, ?_⟩ (fun i c T σ H2 hi hv hT => ?_) (fun σ H2 hv => ?_)⟩
    · rw [List.drop_zero]
      cases run [] (toks 0 x.cps.toList) <;> rfl
    · obtain ⟨y3, y4, b, vs, ps, rfl, hB, hV, hPr, hbl, hvl, k2, hrun⟩ := hv
      have hi' : i < x.length := (Array.getElem?_eq_some_iff.mp hi).1
      rw [drop_at hi, toks] at hrun
      have e3 := Ext.new (o := .tup [.int (i : Nat), .str ⟨#[c]⟩]) hT
      have hB3 := e3 _ _ hB
      have hV3 := e3 _ _ hV
      have hPr3 := paired_imp (fun _ _ => TwoAt.mono _ _ _ _ (TupK.ext e3)) hPr
      have k3 := k2.trans e3
      refine ⟨T, _, rfl, SqT.of upd_same, rfl, _, _, rfl, _, _, rfl, rfl, ?_⟩
      refine ⟨_, rfl, rfl, _, rfl, ?_⟩
      rw [sign_o, one_is]
      refine ite2 (fun e => ?_) (fun e => ?_)
      · -- (
        have e : c = 40 := of_decide_eq_true e
        rw [if_neg (by omega), run_cons, if_pos e] at hrun
        refine ⟨_, rfl, .inl ⟨rfl, _, SqL.of hB3⟩, _, rfl, lb, _, _, rfl, rfl, hB3, szLt ?_, ?_⟩
        · rw [List.length_map, List.length_reverse]
          omega
        · refine ⟨_, _, (i : Int) :: b, vs, ps, rfl, ?_, ?_, paired_imp (fun _ _ => TwoAt.mono _ _ _ _ (TupK.lst hB3)) hPr3, ?_, by omega, k3.put hlb, hrun⟩
          · rw [upd_same, List.reverse_cons, List.map_append]
            rfl
          · rw [upd_ne nbp.symm]
            exact hV3
          · rw [List.length_cons]
            omega
      · have e : ¬ c = 40 := fun z => e (decide_eq_true z)
        refine ⟨_, rfl, rfl, _, rfl, ?_⟩
        rw [sign_c, one_is]
        have last : ¬ (c = 41 ∧ b ≠ []) → tIfS (tTest (tOp rNe (tVar 4) (tC (.str (Str.ofString "."))))) (tRet (tC .non)) tNext
            { nx := fun σ H2 => ∃ (y3 y4 : Option V) (b : List Int) (vs : List V) (ps : List (Int × Int)), σ = [some (.str x), some (.ref lb), some (.ref lp), y3, y4] ∧ H2 lb = some (.lst (b.reverse.map V.int)) ∧ H2 lp = some (.lst vs) ∧ Paired (TwoAt H2) vs ps ∧ b.length ≤ i + 1 ∧ vs.length ≤ i + 1 ∧ Ext H H2 ∧ run [] (toks 0 x.cps.toList) = (run b (toks (i + 1) (x.cps.toList.drop (i + 1)))).map (ps ++ ·), rt := Q, bk := fun _ _ => False, ct := fun _ _ => False }
            [some (.str x), some (.ref lb), some (.ref lp), some (.int (i : Nat)), some (.str ⟨#[c]⟩)] (upd H2 T (.tup [.int (i : Nat), .str ⟨#[c]⟩])) := fun hn => by
          refine ⟨_, rfl, rfl, _, rfl, ?_⟩
          rw [sign_d, one_is]
          refine ite2 (fun e2 => ?_) (fun e2 => ?_)
          · have e2 : ¬ c = 46 := fun z => by
              rw [decide_eq_true z] at e2
              cases e2
            rw [if_neg e2, run_cons, if_neg e] at hrun
            have hnone : run [] (toks 0 x.cps.toList) = none := by
              rw [hrun]
              by_cases h41 : c = 41
              · rw [if_pos h41]
                cases b with
                | nil => rfl
                | cons p b' => exact absurd ⟨h41, by intro z; cases z⟩ hn
              · rw [if_neg h41]
                rfl
            refine q .non _ k3 ?_
            unfold ask
            rw [hnone]
            rfl
          · have e2 : c = 46 := by
              by_cases z : c = 46
              · exact z
              · rw [decide_eq_false z] at e2
                exact absurd rfl e2
            rw [if_pos e2] at hrun
            exact ⟨_, _, b, vs, ps, rfl, hB3, hV3, hPr3, by omega, by omega, k3, hrun⟩
        refine ite2 (fun e1 => ?_) (fun e1 => ?_)
        · have e1 : c = 41 := of_decide_eq_true e1
          refine ⟨_, rfl, _, .inl ⟨_, SqL.of hB3, rfl⟩, ?_⟩
          cases b with
          | nil => exact iteF (last (fun z => z.2 rfl))
          | cons p b' =>
            rw [if_neg (by omega), run_cons, if_neg e, if_pos e1] at hrun
            have hne : (!((p :: b').reverse.map V.int).isEmpty) = true := by
              rw [List.reverse_cons, List.map_append]
              cases (b'.reverse.map V.int) <;> rfl
            rw [hne]
            refine iteT ⟨_, rfl, .inl ⟨rfl, _, SqL.of hV3⟩, _, rfl, .inl ⟨rfl, _, SqL.of hB3⟩, lb, _, .int p, rfl, rfl, hB3, ?_, _, rfl, szL (show 2 ≤ 1000000 by decide), fun t ht => ?_⟩
            · rw [List.reverse_cons, List.map_append, List.length_append, List.map_singleton, List.length_singleton, Nat.add_sub_cancel, List.getElem?_append_right (Nat.le_refl _), Nat.sub_self]
              rfl
            · have hdl : ((p :: b').reverse.map V.int).dropLast = b'.reverse.map V.int := by
                rw [List.reverse_cons, List.map_append, List.map_singleton, List.dropLast_concat]
              rw [hdl] at ht ⊢
              have hV4 : (upd (upd H2 T (.tup [.int (i : Nat), .str ⟨#[c]⟩])) lb (.lst (b'.reverse.map V.int))) lp = some (.lst vs) := by
                rw [upd_ne nbp.symm]
                exact hV3
              have e5 := Ext.new (o := .tup [.int p, .int (i : Nat)]) ht
              have hV5 := e5 _ _ hV4
              have nlt : lp ≠ t := ne_of_none hV4 ht
              refine ⟨lp, _, _, rfl, rfl, hV5, szLt (by omega), ?_⟩
              have tk := ((TupK.lst (o := .lst (b'.reverse.map V.int)) hB3).trans (TupK.ext e5)).trans (TupK.lst (o := .lst (vs ++ [.ref t])) hV5)
              refine ⟨_, _, b', vs ++ [.ref t], ps ++ [(p, (i : Int))], rfl, ?_, upd_same, ?_, ?_, ?_, ?_, ?_⟩
              · rw [upd_ne nbp]
                exact e5 _ _ upd_same
              · refine (paired_imp (fun _ _ => TwoAt.mono _ _ _ _ tk) hPr3).snoc ⟨t, rfl, ?_⟩
                rw [upd_ne nlt.symm, upd_same]
              · rw [List.length_cons] at hbl
                omega
              · rw [List.length_append, List.length_singleton]
                omega
              · exact ((k3.put hlb).trans e5).put hlp0
              · dsimp only at hrun
                rw [hrun]
                cases run b' (toks (i + 1) (x.cps.toList.drop (i + 1))) with
                | none => rfl
                | some r =>
                  show some (ps ++ (p, (i : Int)) :: r) = some ((ps ++ [(p, (i : Int))]) ++ r)
                  rw [List.append_assoc]
                  rfl
        · have e1 : ¬ c = 41 := fun z => e1 (decide_eq_true z)
          exact iteF (last (fun z => e1 z.1))
    · obtain ⟨y3, y4, b, vs, ps, rfl, hB, hV, hPr, hbl, hvl, k2, hrun⟩ := hv
      rw [List.drop_eq_nil_of_le (by rw [Array.length_toList]; exact Nat.le_refl _), toks, run_nil] at hrun
      have hsz : x.cps.size ≤ 1000 := hx
      refine ⟨_, rfl, _, .inl ⟨_, SqL.of hB, rfl⟩, ?_⟩
      cases b with
      | nil =>
        refine iteF ⟨_, rfl, ?_⟩
        show rSortD K [.ref lp] H2 (fun x H1 => rTupleOf K [x] H1 Q)
        refine sort_twos hV hPr fun p us hp hPu hul => ?_
        refine ⟨p, us, rfl, .inl ⟨SqL.of upd_same, fun tR htR => q _ _ ((k2.trans (Ext.new hp)).trans (Ext.new htR)) ?_⟩⟩
        unfold ask
        rw [hrun, if_pos rfl]
        show TupOf TwoAt _ _ (srt (ps ++ []))
        rw [List.append_nil]
        exact ⟨tR, us, rfl, upd_same, paired_imp (fun _ _ => TwoAt.mono _ _ _ _ (TupK.new htR)) hPu⟩
      | cons p b' =>
        have hne : (!((p :: b').reverse.map V.int).isEmpty) = true := by
          rw [List.reverse_cons, List.map_append]
          cases (b'.reverse.map V.int) <;> rfl
        rw [hne]
        refine iteT (q .non _ k2 ?_)
        unfold ask
        rw [hrun, if_neg (by intro z; cases z)]
        rfl
end
end Pf


namespace Pf
open PySem PySem.Spec PyProof.Rows L2
def Low (x : Str) : Prop := ∀ c ∈ x.cps.toList, c < 1000
theorem Low.app {a b : Str} (ha : Low a) (hb : Low b) : Low (a ++ b) := fun c h => by
  have h : c ∈ (a.cps ++ b.cps).toList := h
  rw [Array.toList_append] at h
  rcases List.mem_append.mp h with h | h
  · exact ha c h
  · exact hb c h
theorem Low.ok {x : Str} (h : Low x) : PyData.strOk x = true := by
  show x.cps.all (· < 0x110000) = true
  rw [Array.all_eq_true_iff_forall_mem]
  intro c hc
  have := h c (Array.mem_toList_iff.mpr hc)
  exact decide_eq_true (by omega)
theorem Low.one {c : Nat} (h : c < 1000) : Low ⟨#[c]⟩ := fun d hd => by
  have hd : d ∈ [c] := hd
  rw [List.mem_singleton.mp hd]
  exact h
theorem toks_mem : ∀ (l : List Nat) (k : Nat), ∀ y ∈ toks k l, y.1 ∈ l ∧ (k : Int) ≤ y.2 ∧ y.2 < (k + l.length : Nat)
  | [], _, y, h => by
    rw [toks] at h
    cases h
  | d :: r, k, y, h => by
    rw [toks] at h
    by_cases e : d = 46
    · rw [if_pos e] at h
      have ih := toks_mem r (k + 1) y h
      exact ⟨List.mem_cons_of_mem _ ih.1, by omega, by rw [List.length_cons]; omega⟩
    · rw [if_neg e] at h
      rcases List.mem_cons.mp h with rfl | h
      · exact ⟨List.mem_cons_self .., Int.le_refl _, by rw [List.length_cons]; show (k : Int) < _; omega⟩
      · have ih := toks_mem r (k + 1) y h
        exact ⟨List.mem_cons_of_mem _ ih.1, by omega, by rw [List.length_cons]; omega⟩
def SgAt (H : Hp) (v : V) (x : Nat × Int) : Prop := ∃ a, v = .ref a ∧ H a = some (.tup [.str ⟨#[x.1]⟩, .int x.2])
theorem SgAt.mono : Mono SgAt := fun H H' v x k ⟨a, e, h⟩ => ⟨a, e, k _ _ h⟩
theorem toks_snoc (c : Nat) : ∀ (l : List Nat) (k : Nat), toks k (l ++ [c]) = toks k l ++ if c = 46 then [] else [(c, ((k + l.length : Nat) : Int))]
  | [], k => by
    rw [List.nil_append, toks, toks]
    rfl
  | d :: r, k => by
    rw [List.cons_append, toks, toks, toks_snoc c r (k + 1), List.length_cons, show k + 1 + r.length = k + (r.length + 1) by omega]
    by_cases h : d = 46
    · rw [if_pos h, if_pos h]
    · rw [if_neg h, if_neg h]
      rfl
theorem toks_len : ∀ (l : List Nat) (k : Nat), (toks k l).length ≤ l.length
  | [], _ => Nat.le_refl _
  | d :: r, k => by
    rw [toks]
    have ih := toks_len r (k + 1)
    by_cases h : d = 46
    · rw [if_pos h, List.length_cons]
      omega
    · rw [if_neg h, List.length_cons, List.length_cons]
      omega
def Rel (T L : List (Nat × Int)) (ps : List (Int × Int)) : Prop := (run [] L = none → run [] T = none) ∧ ∀ qs, run [] L = some qs → ∃ ps', run [] T = some ps' ∧ ps'.Perm (ps ++ qs)
theorem Rel.refl (T : List (Nat × Int)) : Rel T T [] := ⟨fun h => h, fun qs h => ⟨qs, h, List.Perm.refl _⟩⟩
theorem Rel.step {T L : List (Nat × Int)} {ps : List (Int × Int)} (h : Rel T L ps) {k : Nat} {p q : Int} (h1 : L[k]? = some (40, p)) (h2 : L[k + 1]? = some (41, q)) : Rel T (L.take k ++ L.drop (k + 2)) (ps ++ [(p, q)]) := by
  obtain ⟨i1, e1⟩ := List.getElem?_eq_some_iff.mp h1
  obtain ⟨i2, e2⟩ := List.getElem?_eq_some_iff.mp h2
  have e : L = L.take k ++ (40, p) :: (41, q) :: L.drop (k + 2) := by
    rw [← e1, ← e2, ← List.drop_eq_getElem_cons i2, ← List.drop_eq_getElem_cons i1, List.take_append_drop]
  have c := run_cut (p := p) (q := q) (Y := L.drop (k + 2)) (L.take k) []
  rw [← e] at c
  refine ⟨fun n => h.1 (c.1 n), fun qs n => ?_⟩
  obtain ⟨qs', a, b⟩ := c.2 qs n
  obtain ⟨ps', a2, b2⟩ := h.2 qs' a
  refine ⟨ps', a2, b2.trans ?_⟩
  rw [List.append_assoc]
  exact List.Perm.append_left ps b
theorem Rel.end1 {x : Str} {ps : List (Int × Int)} (h : Rel (toks 0 x.cps.toList) [] ps) : ask x = some (srt ps) := by
  obtain ⟨ps', a, b⟩ := h.2 [] (by rw [run_nil, if_pos rfl])
  rw [List.append_nil] at b
  unfold ask
  rw [a, ← srt_perm b]
  rfl
theorem Rel.end2 {x : Str} {L : List (Nat × Int)} {ps : List (Int × Int)} (h : Rel (toks 0 x.cps.toList) L ps) (n : L ≠ []) (hN : NoAdj L) : ask x = none := by
  unfold ask
  rw [h.1 (run_dead L [] n hN (.inl rfl))]
  rfl
theorem cut_lo {xs : List V} {k : Nat} (h : k ≤ xs.length) : cutV xs none (some (k : Int)) = xs.take k := by
  unfold cutV
  have e1 : HT.sIx xs.length 0 none = 0 := rfl
  have e2 : HT.sIx xs.length xs.length (some (k : Int)) = k := by
    simp only [HT.sIx]
    rw [if_neg (by omega)]
    omega
  rw [e1, e2, List.drop_zero, Nat.sub_zero]
theorem cut_hi {xs : List V} {k : Nat} (h : k ≤ xs.length) : cutV xs (some (k : Int)) none = xs.drop k := by
  unfold cutV
  have e1 : HT.sIx xs.length 0 (some (k : Int)) = k := by
    simp only [HT.sIx]
    rw [if_neg (by omega)]
    omega
  have e2 : HT.sIx xs.length xs.length none = xs.length := rfl
  rw [e1, e2, List.take_of_length_le (by rw [List.length_drop]; omega)]
theorem paired_take {α β : Type} {R : α → β → Prop} : ∀ {xs : List α} {ys : List β} (k : Nat), Paired R xs ys → Paired R (xs.take k) (ys.take k)
  | _, _, 0, _ => by rw [List.take_zero, List.take_zero]; exact .nil
  | _, _, k + 1, .nil => by rw [List.take_nil, List.take_nil]; exact .nil
  | _, _, k + 1, .cons r t => by rw [List.take_succ_cons, List.take_succ_cons]; exact .cons r (paired_take k t)
theorem paired_drop {α β : Type} {R : α → β → Prop} : ∀ {xs : List α} {ys : List β} (k : Nat), Paired R xs ys → Paired R (xs.drop k) (ys.drop k)
  | _, _, 0, h => by rw [List.drop_zero, List.drop_zero]; exact h
  | _, _, k + 1, .nil => by rw [List.drop_nil, List.drop_nil]; exact .nil
  | _, _, k + 1, .cons r t => by rw [List.drop_succ_cons, List.drop_succ_cons]; exact paired_drop k t
def dSg (x : Nat × Int) : PyData := .tuple [.str ⟨#[x.1]⟩, .int x.2]
theorem dpSgs {K : PySem.W.Frag} {H : Hp} : ∀ {vs : List V} {ps : List (Nat × Int)}, Paired (SgAt H) vs ps → DpAll K H vs (ps.map dSg)
  | _, _, .nil => .nil
  | _, _, .cons ⟨_, e, h⟩ t => .cons (e ▸ .tup (SqT.of h) (.cons (.str _) (.cons (.int _) .nil))) (dpSgs t)
theorem sm_sgs {L : List (Nat × Int)} (hn : L.length ≤ 1000) (h : ∀ y ∈ L, y.1 < 1000 ∧ -1000000 < y.2 ∧ y.2 < 1000000) : Sm 200000 2 (.list (L.map dSg)) := by
  refine Sm.lst (n := 1000) (m := 130) (k := 1) (by rw [List.length_map]; exact hn) (fun d hd => ?_) (by decide)
  obtain ⟨y, hy, rfl⟩ := List.mem_map.mp hd
  have hb := h y hy
  refine Sm.tup (n := 2) (m := 64) (k := 0) (Nat.le_refl _) (fun d hd => ?_) (by decide)
  simp only [List.mem_cons, List.not_mem_nil, or_false] at hd
  rcases hd with rfl | rfl
  · exact Sm.str (Low.one hb.1).ok (show 1 ≤ 64 by decide)
  · exact Sm.int (by omega) (by omega)
section
variable {P : Program} {w : World} {K : PySem.W.Frag} {mg : Str → Option Value} {base : Heap}
abbrev s_law_pairs : Stmt := topS 12
theorem sc_law_pairs : FnScope ["_law_signs", "_law_left", "_law_found", "_law_size", "_law_k", "_law_place", "_law_sign"] ["_law_signs"] (defScope s_law_pairs) :=
  ⟨rfl, rfl, rfl, by decide +kernel, rfl, by decide +kernel, by decide +kernel⟩
def spLp : Sp := fun vs H Q _ => ∃ x : Str, vs = [.str x] ∧ x.length ≤ 1000 ∧ Low x ∧ ∀ v H', Ext H H' → ResAt H' v (ask x) → Q v H'
theorem ok_lp {f : Addr} {fd : FuncData} {k : Nat} (F : Fun K "_law_pairs" "_law_pairs" s_law_pairs f fd) (menumerate : mg "enumerate" = none) (mtuple : mg "tuple" = none) (msorted : mg "sorted" = none) (mlen : mg "len" = none) (mrange : mg "range" = none) (mint : mg "int" = none) : FnOk P w K mg base CX0 (k + 1) f fd ["_law_signs"] spLp := by
  refine F.ok sc_law_pairs (fun vs H Q E h => ?_) (fun cdv A outer s H vs Q E hr h => ?_)
  · obtain ⟨x, rfl, _⟩ := h
    rfl
  · obtain ⟨x, rfl, hx, hlo, q⟩ := h
    have hsz : x.cps.size ≤ 1000 := hx
    refine ⟨_, (pss_cons (ps_setLc (i := 1) (own := [("_law_place", 5), ("_law_sign", 6)]) (g := gTup K 2 (gCons (gName 5) (gCons (gName 6) gNil))) (by rfl) sc_law_pairs.nd rfl rfl (sw_true rfl rfl rfl (by decide +kernel)) (pi_enumS (by rfl) menumerate (pa_cons (pv 0) pa_nil)) (blkOk_by (own := [("_law_place", 5), ("_law_sign", 6)]) (N := ["_law_signs", "_law_left", "_law_found", "_law_size", "_law_k", "_law_place", "_law_sign"]) (sc := defScope s_law_pairs) (by decide +kernel)) (fun _ _ _ _ _ => (pgT K rfl (pgs_cons (pg_name (i := 5) sc_law_pairs.nd rfl (.inl rfl)) (pgs_cons (pg_name (i := 6) sc_law_pairs.nd rfl (.inl rfl)) pgs_nil)))) (fun _ _ _ _ _ => (pts_one (pt_cmpR op_ne (pv 6) pe_str (nomark _)))) (fun _ _ _ _ _ => (pe_tup (pa_cons (pv 6) (pa_cons (pv 5) pa_nil)))))
      (pss_cons (ps_set (i := 2) sc_law_pairs.nd rfl (.inl rfl) (pe_lst pa_nil))
      (pss_cons (ps_set (i := 3) sc_law_pairs.nd rfl (.inl rfl) (pe_un un_neg pe_int))
      (pss_cons (ps_while PassesOwn.never (pt_cmpR op_ne (pv 3) (pe_callB (lenQ K) (by rfl) mlen (by decide +kernel) (pa_cons (pv 1) pa_nil)) (nomark _)) (pss_cons (ps_set (i := 3) sc_law_pairs.nd rfl (.inl rfl) (pe_callB (lenQ K) (by rfl) mlen (by decide +kernel) (pa_cons (pv 1) pa_nil)))
      (pss_one (ps_for PassesOwn.never rfl (pi_range1 (by rfl) mrange (pa_cons (pe_op op_sub (pe_callB (lenQ K) (by rfl) mlen (by decide +kernel) (pa_cons (pv 1) pa_nil)) pe_int) pa_nil)) (pg_name (i := 4) sc_law_pairs.nd rfl (.inl rfl)) (pss_one (ps_if (PW.pt (pw_and (pt_cmpR op_eq (pe_callB (lenQ K) (by rfl) mlen (by decide +kernel) (pa_cons (pv 1) pa_nil)) (pv 3) (nomark _)) (pw_and (pt_cmpR op_eq (pe_ix (ixT K) (pe_ix (ixL K) (pv 1) (pv 4) (fun _ _ => rfl)) pe_int (fun _ _ => rfl)) pe_str (nomark _)) (pw_and1 (pt_cmpR op_eq (pe_ix (ixT K) (pe_ix (ixL K) (pv 1) (pe_op op_add (pv 4) pe_int) (fun _ _ => rfl)) pe_int (fun _ _ => rfl)) pe_str (nomark _)))))) (pss_cons (ps_expr (pe_bm PySem.F.plainAttrs_list PySem.F.slot_list_append PySem.F.type_list_append mt_append (pv 2) (pa_cons (pe_tup (pa_cons (pe_ix (ixT K) (pe_ix (ixL K) (pv 1) (pv 4) (fun _ _ => rfl)) pe_int (fun _ _ => rfl)) (pa_cons (pe_ix (ixT K) (pe_ix (ixL K) (pv 1) (pe_op op_add (pv 4) pe_int) (fun _ _ => rfl)) pe_int (fun _ _ => rfl)) pa_nil))) pa_nil)))
      (pss_one (ps_set (i := 1) sc_law_pairs.nd rfl (.inl rfl) (pe_op op_cat (pe_slice (slL K) (pv 1) po_none (po_some (pv 4))) (pe_slice (slL K) (pv 1) (po_some (pe_op op_add (pv 4) pe_int)) po_none))))) pss_nil))))))
      (pss_one (ps_ret (pe_ix (ixL K) (pe_lst (pa_cons pe_non (pa_cons (pe_callTy (tupleOf K) (by rfl) mtuple (by decide +kernel) (pa_cons (pe_callB (cr_sortD K hr.units) (by rfl) msorted (by decide +kernel) (pa_cons (pv 2) pa_nil)) pa_nil)) pa_nil))) (pe_callTy call_int1 (by rfl) mint (by decide +kernel) (pa_cons (pe_cmpR (eqD K hr.units) (pv 1) (pe_lst pa_nil) (nomark _)) pa_nil)) (fun _ _ => rfl)))))))), ?_⟩
    refine ⟨_, rfl, x, rfl, fun D hD => lc_es (fun i H2 => ∃ vs, H2 D = some (.lst vs) ∧ Paired (SgAt H2) vs (toks 0 (x.cps.toList.take i)) ∧ Ext H H2) ⟨[], upd_same, (by rw [List.take_zero]; exact .nil), Ext.new hD⟩ (fun i c T H2 hi hv hT => ?_) (fun H2 hv => ?_)⟩
    · obtain ⟨vs, hL, hPr, k2⟩ := hv
      have hi' : i < x.cps.size := (Array.getElem?_eq_some_iff.mp hi).1
      have hil : x.cps.toList[i]? = some c := by
        rw [Array.getElem?_toList]
        exact hi
      have e3 := Ext.new (o := .tup [.int (i : Nat), .str ⟨#[c]⟩]) hT
      have hvl := paired_len hPr
      have htl := toks_len (x.cps.toList.take i) 0
      rw [List.length_take] at htl
      have hPr3 := paired_imp (fun _ _ => SgAt.mono _ _ _ _ (TupK.ext e3)) hPr
      have htk : toks 0 (x.cps.toList.take (i + 1)) = toks 0 (x.cps.toList.take i) ++ if c = 46 then [] else [(c, (i : Int))] := by
        rw [List.take_add_one, hil]
        show toks 0 (x.cps.toList.take i ++ [c]) = _
        rw [toks_snoc, List.length_take, Array.length_toList, Nat.zero_add, Nat.min_eq_left (Nat.le_of_lt hi')]
      refine ⟨T, _, rfl, SqT.of upd_same, rfl, _, _, rfl, _, _, rfl, rfl, rfl, _, rfl, rfl, _, rfl, ?_⟩
      rw [sign_d, one_is]
      refine ite2 (fun e => ?_) (fun e => ?_)
      · have e2 : ¬ c = 46 := fun z => by
          rw [decide_eq_true z] at e
          cases e
        rw [if_neg e2] at htk
        refine ⟨_, rfl, _, rfl, szL (show 2 ≤ 1000000 by decide), fun t ht => ⟨_, Ext.new ht _ _ (e3 _ _ hL), szLt (by omega), vs ++ [.ref t], upd_same, ?_, ?_⟩⟩
        · have e4 := Ext.new (o := .tup [.str ⟨#[c]⟩, .int (i : Nat)]) ht
          have hL4 := e4 _ _ (e3 _ _ hL)
          have tk := (TupK.ext e4).trans (TupK.lst (o := .lst (vs ++ [.ref t])) hL4)
          rw [htk]
          refine (paired_imp (fun _ _ => SgAt.mono _ _ _ _ tk) hPr3).snoc ⟨t, rfl, ?_⟩
          rw [upd_ne (ne_of_none (e3 _ _ hL) ht).symm, upd_same]
        · exact ((k2.trans e3).trans (Ext.new ht)).put hD
      · have e2 : c = 46 := by
          by_cases z : c = 46
          · exact z
          · rw [decide_eq_false z] at e
            exact absurd rfl e
        rw [if_pos e2, List.append_nil] at htk
        exact ⟨vs, e3 _ _ hL, htk ▸ hPr3, k2.trans e3⟩
    · obtain ⟨vs0, hL0, hPr0, k0⟩ := hv
      rw [List.take_of_length_le (by rw [Array.length_toList]; exact Nat.le_refl _)] at hPr0
      have htl0 := toks_len x.cps.toList 0
      rw [Array.length_toList (xs := x.cps)] at htl0
      refine ⟨Nat.zero_le _, fun lF hlF => ?_⟩
      have hlFH : H lF = none := Ext.none k0 hlF
      have e0 := Ext.new (o := .lst []) hlF
      refine ⟨1, rfl, ?_⟩
      refine ⟨fun m σ H2 => ∃ (y4 y5 y6 : Option V) (lf : Addr) (vs : List V) (L : List (Nat × Int)) (fs : List V) (ps : List (Int × Int)) (sz : Int), m = 2 * L.length + (if sz = L.length then 0 else 1) ∧ σ = [some (.str x), some (.ref lf), some (.ref lF), some (.int sz), y4, y5, y6] ∧ H2 lf = some (.lst vs) ∧ Paired (SgAt H2) vs L ∧ H2 lF = some (.lst fs) ∧ Paired (TwoAt H2) fs ps ∧ lf ≠ lF ∧ Ext H H2 ∧ Rel (toks 0 x.cps.toList) L ps ∧ L.length + fs.length ≤ 1000 ∧ (sz = L.length → NoAdj L) ∧ (∀ y ∈ L, y.1 < 1000 ∧ -1000000 < y.2 ∧ y.2 < 1000000),
        ⟨_, none, none, none, D, vs0, toks 0 x.cps.toList, [], [], -1, rfl, rfl, e0 _ _ hL0, paired_imp (fun _ _ => SgAt.mono _ _ _ _ (TupK.ext e0)) hPr0, upd_same, .nil, ne_of_none hL0 hlF, k0.trans e0, Rel.refl _, by show _ + 0 ≤ _; omega, fun z => by omega, fun y hy => ?_⟩, fun m σ H2 hW => ?_⟩
      · have hy := toks_mem x.cps.toList 0 y hy
        rw [Array.length_toList] at hy
        exact ⟨hlo _ hy.1, by omega, by omega⟩
      obtain ⟨y4, y5, y6, lf, vs, L, fs, ps, sz, rfl, rfl, hL, hPr, hF, hPf, nf, k2, hR, hln, hN, hG⟩ := hW
      have hvl := paired_len hPr
      refine ⟨_, rfl, _, rfl, lf, vs, rfl, .inl (SqL.of hL), rfl, _, rfl, ite2 (fun e => ?_) (fun e => ?_)⟩
      · have e : ¬ sz = (vs.length : Int) := fun z => by
          rw [z] at e
          simp at e
        rw [if_neg (by omega)]
        refine ⟨fun σ' H' => ∃ (y4 y5 y6 : Option V) (lf : Addr) (vs : List V) (L' : List (Nat × Int)) (fs : List V) (ps : List (Int × Int)), ((L' = L ∧ NoAdj L) ∨ L'.length + 2 = L.length) ∧ σ' = [some (.str x), some (.ref lf), some (.ref lF), some (.int (L.length : Nat)), y4, y5, y6] ∧ H' lf = some (.lst vs) ∧ Paired (SgAt H') vs L' ∧ H' lF = some (.lst fs) ∧ Paired (TwoAt H') fs ps ∧ lf ≠ lF ∧ Ext H H' ∧ Rel (toks 0 x.cps.toList) L' ps ∧ L'.length + fs.length ≤ 1000 ∧ (∀ y ∈ L', y.1 < 1000 ∧ -1000000 < y.2 ∧ y.2 < 1000000),
          fun σ' H' ⟨y4, y5, y6, lf, vs, L', fs, ps, h0, h1, h2, h3, h4, h5, h6, h7, h8, h9, h10⟩ => ?_, ?_⟩
        · refine ⟨2 * L'.length + (if (L.length : Int) = L'.length then 0 else 1), ?_, y4, y5, y6, lf, vs, L', fs, ps, _, rfl, h1, h2, h3, h4, h5, h6, h7, h8, h9, fun z => ?_, h10⟩
          · rcases h0 with ⟨rfl, _⟩ | h0
            · rw [if_pos rfl]
              omega
            · rw [if_neg (by omega)]
              omega
          · rcases h0 with ⟨rfl, h⟩ | h0
            · exact h
            · omega
        · refine ⟨_, rfl, lf, vs, rfl, .inl (SqL.of hL), ?_⟩
          refine ⟨_, rfl, lf, vs, rfl, .inl (SqL.of hL), _, 1, rfl, rfl, _, rfl, by omega, by omega, for_range (lo := 0) (n := ((vs.length : Int) - 1).toNat) (fun i σ' H' => ∃ (y4 y5 y6 : Option V) (lf : Addr) (vs : List V) (L' : List (Nat × Int)) (fs : List V) (ps : List (Int × Int)), ((L' = L ∧ ∀ k, k < i → ∀ (a b : Nat × Int), L[k]? = some a → L[k + 1]? = some b → ¬ (a.1 = 40 ∧ b.1 = 41)) ∨ L'.length + 2 = L.length) ∧ σ' = [some (.str x), some (.ref lf), some (.ref lF), some (.int (L.length : Nat)), y4, y5, y6] ∧ H' lf = some (.lst vs) ∧ Paired (SgAt H') vs L' ∧ H' lF = some (.lst fs) ∧ Paired (TwoAt H') fs ps ∧ lf ≠ lF ∧ Ext H H' ∧ Rel (toks 0 x.cps.toList) L' ps ∧ L'.length + fs.length ≤ 1000 ∧ (∀ y ∈ L', y.1 < 1000 ∧ -1000000 < y.2 ∧ y.2 < 1000000))
            ⟨y4, y5, y6, lf, vs, L, fs, ps, .inl ⟨rfl, fun k hk => absurd hk (Nat.not_lt_zero _)⟩, (by rw [hvl]; rfl), hL, hPr, hF, hPf, nf, k2, hR, hln, hG⟩ (fun i σ3 H3 hi hv => ?_) (fun σ3 H3 hv => ?_)⟩
          · obtain ⟨y4, y5, y6, lf, vs3, L3, fs3, ps3, hc, rfl, hL3, hPr3, hF3, hPf3, nf3, k3, hR3, hln3, hG3⟩ := hv
            have hvl3 := paired_len hPr3
            have e0i : (0 : Int) + (i : Int) = (i : Int) := by omega
            refine ⟨_, rfl, lf, vs3, rfl, .inl (SqL.of hL3), _, rfl, rfl, _, rfl, ite2 (fun e1 => ?_) (fun e1 => ?_)⟩
            · have e1 : vs3.length = L.length := by
                have := V.int.inj (of_decide_eq_true e1)
                omega
              rcases hc with ⟨rfl, hc⟩ | hc
              · have hi2 : i < vs3.length := by omega
                have hi3 : i + 1 < vs3.length := by omega
                obtain ⟨⟨c1, p1⟩, hx1, a1, ev1, ha1⟩ := paired_get hPr3 (List.getElem?_eq_getElem hi2)
                obtain ⟨⟨c2, p2⟩, hx2, a2, ev2, ha2⟩ := paired_get hPr3 (List.getElem?_eq_getElem hi3)
                have at1 : atI vs3 (0 + (i : Int)) = some (.ref a1) := by
                  rw [atI_get (by omega) (by omega), ← ev1]
                  congr 1
                  congr 1
                  omega
                have at2 : atI vs3 (0 + (i : Int) + 1) = some (.ref a2) := by
                  rw [atI_get (by omega) (by omega), ← ev2]
                  congr 1
                  congr 1
                  omega
                refine ⟨_, rfl, _, rfl, lf, vs3, _, _, rfl, rfl, SqL.of hL3, at1, a1, _, 0, _, rfl, rfl, SqT.of ha1, rfl, rfl, _, rfl, ?_⟩
                rw [sign_o, one_is]
                have again : ¬ (c1 = 40 ∧ c2 = 41) → ∀ k, k < i + 1 → ∀ (a b : Nat × Int), L3[k]? = some a → L3[k + 1]? = some b → ¬ (a.1 = 40 ∧ b.1 = 41) := fun hn k hk a b ha hb => by
                  by_cases hki : k = i
                  · subst hki
                    rw [hx1] at ha
                    rw [hx2] at hb
                    cases ha
                    cases hb
                    exact hn
                  · exact hc k (by omega) a b ha hb
                refine ite2 (fun f1 => ?_) (fun f1 => ?_)
                · have f1 : c1 = 40 := of_decide_eq_true f1
                  refine ⟨_, rfl, _, rfl, _, 1, rfl, rfl, lf, vs3, _, _, rfl, rfl, SqL.of hL3, at2, a2, _, 0, _, rfl, rfl, SqT.of ha2, rfl, rfl, _, rfl, ?_⟩
                  rw [sign_c, one_is]
                  refine ite2 (fun f2 => ?_) (fun f2 => ?_)
                  · have f2 : c2 = 41 := of_decide_eq_true f2
                    subst f1 f2
                    refine ⟨_, rfl, .inl ⟨rfl, _, SqL.of hF3⟩, ?_⟩
                    refine ⟨_, rfl, _, rfl, lf, vs3, _, _, rfl, rfl, SqL.of hL3, at1, a1, _, 1, _, rfl, rfl, SqT.of ha1, rfl, ?_⟩
                    refine ⟨_, rfl, _, rfl, _, 1, rfl, rfl, lf, vs3, _, _, rfl, rfl, SqL.of hL3, at2, a2, _, 1, _, rfl, rfl, SqT.of ha2, rfl, ?_⟩
                    refine ⟨szL (show 2 ≤ 1000000 by decide), fun t ht => ?_⟩
                    have e5 := Ext.new (o := .tup [.int p1, .int p2]) ht
                    have hF5 := e5 _ _ hF3
                    refine ⟨lF, _, _, rfl, rfl, hF5, szLt (by omega), ?_⟩
                    have tk6 := (TupK.ext e5).trans (TupK.lst (o := .lst (fs3 ++ [.ref t])) hF5)
                    have hL6 : (upd (upd H3 t (.tup [.int p1, .int p2])) lF (.lst (fs3 ++ [.ref t]))) lf = some (.lst vs3) := by
                      rw [upd_ne nf3]
                      exact e5 _ _ hL3
                    refine ⟨_, rfl, _, rfl, _, rfl, lf, vs3, rfl, SqL.of hL6, fun s1 hs1 => ?_⟩
                    have e7 := Ext.new (o := .lst (cutV vs3 none (some (0 + (i : Int))))) hs1
                    refine ⟨_, rfl, _, rfl, _, 2, rfl, rfl, _, rfl, lf, vs3, rfl, SqL.of (e7 _ _ hL6), fun s2 hs2 => ?_⟩
                    have e8 := Ext.new (o := .lst (cutV vs3 (some (0 + (i : Int) + 2)) none)) hs2
                    have l1 := cutV_length vs3 none (some (0 + (i : Int)))
                    have l2 := cutV_length vs3 (some (0 + (i : Int) + 2)) none
                    refine ⟨s1, s2, _, _, rfl, rfl, e8 _ _ upd_same, upd_same, szL (by omega), fun s3 hs3 => ?_⟩
                    have e9 := Ext.new (o := .lst (cutV vs3 none (some (0 + (i : Int))) ++ cutV vs3 (some (0 + (i : Int) + 2)) none)) hs3
                    have c1e : cutV vs3 none (some (0 + (i : Int))) = vs3.take i := by
                      rw [e0i]
                      exact cut_lo (by omega)
                    have c2e : cutV vs3 (some (0 + (i : Int) + 2)) none = vs3.drop (i + 2) := by
                      rw [show (0 : Int) + (i : Int) + 2 = ((i + 2 : Nat) : Int) by omega]
                      exact cut_hi (by omega)
                    have e69 := (e7.trans e8).trans e9
                    have hF9 := e69 _ _ (show (upd (upd H3 t (.tup [.int p1, .int p2])) lF (.lst (fs3 ++ [.ref t]))) lF = _ from upd_same)
                    refine ⟨_, _, _, s3, _, L3.take i ++ L3.drop (i + 2), fs3 ++ [.ref t], ps3 ++ [(p1, p2)], .inr ?_, rfl, upd_same, ?_, hF9, ?_, fun z => ?_, ?_, hR3.step hx1 hx2, ?_, fun y hy => ?_⟩
                    · rw [List.length_append, List.length_take, List.length_drop]
                      omega
                    · rw [c1e, c2e]
                      have tk := tk6.trans (TupK.ext e69)
                      rw [c1e, c2e] at tk
                      have hPr9 := paired_imp (fun _ _ => SgAt.mono _ _ _ _ tk) hPr3
                      exact paired_app (paired_take i hPr9) (paired_drop (i + 2) hPr9)
                    · refine (paired_imp (fun _ _ => TwoAt.mono _ _ _ _ (tk6.trans (TupK.ext e69))) hPf3).snoc ⟨t, rfl, ?_⟩
                      refine e69 _ _ ?_
                      rw [upd_ne (ne_of_none hF3 ht).symm, upd_same]
                    · have hF8 := (e7.trans e8) _ _ (show (upd (upd H3 t (.tup [.int p1, .int p2])) lF (.lst (fs3 ++ [.ref t]))) lF = _ from upd_same)
                      rw [z, hF8] at hs3
                      cases hs3
                    · exact ((k3.trans e5).put hlFH).trans e69
                    · rw [List.length_append, List.length_append, List.length_take, List.length_drop, List.length_singleton]
                      omega
                    · rcases List.mem_append.mp hy with hy | hy
                      · exact hG3 y (List.mem_of_mem_take hy)
                      · exact hG3 y (List.mem_of_mem_drop hy)
                  · have f2 : ¬ c2 = 41 := fun z => f2 (decide_eq_true z)
                    exact ⟨_, _, _, lf, vs3, L3, fs3, ps3, .inl ⟨rfl, again fun z => f2 z.2⟩, rfl, hL3, hPr3, hF3, hPf3, nf3, k3, hR3, hln3, hG3⟩
                · have f1 : ¬ c1 = 40 := fun z => f1 (decide_eq_true z)
                  exact ⟨_, _, _, lf, vs3, L3, fs3, ps3, .inl ⟨rfl, again fun z => f1 z.1⟩, rfl, hL3, hPr3, hF3, hPf3, nf3, k3, hR3, hln3, hG3⟩
              · omega
            · have e1 : ¬ (vs3.length : Int) = (L.length : Int) := fun z => e1 (decide_eq_true (congrArg V.int z))
              refine ⟨_, _, _, lf, vs3, L3, fs3, ps3, .inr ?_, rfl, hL3, hPr3, hF3, hPf3, nf3, k3, hR3, hln3, hG3⟩
              rcases hc with ⟨rfl, _⟩ | hc
              · omega
              · exact hc
          · obtain ⟨y4, y5, y6, lf, vs3, L3, fs3, ps3, hc, rfl, hL3, hPr3, hF3, hPf3, nf3, k3, hR3, hln3, hG3⟩ := hv
            refine ⟨_, _, _, lf, vs3, L3, fs3, ps3, ?_, rfl, hL3, hPr3, hF3, hPf3, nf3, k3, hR3, hln3, hG3⟩
            rcases hc with ⟨rfl, hc⟩ | hc
            · refine .inl ⟨rfl, fun k a b ha hb => hc k ?_ a b ha hb⟩
              have := (List.getElem?_eq_some_iff.mp hb).1
              omega
            · exact .inr hc
      · have e : sz = (vs.length : Int) := by
          by_cases z : sz = (vs.length : Int)
          · exact z
          · rw [decide_eq_false (fun y => z (V.int.inj y))] at e
            exact absurd rfl e
        have hN := hN (by omega)
        refine ⟨_, rfl, ?_⟩
        unfold tNil
        refine sort_twos hF hPf fun p us hp hPu hul => ?_
        have e3 := Ext.new (o := .lst us) hp
        refine ⟨p, us, rfl, .inl ⟨SqL.of upd_same, fun tR htR => ?_⟩⟩
        have e4 := Ext.new (o := .tup us) htR
        refine ⟨szL (show 2 ≤ 1000000 by decide), fun l2 hl2 => ?_⟩
        have e5 := Ext.new (o := .lst [.non, .ref tR]) hl2
        refine ⟨_, rfl, Nat.zero_le _, fun l3 hl3 => ?_⟩
        have e6 := Ext.new (o := .lst []) hl3
        have e26 := ((e3.trans e4).trans e5).trans e6
        refine ⟨.list (L.map dSg), .list [], .lst (SqL.of (e26 _ _ hL)) (dpSgs (paired_imp (fun _ _ => SgAt.mono _ _ _ _ (TupK.ext e26)) hPr)), .lst (SqL.of upd_same) .nil, ?_, by decide, .inr ⟨_, rfl, ?_⟩⟩
        · exact (sm_sgs (by omega) hG).shaped (by decide)
        · have hE : PyData.eqv (.list (L.map dSg)) (.list []) = L.isEmpty := by
            cases L <;> simp [PyData.eqv, PyData.eqvAll]
          rw [hE]
          cases L with
          | nil =>
            refine ⟨l2, _, 1, .ref tR, rfl, rfl, SqL.of (e6 _ _ upd_same), rfl, q _ _ (k2.trans e26) ?_⟩
            rw [hR.end1]
            exact ⟨tR, us, rfl, (e5.trans e6) _ _ upd_same, paired_imp (fun _ _ => TwoAt.mono _ _ _ _ ((TupK.ext (e4.trans e5)).trans (TupK.ext e6))) hPu⟩
          | cons y r =>
            refine ⟨l2, _, 0, .non, rfl, rfl, SqL.of (e6 _ _ upd_same), rfl, q _ _ (k2.trans e26) ?_⟩
            rw [hR.end2 (by intro z; cases z) hN]
            rfl
end
end Pf


namespace Pf
open PySem PySem.Spec PyProof.Rows L2
def bud : Nat → Nat
  | 0 => 0
  | 1 => 3
  | l + 2 => 3 + bud l + bud (l + 1)
theorem bud_step : ∀ l, bud l ≤ bud (l + 1)
  | 0 => by decide
  | l + 1 => by
    show bud (l + 1) ≤ 3 + bud l + bud (l + 1)
    omega
theorem bud_mono {a b : Nat} (h : a ≤ b) : bud a ≤ bud b := by
  induction h with
  | refl => exact Nat.le_refl _
  | step _ ih => exact Nat.le_trans ih (bud_step _)
theorem run_near {Pd : Int → Prop} : ∀ {L : List (Nat × Int)} {b : List Int} {ps : List (Int × Int)}, run b L = some ps → (∀ i ∈ b, Pd i) → (∀ y ∈ L, Pd y.2) → (∀ p ∈ ps, Pd p.1 ∧ Pd p.2) ∧ ps.length ≤ L.length
  | [], b, ps, h, _, _ => by
    rw [run_nil] at h
    by_cases e : b = []
    · rw [if_pos e] at h
      cases h
      exact ⟨fun p hp => (by cases hp), Nat.le_refl _⟩
    · rw [if_neg e] at h
      cases h
  | (c, i) :: r, b, ps, h, hb, hL => by
    rw [run_cons] at h
    have hi : Pd i := hL (c, i) (List.mem_cons_self ..)
    have hr : ∀ y ∈ r, Pd y.2 := fun y hy => hL y (List.mem_cons_of_mem _ hy)
    by_cases h1 : c = 40
    · rw [if_pos h1] at h
      have ih := run_near (L := r) h (fun j hj => by
        rcases List.mem_cons.mp hj with rfl | hj
        · exact hi
        · exact hb j hj) hr
      exact ⟨ih.1, Nat.le_succ_of_le ih.2⟩
    · rw [if_neg h1] at h
      by_cases h2 : c = 41
      · rw [if_pos h2] at h
        cases b with
        | nil => cases h
        | cons p b' =>
          dsimp only at h
          cases e : run b' r with
          | none => rw [e] at h; cases h
          | some qs =>
            rw [e] at h
            have ep : (p, i) :: qs = ps := Option.some.inj h
            have ih := run_near (L := r) e (fun j hj => hb j (List.mem_cons_of_mem _ hj)) hr
            rw [← ep]
            refine ⟨fun x hx => ?_, Nat.succ_le_succ ih.2⟩
            rcases List.mem_cons.mp hx with rfl | hx
            · exact ⟨hb p (List.mem_cons_self ..), hi⟩
            · exact ih.1 x hx
      · rw [if_neg h2] at h
        cases h
def dRes : Option (List (Int × Int)) → PyData
  | none => .none
  | some qs => .tuple (qs.map dTwo)
theorem dp_res {K : PySem.W.Frag} {H : Hp} {v : V} {o : Option (List (Int × Int))} (h : ResAt H v o) : Dp K H v (dRes o) := by
  cases o with
  | none =>
    have h : v = .non := h
    rw [h]
    exact .non
  | some qs =>
    obtain ⟨a, vs, rfl, ha, hp⟩ := h
    exact .tup (SqT.of ha) (dpTwos hp)
theorem sm_res {x : Str} (hx : x.length ≤ 100) : Sm 20000 2 (dRes (ask x)) := by
  unfold ask
  cases e : run [] (toks 0 x.cps.toList) with
  | none => exact Sm.non.le (by decide) (by decide)
  | some ps =>
    have hn := run_near (Pd := fun i => -1000000 < i ∧ i < 1000000) e (fun i hi => by cases hi) (fun y hy => by
      have hy := toks_mem x.cps.toList 0 y hy
      have hx : x.cps.size ≤ 100 := hx
      rw [Array.length_toList] at hy
      omega)
    have hl := toks_len x.cps.toList 0
    rw [Array.length_toList (xs := x.cps)] at hl
    have hx : x.cps.size ≤ 100 := hx
    have hpm : (srt ps).Perm ps := List.mergeSort_perm ps le2
    refine Sm.tup (n := 100) (m := 130) (k := 1) (by rw [List.length_map, hpm.length_eq]; omega) (fun d hd => ?_) (by decide)
    obtain ⟨y, hy, rfl⟩ := List.mem_map.mp hd
    have := hn.1 y (hpm.mem_iff.mp hy)
    exact sm_two this
theorem len_app (a b : Str) : (a ++ b).length = a.length + b.length := by
  show (a.cps ++ b.cps).size = _
  rw [Array.size_append]
  rfl
theorem low_nil : Low (Str.ofString "") := fun c h => by
  have e : (Str.ofString "").cps.toList = [] := by decide +kernel
  rw [e] at h
  cases h
section
variable {P : Program} {w : World} {K : PySem.W.Frag} {mg : Str → Option Value} {base : Heap}
abbrev s_law_matched : Stmt := topS 11
theorem sc_law_matched : FnScope ["_law_pen_here", "_law_left", "_law_way", "_law_inner"] ["_law_pen_here", "_law_left"] (defScope s_law_matched) :=
  ⟨rfl, rfl, rfl, by decide +kernel, rfl, by decide +kernel, by decide +kernel⟩
def spMat (d : Nat) : Sp := fun vs H Q _ => ∃ (p c : Addr) (n l : Nat), vs = [.ref p, .int (l : Nat)] ∧ l < d ∧ l ≤ 14 ∧ Pen H p c n ∧ n + bud l < 1000000 ∧
  ∀ (x : Str) (H' : Hp) (n' : Nat), x.length ≤ l → Low x → Kp p H H' → Pen H' p c n' → n' ≤ n + bud l → Q (.str x) H'
theorem ok_matched {f : Addr} {fd : FuncData} (F : Fun K "_law_matched" "_law_matched" s_law_matched f fd) (bF : Binds K fd ["_law_pen_here", "_law_left"] []) (gF : mg "_law_matched" = some (.ref f)) (c_law_take : CTake P w K mg base) (mlen : mg "len" = none) :
    ∀ d : Nat, FnOk P w K mg base CX0 (2 + d) f fd ["_law_pen_here", "_law_left"] (spMat d)
  | 0 => ⟨fun vs H Q E h => by
      obtain ⟨p, c, n, l, rfl, _⟩ := h
      rfl, fun A outer s H args us vs Q E _ _ _ _ h => by
      obtain ⟨p, c, n, l, _, h1, _⟩ := h
      omega⟩
  | d + 1 => by
    have c_law_matched : Ca P w K mg base (2 + d) "_law_matched" ["_law_pen_here", "_law_left"] (spMat d) := ⟨f, fd, ok_matched F bF gF c_law_take mlen d, gF, F.kp, bF⟩
    refine F.ok (k := 2 + d) sc_law_matched (fun vs H Q E h => ?_) (fun cdv A outer s H vs Q E hr h => ?_)
    · obtain ⟨p, c, n, l, rfl, _⟩ := h
      rfl
    · obtain ⟨p, c, n, l, rfl, hld, hl, hP, hn, q⟩ := h
      refine ⟨_, (pss_cons (ps_if (PW.pt (pw_or (pt_cmpR op_lt (pv 1) pe_int (nomark _)) (pw_or1 (pt_cmpR op_eq (pe_ca c_law_take (hr.mono (by omega)) (by rfl) (pa_cons (pv 0) (pa_cons pe_int pa_nil))) pe_int (nomark _))))) (pss_one (ps_ret pe_str)) pss_nil)
      (pss_cons (ps_set (i := 2) sc_law_matched.nd rfl (.inl rfl) (pe_ca c_law_take (hr.mono (by omega)) (by rfl) (pa_cons (pv 0) (pa_cons pe_int pa_nil))))
      (pss_cons (ps_if (PW.pt (pw_or (pt_cmpR op_eq (pv 2) pe_int (nomark _)) (pw_or1 (pt_cmpR op_lt (pv 1) pe_int (nomark _))))) (pss_one (ps_ret (pe_op op_add_str pe_str (pe_ca c_law_matched (hr.mono (by omega)) (by rfl) (pa_cons (pv 0) (pa_cons (pe_op op_sub (pv 1) pe_int) pa_nil)))))) pss_nil)
      (pss_cons (ps_set (i := 3) sc_law_matched.nd rfl (.inl rfl) (pe_ca c_law_matched (hr.mono (by omega)) (by rfl) (pa_cons (pv 0) (pa_cons (pe_ca c_law_take (hr.mono (by omega)) (by rfl) (pa_cons (pv 0) (pa_cons (pe_op op_sub (pv 1) pe_int) pa_nil))) pa_nil))))
      (pss_one (ps_ret (pe_op op_add_str (pe_op op_add_str (pe_op op_add_str pe_str (pv 3)) pe_str) (pe_ca c_law_matched (hr.mono (by omega)) (by rfl) (pa_cons (pv 0) (pa_cons (pe_op op_sub (pe_op op_sub (pv 1) pe_int) (pe_callB call_len_str (by rfl) mlen (by decide +kernel) (pa_cons (pv 3) pa_nil))) pa_nil)))))))))), ?_⟩
      refine ⟨_, rfl, _, 1, rfl, rfl, _, rfl, ite2 (fun e => ?_) (fun e => ?_)⟩
      · exact q _ H n (Nat.zero_le _) low_nil Kp.refl hP (by omega)
      · have e : ¬ (l : Int) < 1 := fun z => e (decide_eq_true z)
        have hb1 : 3 ≤ bud l := Nat.le_trans (show 3 ≤ bud 1 by decide) (bud_mono (by omega))
        refine ⟨_, rfl, p, c, 6, n, rfl, hP, by omega, by decide, by decide, fun r1 H1 r1a r1b k1 hP1 => ⟨rfl, _, rfl, ite2 (fun e1 => ?_) (fun e1 => ?_)⟩⟩
        · exact q _ H1 (n + 1) (Nat.zero_le _) low_nil k1 hP1 (by omega)
        · refine ⟨_, rfl, p, c, 3, n + 1, rfl, hP1, by omega, by decide, by decide, fun r2 H2 r2a r2b k2 hP2 => ?_⟩
          have k02 := k1.trans k2
          have dot : ∃ l' : Nat, l = l' + 1 := ⟨l - 1, by omega⟩
          obtain ⟨l', rfl⟩ := dot
          have hbd : bud l' + 2 ≤ bud (l' + 1) := by
            cases l' with
            | zero => decide
            | succ z =>
              show bud (z + 1) + 2 ≤ 3 + bud z + bud (z + 1)
              omega
          refine ⟨_, rfl, rfl, _, rfl, ite2 (fun e2 => ?_) (fun e2 => ?_)⟩
          · refine ⟨_, rfl, _, rfl, _, 1, rfl, rfl, p, c, n + 2, l', congrArg (fun z => [V.ref p, V.int z]) (by omega), by omega, by omega, hP2, by omega, fun x H3 n3 hx hxl k3 hP3 hn3 => ⟨_, _, rfl, rfl, szL ?_, ?_⟩⟩
            · show 1 + _ ≤ _
              omega
            · refine q _ _ n3 ?_ (Low.app (by unfold Low; decide +kernel) hxl) (k02.trans k3) hP3 (by omega)
              rw [len_app]
              show 1 + _ ≤ _
              omega
          · refine ⟨_, rfl, _, 2, rfl, rfl, _, rfl, ite2 (fun e3 => ?_) (fun e3 => ?_)⟩
            · refine ⟨_, rfl, _, rfl, _, 1, rfl, rfl, p, c, n + 2, l', congrArg (fun z => [V.ref p, V.int z]) (by omega), by omega, by omega, hP2, by omega, fun x H3 n3 hx hxl k3 hP3 hn3 => ⟨_, _, rfl, rfl, szL ?_, ?_⟩⟩
              · show 1 + _ ≤ _
                omega
              · refine q _ _ n3 ?_ (Low.app (by unfold Low; decide +kernel) hxl) (k02.trans k3) hP3 (by omega)
                rw [len_app]
                show 1 + _ ≤ _
                omega
            · have e3 : ¬ ((l' + 1 : Nat) : Int) < 2 := fun z => e3 (decide_eq_true z)
              obtain ⟨m, rfl⟩ : ∃ m : Nat, l' = m + 1 := ⟨l' - 1, by omega⟩
              have hb2 : bud (m + 1 + 1) = 3 + bud m + bud (m + 1) := rfl
              have hb3 := bud_step m
              refine ⟨_, rfl, _, rfl, _, rfl, _, 1, rfl, rfl, p, c, _, n + 2, rfl, hP2, by omega, by omega, by omega, fun r3 H3 r3a r3b k3 hP3 => ?_⟩
              obtain ⟨a, rfl⟩ : ∃ a : Nat, r3 = (a : Int) := ⟨r3.toNat, by omega⟩
              have hba := bud_mono (show a ≤ m by omega)
              refine ⟨p, c, n + 2 + 1, a, rfl, by omega, by omega, hP3, by omega, fun x H4 n4 hx hxl k4 hP4 hn4 => ?_⟩
              refine ⟨_, rfl, _, _, rfl, rfl, szL ?_, _, _, rfl, rfl, szL ?_, ?_⟩
              · show 1 + _ ≤ _
                omega
              · rw [len_app]
                show 1 + _ + 1 ≤ _
                omega
              · have hbb := bud_mono (show m - x.length ≤ m by omega)
                refine ⟨_, rfl, _, rfl, _, 2, rfl, rfl, _, rfl, x, rfl, szL (by omega), _, _, rfl, rfl, p, c, n4, m - x.length, congrArg (fun z => [V.ref p, V.int z]) (by omega), by omega, by omega, hP4, by omega, fun y H5 n5 hy hyl k5 hP5 hn5 => ⟨_, _, rfl, rfl, szL ?_, ?_⟩⟩
                · rw [len_app, len_app]
                  show 1 + _ + 1 + _ ≤ _
                  omega
                · refine q _ _ n5 ?_ (Low.app (Low.app (Low.app (by unfold Low; decide +kernel) hxl) (by unfold Low; decide +kernel)) hyl) (((k02.trans k3).trans k4).trans k5) hP5 (by omega)
                  rw [len_app, len_app, len_app]
                  show 1 + _ + 1 + _ ≤ _
                  omega
end
end Pf


namespace Pf
open PySem PySem.Spec PyProof.Rows L2
theorem cutS_low {x : Str} (h : Low x) (lo hi : Option Int) : Low (cutS x lo hi) := fun c hc => by
  unfold cutS at hc
  exact h c (List.mem_of_mem_drop (List.mem_of_mem_take hc))
theorem ask_nil : ask (Str.ofString "") = some [] := by
  have e : (Str.ofString "").cps.toList = [] := by decide +kernel
  unfold ask
  rw [e, toks, run_nil, if_pos rfl]
  show some (srt []) = some []
  rw [srt, List.mergeSort_nil]
theorem ask_bad : ask (Str.ofString ")(") = none := by
  have e : (Str.ofString ")(").cps.toList = [41, 40] := by decide +kernel
  unfold ask
  rw [e, toks, if_neg (by decide), run_cons, if_neg (by decide), if_pos rfl]
  rfl
theorem sum_len_le {m : Nat} : ∀ {ys : List Str}, (∀ y ∈ ys, y.length ≤ m) → (ys.map (·.length)).sum ≤ ys.length * m
  | [], _ => Nat.zero_le _
  | y :: r, h => by
    have h1 := h y (List.mem_cons_self ..)
    have h2 := sum_len_le (ys := r) fun x hx => h x (List.mem_cons_of_mem _ hx)
    rw [List.map_cons, List.sum_cons, List.length_cons, Nat.succ_mul]
    omega
theorem fits_join {ys : List Str} {k m : Nat} (hk : ys.length ≤ k) (h : ∀ y ∈ ys, y.length ≤ m) (hm : k * m ≤ 1000000) : (ys.map (·.length)).sum + ys.length * ("" : Str).length ≤ 16777216 := by
  have h1 := sum_len_le h
  have h2 : ys.length * m ≤ k * m := Nat.mul_le_mul_right m hk
  have h3 : ("" : Str).length = 0 := by decide +kernel
  rw [h3, Nat.mul_zero]
  omega
def Tx (v : V) : Prop := ∃ x : Str, v = .str x ∧ x.length ≤ 30 ∧ Low x
theorem one_tx {z : Str} (h : Low z) {v : V} (hv : v ∈ z.cps.toList.map fun c => V.str ⟨#[c]⟩) : ∃ x : Str, v = .str x ∧ x.length ≤ 2 ∧ Low x := by
  obtain ⟨c, hc, rfl⟩ := List.mem_map.mp hv
  exact ⟨_, rfl, (show 1 ≤ 2 by decide), Low.one (h c hc)⟩
theorem join_low : ∀ {ys : List Str}, (∀ y ∈ ys, Low y) → Low (Str.join "" ys)
  | [], _ => fun c h => by cases h
  | [y], h => h y (List.mem_singleton.mpr rfl)
  | y :: z :: r, h => by
    have ih := join_low (ys := z :: r) fun x hx => h x (List.mem_cons_of_mem _ hx)
    exact Low.app (Low.app (h y (List.mem_cons_self ..)) low_nil) ih
section
variable {P : Program} {w : World} {K : PySem.W.Frag} {mg : Str → Option Value} {base : Heap}
abbrev CPen (P : Program) (w : World) (K : PySem.W.Frag) (mg : Str → Option Value) (base : Heap) : Prop := Ca P w K mg base 1 "_law_pen" ["_law_script"] (spPen K)
abbrev CMat (P : Program) (w : World) (K : PySem.W.Frag) (mg : Str → Option Value) (base : Heap) : Prop := Ca P w K mg base 17 "_law_matched" ["_law_pen_here", "_law_left"] (spMat 15)
abbrev CLp (P : Program) (w : World) (K : PySem.W.Frag) (mg : Str → Option Value) (base : Heap) : Prop := Ca P w K mg base 1 "_law_pairs" ["_law_signs"] spLp
abbrev CPin (P : Program) (w : World) (K : PySem.W.Frag) (mg : Str → Option Value) (base : Heap) : Prop := Ca P w K mg base 1 "pairs_in" ["text"] spPin
abbrev CPinK (P : Program) (w : World) (K : PySem.W.Frag) (mg : Str → Option Value) (base : Heap) : Prop := CaK P w K mg base 1 "pairs_in" ["text"] ["text"] (permV [0]) spPin
abbrev s_law : Stmt := topS 13
theorem sc_law : FnScope ["_law_script", "_law_pen_here", "_law_turn", "_law_good", "_law_at", "_law_strange", "_law_sign", "_law_some", "_law_signs", "_law_due", "_law_k"] ["_law_script"] (defScope s_law) :=
  ⟨rfl, rfl, rfl, by decide +kernel, rfl, by decide +kernel, by decide +kernel⟩
def spLaw (K : PySem.W.Frag) : Sp := fun vs H Q _ => ∃ (a : Addr) (ns : List Int), vs = [.ref a] ∧ SqL K H a (ns.map V.int) ∧ ns.length ≤ 63 ∧ ∀ H', Q (.bl true) H'
theorem ok_law {f : Addr} {fd : FuncData} (F : Fun K "law" "law" s_law f fd) (room : Room 18 callerA) (c_law_pen : CPen P w K mg base) (c_law_take : CTake P w K mg base) (c_law_pick : CPick P w K mg base) (c_law_matched : CMat P w K mg base) (c_law_pairs : CLp P w K mg base) (cpairs_in : CPin P w K mg base) (cpairs_inK : CPinK P w K mg base)
    (mrange : mg "range" = none) (mrepr : mg "repr" = none) (mlen : mg "len" = none) : FnG P w K mg base f fd ["_law_script"] (spLaw K) := by
  refine FnG.of (k := 17) F sc_law room (fun vs H Q E h => ?_) (fun cdv s H vs Q E hr hG h => ?_)
  · obtain ⟨a, ns, rfl, _⟩ := h
    rfl
  · obtain ⟨a, ns, rfl, hS, hns, q⟩ := h
    refine ⟨_, (pss_cons (ps_set (i := 1) sc_law.nd rfl (.inr rfl) (pe_ca c_law_pen (hr.mono (by decide)) (by rfl) (pa_cons (pv 0) pa_nil)))
      (pss_cons (ps_for PassesOwn.never rfl (pi_range1 (by rfl) mrange (pa_cons pe_int pa_nil)) (pg_name (i := 2) sc_law.nd rfl (.inl rfl)) (pss_cons (ps_set (i := 3) sc_law.nd rfl (.inl rfl) (pe_ca c_law_matched (hr.mono (by decide)) (by rfl) (pa_cons (pv 1) (pa_cons pe_int pa_nil))))
      (pss_cons (ps_set (i := 4) sc_law.nd rfl (.inl rfl) (pe_ca c_law_take (hr.mono (by decide)) (by rfl) (pa_cons (pv 1) (pa_cons (pe_op op_add (pe_callB call_len_str (by rfl) mlen (by decide +kernel) (pa_cons (pv 3) pa_nil)) pe_int) pa_nil))))
      (pss_cons (ps_set (i := 5) sc_law.nd rfl (.inl rfl) pe_str)
      (pss_cons (ps_set (i := 6) sc_law.nd rfl (.inl rfl) (pe_ca c_law_pick (hr.mono (by decide)) (by rfl) (pa_cons (pv 1) (pa_cons (pe_lst (pa_cons pe_str (pa_cons pe_str (pa_cons pe_str (pa_cons (pe_ca c_law_pick (hr.mono (by decide)) (by rfl) (pa_cons (pv 1) (pa_cons (pv 5) pa_nil))) (pa_cons (pe_ca c_law_pick (hr.mono (by decide)) (by rfl) (pa_cons (pv 1) (pa_cons (pv 5) pa_nil))) (pa_cons pe_str (pa_cons pe_str pa_nil)))))))) pa_nil))))
      (pss_cons (ps_set (i := 7) sc_law.nd rfl (.inl rfl) (pe_lst (pa_cons (pv 3) (pa_cons (pe_op op_add_str (pe_op op_add_str (pe_slice sl_str (pv 3) po_none (po_some (pv 4))) (pv 6)) (pe_slice sl_str (pv 3) (po_some (pv 4)) po_none)) (pa_cons (pe_op op_add_str (pe_slice sl_str (pv 3) po_none (po_some (pv 4))) (pe_slice sl_str (pv 3) (po_some (pe_op op_add (pv 4) pe_int)) po_none)) (pa_cons (pe_revS (pv 3)) (pa_cons (pe_op op_add_str (pv 3) (pv 3)) (pa_cons (pe_slice sl_str (pv 3) po_none (po_some (pv 4))) pa_nil))))))))
      (pss_cons (ps_expr (pe_bm PySem.F.plainAttrs_list PySem.F.slot_list_append PySem.F.type_list_append mt_append (pv 7) (pa_cons (pe_join pe_str (pe_lc (own := [("_law_k", 10)]) (g := gName 10) (by rfl) sc_law.nd (pi_range1 (by rfl) mrange (pa_cons (pe_ca c_law_take (hr.mono (by decide)) (by rfl) (pa_cons (pv 1) (pa_cons pe_int pa_nil))) pa_nil)) (blkOk_by (own := [("_law_k", 10)]) (N := ["_law_script", "_law_pen_here", "_law_turn", "_law_good", "_law_at", "_law_strange", "_law_sign", "_law_some", "_law_signs", "_law_due", "_law_k"]) (sc := defScope s_law) (by decide +kernel)) (fun _ _ _ _ _ => (pg_name (i := 10) sc_law.nd rfl (.inl rfl))) (fun _ _ _ _ _ => pts_nil) (fun _ _ _ _ _ => (pe_ca c_law_pick (hr.mono (by decide)) (by rfl) (pa_cons (pv 1) (pa_cons pe_str pa_nil)))))) pa_nil)))
      (pss_one (ps_for PassesOwn.never rfl (pi_list (pv 7)) (pg_name (i := 8) sc_law.nd rfl (.inl rfl)) (pss_cons (ps_set (i := 9) sc_law.nd rfl (.inl rfl) (pe_callB (call_show K hG hr.units) (by rfl) mrepr (by decide +kernel) (pa_cons (pe_ca c_law_pairs (hr.mono (by decide)) (by rfl) (pa_cons (pv 8) pa_nil)) pa_nil)))
      (pss_one (ps_if (PW.pt (pw_or (pt_cmpR op_ne (pe_callB (call_show K hG hr.units) (by rfl) mrepr (by decide +kernel) (pa_cons (pe_ca cpairs_in (hr.mono (by decide)) (by rfl) (pa_cons (pv 8) pa_nil)) pa_nil)) (pv 9) (nomark _)) (pw_or1 (pt_cmpR op_ne (pe_callB (call_show K hG hr.units) (by rfl) mrepr (by decide +kernel) (pa_cons (pe_caK cpairs_inK (hr.mono (by decide)) (by rfl) (pk_cons (pv 8) pk_nil)) pa_nil)) (pv 9) (nomark _))))) (pss_one (ps_ret pe_bl)) pss_nil))))))))))))
      (pss_one (ps_ret (pe_and (pe_cmpR (eqD K hr.units) (pe_ca cpairs_in (hr.mono (by decide)) (by rfl) (pa_cons pe_str pa_nil)) (pe_tup pa_nil) (nomark _)) (pe_one (pe_cmpR op_isN (pe_ca cpairs_in (hr.mono (by decide)) (by rfl) (pa_cons pe_str pa_nil)) pe_non (nomark _)))))))), ?_⟩
    refine ⟨_, rfl, a, ns, rfl, hS, hns, fun p c H1 hP1 => ?_⟩
    refine ⟨12, rfl, by decide, by decide, for_range (n := 12) (fun i σ H2 => ∃ (y2 y3 y4 y5 y6 y7 y8 y9 y10 : Option V) (n : Nat), σ = [some (.ref a), some (.ref p), y2, y3, y4, y5, y6, y7, y8, y9, y10] ∧ Pen H2 p c n ∧ n ≤ 4000 * i)
      ⟨_, _, _, _, _, _, _, _, _, 0, rfl, hP1, Nat.zero_le _⟩ (fun i σ H2 hi hv => ?_) (fun σ H2 hv => ?_)⟩
    · obtain ⟨y2, y3, y4, y5, y6, y7, y8, y9, y10, n, rfl, hP2, hn⟩ := hv
      have hb14 : bud 14 = 2958 := by decide
      refine ⟨_, rfl, p, c, n, 14, rfl, by decide, by decide, hP2, by omega, fun g H3 n3 hgl hlo k3 hP3 hn3 => ?_⟩
      refine ⟨_, rfl, _, rfl, g, rfl, szL (by omega), _, 1, rfl, rfl, p, c, _, n3, rfl, hP3, by omega, by omega, by omega, fun at4 H4 r4a r4b k4 hP4 => ?_⟩
      have hst : Low (Str.ofString " !#&'*+,-/0189:;<=>?@AZ[]^_`az{|}~") := by unfold Low; decide +kernel
      refine ⟨_, rfl, _, rfl, _, rfl, p, c, _, _, n3 + 1, rfl, .inr (.inr ⟨_, rfl, rfl⟩), by decide +kernel, by decide +kernel, hP4, by omega, fun v5 H5 hv5 k5 hP5 => ?_⟩
      refine ⟨_, rfl, _, rfl, p, c, _, _, n3 + 2, rfl, .inr (.inr ⟨_, rfl, rfl⟩), by decide +kernel, by decide +kernel, hP5, by omega, fun v6 H6 hv6 k6 hP6 => ?_⟩
      obtain ⟨x5, rfl, l5, o5⟩ := one_tx hst hv5
      obtain ⟨x6, rfl, l6, o6⟩ := one_tx hst hv6
      refine ⟨szL (show 7 ≤ 1000000 by decide), fun d7 hd7 => ?_⟩
      refine ⟨p, c, .ref d7, _, n3 + 3, rfl, .inl ⟨d7, rfl, upd_same⟩, (show 0 < 7 by decide), (show 7 < 1000000 by decide), hP6.new hd7, by omega, fun v7 H7 hv7 k7 hP7 => ?_⟩
      have h7 : ∃ x : Str, v7 = .str x ∧ x.length ≤ 2 ∧ Low x := by
        simp only [List.mem_cons, List.not_mem_nil, or_false] at hv7
        rcases hv7 with rfl | rfl | rfl | rfl | rfl | rfl | rfl
        · exact ⟨_, rfl, by decide +kernel, by unfold Low; decide +kernel⟩
        · exact ⟨_, rfl, by decide +kernel, by unfold Low; decide +kernel⟩
        · exact ⟨_, rfl, by decide +kernel, by unfold Low; decide +kernel⟩
        · exact ⟨_, rfl, l5, o5⟩
        · exact ⟨_, rfl, l6, o6⟩
        · exact ⟨_, rfl, by decide +kernel, by unfold Low; decide +kernel⟩
        · exact ⟨_, rfl, by decide +kernel, by unfold Low; decide +kernel⟩
      obtain ⟨sg, rfl, sgl, sgo⟩ := h7
      -- some = [...]
      have c1 := cutS_length g none (some at4)
      have c2 := cutS_length g (some at4) none
      have c3 := cutS_length g (some (at4 + 1)) none
      refine ⟨_, rfl, ?_⟩
      refine ⟨_, rfl, _, rfl, _, rfl, g, rfl, szL (by omega), _, rfl, _, _, rfl, rfl, szL (by omega), ?_⟩
      refine ⟨_, rfl, _, rfl, _, rfl, g, rfl, szL (by omega), _, _, rfl, rfl, szL (by rw [len_app]; omega), ?_⟩
      refine ⟨_, rfl, _, rfl, _, rfl, g, rfl, szL (by omega), ?_⟩
      refine ⟨_, rfl, _, rfl, _, 1, rfl, rfl, _, rfl, g, rfl, szL (by omega), _, _, rfl, rfl, szL (by omega), ?_⟩
      refine ⟨_, rfl, g, rfl, szL (by omega), fun rv rvl rvm => ?_⟩
      refine ⟨_, rfl, _, rfl, g, g, rfl, rfl, szL (by omega), ?_⟩
      refine ⟨_, rfl, _, rfl, _, rfl, g, rfl, szL (by omega), ?_⟩
      refine ⟨szL (show 6 ≤ 1000000 by decide), fun d8 hd8 => ?_⟩
      have hP8 := hP7.new (o := .lst [.str g, .str (cutS g none (some at4) ++ sg ++ cutS g (some at4) none), .str (cutS g none (some at4) ++ cutS g (some (at4 + 1)) none), .str rv, .str (g ++ g), .str (cutS g none (some at4))]) hd8
      have n8 := hP7.ne hd8
      refine ⟨_, rfl, .inl ⟨rfl, _, SqL.of upd_same⟩, ⟨_, rfl⟩, _, rfl, p, c, 9, n3 + 4, rfl, hP8, by omega, by decide, by decide, fun r9 H9 r9a r9b k9 hP9 => ?_⟩
      refine ⟨_, rfl, by omega, by omega, fun D hD => lc_range (lo := 0) (n := r9.toNat) (fun j H10 => ∃ ys : List Str, ys.length = j ∧ (∀ y ∈ ys, y.length ≤ 2 ∧ Low y) ∧ H10 D = some (.lst (ys.map V.str)) ∧ Kp p H9 H10 ∧ Pen H10 p c (n3 + 5 + j)) ⟨[], rfl, (fun y h => by cases h), upd_same, Kp.new hD, hP9.new hD⟩ (fun j H10 hj hv => ?_) (fun H10 hv => ?_)⟩
      · obtain ⟨ys, hyl, hyo, hL10, k10, hP10⟩ := hv
        have nD := hP9.ne hD
        refine ⟨rfl, _, rfl, p, c, _, _, n3 + 5 + j, rfl, .inr (.inr ⟨_, rfl, rfl⟩), by decide +kernel, by decide +kernel, hP10, by omega, fun v11 H11 hv11 k11 hP11 => ?_⟩
        obtain ⟨x11, rfl, l11, o11⟩ := one_tx (by unfold Low; decide +kernel) hv11
        refine ⟨_, k11 _ _ nD.1 hL10, szLt (by rw [List.length_map]; omega), ys ++ [x11], ?_, fun y hy => ?_, ?_, ?_, hP11.put nD.1 nD.2⟩
        · rw [List.length_append, hyl]
          rfl
        · rcases List.mem_append.mp hy with hy | hy
          · exact hyo y hy
          · rw [List.mem_singleton.mp hy]
            exact ⟨l11, o11⟩
        · rw [upd_same, List.map_append]
          rfl
        · exact (k10.trans k11).put hD
      · obtain ⟨ys, hyl, hyo, hL10, k10, hP10⟩ := hv
        have hj := join_le (ys := ys) (m := 2) fun y hy => (hyo y hy).1
        have hjo : Low (Txt.join "" ys) := by
          rw [join_str]
          exact join_low fun y hy => (hyo y hy).2
        have hL8 := (k9.trans k10) _ _ n8.1 (show (upd H7 d8 (.lst [.str g, .str (cutS g none (some at4) ++ sg ++ cutS g (some at4) none), .str (cutS g none (some at4) ++ cutS g (some (at4 + 1)) none), .str rv, .str (g ++ g), .str (cutS g none (some at4))])) d8 = _ from upd_same)
        refine ⟨"", D, ys, rfl, rfl, .inl (SqL.of hL10), fits_join (k := 10) (m := 2) (by omega) (fun y hy => (hyo y hy).1) (by decide), ?_⟩
        refine ⟨d8, _, _, rfl, rfl, hL8, szLt (show 6 < 1000000 by decide), ?_⟩
        have hP11 := hP10.put (o := .lst ([.str g, .str (cutS g none (some at4) ++ sg ++ cutS g (some at4) none), .str (cutS g none (some at4) ++ cutS g (some (at4 + 1)) none), .str rv, .str (g ++ g), .str (cutS g none (some at4))] ++ [.str (Txt.join "" ys)])) n8.1 n8.2
        have hall : ∀ v ∈ ([.str g, .str (cutS g none (some at4) ++ sg ++ cutS g (some at4) none), .str (cutS g none (some at4) ++ cutS g (some (at4 + 1)) none), .str rv, .str (g ++ g), .str (cutS g none (some at4))] ++ [.str (Txt.join "" ys)] : List V), Tx v := fun v hv => by
          simp only [List.mem_cons, List.not_mem_nil, or_false, List.mem_append] at hv
          rcases hv with (rfl | rfl | rfl | rfl | rfl | rfl) | rfl
          · exact ⟨_, rfl, by omega, hlo⟩
          · exact ⟨_, rfl, by rw [len_app, len_app]; omega, ((cutS_low hlo _ _).app sgo).app (cutS_low hlo _ _)⟩
          · exact ⟨_, rfl, by rw [len_app]; omega, (cutS_low hlo _ _).app (cutS_low hlo _ _)⟩
          · exact ⟨_, rfl, by omega, fun c hc => hlo c (rvm c hc)⟩
          · exact ⟨_, rfl, by rw [len_app]; omega, hlo.app hlo⟩
          · exact ⟨_, rfl, by omega, cutS_low hlo _ _⟩
          · exact ⟨_, rfl, by omega, hjo⟩
        refine ⟨_, rfl, d8, rfl, ⟨_, SqL.of upd_same⟩, for_list (K := K) (xs := [.str g, .str (cutS g none (some at4) ++ sg ++ cutS g (some at4) none), .str (cutS g none (some at4) ++ cutS g (some (at4 + 1)) none), .str rv, .str (g ++ g), .str (cutS g none (some at4))] ++ [.str (Txt.join "" ys)]) (fun i' σ H12 => ∃ y8 y9 : Option V, σ = [some (.ref a), some (.ref p), some (.int (0 + (i : Nat))), some (.str g), some (.int at4), some (.str (Str.ofString " !#&'*+,-/0189:;<=>?@AZ[]^_`az{|}~")), some (.str sg), some (.ref d8), y8, y9, y10] ∧ Ext (upd H10 d8 (.lst ([.str g, .str (cutS g none (some at4) ++ sg ++ cutS g (some at4) none), .str (cutS g none (some at4) ++ cutS g (some (at4 + 1)) none), .str rv, .str (g ++ g), .str (cutS g none (some at4))] ++ [.str (Txt.join "" ys)]))) H12)
          ⟨y8, y9, rfl, Ext.refl⟩ (fun i' σ H12 _ ⟨_, _, _, k⟩ => SqL.of (k _ _ upd_same)) (fun i' v σ H12 hi' hv => ?_) (fun σ H12 hv => ?_)⟩
        · obtain ⟨z8, z9, rfl, k12⟩ := hv
          obtain ⟨x, rfl, hxl, hxo⟩ := hall _ (List.mem_of_getElem? hi')
          have hsm := sm_res (x := x) (by omega)
          refine ⟨_, rfl, x, rfl, by omega, hxo, fun v13 H13 k13 hR13 => ?_⟩
          refine ⟨v13, _, _, _, rfl, dp_res hR13, hsm, by decide, by decide, ?_⟩
          refine ⟨_, rfl, x, rfl, by omega, fun v14 H14 k14 hR14 => ?_⟩
          refine ⟨v14, _, _, _, rfl, dp_res hR14, hsm, by decide, by decide, ?_⟩
          refine ⟨_, rfl, rfl, _, rfl, iteNS rfl ?_⟩
          refine ⟨_, rfl, rfl, rfl, x, rfl, by omega, fun v15 H15 k15 hR15 => ?_⟩
          refine ⟨v15, _, _, _, rfl, dp_res hR15, hsm, by decide, by decide, ?_⟩
          refine ⟨_, rfl, rfl, _, rfl, iteNS rfl ?_⟩
          exact ⟨_, _, rfl, ((k12.trans k13).trans k14).trans k15⟩
        · obtain ⟨z8, z9, rfl, k12⟩ := hv
          exact ⟨_, _, _, _, _, _, _, _, _, _, rfl, hP11.ext k12, by omega⟩
    · obtain ⟨y2, y3, y4, y5, y6, y7, y8, y9, y10, n, rfl, hP2, hn⟩ := hv
      refine ⟨_, rfl, (show 0 ≤ 1000 by decide), fun v3 H3 k3 hR3 => ?_⟩
      rw [ask_nil] at hR3
      obtain ⟨a3, vs3, rfl, ha3, hp3⟩ := hR3
      cases hp3
      refine ⟨Nat.zero_le _, fun t ht => ?_⟩
      refine ⟨.tuple [], .tuple [], .tup (SqT.of (Ext.new ht _ _ ha3)) .nil, .tup (SqT.of upd_same) .nil, by decide, by decide, ?_⟩
      refine ⟨_, rfl, iteT ?_⟩
      refine ⟨_, rfl, by decide +kernel, fun v4 H4 k4 hR4 => ?_⟩
      rw [ask_bad] at hR4
      have hR4 : v4 = .non := hR4
      rw [hR4]
      exact ⟨rfl, q _⟩
end
end Pf


namespace Pf
open PySem PySem.Spec PyProof.Rows L2
/-! ### what the top has written; the law's own head -/
theorem all_mk {l : PySem.W.OpenLaw} {w : World} {K : PySem.W.Frag} {h : Heap} {mg : Str → Option Value} {fa f0 f1 f2 f3 f4 f5 f6 : Addr} (X : K.In h) (G : h.Ns mainGlobals mg) (hfa : mg "law" = some (.ref fa))
    {od0 an0 od1 an1 od2 an2 od3 an3 od4 an4 od5 an5 od6 an6 : Option Addr} {sl0 sl1 sl2 sl3 sl4 sl5 sl6 : Array (Option Value)} {oc0 kV0 dc0 pm0 cd0 ct0 oc1 kV1 dc1 pm1 cd1 ct1 oc2 kV2 dc2 pm2 cd2 ct2 oc3 kV3 dc3 pm3 cd3 ct3 oc4 kV4 dc4 pm4 cd4 ct4 oc5 kV5 dc5 pm5 cd5 ct5 oc6 kV6 dc6 pm6 cd6 ct6 : Value}
    (a0 : PySem.W.nsIn K mainGlobals "_law_pen" = some (some (.ref f0))) (l0 : K.lookup f0 = some ⟨oc0, od0, .func (PySem.W.fnOf "_law_pen" "_law_pen" (defArgs s_law_pen) (defBody s_law_pen) (defScope s_law_pen) .none kV0 dc0 pm0 an0 cd0 ct0), sl0⟩) (c0 : PySem.W.codeIn K cd0 "_law_pen" = true) (k0 : PySem.W.keepIn K (.ref f0) = true)
    (a1 : PySem.W.nsIn K mainGlobals "_law_take" = some (some (.ref f1))) (l1 : K.lookup f1 = some ⟨oc1, od1, .func (PySem.W.fnOf "_law_take" "_law_take" (defArgs s_law_take) (defBody s_law_take) (defScope s_law_take) .none kV1 dc1 pm1 an1 cd1 ct1), sl1⟩) (c1 : PySem.W.codeIn K cd1 "_law_take" = true) (k1 : PySem.W.keepIn K (.ref f1) = true)
    (a2 : PySem.W.nsIn K mainGlobals "_law_pick" = some (some (.ref f2))) (l2 : K.lookup f2 = some ⟨oc2, od2, .func (PySem.W.fnOf "_law_pick" "_law_pick" (defArgs s_law_pick) (defBody s_law_pick) (defScope s_law_pick) .none kV2 dc2 pm2 an2 cd2 ct2), sl2⟩) (c2 : PySem.W.codeIn K cd2 "_law_pick" = true) (k2 : PySem.W.keepIn K (.ref f2) = true)
    (a3 : PySem.W.nsIn K mainGlobals "_law_matched" = some (some (.ref f3))) (l3 : K.lookup f3 = some ⟨oc3, od3, .func (PySem.W.fnOf "_law_matched" "_law_matched" (defArgs s_law_matched) (defBody s_law_matched) (defScope s_law_matched) .none kV3 dc3 pm3 an3 cd3 ct3), sl3⟩) (c3 : PySem.W.codeIn K cd3 "_law_matched" = true) (k3 : PySem.W.keepIn K (.ref f3) = true)
    (a4 : PySem.W.nsIn K mainGlobals "_law_pairs" = some (some (.ref f4))) (l4 : K.lookup f4 = some ⟨oc4, od4, .func (PySem.W.fnOf "_law_pairs" "_law_pairs" (defArgs s_law_pairs) (defBody s_law_pairs) (defScope s_law_pairs) .none kV4 dc4 pm4 an4 cd4 ct4), sl4⟩) (c4 : PySem.W.codeIn K cd4 "_law_pairs" = true) (k4 : PySem.W.keepIn K (.ref f4) = true)
    (a5 : PySem.W.nsIn K mainGlobals "pairs_in" = some (some (.ref f5))) (l5 : K.lookup f5 = some ⟨oc5, od5, .func (PySem.W.fnOf "pairs_in" "pairs_in" (defArgs s_pairs_in) (defBody s_pairs_in) (defScope s_pairs_in) .none kV5 dc5 pm5 an5 cd5 ct5), sl5⟩) (c5 : PySem.W.codeIn K cd5 "pairs_in" = true) (k5 : PySem.W.keepIn K (.ref f5) = true)
    (a6 : PySem.W.nsIn K mainGlobals "law" = some (some (.ref f6))) (l6 : K.lookup f6 = some ⟨oc6, od6, .func (PySem.W.fnOf "law" "law" (defArgs s_law) (defBody s_law) (defScope s_law) .none kV6 dc6 pm6 an6 cd6 ct6), sl6⟩) (c6 : PySem.W.codeIn K cd6 "law" = true) (k6 : PySem.W.keepIn K (.ref f6) = true)
    (z0 : PySem.W.nsIn K mainGlobals "len" = some none)
    (z1 : PySem.W.nsIn K mainGlobals "abs" = some none)
    (z2 : PySem.W.nsIn K mainGlobals "int" = some none)
    (z3 : PySem.W.nsIn K mainGlobals "tuple" = some none)
    (z4 : PySem.W.nsIn K mainGlobals "range" = some none)
    (z5 : PySem.W.nsIn K mainGlobals "sorted" = some none)
    (z6 : PySem.W.nsIn K mainGlobals "repr" = some none)
    (z7 : PySem.W.nsIn K mainGlobals "enumerate" = some none) :
    ∃ fd : FuncData, (∀ (s : Shared) (v : Value), BindsTo s fd ⟨[v], []⟩ [("_law_script", v)]) ∧ ∀ base : Heap, K.In base → base.Ns mainGlobals mg → FnG l.prog w K mg base fa fd ["_law_script"] (spLaw K) := by
  have e := hfa.symm.trans (PySem.W.mg_of X G a6)
  cases e
  have F0 := fun_mk (st := s_law_pen) l0 c0 k0
  have F1 := fun_mk (st := s_law_take) l1 c1 k1
  have F2 := fun_mk (st := s_law_pick) l2 c2 k2
  have F3 := fun_mk (st := s_law_matched) l3 c3 k3
  have F4 := fun_mk (st := s_law_pairs) l4 c4 k4
  have F5 := fun_mk (st := s_pairs_in) l5 c5 k5
  have F6 := fun_mk (st := s_law) l6 c6 k6
  have mlen := PySem.W.mg_none_of X G z0
  have mabs := PySem.W.mg_none_of X G z1
  have mint := PySem.W.mg_none_of X G z2
  have mtuple := PySem.W.mg_none_of X G z3
  have mrange := PySem.W.mg_none_of X G z4
  have msorted := PySem.W.mg_none_of X G z5
  have mrepr := PySem.W.mg_none_of X G z6
  have menumerate := PySem.W.mg_none_of X G z7
  refine ⟨PySem.W.fnOf "law" "law" (defArgs s_law) (defBody s_law) (defScope s_law) .none kV6 dc6 pm6 an6 cd6 ct6, fun s v => .of_eq rfl, fun base _ _ => ?_⟩
  have c_law_pen : Ca l.prog w K mg base 1 "_law_pen" ["_law_script"] (spPen K) := ⟨f0, _, ok_pen F0, PySem.W.mg_of X G a0, F0.kp, F0.binds fun _ _ _ _ _ _ us hl => match us, hl with | [_], _ => rfl⟩
  have c_law_take : Ca l.prog w K mg base 1 "_law_take" ["_law_pen_here", "_law_size"] spTake := ⟨f1, _, ok_take F1 mlen mabs, PySem.W.mg_of X G a1, F1.kp, F1.binds fun _ _ _ _ _ _ us hl => match us, hl with | [_, _], _ => rfl⟩
  have c_law_pick : Ca l.prog w K mg base 2 "_law_pick" ["_law_pen_here", "_law_some"] spPick := ⟨f2, _, ok_pick F2 c_law_take mlen, PySem.W.mg_of X G a2, F2.kp, F2.binds fun _ _ _ _ _ _ us hl => match us, hl with | [_, _], _ => rfl⟩
  have c_law_matched : Ca l.prog w K mg base 17 "_law_matched" ["_law_pen_here", "_law_left"] (spMat 15) := ⟨f3, _, ok_matched F3 (F3.binds fun _ _ _ _ _ _ us hl => match us, hl with | [_, _], _ => rfl) (PySem.W.mg_of X G a3) c_law_take mlen 15, PySem.W.mg_of X G a3, F3.kp, F3.binds fun _ _ _ _ _ _ us hl => match us, hl with | [_, _], _ => rfl⟩
  have c_law_pairs : Ca l.prog w K mg base 1 "_law_pairs" ["_law_signs"] spLp := ⟨f4, _, ok_lp F4 menumerate mtuple msorted mlen mrange mint, PySem.W.mg_of X G a4, F4.kp, F4.binds fun _ _ _ _ _ _ us hl => match us, hl with | [_], _ => rfl⟩
  have cpairs_in : Ca l.prog w K mg base 1 "pairs_in" ["text"] spPin := ⟨f5, _, ok_pin F5 menumerate mtuple msorted, PySem.W.mg_of X G a5, F5.kp, F5.binds fun _ _ _ _ _ _ us hl => match us, hl with | [_], _ => rfl⟩
  have cpairs_inK : CaK l.prog w K mg base 1 "pairs_in" ["text"] ["text"] (permV [0]) spPin := ⟨f5, _, permU [0], ok_pin F5 menumerate mtuple msorted, PySem.W.mg_of X G a5, F5.kp, kbn_of [0] fun ws hw => match ws, hw with | [_], _ => rfl⟩
  exact ok_law F6 ⟨rfl, by decide, by decide⟩ c_law_pen c_law_take c_law_pick c_law_matched c_law_pairs cpairs_in cpairs_inK mrange mrepr mlen
end Pf
open PySem PySem.W PyProof.Rows
set_option maxHeartbeats 0 in
theorem PySem.Challenge.cw_pairfolds_k09_brackets_read_holds : PySem.Challenge.rw_pairfolds_k09_brackets_read.Holds := by
  w_on; o_law; k_head; (case hw => w_witness2)
  k_fill
  refine Pf.walk_g (l := PySem.Challenge.rw_pairfolds_k09_brackets_read) (n := 63) (x := "_law_script") (sp := fun w => Pf.spLaw _) rfl (by decide) rfl (fun w h Y => PySem.W.kIn_of Y) ?F (fun _ _ a ns hl hS => ⟨a, ns, rfl, hS, hl, fun _ => rfl⟩)
  case F =>
    intro w mg fa h KX G hmg
    refine' Pf.all_mk KX G hmg ?a0 ?l0 ?c0 ?k0 ?a1 ?l1 ?c1 ?k1 ?a2 ?l2 ?c2 ?k2 ?a3 ?l3 ?c3 ?k3 ?a4 ?l4 ?c4 ?k4 ?a5 ?l5 ?c5 ?k5 ?a6 ?l6 ?c6 ?k6 ?z0 ?z1 ?z2 ?z3 ?z4 ?z5 ?z6 ?z7
    (case a0 => k_is); (case l0 => k_is); (case c0 => k_is); (case k0 => k_is); (case a1 => k_is); (case l1 => k_is); (case c1 => k_is); (case k1 => k_is); (case a2 => k_is); (case l2 => k_is); (case c2 => k_is); (case k2 => k_is); (case a3 => k_is); (case l3 => k_is); (case c3 => k_is); (case k3 => k_is); (case a4 => k_is); (case l4 => k_is); (case c4 => k_is); (case k4 => k_is); (case a5 => k_is); (case l5 => k_is); (case c5 => k_is); (case k5 => k_is); (case a6 => k_is); (case l6 => k_is); (case c6 => k_is); (case k6 => k_is); (case z0 => k_is); (case z1 => k_is); (case z2 => k_is); (case z3 => k_is); (case z4 => k_is); (case z5 => k_is); (case z6 => k_is); (case z7 => k_is)
