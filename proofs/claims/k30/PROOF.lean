import PyProof.Rows.All
import Wide.All
import OpenK.AllK
import Wide.FinOn
import HandS.ForMost
import HandS.Defaults
import HandS.TupMul
import HandS.TupAny
import HandS.IsInst
import HandS.Conv
import KE.SortData
import HandS.Wide
import PyProof.ReprLen
import PySem.Challenge.RW_pairfolds_k30_shares_reckoned
set_option Elab.async false
set_option linter.all false
set_option maxRecDepth 100000
set_option maxHeartbeats 4000000
namespace Pf
open PySem PySem.Spec PyProof.Rows L2

/-! ### a def that may be called: its promise, its name, its binding -/
structure Ca (P : Program) (w : World) (K : PySem.W.Frag) (mg : Str → Option Value) (base : Heap) (k : Nat) (x : Str) (ps : List Str) (sp : Sp) : Prop where
  ex : ∃ f fd, FnOk P w K mg base CX0 k f fd ps sp ∧ mg x = some (.ref f) ∧ PySem.W.keepIn K (.ref f) = true ∧ Binds K fd ps []
structure CaK (P : Program) (w : World) (K : PySem.W.Frag) (mg : Str → Option Value) (base : Heap) (k : Nat) (x : Str) (ps ks : List Str) (gV : List V → List V → List V) (sp : Sp) : Prop where
  ex : ∃ f fd g, FnOk P w K mg base CX0 k f fd ps sp ∧ mg x = some (.ref f) ∧ PySem.W.keepIn K (.ref f) = true ∧ KBn K fd ps 0 ks g gV
section
variable {X : Cx} {k : Nat} {x : Str} {ps ks : List Str} {sp : Sp} {p pos : Pos} {e : Expr} {es : List Expr} {kws : List Keyword} {t tk : TA} {gV : List V → List V → List V}
theorem pe_ca (c : Ca X.prog X.w X.K X.mg X.base k x ps sp) (hr : Room k X.A) (hg : Gl X x) (ha : PA X (e :: es) t) (hdb : (x == ("__debug__" : Str)) = false := by decide)
    (he : starEach (e :: es) X.env = (false, eval e X.env) :: starEach es X.env := by rfl) (hpl : (backTo pos (starEach es X.env)).any (·.1) = false := by rfl) :
    PE X (.Call (.Name x p) (e :: es) [] pos) (tCall sp [] E0 t) := by
  obtain ⟨f, fd, F, hm, hk, hb⟩ := c.ex
  exact pe_call F hr hg hm hk hb .nil pass0 ha hdb he hpl
theorem pe_ca0 (c : Ca X.prog X.w X.K X.mg X.base k x ps sp) (hr : Room k X.A) (hg : Gl X x) (hdb : (x == ("__debug__" : Str)) = false := by decide) :
    PE X (.Call (.Name x p) [] [] pos) (tCall sp [] E0 tNil) := by
  obtain ⟨f, fd, F, hm, hk, hb⟩ := c.ex
  exact pe_call0 F hr hg hm hk hb .nil pass0 hdb
/-- f(k = v, ..), by names alone -/
theorem pe_caK (c : CaK X.prog X.w X.K X.mg X.base k x ps ks gV sp) (hr : Room k X.A) (hg : Gl X x) (hkw : PK X kws tk)
    (hall : (backToKw pos (keywordEach kws X.env)).all (·.1.isSome) = true := by rfl) (hks : (backToKw pos (keywordEach kws X.env)).filterMap (·.1) = ks := by rfl) (hdb : (x == ("__debug__" : Str)) = false := by decide)
    (hpl : ((backTo pos (starEach [] X.env)).any (·.1) || (backToKw pos (keywordEach kws X.env)).any (·.1.isNone)) = false := by rfl) :
    PE X (.Call (.Name x p) [] kws pos) (tCallN 0 ks.length sp gV E0 tNil tk) := by
  obtain ⟨f, fd, g, F, hm, hk, hb⟩ := c.ex
  refine ⟨fun pins s σ H Q I h => ?_⟩
  refine wpAny_Call_Name_kw (ld_glob I hg hm ?_ hdb)
  refine PySem.W.callWith_KW0 (h₀ := X.base) I.ok.mod.kin hk hall ?_ hpl
  refine thn (hkw.run pos pins s σ H _ I h) fun ws s2 ⟨zs, H2, I2, rz, l1, l2, q2⟩ => ⟨I2.kIn, ?_⟩
  rw [hks]
  exact run_fnN (us := []) (vs := []) F hr hb pass0 I2 .nil rz rfl l2 q2
end

/-! ### rules that read a list or a tuple, the written part by its letter -/
theorem ixL (K : PySem.W.Frag) {X : Cx} (h : X.K = K := by rfl) : IxR X (rIxL K) := h ▸ ix_list
theorem ixT (K : PySem.W.Frag) {X : Cx} (h : X.K = K := by rfl) : IxR X (rIxT K) := h ▸ ix_tup
theorem ixA (K : PySem.W.Frag) {X : Cx} (h : X.K = K := by rfl) : IxR X (rIx K) := h ▸ ix_seq
def rLenA (K : PySem.W.Frag) : List V → Hp → VK → Prop := fun xs H Q => ∃ x n, xs = [x] ∧ LenV K x H n ∧ Q (.int n) H
theorem lenA (K : PySem.W.Frag) {X : Cx} (h : X.K = K := by rfl) : CallR X (.builtin "len") (rLenA K) := by
  subst h
  exact call_len
theorem repT (K : PySem.W.Frag) {X : Cx} (h : X.K = K := by rfl) : OpR X (binaryOp .Mult) (rRepT K) := h ▸ op_repT
theorem slL (K : PySem.W.Frag) {X : Cx} (h : X.K = K := by rfl) : SlR X (rSlL K) := h ▸ sl_list
theorem slT (K : PySem.W.Frag) {X : Cx} (h : X.K = K := by rfl) : SlR X (rSlT K) := h ▸ sl_tup
theorem eqD (K : PySem.W.Frag) {X : Cx} (hu : X.A.units + 64 < cLine) (h : X.K = K := by rfl) : OpR X (compareOp .Eq) (rEqD K) := h ▸ op_eqD hu
theorem neD (K : PySem.W.Frag) {X : Cx} (hu : X.A.units + 64 < cLine) (h : X.K = K := by rfl) : OpR X (compareOp .NotEq) (rNeD K) := h ▸ op_neD hu
theorem catT (K : PySem.W.Frag) {X : Cx} (h : X.K = K := by rfl) : OpR X (binaryOp .Add) (rCatT K) := h ▸ op_catT
theorem catA (K : PySem.W.Frag) {X : Cx} (h : X.K = K := by rfl) : OpR X (binaryOp .Add) (rCatA K) := h ▸ op_catA
theorem slA (K : PySem.W.Frag) {X : Cx} (h : X.K = K := by rfl) : SlR X (rSlA K) := h ▸ sl_tupA
theorem isi1 (K : PySem.W.Frag) {X : Cx} (h : X.K = K := by rfl) : CallR X (.builtin "isinstance") (rIsi K) := h ▸ call_isi
theorem pgT (K : PySem.W.Frag) {X : Cx} {es : List Expr} {k n : Nat} {t : TGs} {pos : Pos} (hc : X.calm = true) (h : PGs X es t) (hK : X.K = K := by rfl) (hn : (assignEach es X.env).length = n := by rfl) (hst : (assignEach es X.env).findIdx? (·.1) = none := by rfl) :
    PG X (.Tuple es k pos) (gTup K n t) := by
  subst hK
  exact pg_tup hc h hn hst
def rLen (K : PySem.W.Frag) : List V → Hp → VK → Prop := fun xs H Q => ∃ p ys, xs = [.ref p] ∧ (SqL K H p ys ∨ SqT K H p ys) ∧ Q (.int ys.length) H
theorem lenQ (K : PySem.W.Frag) {X : Cx} (h : X.K = K := by rfl) : CallR X (.builtin "len") (rLen K) := by
  subst h
  exact call_len_seq
def rListOf (K : PySem.W.Frag) : List V → Hp → VK → Prop := fun xs H Q => ∃ p ys, xs = [.ref p] ∧ (SqL K H p ys ∨ SqT K H p ys) ∧ ∀ l, H l = none → Q (.ref l) (upd H l (.lst ys))
theorem listOf (K : PySem.W.Frag) {X : Cx} (h : X.K = K := by rfl) : CallR X (.type "list") (rListOf K) := by
  subst h
  exact call_list_of
def rTupleOf (K : PySem.W.Frag) : List V → Hp → VK → Prop := fun xs H Q => ∃ p ys, xs = [.ref p] ∧ ((SqL K H p ys ∧ ∀ l, H l = none → Q (.ref l) (upd H l (.tup ys))) ∨ (SqT K H p ys ∧ Q (.ref p) H))
theorem tupleOf (K : PySem.W.Frag) {X : Cx} (h : X.K = K := by rfl) : CallR X (.type "tuple") (rTupleOf K) := by
  subst h
  exact call_tuple_of

/-! ### repr of a plain thing -/
def repV : V → Str
  | .non => "None"
  | .bl b => if b then "True" else "False"
  | .int i => toString i
  | _ => ""
def RepOk : V → Prop
  | .non => True
  | .bl _ => True
  | .int i => i.natAbs.log2 < 1920
  | _ => False
theorem call_repr {X : Cx} : CallR X (.builtin "repr") (fun xs H Q => ∃ v, xs = [v] ∧ RepOk v ∧ Q (.str (repV v)) H) := by
  intro pins s σ H xs us Q I r h
  obtain ⟨v, rfl, hz, q⟩ := h
  cases v with
  | non =>
    obtain ⟨u, rfl, rfl⟩ := vals1 r
    exact PySem.P.repr_of_none ⟨.str _, H, I.tok _, ⟨_, rfl⟩, q⟩
  | bl b =>
    obtain ⟨u, rfl, rfl⟩ := vals1 r
    exact PySem.P.repr_of_bool ⟨.str _, H, I.tok _, ⟨_, rfl⟩, by cases b <;> exact q⟩
  | int i =>
    obtain ⟨u, rfl, t, rfl⟩ := vals1 r
    exact PySem.P.repr_of_int hz ⟨.str _, H, I.tok _, ⟨_, rfl⟩, q⟩
  | str _ => exact hz.elim
  | byt _ => exact hz.elim
  | flt _ => exact hz.elim
  | ref _ => exact hz.elim
  | ty _ => exact hz.elim

/-! ### texts of small letters -/
def Small (x : Str) : Prop := ∀ c ∈ x.cps.toList, 97 ≤ c ∧ c ≤ 122
theorem Small.app {a b : Str} (ha : Small a) (hb : Small b) : Small (a ++ b) := fun c h => by
  rw [Str.cps_append, Array.toList_append, List.mem_append] at h
  rcases h with h | h
  · exact ha c h
  · exact hb c h
theorem Small.one {c : Nat} (h : 97 ≤ c ∧ c ≤ 122) : Small ⟨#[c]⟩ := fun d hd => by
  have e : d = c := by simpa using hd
  subst e
  exact h
theorem Small.at {x : Str} (h : Small x) {i c : Nat} (hi : x.cps[i]? = some c) : 97 ≤ c ∧ c ≤ 122 := by
  refine h c ?_
  have := Array.mem_of_getElem? hi
  exact Array.mem_toList_iff.mpr this
theorem Small.ok {x : Str} (h : Small x) : PyData.strOk x = true := by
  show x.cps.all (· < 0x110000) = true
  rw [Array.all_eq_true_iff_forall_mem]
  intro c hc
  have := h c (Array.mem_toList_iff.mpr hc)
  exact decide_eq_true (by omega)
/-! ### a chain of three comparisons -/
def tChain3 (r1 r2 r3 : R2) (ta tb tc td : TE) : TE := fun σ H Q => ta σ H fun x H1 => tb σ H1 fun y H2 => r1 x y H2 fun z H3 => ∃ k, z = .bl k ∧
  (if k = true then tc σ H3 fun u H4 => r2 y u H4 fun z2 H5 => ∃ k2, z2 = .bl k2 ∧ (if k2 = true then td σ H5 fun v H6 => r3 u v H6 Q else Q (.bl false) H5) else Q (.bl false) H3)
theorem pt_chain3 {X : Cx} {o1 o2 o3 : CmpOp} {r1 r2 r3 : R2} {a b c d : Expr} {ta tb tc td : TE} {pos : Pos} (h1 : OpR X (compareOp o1) r1) (h2 : OpR X (compareOp o2) r2) (h3 : OpR X (compareOp o3) r3)
    (ha : PE X a ta) (hb : PE X b tb) (hc : PE X c tc) (hd : PE X d td) (hm : lastMarks [o1, o2, o3] [b, c, d] = false := by with_unfolding_all rfl) :
    PT X (.Compare a [o1, o2, o3] [b, c, d] pos) (tTest (tChain3 r1 r2 r3 ta tb tc td)) := by
  refine ⟨fun pins s σ H Q I h => isTrue_chain (thn (ha.run pins s σ H _ I h) fun v s1 ⟨x, H1, I1, e1, q1⟩ => test_link ?_) hm⟩
  refine thn (hb.run pins s1 σ H1 _ I1 q1) fun u s2 ⟨y, H2, I2, e2, q2⟩ => ?_
  refine thn (h1 pins s2 σ H2 x y v u _ I2 e1 e2 q2) fun dv s3 ⟨z, H3, I3, e3, k, ek, q3⟩ => ?_
  subst ek
  cases e3
  refine wpAny_truthy_bool ?_
  cases k with
  | false =>
    obtain ⟨k', e', q'⟩ := q3
    cases e'
    exact ite_ff ⟨H3, I3, q'⟩
  | true =>
    refine ite_tt (test_link ?_)
    refine thn (hc.run pins s3 σ H3 _ I3 q3) fun u4 s4 ⟨y4, H4, I4, e4, q4⟩ => ?_
    refine thn (h2 pins s4 σ H4 y y4 u u4 _ I4 e2 e4 q4) fun dv5 s5 ⟨z5, H5, I5, e5, k5, ek5, q5⟩ => ?_
    subst ek5
    cases e5
    refine wpAny_truthy_bool ?_
    cases k5 with
    | false =>
      obtain ⟨k', e', q'⟩ := q5
      cases e'
      exact ite_ff ⟨H5, I5, q'⟩
    | true =>
      refine ite_tt (test_last ?_)
      refine thn (hd.run pins s5 σ H5 _ I5 q5) fun u6 s6 ⟨y6, H6, I6, e6, q6⟩ => ?_
      refine thn (h3 pins s6 σ H6 y4 y6 u4 u6 _ I6 e4 e6 q6) fun dv7 s7 ⟨z7, H7, I7, e7, k7, ek7, q7⟩ => ?_
      subst ek7
      cases e7
      exact wpAny_truthy_bool ⟨H7, I7, q7⟩
theorem inSeq (K : PySem.W.Frag) {X : Cx} (h : X.K = K := by rfl) : OpR X (compareOp .In) (rIn K false) := h ▸ op_in_seq
theorem notInSeq (K : PySem.W.Frag) {X : Cx} (h : X.K = K := by rfl) : OpR X (compareOp .NotIn) (rIn K true) := h ▸ op_notIn_seq
/-! ### join with nothing between -/
theorem join_str (ys : List Str) : Txt.join "" ys = Str.join "" ys := eq_of_beq (join_closes (ys := ys) rfl)
theorem sjoin_le {m : Nat} : ∀ {ys : List Str}, (∀ y ∈ ys, y.length ≤ m) → (Str.join "" ys).length ≤ ys.length * m
  | [], _ => Nat.zero_le _
  | [y], h => by
    have := h y (List.mem_cons_self ..)
    show y.length ≤ 1 * m
    omega
  | y :: z :: r, h => by
    have h1 := h y (List.mem_cons_self ..)
    have h2 := sjoin_le (ys := z :: r) fun x hx => h x (List.mem_cons_of_mem _ hx)
    show (y ++ "" ++ Str.join "" (z :: r)).length ≤ _
    rw [Str.length_append, Str.length_append, List.length_cons, Nat.succ_mul]
    show y.length + 0 + _ ≤ _
    omega
theorem small_nil : Small "" := by
  unfold Small
  decide +kernel
theorem sjoin_small : ∀ {ys : List Str}, (∀ y ∈ ys, Small y) → Small (Str.join "" ys)
  | [], _ => small_nil
  | [y], h => h y (List.mem_cons_self ..)
  | y :: z :: r, h => ((h y (List.mem_cons_self ..)).app small_nil).app (sjoin_small (ys := z :: r) fun x hx => h x (List.mem_cons_of_mem _ hx))
theorem join_le {m : Nat} {ys : List Str} (h : ∀ y ∈ ys, y.length ≤ m) : (Txt.join "" ys).length ≤ ys.length * m := by
  rw [join_str]
  exact sjoin_le h
theorem join_small {ys : List Str} (h : ∀ y ∈ ys, Small y) : Small (Txt.join "" ys) := by
  rw [join_str]
  exact sjoin_small h

/-! ### a walk over a text's signs -/
theorem for_str {x : Str} {g : TG} {tb : TS} {D : Ends} {σ : L2.St} {H : Hp} (Pv : Nat → L2.St → Hp → Prop) (h0 : Pv 0 σ H)
    (hs : ∀ i c σ H, x.cps[i]? = some c → Pv i σ H → g (.str ⟨#[c]⟩) σ H fun σ2 H2 => tb { D with nx := Pv (i + 1), ct := Pv (i + 1), bk := D.nx } σ2 H2) (hd : ∀ σ H, Pv x.cps.size σ H → D.nx σ H) :
    ∃ W : Nat → Nat → L2.St → Hp → Prop, (∃ m, W 0 m σ H) ∧ ∀ i m σ H, W i m σ H →
      ((Its x).stop i H ∧ D.nx σ H) ∨ ((Its x).go i H ∧ ∃ N : L2.St → Hp → Prop, (∀ σ' H', N σ' H' → ∃ m', m' < m ∧ W (i + 1) m' σ' H') ∧ ∀ y H', (Its x).yld i H y H' → g y σ H' fun σ2 H2 => tb { D with nx := N, ct := N, bk := D.nx } σ2 H2) := by
  refine ⟨fun i m σ H => m = x.cps.size - i ∧ i ≤ x.cps.size ∧ Pv i σ H, ⟨x.cps.size, by simp, Nat.zero_le _, h0⟩, ?_⟩
  rintro i m σ H ⟨rfl, hi, p⟩
  by_cases hlt : i < x.cps.size
  · refine .inr ⟨hlt, Pv (i + 1), fun σ' H' p' => ⟨x.cps.size - (i + 1), by omega, rfl, hlt, p'⟩, fun y H' z => ?_⟩
    obtain ⟨e, c, hc, ev⟩ := z
    subst e ev
    exact hs i c σ _ hc p
  · have e : i = x.cps.size := by omega
    subst e
    exact .inl ⟨Nat.le_refl _, hd σ H p⟩
theorem lc_str {x : Str} {g : TG} {tt : TT} {te : TE} {vs : List Nat} {σ : L2.St} {H1 : Hp} {D : Addr} {Qd : Hp → Prop} (Pv : Nat → Hp → Prop) (h0 : Pv 0 (upd H1 D (.lst [])))
    (hs : ∀ i c H, x.cps[i]? = some c → Pv i H → g (.str ⟨#[c]⟩) (wipe σ vs) H fun σ2 H2 => wipe σ2 vs = wipe σ vs ∧ tt σ2 H2 fun b H3 =>
      if b = true then te σ2 H3 fun y H4 => ∃ acc, H4 D = some (.lst acc) ∧ acc.length < sizeLine ∧ Pv (i + 1) (upd H4 D (.lst (acc ++ [y]))) else Pv (i + 1) H3) (hd : ∀ H, Pv x.cps.size H → Qd H) :
    ∃ W : Nat → Nat → Hp → Prop, (∃ m, W 0 m (upd H1 D (.lst []))) ∧ ∀ i m H, W i m H →
      ((Its x).stop i H ∧ Qd H) ∨ ((Its x).go i H ∧ ∃ Nx : Hp → Prop, (∀ H', Nx H' → ∃ m', m' < m ∧ W (i + 1) m' H') ∧ ∀ y H', (Its x).yld i H y H' → g y (wipe σ vs) H' fun σ2 H2 => wipe σ2 vs = wipe σ vs ∧ tt σ2 H2 fun b H3 =>
        if b = true then te σ2 H3 fun y H4 => ∃ acc, H4 D = some (.lst acc) ∧ acc.length < sizeLine ∧ Nx (upd H4 D (.lst (acc ++ [y]))) else Nx H3) := by
  refine ⟨fun i m H => m = x.cps.size - i ∧ i ≤ x.cps.size ∧ Pv i H, ⟨x.cps.size, by simp, Nat.zero_le _, h0⟩, ?_⟩
  rintro i m H ⟨rfl, hi, p⟩
  by_cases hlt : i < x.cps.size
  · refine .inr ⟨hlt, Pv (i + 1), fun H' p' => ⟨x.cps.size - (i + 1), by omega, rfl, hlt, p'⟩, fun y H' z => ?_⟩
    obtain ⟨e, c, hc, ev⟩ := z
    subst e ev
    exact hs i c _ hc p
  · have e : i = x.cps.size := by omega
    subst e
    exact .inl ⟨Nat.le_refl _, hd H p⟩

/-! ### what stays in the heap, but the thing at p -/
def Kp (p : Addr) (H H' : Hp) : Prop := ∀ b o, b ≠ p → H b = some o → H' b = some o
theorem Kp.refl {p : Addr} {H : Hp} : Kp p H H := fun _ _ _ e => e
theorem Kp.trans {p : Addr} {H H1 H2 : Hp} (a : Kp p H H1) (b : Kp p H1 H2) : Kp p H H2 := fun c o n e => b c o n (a c o n e)
theorem Kp.new {p q : Addr} {H : Hp} {o : HO} (h : H q = none) : Kp p H (upd H q o) := fun b x _ e => by
  rw [upd_ne (ne_of_none e h)]
  exact e
theorem Kp.at {p : Addr} {H : Hp} {o : HO} : Kp p H (upd H p o) := fun b x n e => by
  rw [upd_ne n]
  exact e
/-- a change of what stood nowhere in H -/
theorem Kp.put {p q : Addr} {H H1 : Hp} {o : HO} (k : Kp p H H1) (h : H q = none) : Kp p H (upd H1 q o) := fun b x n e => by
  rw [upd_ne (ne_of_none e h)]
  exact k b x n e
theorem Kp.tup {p : Addr} {H H' : Hp} {ys : List V} {b : Addr} {xs : List V} (k : Kp p H H') (hp : H p = some (.lst ys)) (h : H b = some (.tup xs)) : H' b = some (.tup xs) :=
  k b _ (ne_of h hp (by intro z; cases z)) h
theorem Kp.some {p : Addr} {H H' : Hp} (k : Kp p H H') (hp : ∃ o, H' p = some o) {b : Addr} (h : H' b = none) : H b = none := by
  cases e : H b with
  | none => rfl
  | some o =>
    by_cases n : b = p
    · subst n
      obtain ⟨o', e'⟩ := hp
      rw [e'] at h
      cases h
    · rw [k b o n e] at h
      cases h

/-! ### arguments by names, in another order -/
def permV (js : List Nat) : List V → List V → List V := fun _ zs => js.map fun j => zs.getD j .non
def permU (js : List Nat) : List Value → List Value → List Value := fun _ ws => js.map fun j => ws.getD j .none
theorem vals_getD : ∀ {zs : List V} {ws : List Value} (j : Nat), Vals zs ws → RelV (zs.getD j .non) (ws.getD j .none)
  | _, _, _, .nil => rfl
  | _, _, 0, .cons r _ => r
  | _, _, j + 1, .cons _ t => vals_getD j t
theorem perm_rel {zs : List V} {ws : List Value} (r : Vals zs ws) : ∀ js : List Nat, Vals (js.map fun j => zs.getD j .non) (js.map fun j => ws.getD j .none)
  | [] => .nil
  | j :: js => .cons (vals_getD j r) (perm_rel r js)
theorem kbn_of {K : PySem.W.Frag} {fd : FuncData} {ps ks : List Str} (js : List Nat) (h : ∀ ws : List Value, ws.length = ks.length → bindArgs fd ⟨[], ks.zip ws⟩ = pure (ps.zip (js.map fun j => ws.getD j .none))) :
    KBn K fd ps 0 ks (permU js) (permV js) where
  to := fun s us ws _ hu hw => by
    obtain rfl := List.length_eq_zero_iff.mp hu
    exact .of_eq (h ws hw)
  rel := fun _ r => perm_rel r js
/-! ### what is added, and nothing changed -/
def Ext (H H' : Hp) : Prop := ∀ b o, H b = some o → H' b = some o
theorem Ext.refl {H : Hp} : Ext H H := fun _ _ e => e
theorem Ext.trans {H H1 H2 : Hp} (a : Ext H H1) (b : Ext H1 H2) : Ext H H2 := fun c o e => b c o (a c o e)
theorem Ext.new {q : Addr} {H : Hp} {o : HO} (h : H q = none) : Ext H (upd H q o) := fun b x e => by
  rw [upd_ne (ne_of_none e h)]
  exact e
theorem Ext.put {q : Addr} {H H1 : Hp} {o : HO} (k : Ext H H1) (h : H q = none) : Ext H (upd H1 q o) := fun b x e => by
  rw [upd_ne (ne_of_none e h)]
  exact k b x e
theorem Ext.none {H H' : Hp} (k : Ext H H') {q : Addr} (h : H' q = none) : H q = none := by
  cases e : H q with
  | none => rfl
  | some o =>
    rw [k q o e] at h
    cases h

theorem atI_get {α : Type} {xs : List α} {i : Int} (h0 : 0 ≤ i) (h1 : i < xs.length) : atI xs i = some (xs[i.toNat]'(by omega)) := by
  unfold atI ixN
  rw [if_pos h0, if_pos h1]
  exact List.getElem?_eq_getElem _
theorem atI_ints {ns : List Int} {i : Int} (h0 : 0 ≤ i) (h1 : i < ns.length) : ∃ z, z ∈ ns ∧ atI (ns.map V.int) i = some (.int z) := by
  have h2 : i < (ns.map V.int).length := by rw [List.length_map]; exact h1
  refine ⟨ns[i.toNat]'(by omega), List.getElem_mem _, ?_⟩
  rw [atI_get h0 h2, List.getElem_map]
theorem atI_mem {α : Type} {xs : List α} {i : Int} (h0 : 0 ≤ i) (h1 : i < xs.length) : ∃ v, v ∈ xs ∧ atI xs i = some v :=
  ⟨xs[i.toNat]'(by omega), List.getElem_mem _, atI_get h0 h1⟩
theorem len_pos {x : Str} (h : ¬ x = "") : 1 ≤ x.length := by
  obtain ⟨⟨l⟩⟩ := x
  cases l with
  | nil => exact absurd (by decide +kernel) h
  | cons a r =>
    show 1 ≤ (a :: r).length
    exact Nat.succ_pos _
theorem natAbs_lt_of {i : Int} {n : Nat} (h0 : -(n : Int) < i) (h1 : i < n) : i.natAbs < n := by omega
theorem log2_small {i : Int} (h : i.natAbs < 2 ^ 64) : i.natAbs.log2 < 1920 := by
  by_cases z : i.natAbs = 0
  · rw [z]
    decide
  · exact (Nat.log2_lt z).mpr (Nat.lt_of_lt_of_le h (Nat.pow_le_pow_right (by decide) (by decide)))
theorem szL {n : Nat} (h : n ≤ 1000000) : n ≤ sizeLine := by
  rw [sizeLine_eq]
  omega
theorem szLt {n : Nat} (h : n < 1000000) : n < sizeLine := by
  rw [sizeLine_eq]
  omega
end Pf


namespace Pf
open PySem PySem.Spec PyProof.Rows L2
/-! ### the law's own call: made by nobody, nothing being shown meanwhile -/
structure FnG (P : Program) (w : World) (K : PySem.W.Frag) (mg : Str → Option Value) (base : Heap) (f : Addr) (fd : FuncData) (ps : List Str) (sp : Sp) : Prop where
  run : ∀ (s : Shared) (H : Hp) (args : Args) (us : List Value) (vs : List V) (Q : VK) (E : XK), Env0 P w K mg base callerA [] s H → BindsTo s fd args (ps.zip us) → Vals vs us → sp vs H Q E →
    codeAny (model P w) callerA (.call (.ref f) args) (CR CX0 [] P w H s Q E) s
theorem FnG.of {P : Program} {w : World} {K : PySem.W.Frag} {mg : Str → Option Value} {base : Heap} {k : Nat} {f : Addr} {fd : FuncData} {x qual : Str} {st : Stmt} {N ps : List Str} {sp : Sp} (F : Fun K x qual st f fd) (S : FnScope N ps (defScope st))
    (room : Room (k + 1) callerA) (len : ∀ vs H Q E, sp vs H Q E → vs.length = ps.length)
    (body : ∀ (cdv : Value) (s : Shared) (H : Hp) (vs : List V) (Q : VK) (E : XK), Room k (callerA.deeper (envOfC qual (defScope st) s.heap.objs.size f cdv)) → (callerA.deeper (envOfC qual (defScope st) s.heap.objs.size f cdv)).guards = some [] → sp vs H Q E →
      ∃ t, PSs (cxOf CX0 P w K mg base N qual (defScope st) f cdv callerA [] s H E).nox (defBody st) t ∧ t { nx := fun _ H' => Q .non H', rt := Q } (start N vs) H) : FnG P w K mg base f fd ps sp := by
  obtain ⟨oc, od, kV, doc, pm, an, cdv, ct, osl, rfl, lk, hcd⟩ := F.ex
  refine ⟨fun s H args us vs Q E env0 bnd rel hsp => ?_⟩
  have inS : K.In s.heap := env0.mod.kin.keeps fun b o e => (env0.bs b o e).1
  have limS : s.heap.NoLimit := env0.mod.nolimit.keeps fun b o e => (env0.bs b o e).1
  have kinds : ∀ y ∈ ps.zip us, (defScope st).names.lookup y.1 = some .local ∨ ((defScope st).names.lookup y.1 = some .cell ∧ ((cellsFrom (s.heap.objs.size + 1) (defScope st).names []).lookup y.1).isSome = true) := by
    rintro ⟨n, v⟩ hy
    cases S.par n (List.of_mem_zip hy).1 with
    | inl q => exact .inl q
    | inr q => exact .inr ⟨q, PySem.W.cellsFrom_some _ _ _ (.inl q)⟩
  refine codeAny_call_function room.depth (inS _ _ lk) rfl S.co S.gen rfl (PySem.W.codeRec_of inS hcd) (bnd _ _ _ _ ?_)
  refine wpAny_newFunctionEnv_cells S.kind kinds fun env0' he s1 inC => ?_
  subst he
  refine ⟨limS.keeps inC.toInCall.keep, codeAny_func ?_⟩
  obtain ⟨t, ht, hq⟩ := body cdv s H vs Q E (room.deeper _) rfl hsp
  have I0 : Inv (cxOf CX0 P w K mg base N qual (defScope st) f cdv callerA [] s H E) [] (start N vs) H s1 := inv_start S room.hd env0 (len _ _ _ _ hsp) rel inC
  refine wpAny_mono (ht.nox.run [] s1 (start N vs) H _ I0 hq) (fun fl s' hs => ?_) fun _ _ z => z
  cases fl with
  | ret u =>
    obtain ⟨v, σ', H', J, rv, q⟩ := hs
    exact ⟨v, H', J.os, J.bare, J.base, J.hok, rv, q⟩
  | next =>
    obtain ⟨σ', H', J, q⟩ := hs
    exact ⟨.non, H', J.os, J.bare, J.base, J.hok, rfl, q⟩
  | brk => exact False.elim (by obtain ⟨_, _, _, q⟩ := hs; exact q)
  | cont => exact False.elim (by obtain ⟨_, _, _, q⟩ := hs; exact q)
/-- its end: from an abstract heap that holds the script or nothing -/
theorem FnG.ends {P : Program} {w : World} {K : PySem.W.Frag} {mg mb : Str → Option Value} {fa a : Addr} {fd : FuncData} {x : Str} {sp : Sp} {s1 : Shared} {vs : List Value} {ns : List Int}
    (inK : K.In s1.heap) (gl : s1.heap.Ns mainGlobals mg) (bl : s1.heap.Ns builtinsNs mb) (bb : ∀ x : Str, x ≠ "__name__" → mb x = bootBuiltins x) (lim : s1.heap.NoLimit) (gens : s1.gens = #[])
    (hscr : s1.heap.get? a = some { cls := .type "list", data := .seq vs.toArray }) (hin : IntsAre vs ns) (F : ∀ base : Heap, K.In base → base.Ns mainGlobals mg → FnG P w K mg base fa fd [x] sp) (bnd : ∀ (s : Shared) (u : Value), BindsTo s fd ⟨[u], []⟩ [(x, u)])
    {H : Hp} (only : Only H) (hsp : sp [.ref a] H (fun v _ => v = .bl true) fun _ _ _ => False) (hok : HOk P w H s1.heap) (hA : ∀ b, H b ≠ none → b = a) (hK : H a ≠ none → K.lookup a = none) :
    codeAny (model P w) callerA (.call (.ref fa) ⟨[.ref a], []⟩) (fun r s' => r = .ok (.ret (.bool true)) ∧ OldK s1.heap s'.heap ∧ s'.os = s1.os ∧ AllBare s'.gens) s1 := by
  have isA : ∀ {b : Addr} {u : HO}, H b = some u → b = a := fun {b u} q => hA b (by rw [q]; exact Option.some_ne_none _)
  have hid : ∀ {b : Addr} {o : Obj}, s1.heap.get? b = some o → H b = none → (hidT s1.heap H).get? b = some o := fun e n => hidT_get e n
  have dictN : ∀ {b : Addr} {o : Obj} {es : Array DictEntry} {ep : Nat}, s1.heap.get? b = some o → o.data = .dict es ep → H b = none := by
    intro b o es ep e d
    cases q : H b with
    | none => rfl
    | some u =>
      obtain rfl := isA q
      rw [hscr] at e
      cases e
      exact nomatch d
  have nsH : ∀ {b : Addr} {m : Str → Option Value}, s1.heap.Ns b m → (hidT s1.heap H).Ns b m := by
    rintro b m ⟨o, es, ep, e, d, r⟩
    exact ⟨o, es, ep, hid e (dictN e d), d, r⟩
  have inB : K.In (hidT s1.heap H) := by
    intro b o e
    refine hid (inK b o e) ?_
    cases q : H b with
    | none => rfl
    | some u =>
      obtain rfl := isA q
      rw [hK (by rw [q]; exact Option.some_ne_none _)] at e
      cases e
  have limB : (hidT s1.heap H).NoLimit := by
    obtain ⟨mc, h1, h2⟩ := lim
    exact ⟨mc, nsH h1, h2⟩
  have env0 : Env0 P w K mg (hidT s1.heap H) callerA [] s1 H :=
    ⟨rfl, ⟨inB, nsH gl, ⟨mb, nsH bl, bb⟩, limB⟩, fun b o e => of_hidT e, Nat.le_of_eq (hidT_size _ _), trivial, fun b hb => (nomatch (show b ∈ ([] : List Addr) from hb)), hok, .of_eq gens⟩
  refine codeAny_mono ((F _ inB (nsH gl)).run s1 H ⟨[.ref a], []⟩ [.ref a] [.ref a] _ _ env0 (bnd s1 (.ref a)) (.cons rfl .nil) hsp) fun r s' h => ?_
  match r, h with
  | .error _, h => exact False.elim h
  | .ok .next, h => exact False.elim h
  | .ok .brk, h => exact False.elim h
  | .ok .cont, h => exact False.elim h
  | .ok (.ret u), h =>
    obtain ⟨v, H', os, bare, un, hok', rel, q⟩ := h
    obtain rfl : v = .bl true := q
    obtain rfl : u = Value.bool true := rel
    refine ⟨rfl, OldK.of_keep fun b o e => ?_, os, bare⟩
    cases q : H b with
    | none => exact un.keep b o e q (fun z => (nomatch (show b ∈ ([] : List Addr) from z))) (by simp)
    | some u =>
      cases only b with
      | inl z => rw [q] at z; cases z
      | inr z =>
        obtain ⟨ob, xs, z⟩ := z
        have kept := (hok' b _ (un.frzs b ob _ z)).1
        have was := (hok b _ z).1
        rw [e] at was
        cases was
        exact kept
theorem walk_g {l : PySem.W.OpenLaw} {n : Nat} {q : Program} {loose : List Str} {XP : (Str → Option Value) → Heap → Prop} {YP : World → Heap → Prop} {d : DefRec} {K : Params → PySem.W.Frag} {sp : World → Sp} {x : Str}
    (hn : l.most = some n) (hn2 : n ≤ sizeLine) (hdf : d.params.defaults = []) (hY : ∀ (w : World) (h : Heap), YP w h → (K w.params).In h)
    (F : ∀ (w : World) (mg : Str → Option Value) (fa : Addr) (h : Heap), (K w.params).In h → h.Ns mainGlobals mg → mg d.name = some (.ref fa) →
      ∃ fd : FuncData, (∀ (s : Shared) (u : Value), BindsTo s fd ⟨[u], []⟩ [(x, u)]) ∧ ∀ base : Heap, (K w.params).In base → base.Ns mainGlobals mg → FnG l.prog w (K w.params) mg base fa fd [x] (sp w))
    (hsp : ∀ (w : World) (H : Hp) (a : Addr) (ns : List Int), ns.length ≤ n → SqL (K w.params) H a (ns.map V.int) → sp w [.ref a] H (fun v _ => v = .bl true) fun _ _ _ => False) :
    PySem.W.WalkO q loose XP YP l.row.toRowW d [] (fun f vs => PySem.call f vs) := by
  refine Att.attach_call hn hdf fun w s0 s1 mg mb fa o pm cd doc a vs ns G Y ho hd hcd hmg hobj hints hlen hg => ?_
  have inK := hY w _ Y
  obtain ⟨fd, bnd, hF⟩ := F w mg fa _ inK G.T.g hmg
  have szs : ns.length ≤ sizeLine := Nat.le_trans hlen hn2
  have vals := vals_ints hints
  cases hk : (K w.params).lookup a with
  | some ob =>
    have e := inK a ob hk
    rw [hobj] at e
    cases e
    have here : SqL (K w.params) (fun _ => none) a (ns.map V.int) := .inr ⟨_, vs.toArray, _, hk, rfl, rfl, rfl, by rw [List.size_toArray, hints.length]; exact szs, by simpa using vals⟩
    exact FnG.ends inK G.T.g G.T.b G.T.builtins G.T.nolimit hg hobj hints hF bnd (fun _ => .inl rfl) (hsp w _ a ns hlen here) (fun _ _ z => (nomatch z)) (fun b z => absurd rfl z) fun z => absurd rfl z
  | none =>
    have here : SqL (K w.params) (fun b => if b = a then some (.frz { cls := .type "list", data := .seq vs.toArray } (.lst (ns.map V.int))) else none) a (ns.map V.int) := .inl (.inr ⟨_, if_pos rfl⟩)
    refine FnG.ends inK G.T.g G.T.b G.T.builtins G.T.nolimit hg hobj hints hF bnd (fun b => ?_) (hsp w _ a ns hlen here) (fun b u z => ?_) (fun b z => ?_) fun _ => hk
    · exact if h : b = a then .inr ⟨_, _, if_pos h⟩ else .inl (if_neg h)
    · by_cases h : b = a
      · rw [if_pos h] at z
        cases z
        subst h
        exact ⟨hobj, by rw [List.length_map]; exact szs, vs, _, vals, hobj⟩
      · rw [if_neg h] at z
        cases z
    · by_cases h : b = a
      · exact h
      · exact absurd (if_neg h) z
/-! ### data that are small: how much they weigh, how deep they are -/
structure Sm (m k : Nat) (d : PyData) : Prop where
  lay : d.canLay0 = true
  sho : d.showable = true
  ish : d.intsShort 13 = true
  wt : d.weight ≤ m
  dep : d.depth ≤ k
theorem Sm.le {m k m' k' : Nat} {d : PyData} (h : Sm m k d) (hm : m ≤ m') (hk : k ≤ k') : Sm m' k' d := ⟨h.lay, h.sho, h.ish, Nat.le_trans h.wt hm, Nat.le_trans h.dep hk⟩
theorem Sm.non : Sm 0 0 .none := ⟨by simp [PyData.canLay0], by simp [PyData.showable], by simp [PyData.intsShort], by simp [PyData.weight], by simp [PyData.depth]⟩
theorem Sm.bl (b : Bool) : Sm 0 0 (.bool b) := ⟨by simp [PyData.canLay0], by simp [PyData.showable], by simp [PyData.intsShort], by simp [PyData.weight], by simp [PyData.depth]⟩
theorem Sm.int {i : Int} (h0 : -1000000000 < i) (h1 : i < 1000000000) : Sm 64 0 (.int i) := by
  have hb : i.natAbs < 2 ^ 64 := by omega
  have hl : i.natAbs.log2 < 64 := by
    by_cases z : i.natAbs = 0
    · rw [z]
      decide
    · exact (Nat.log2_lt z).mpr hb
  refine ⟨by simp [PyData.canLay0], ?_, ?_, ?_, by simp [PyData.depth]⟩
  · simp only [PyData.showable]
    exact decide_eq_true (by omega)
  · simp only [PyData.intsShort, PyData.shown]
    refine decide_eq_true ?_
    by_cases hn : i < 0
    · rw [len_text_neg hn]
      have := toString_length_le (v := 0 - i) (k := 9) (by omega) (by decide) (by omega)
      omega
    · have := toString_length_le (v := i) (k := 9) (by omega) (by decide) (by omega)
      omega
  · simp only [PyData.weight]
    split <;> omega
theorem Sm.str {x : Str} {n : Nat} (h : PyData.strOk x = true) (hn : x.length ≤ n) : Sm n 0 (.str x) :=
  ⟨by simpa only [PyData.canLay0] using h, by simp [PyData.showable], by simp [PyData.intsShort], by simp only [PyData.weight]; exact hn, by simp [PyData.depth]⟩
structure SmA (n m k : Nat) (ds : List PyData) : Prop where
  lay : PyData.canLayAll0 ds = true
  sho : PyData.showableAll ds = true
  ish : PyData.intsShortAll 13 ds = true
  wt : PyData.weightAll ds ≤ ds.length * (m + 1)
  dep : PyData.depthAll ds ≤ k
theorem SmA.of {m k : Nat} : ∀ {ds : List PyData}, (∀ d ∈ ds, Sm m k d) → SmA ds.length m k ds
  | [], _ => ⟨by simp [PyData.canLayAll0], by simp [PyData.showableAll], by simp [PyData.intsShortAll], by simp [PyData.weightAll], by simp [PyData.depthAll]⟩
  | d :: ds, h => by
    have h1 := h d (List.mem_cons_self ..)
    have h2 := SmA.of (ds := ds) fun x hx => h x (List.mem_cons_of_mem _ hx)
    refine ⟨by simp [PyData.canLayAll0, h1.lay, h2.lay], by simp [PyData.showableAll, h1.sho, h2.sho], by simp [PyData.intsShortAll, h1.ish, h2.ish], ?_, ?_⟩
    · have e1 := h1.wt
      have e2 := h2.wt
      simp only [PyData.weightAll, List.length_cons, Nat.succ_mul]
      omega
    · simp only [PyData.depthAll]
      exact Nat.max_le.mpr ⟨h1.dep, h2.dep⟩
theorem Sm.lst {n m k M : Nat} {ds : List PyData} (hn : ds.length ≤ n) (h : ∀ d ∈ ds, Sm m k d) (hM : n * (m + 1) ≤ M) : Sm M (k + 1) (.list ds) := by
  have a := SmA.of h
  have hw : ds.length * (m + 1) ≤ n * (m + 1) := Nat.mul_le_mul_right _ hn
  exact ⟨by simpa only [PyData.canLay0] using a.lay, by simpa only [PyData.showable] using a.sho, by simpa only [PyData.intsShort] using a.ish, by simp only [PyData.weight]; exact Nat.le_trans a.wt (Nat.le_trans hw hM), by simp only [PyData.depth]; exact Nat.succ_le_succ a.dep⟩
theorem Sm.tup {n m k M : Nat} {ds : List PyData} (hn : ds.length ≤ n) (h : ∀ d ∈ ds, Sm m k d) (hM : n * (m + 1) ≤ M) : Sm M (k + 1) (.tuple ds) := by
  have a := SmA.of h
  have hw : ds.length * (m + 1) ≤ n * (m + 1) := Nat.mul_le_mul_right _ hn
  exact ⟨by simpa only [PyData.canLay0] using a.lay, by simpa only [PyData.showable] using a.sho, by simpa only [PyData.intsShort] using a.ish, by simp only [PyData.weight]; exact Nat.le_trans a.wt (Nat.le_trans hw hM), by simp only [PyData.depth]; exact Nat.succ_le_succ a.dep⟩
theorem Sm.shaped {m k : Nat} {d : PyData} (h : Sm m k d) (hk : k ≤ 50) : SeqAt.shaped d = true := by
  show (d.canLay0 && decide (d.depth ≤ 64)) = true
  rw [h.lay, decide_eq_true (show d.depth ≤ 64 from Nat.le_trans h.dep (by omega))]
  rfl
theorem Sm.short {m k : Nat} {d : PyData} (h : Sm m k d) (hm : m ≤ 1000000) (hk : k ≤ 50) : d.shown.length ≤ sizeLine := by
  have e : PyData.layable0 d = true := by
    show (d.canLay0 && decide (d.depth ≤ 64) && decide (d.weight ≤ 2 ^ 20)) = true
    rw [h.lay, decide_eq_true (show d.depth ≤ 64 from Nat.le_trans h.dep (by omega)), decide_eq_true (show d.weight ≤ 2 ^ 20 from Nat.le_trans h.wt (by omega))]
    rfl
  have := shown_le13 e h.ish
  rw [sizeLine_eq]
  omega
/-! ### repr of data at any depth -/
def rShow (K : PySem.W.Frag) : List V → Hp → VK → Prop := fun xs H Q => ∃ v d m k, xs = [v] ∧ Dp K H v d ∧ Sm m k d ∧ m ≤ 1000000 ∧ k ≤ 50 ∧ Q (.str d.shown) H
theorem call_show (K : PySem.W.Frag) {X : Cx} (hg : X.A.guards = some []) (hu : X.A.units + 64 < cLine) (hK : X.K = K := by rfl) : CallR X (.builtin "repr") (rShow K) := by
  subst hK
  intro pins s σ H xs us Q I r h
  obtain ⟨v, d, m, k, rfl, hd, sh, hm, hk, q⟩ := h
  have hdep := sh.dep
  have hz := sh.short hm hk
  cases hd with
  | non =>
    obtain ⟨u, rfl, rfl⟩ := vals1 r
    exact PySem.P.repr_of_none ⟨.str _, H, I.tok _, ⟨_, rfl⟩, by simpa only [PyData.shown] using q⟩
  | bl b =>
    obtain ⟨u, rfl, rfl⟩ := vals1 r
    refine PySem.P.repr_of_bool ⟨.str _, H, I.tok _, ⟨_, rfl⟩, ?_⟩
    simp only [PyData.shown] at q
    cases b <;> exact q
  | int i =>
    obtain ⟨u, rfl, t, rfl⟩ := vals1 r
    have hi : i.natAbs.log2 < 1920 := by simpa [PyData.showable] using sh.sho
    exact PySem.P.repr_of_int hi ⟨.str _, H, I.tok _, ⟨_, rfl⟩, by simpa only [PyData.shown] using q⟩
  | str x =>
    obtain ⟨u, rfl, t, rfl⟩ := vals1 r
    simp only [PyData.shown] at q hz
    exact PySem.P.repr_of_str ⟨.str _, H, I.tok _, ⟨_, rfl⟩, q⟩ hz
  | @lst a ys ds hs hds =>
    obtain ⟨u, rfl, rfl⟩ := vals1 r
    obtain ⟨as, rd⟩ := Dp.reads I _ _ _ (Dp.lst hs hds) (show RelV (.ref a) (.ref a) from rfl)
    exact PySem.repr_of_reads' rd sh.sho (PyData.noDict_hsm (PyData.hasDict_of_canLay _ sh.lay)) hg (by omega) (fun _ _ e => e) (fun h' u tk keep => ⟨.str _, H, I.kept keep, ⟨_, rfl⟩, q⟩) hz
  | @tup a ys ds hs hds =>
    obtain ⟨u, rfl, rfl⟩ := vals1 r
    obtain ⟨as, rd⟩ := Dp.reads I _ _ _ (Dp.tup hs hds) (show RelV (.ref a) (.ref a) from rfl)
    exact PySem.repr_of_reads' rd sh.sho (PyData.noDict_hsm (PyData.hasDict_of_canLay _ sh.lay)) hg (by omega) (fun _ _ e => e) (fun h' u tk keep => ⟨.str _, H, I.kept keep, ⟨_, rfl⟩, q⟩) hz
/-! ### sorted of data -/
def rSortD (K : PySem.W.Frag) : List V → Hp → VK → Prop := fun vs H Q => ∃ (β : Type) (v : β → V) (d : β → PyData) (a : Addr) (bs : List β), vs = [.ref a] ∧ SqL K H a (bs.map v) ∧ (∀ b ∈ bs, Dp K H (v b) (d b) ∧ (d b).depth ≤ 50) ∧
  PySem.W.AllAlike (bs.map d) ∧ PySem.W.Sortable (bs.map d) ∧ ∀ p, H p = none → Q (.ref p) (upd H p (.lst ((bs.mergeSort (PySem.W.dataLe false d)).map v)))
section
variable {β : Type} {v : β → V} {d : β → PyData}
theorem each_vals : ∀ {bs : List β} {its : List Value}, Vals (bs.map v) its → PySem.W.EachIs (fun (u : Value) (b : β) => RelV (v b) u) its bs
  | [], _, .nil => .nil
  | _ :: _, _, .cons r t => .cons r (each_vals t)
theorem vals_each : ∀ {bs : List β} {its : List Value}, PySem.W.EachIs (fun (u : Value) (b : β) => RelV (v b) u) its bs → Vals (bs.map v) its
  | [], _, .nil => .nil
  | _ :: _, _, .cons r t => .cons r (vals_each t)
theorem each_reads {X : Cx} {pins : List (Addr × Obj)} {σ : L2.St} {H : Hp} {s : Shared} (I : Inv X pins σ H s) : ∀ {bs : List β} {its : List Value}, Vals (bs.map v) its → (∀ b ∈ bs, Dp X.K H (v b) (d b)) → PySem.W.EachIs (fun (u : Value) (b : β) => ∃ as, Reads s.heap u (d b) as) its bs
  | [], _, .nil, _ => .nil
  | b :: _, _, .cons r t, h => .cons (Dp.reads I _ _ _ (h b (List.mem_cons_self ..)) r) (each_reads I t fun x hx => h x (List.mem_cons_of_mem _ hx))
end
theorem cr_sortD (K : PySem.W.Frag) {X : Cx} (hu : X.A.units + 64 < cLine) (hK : X.K = K := by rfl) : CallR X (.builtin "sorted") (rSortD K) := by
  subst hK
  intro pins s σ H vs us Q I r h
  obtain ⟨β, v, d, a, bs, rfl, hs, hd, al, so, q⟩ := h
  obtain ⟨u, rfl, rfl⟩ := vals1 r
  obtain ⟨its, rv, hl, hz⟩ := I.list hs
  rw [List.length_map] at hz
  refine PySem.W.sorted_data (enc := d) (R := fun (u : Value) (b : β) => RelV (v b) u) hl.isList (each_vals rv) (each_reads I rv fun b hb => (hd b hb).1) al so hz (fun b hb => ?_) fun out hlen he => ?_
  · have := (hd b hb).2
    omega
  · obtain ⟨ep, he'⟩ := PyProof.Rows.sortedAll_at s.heap its out.toArray
    have hlen2 : ((bs.mergeSort (PySem.W.dataLe false d)).map v).length ≤ sizeLine := by
      rw [List.length_map, List.length_mergeSort]
      exact hz
    exact ⟨.ref _, upd H (s.heap.objs.size + 1) (.lst ((bs.mergeSort (PySem.W.dataLe false d)).map v)), I.laid (t' := s.toks) (fun _ _ => PyProof.Rows.sortedAll_old) (Nat.le_succ _) ⟨hlen2, out, ep, vals_each he, by simpa using he'⟩, rfl, q _ (I.hok.fresh (Nat.le_succ _))⟩
end Pf


namespace Pf
open PySem PySem.Spec PyProof.Rows L2
/-! ### tuples stay -/
structure TupK (H H' : Hp) : Prop where
  tup : ∀ b xs, H b = some (.tup xs) → H' b = some (.tup xs)
  frz : ∀ b o u, H b = some (.frz o u) → H' b = some (.frz o u)
instance {H H' : Hp} : CoeFun (TupK H H') (fun _ => ∀ b xs, H b = some (.tup xs) → H' b = some (.tup xs)) := ⟨TupK.tup⟩
theorem TupK.refl {H : Hp} : TupK H H := ⟨fun _ _ e => e, fun _ _ _ e => e⟩
theorem TupK.trans {H H1 H2 : Hp} (a : TupK H H1) (b : TupK H1 H2) : TupK H H2 := ⟨fun c xs e => b.tup c xs (a.tup c xs e), fun c o u e => b.frz c o u (a.frz c o u e)⟩
theorem TupK.ext {H H' : Hp} (k : Ext H H') : TupK H H' := ⟨fun b _ e => k b _ e, fun b _ _ e => k b _ e⟩
theorem TupK.new {q : Addr} {H : Hp} {o : HO} (h : H q = none) : TupK H (upd H q o) := TupK.ext (Ext.new h)
theorem TupK.lst {q : Addr} {H : Hp} {o : HO} {ys : List V} (h : H q = some (.lst ys)) : TupK H (upd H q o) := by
  refine ⟨fun b xs e => ?_, fun b o u e => ?_⟩
  · rw [upd_ne (ne_of e h (by intro z; cases z))]
    exact e
  · rw [upd_ne (ne_of e h (by intro z; cases z))]
    exact e
theorem paired_imp {α β : Type} {R S : α → β → Prop} (h : ∀ a b, R a b → S a b) : ∀ {xs : List α} {ys : List β}, Paired R xs ys → Paired S xs ys
  | _, _, .nil => .nil
  | _, _, .cons r t => .cons (h _ _ r) (paired_imp h t)
theorem paired_get {α β : Type} {R : α → β → Prop} : ∀ {xs : List α} {ys : List β} {i : Nat} {x : α}, Paired R xs ys → xs[i]? = some x → ∃ y, ys[i]? = some y ∧ R x y
  | _, _, _, _, .nil, e => by simp at e
  | _, _, 0, _, .cons r _, e => by
    simp at e
    subst e
    exact ⟨_, rfl, r⟩
  | _, _, i + 1, x, .cons _ t, e => by
    obtain ⟨y, h1, h2⟩ := paired_get (i := i) (x := x) t (by simpa using e)
    exact ⟨y, by simpa using h1, h2⟩
theorem paired_len {α β : Type} {R : α → β → Prop} : ∀ {xs : List α} {ys : List β}, Paired R xs ys → xs.length = ys.length
  | _, _, .nil => rfl
  | _, _, .cons _ t => by rw [List.length_cons, List.length_cons, paired_len t]
theorem paired_app {α β : Type} {R : α → β → Prop} : ∀ {xs xs' : List α} {ys ys' : List β}, Paired R xs ys → Paired R xs' ys' → Paired R (xs ++ xs') (ys ++ ys')
  | _, _, _, _, .nil, s => s
  | _, _, _, _, .cons r t, s => .cons r (paired_app t s)
/-! ### things as they lie in the heap -/
def PairAt (H : Hp) (v : V) (x : Str × Int) : Prop := ∃ a, v = .ref a ∧ H a = some (.tup [.str x.1, .int x.2])
def StackAt (H : Hp) (v : V) (x : Str × Str × Int) : Prop := ∃ a, v = .ref a ∧ H a = some (.tup [.str x.1, .str x.2.1, .int x.2.2])
def TwoAt (H : Hp) (v : V) (x : Int × Int) : Prop := ∃ a, v = .ref a ∧ H a = some (.tup [.int x.1, .int x.2])
def TupOf {α : Type} (R : Hp → V → α → Prop) (H : Hp) (v : V) (xs : List α) : Prop := ∃ a vs, v = .ref a ∧ H a = some (.tup vs) ∧ Paired (R H) vs xs
def Mono {α : Type} (R : Hp → V → α → Prop) : Prop := ∀ H H' v x, TupK H H' → R H v x → R H' v x
theorem PairAt.mono : Mono PairAt := fun H H' v x k ⟨a, e, h⟩ => ⟨a, e, k _ _ h⟩
theorem StackAt.mono : Mono StackAt := fun H H' v x k ⟨a, e, h⟩ => ⟨a, e, k _ _ h⟩
theorem TwoAt.mono : Mono TwoAt := fun H H' v x k ⟨a, e, h⟩ => ⟨a, e, k _ _ h⟩
theorem TupOf.mono {α : Type} {R : Hp → V → α → Prop} (m : Mono R) : Mono (TupOf R) := fun H H' v x k ⟨a, vs, e, h, r⟩ => ⟨a, vs, e, k _ _ h, paired_imp (fun _ _ => m _ _ _ _ k) r⟩
/-- a tuple whose object is known to have no dict -/
def FrzOf {α : Type} (R : Hp → V → α → Prop) (H : Hp) (v : V) (xs : List α) : Prop := ∃ (a : Addr) (o : Obj) (vs : List V), v = .ref a ∧ H a = some (.frz o (.tup vs)) ∧ o.dict = none ∧ Paired (R H) vs xs
theorem FrzOf.mono {α : Type} {R : Hp → V → α → Prop} (m : Mono R) : Mono (FrzOf R) := fun H H' v x k ⟨a, o, vs, e, h, hd, r⟩ => ⟨a, o, vs, e, k.frz _ _ _ h, hd, paired_imp (fun _ _ => m _ _ _ _ k) r⟩
theorem SqT.fz {K : PySem.W.Frag} {H : Hp} {a : Addr} {o : Obj} {xs : List V} (h : H a = some (.frz o (.tup xs))) : SqT K H a xs := .inl (.inr ⟨o, h⟩)
def IntAt (_ : Hp) (v : V) (x : Int) : Prop := v = .int x
theorem IntAt.mono : Mono IntAt := fun _ _ _ _ _ e => e
theorem paired_ints {H : Hp} : ∀ ns : List Int, Paired (IntAt H) (ns.map V.int) ns
  | [] => .nil
  | _ :: r => .cons rfl (paired_ints r)
structure Rl where
  letters : Str
  prs : List (Str × Int)
  span : Int
  loops : List Int
  stk : List (Str × Str × Int)
def RulesAt (H : Hp) (v : V) (r : Rl) : Prop := ∃ a vp vl vs, v = .ref a ∧ H a = some (.tup [.str r.letters, vp, .int r.span, vl, vs]) ∧ FrzOf PairAt H vp r.prs ∧ TupOf IntAt H vl r.loops ∧ TupOf StackAt H vs r.stk
theorem RulesAt.mono : Mono RulesAt := fun H H' v x k ⟨a, vp, vl, vs, e, h, h1, h2, h3⟩ => ⟨a, vp, vl, vs, e, k _ _ h, FrzOf.mono PairAt.mono _ _ _ _ k h1, TupOf.mono IntAt.mono _ _ _ _ k h2, TupOf.mono StackAt.mono _ _ _ _ k h3⟩
def Two (t : Str) : Prop := t.length = 2 ∧ Small t
structure RlOk (r : Rl) : Prop where
  let6 : r.letters.length ≤ 6
  let1 : 1 ≤ r.letters.length
  small : Small r.letters
  prs : r.prs.length ≤ 12
  pr : ∀ x ∈ r.prs, Two x.1 ∧ -99 ≤ x.2 ∧ x.2 ≤ 99
  sp0 : 0 ≤ r.span
  sp3 : r.span ≤ 3
  lo9 : r.loops.length = 9
  lo : ∀ x ∈ r.loops, -99 ≤ x ∧ x ≤ 99
  stk : r.stk.length ≤ 12
  st : ∀ x ∈ r.stk, Two x.1 ∧ Two x.2.1 ∧ -99 ≤ x.2.2 ∧ x.2.2 ≤ 99
  nd : (r.stk.map fun x => (x.1, x.2.1)).Nodup
  pn : (r.prs.map (·.1)).Nodup
/-! ### a dict by two texts -/
def encE (x : Str × Str × Int) : List Key × V := ([.inr x.1, .inr x.2.1], .int x.2.2)
def putE (es : List (Str × Str × Int)) (a b : Str) (i : Int) : List (Str × Str × Int) :=
  if (es.any fun x => decide (x.1 = a ∧ x.2.1 = b)) = true then es.map (fun x => if x.1 = a ∧ x.2.1 = b then (x.1, x.2.1, i) else x) else es ++ [(a, b, i)]
theorem encE_key (x : Str × Str × Int) (a b : Str) : ((encE x).1 = [Sum.inr a, Sum.inr b]) ↔ (x.1 = a ∧ x.2.1 = b) := by
  unfold encE
  constructor
  · intro h
    injection h with h1 h2
    injection h2 with h3 _
    exact ⟨Sum.inr.inj h1, Sum.inr.inj h3⟩
  · rintro ⟨h1, h2⟩
    rw [h1, h2]
theorem put_enc (es : List (Str × Str × Int)) (a b : Str) (i : Int) : putK (es.map encE) [Sum.inr a, Sum.inr b] (.int i) = (putE es a b i).map encE := by
  have hany : ((es.map encE).any fun kv => decide (kv.1 = [Sum.inr a, Sum.inr b])) = es.any fun x => decide (x.1 = a ∧ x.2.1 = b) := by
    rw [List.any_map]
    congr 1
    funext x
    exact decide_eq_decide.mpr (encE_key x a b)
  unfold putK putE
  rw [hany]
  by_cases h : (es.any fun x => decide (x.1 = a ∧ x.2.1 = b)) = true
  · rw [if_pos h, if_pos h, List.map_map, List.map_map]
    refine List.map_congr_left fun x _ => ?_
    show (if (encE x).1 = [Sum.inr a, Sum.inr b] then ((encE x).1, V.int i) else encE x) = encE (if x.1 = a ∧ x.2.1 = b then (x.1, x.2.1, i) else x)
    by_cases e : x.1 = a ∧ x.2.1 = b
    · rw [if_pos ((encE_key x a b).mpr e), if_pos e]
      rfl
    · rw [if_neg (fun z => e ((encE_key x a b).mp z)), if_neg e]
  · rw [if_neg h, if_neg h, List.map_append]
    rfl
theorem putE_keys (es : List (Str × Str × Int)) (a b : Str) (i : Int) (hn : (es.map fun x => (x.1, x.2.1)).Nodup) : ((putE es a b i).map fun x => (x.1, x.2.1)).Nodup := by
  unfold putE
  split
  · rw [List.map_map]
    have e : ((fun x : Str × Str × Int => (x.1, x.2.1)) ∘ fun x => if x.1 = a ∧ x.2.1 = b then (x.1, x.2.1, i) else x) = fun x => (x.1, x.2.1) := by
      funext x
      show (fun x : Str × Str × Int => (x.1, x.2.1)) (if x.1 = a ∧ x.2.1 = b then (x.1, x.2.1, i) else x) = _
      split <;> rfl
    rw [e]
    exact hn
  · rename_i h
    rw [List.map_append]
    refine List.nodup_append.mpr ⟨hn, by simp, fun x hx y hy e => ?_⟩
    obtain ⟨z, hz, rfl⟩ := List.mem_map.mp hx
    have hy' : y = (a, b) := by simpa using hy
    rw [hy'] at e
    injection e with e1 e2
    exact h (List.any_eq_true.mpr ⟨z, hz, decide_eq_true ⟨e1, e2⟩⟩)
theorem putE_len (es : List (Str × Str × Int)) (a b : Str) (i : Int) : (putE es a b i).length ≤ es.length + 1 := by
  unfold putE
  split
  · rw [List.length_map]
    omega
  · rw [List.length_append]
    exact Nat.le_refl _
theorem putE_all {Pd : Str × Str × Int → Prop} {es : List (Str × Str × Int)} {a b : Str} {i : Int} (h : ∀ x ∈ es, Pd x) (hn : Pd (a, b, i)) : ∀ x ∈ putE es a b i, Pd x := by
  intro x hx
  unfold putE at hx
  split at hx
  · obtain ⟨y, hy, rfl⟩ := List.mem_map.mp hx
    split
    · rename_i e
      rw [e.1, e.2]
      exact hn
    · exact h y hy
  · rcases List.mem_append.mp hx with hx | hx
    · exact h x hx
    · rw [List.mem_singleton.mp hx]
      exact hn
theorem val_enc {es : List (Str × Str × Int)} {a b : Str} {i : Int} (hn : (es.map fun x => (x.1, x.2.1)).Nodup) (h : (a, b, i) ∈ es) : valV (es.map encE) [Sum.inr a, Sum.inr b] = some (.int i) := by
  induction es with
  | nil => cases h
  | cons y r ih =>
    rw [List.map_cons]
    rw [List.map_cons, List.nodup_cons] at hn
    by_cases e : y.1 = a ∧ y.2.1 = b
    · rw [valV_pos ((encE_key y a b).mpr e)]
      rcases List.mem_cons.mp h with z | z
      · rw [← z]
        rfl
      · exact absurd (List.mem_map.mpr ⟨_, z, by rw [e.1, e.2]⟩) hn.1
    · rw [valV_neg (fun z => e ((encE_key y a b).mp z))]
      rcases List.mem_cons.mp h with z | z
      · rw [← z] at e
        exact absurd ⟨rfl, rfl⟩ e
      · exact ih hn.2 z
theorem map_erase {α β : Type} (f : α → β) : ∀ (xs : List α) (k : Nat), (xs.map f).eraseIdx k = (xs.eraseIdx k).map f
  | [], _ => rfl
  | _ :: _, 0 => rfl
  | x :: r, k + 1 => by
    show f x :: (r.map f).eraseIdx k = f x :: (r.eraseIdx k).map f
    rw [map_erase f r k]
theorem dpStrs {K : PySem.W.Frag} {H : Hp} : ∀ us : List Str, DpAll K H (us.map V.str) (us.map PyData.str)
  | [] => .nil
  | _ :: r => .cons (.str _) (dpStrs r)
theorem sm_strs {us : List Str} {n m : Nat} (hn : us.length ≤ n) (h : ∀ t ∈ us, Small t ∧ t.length ≤ m) (hM : n * (m + 1) ≤ 1000000) : Sm 1000000 1 (.list (us.map PyData.str)) := by
  refine Sm.lst (n := n) (m := m) (k := 0) (by rw [List.length_map]; exact hn) (fun d hd => ?_) hM
  obtain ⟨t, ht, rfl⟩ := List.mem_map.mp hd
  exact Sm.str (h t ht).1.ok (h t ht).2
theorem keys_zip {H : Hp} : ∀ {es : List (Str × Str × Int)} {bs : List Addr}, IsKeys H (es.map encE) bs → ∃ bes : List (Addr × (Str × Str × Int)), bes.map (·.1) = bs ∧ bes.map (·.2) = es ∧ ∀ x ∈ bes, H x.1 = some (.tup [.str x.2.1, .str x.2.2.1])
  | [], _, .nil => ⟨[], rfl, rfl, fun x h => by cases h⟩
  | e :: es, b :: bs, .cons r t => by
    obtain ⟨bes, h1, h2, h3⟩ := keys_zip (es := es) t
    refine ⟨(b, e) :: bes, by rw [List.map_cons, h1], by rw [List.map_cons, h2], fun x hx => ?_⟩
    rcases List.mem_cons.mp hx with rfl | hx
    · exact r
    · exact h3 x hx
theorem ixN_in {n : Nat} {i : Int} (h0 : 0 ≤ i) (h1 : i < n) : seqIndex? i n = some i.toNat := by
  refine (ixN_seq ?_).1
  unfold ixN
  rw [if_pos h0, if_pos h1]
end Pf


namespace Pf
open PySem PySem.Spec PyProof.Rows L2
/-! ### a def that is called while nothing is being shown -/
structure FnOg (P : Program) (w : World) (K : PySem.W.Frag) (mg : Str → Option Value) (base : Heap) (k : Nat) (f : Addr) (fd : FuncData) (ps : List Str) (sp : Sp) : Prop where
  len : ∀ vs H Q E, sp vs H Q E → vs.length = ps.length
  run : ∀ (A : Around) (outer : List Env) (s : Shared) (H : Hp) (args : Args) (us : List Value) (vs : List V) (Q : VK) (E : XK), A.guards = some [] → Room k A → Env0 P w K mg base A outer s H → BindsTo s fd args (ps.zip us) → Vals vs us → sp vs H Q E →
    codeAny (model P w) A (.call (.ref f) args) (CR CX0 outer P w H s Q E) s
theorem FnOg.of {P : Program} {w : World} {K : PySem.W.Frag} {mg : Str → Option Value} {base : Heap} {k : Nat} {f : Addr} {fd : FuncData} {x qual : Str} {st : Stmt} {N ps : List Str} {sp : Sp} (F : Fun K x qual st f fd) (S : FnScope N ps (defScope st))
    (len : ∀ vs H Q E, sp vs H Q E → vs.length = ps.length)
    (body : ∀ (cdv : Value) (A : Around) (outer : List Env) (s : Shared) (H : Hp) (vs : List V) (Q : VK) (E : XK), Room k (A.deeper (envOfC qual (defScope st) s.heap.objs.size f cdv)) → (A.deeper (envOfC qual (defScope st) s.heap.objs.size f cdv)).guards = some [] → sp vs H Q E →
      ∃ t, PSs (cxOf CX0 P w K mg base N qual (defScope st) f cdv A outer s H E).nox (defBody st) t ∧ t { nx := fun _ H' => Q .non H', rt := Q } (start N vs) H) : FnOg P w K mg base (k + 1) f fd ps sp := by
  obtain ⟨oc, od, kV, doc, pm, an, cdv, ct, osl, rfl, lk, hcd⟩ := F.ex
  refine ⟨len, fun A outer s H args us vs Q E hG room env0 bnd rel hsp => ?_⟩
  have inS : K.In s.heap := env0.mod.kin.keeps fun b o e => (env0.bs b o e).1
  have limS : s.heap.NoLimit := env0.mod.nolimit.keeps fun b o e => (env0.bs b o e).1
  have kinds : ∀ y ∈ ps.zip us, (defScope st).names.lookup y.1 = some .local ∨ ((defScope st).names.lookup y.1 = some .cell ∧ ((cellsFrom (s.heap.objs.size + 1) (defScope st).names []).lookup y.1).isSome = true) := by
    rintro ⟨n, v⟩ hy
    cases S.par n (List.of_mem_zip hy).1 with
    | inl q => exact .inl q
    | inr q => exact .inr ⟨q, PySem.W.cellsFrom_some _ _ _ (.inl q)⟩
  refine codeAny_call_function room.depth (inS _ _ lk) rfl S.co S.gen rfl (PySem.W.codeRec_of inS hcd) (bnd _ _ _ _ ?_)
  refine wpAny_newFunctionEnv_cells S.kind kinds fun env0' he s1 inC => ?_
  subst he
  refine ⟨limS.keeps inC.toInCall.keep, codeAny_func ?_⟩
  obtain ⟨t, ht, hq⟩ := body cdv A outer s H vs Q E (room.deeper _) hG hsp
  have I0 : Inv (cxOf CX0 P w K mg base N qual (defScope st) f cdv A outer s H E) [] (start N vs) H s1 := inv_start S room.hd env0 (len _ _ _ _ hsp) rel inC
  refine wpAny_mono (ht.nox.run [] s1 (start N vs) H _ I0 hq) (fun fl s' hs => ?_) fun _ _ z => z
  cases fl with
  | ret u =>
    obtain ⟨v, σ', H', J, rv, q⟩ := hs
    exact ⟨v, H', J.os, J.bare, J.base, J.hok, rv, q⟩
  | next =>
    obtain ⟨σ', H', J, q⟩ := hs
    exact ⟨.non, H', J.os, J.bare, J.base, J.hok, rfl, q⟩
  | brk => exact False.elim (by obtain ⟨_, _, _, q⟩ := hs; exact q)
  | cont => exact False.elim (by obtain ⟨_, _, _, q⟩ := hs; exact q)
structure CaG (P : Program) (w : World) (K : PySem.W.Frag) (mg : Str → Option Value) (base : Heap) (k : Nat) (x : Str) (ps : List Str) (sp : Sp) : Prop where
  ex : ∃ f fd, FnOg P w K mg base k f fd ps sp ∧ mg x = some (.ref f) ∧ PySem.W.keepIn K (.ref f) = true ∧ Binds K fd ps []
/-- a def whose last arguments are left out -/
structure CaD (P : Program) (w : World) (K : PySem.W.Frag) (mg : Str → Option Value) (base : Heap) (k : Nat) (x : Str) (ps : List Str) (dvs : List V) (sp : Sp) : Prop where
  ex : ∃ f fd ds, FnOk P w K mg base CX0 k f fd ps sp ∧ mg x = some (.ref f) ∧ PySem.W.keepIn K (.ref f) = true ∧ Vals dvs ds ∧ Binds K fd ps ds
section
variable {X : Cx} {k : Nat} {x : Str} {ps ks : List Str} {sp : Sp} {p pos : Pos} {e : Expr} {es : List Expr} {kws : List Keyword} {t tk : TA} {gV : List V → List V → List V} {dvs : List V}
theorem run_fnG {f : Addr} {fd : FuncData} {pins : List (Addr × Obj)} {σ : L2.St} {H : Hp} {s : Shared} {Q : VK} {us : List Value} {vs : List V} (F : FnOg X.prog X.w X.K X.mg X.base k f fd ps sp) (hG : X.A.guards = some []) (hr : Room k X.A) (hb : Binds X.K fd ps [])
    (I : Inv X pins σ H s) (r : Vals vs us) (h : sp (vs ++ []) H Q E0) : wpAny (model X.prog X.w) X.A (call (.ref f) us) (EP X pins σ Q) X.xe s := by
  have r2 : Vals (vs ++ []) (us ++ []) := r.append .nil
  have hl : (us ++ []).length = ps.length := by rw [← r2.length]; exact F.len _ _ _ _ h
  refine wpAny_call (codeAny_mono (F.run X.A X.stack s H ⟨us, []⟩ (us ++ []) (vs ++ []) Q E0 hG hr I.env0 (hb s us I.kIn hl) r2 h) fun r s' hq => ?_)
  cases r with
  | error e => exact False.elim hq
  | ok fl =>
    cases fl with
    | ret u => exact I.after hq
    | next => exact False.elim hq
    | brk => exact False.elim hq
    | cont => exact False.elim hq
theorem pe_caG (c : CaG X.prog X.w X.K X.mg X.base k x ps sp) (hG : X.A.guards = some []) (hr : Room k X.A) (hg : Gl X x) (ha : PA X (e :: es) t) (hdb : (x == ("__debug__" : Str)) = false := by decide)
    (he : starEach (e :: es) X.env = (false, eval e X.env) :: starEach es X.env := by rfl) (hpl : (backTo pos (starEach es X.env)).any (·.1) = false := by rfl) :
    PE X (.Call (.Name x p) (e :: es) [] pos) (tCall sp [] E0 t) := by
  obtain ⟨f, fd, F, hm, hk, hb⟩ := c.ex
  refine ⟨fun pins s σ H Q I h => ?_⟩
  refine wpAny_Call_Name_kw (ld_glob I hg hm ?_ hdb)
  refine PySem.W.callWith_K (h₀ := X.base) I.ok.mod.kin hk (thn (ha.run pos pins s σ H _ I h) fun us s1 ⟨vs, H1, I1, r, q⟩ => ⟨I1.kIn, ?_⟩) he hpl
  exact run_fnG F hG hr hb I1 r q
theorem pe_caD (c : CaD X.prog X.w X.K X.mg X.base k x ps dvs sp) (hr : Room k X.A) (hg : Gl X x) (ha : PA X (e :: es) t) (hdb : (x == ("__debug__" : Str)) = false := by decide)
    (he : starEach (e :: es) X.env = (false, eval e X.env) :: starEach es X.env := by rfl) (hpl : (backTo pos (starEach es X.env)).any (·.1) = false := by rfl) :
    PE X (.Call (.Name x p) (e :: es) [] pos) (tCall sp dvs E0 t) := by
  obtain ⟨f, fd, ds, F, hm, hk, hv, hb⟩ := c.ex
  exact pe_call F hr hg hm hk hb hv pass0 ha hdb he hpl
end
/-- nobody calls it -/
theorem fn_false {P : Program} {w : World} {K : PySem.W.Frag} {mg : Str → Option Value} {base : Heap} {f : Addr} {fd : FuncData} {ps : List Str} : FnOk P w K mg base CX0 0 f fd ps (fun _ _ _ _ => False) :=
  ⟨fun _ _ _ _ h => h.elim, fun _ _ _ _ _ _ _ _ _ _ _ _ _ h => h.elim⟩
/-- by names alone, of a def with defaults -/
theorem kb_D {K : PySem.W.Frag} {x qual : Str} {params : Arguments} {body : List Stmt} {scope : Scope} {dvs : List V} {f : Addr} {fd : FuncData} {ps ks : List Str} (F : FunD K x qual params body scope dvs [] f fd) (js : List Nat) (hd : dvs ≠ [])
    (h : ∀ (T : Addr) (kV doc pm : Value) (an : Option Addr) (cdv ct : Value) (ws its : List Value), ws.length = ks.length → its.length = dvs.length →
      ∃ k, bindArgs (PySem.W.fnOf x qual params body scope (.ref T) kV doc pm an cdv ct) ⟨[], ks.zip ws⟩ = seqItems? (.ref T) >>= k ∧ k (some its.toArray) = pure (ps.zip (js.map fun j => ws.getD j .none))) : KBn K fd ps 0 ks (permU js) (permV js) := by
  obtain ⟨oc, od, dV, kV, doc, pm, an, cdv, ct, osl, rfl, lk, hcd, hD, hK⟩ := F.ex
  rcases hD with ⟨e, _⟩ | ⟨_, T, o, its, m, rfl, lT, oT, rT⟩
  · exact absurd e hd
  · refine ⟨fun s us ws X hu hw => ?_, fun _ r => perm_rel r js⟩
    obtain rfl := List.length_eq_zero_iff.mp hu
    obtain ⟨k, e1, e2⟩ := h T kV doc pm an cdv ct ws its hw rT.length.symm
    refine BindsTo.of_looks fun M => ?_
    rw [e1]
    exact looks_items X lT oT (.of_pure e2)
/-! ### // by a great divisor of either sign -/
def CDivNW (_ j : Int) : Prop := j ≠ 0 ∧ j.natAbs.log2 < 9000
theorem op_fdivNW {X : Cx} : OpR X (binaryOp .FloorDiv) (rI CDivNW fun i j => .int (i.fdiv j)) := opI fun i j _ _ _ _ _ hc q => floordiv_int hc.1 q (.inl (PyProof.noPylong_of_log2 hc.2))
/-! ### repr of data with great numbers -/
structure Bg (B m k : Nat) (d : PyData) : Prop where
  lay : d.canLay0 = true
  sho : d.showable = true
  ish : d.leavesShort B = true
  wt : d.weight ≤ m
  dep : d.depth ≤ k
theorem Bg.int {i : Int} {B : Nat} (hB : 1 < B) (h9 : B ≤ 1900) (h : i.natAbs < 2 ^ B) : Bg (B + 1) B 0 (.int i) := by
  have hl : i.natAbs.log2 < B := PySem.Flt.log2_lt_of (by omega) h
  have h10 : (2 : Nat) ^ B ≤ 10 ^ B := Nat.pow_le_pow_left (by decide) B
  refine ⟨by simp [PyData.canLay0], ?_, ?_, ?_, by simp [PyData.depth]⟩
  · simp only [PyData.showable]
    exact decide_eq_true (by omega)
  · simp only [PyData.leavesShort, PyData.shown]
    refine decide_eq_true ?_
    have hc : ((10 ^ B : Nat) : Int) = (10 : Int) ^ B := by simp
    have hh : (i.natAbs : Int) < (10 : Int) ^ B := by
      rw [← hc]
      exact Int.ofNat_lt.mpr (Nat.lt_of_lt_of_le h h10)
    by_cases hn : i < 0
    · rw [len_text_neg hn]
      have := toString_length_le (v := 0 - i) (k := B) (by omega) (by omega) (by omega)
      omega
    · have := toString_length_le (v := i) (k := B) (by omega) (by omega) (by omega)
      omega
  · simp only [PyData.weight]
    split <;> omega
theorem Bg.le {B m k m' k' : Nat} {d : PyData} (h : Bg B m k d) (hm : m ≤ m') (hk : k ≤ k') : Bg B m' k' d := ⟨h.lay, h.sho, h.ish, Nat.le_trans h.wt hm, Nat.le_trans h.dep hk⟩
structure BgA (B m k : Nat) (ds : List PyData) : Prop where
  lay : PyData.canLayAll0 ds = true
  sho : PyData.showableAll ds = true
  ish : PyData.leavesShortAll B ds = true
  wt : PyData.weightAll ds ≤ ds.length * (m + 1)
  dep : PyData.depthAll ds ≤ k
theorem BgA.of {B m k : Nat} : ∀ {ds : List PyData}, (∀ d ∈ ds, Bg B m k d) → BgA B m k ds
  | [], _ => ⟨by simp [PyData.canLayAll0], by simp [PyData.showableAll], by simp [PyData.leavesShortAll], by simp [PyData.weightAll], by simp [PyData.depthAll]⟩
  | d :: ds, h => by
    have h1 := h d (List.mem_cons_self ..)
    have h2 := BgA.of (ds := ds) fun x hx => h x (List.mem_cons_of_mem _ hx)
    refine ⟨by simp [PyData.canLayAll0, h1.lay, h2.lay], by simp [PyData.showableAll, h1.sho, h2.sho], by simp [PyData.leavesShortAll, h1.ish, h2.ish], ?_, ?_⟩
    · have e1 := h1.wt
      have e2 := h2.wt
      simp only [PyData.weightAll, List.length_cons, Nat.succ_mul]
      omega
    · simp only [PyData.depthAll]
      exact Nat.max_le.mpr ⟨h1.dep, h2.dep⟩
theorem Bg.lst {B n m k M : Nat} {ds : List PyData} (hn : ds.length ≤ n) (h : ∀ d ∈ ds, Bg B m k d) (hM : n * (m + 1) ≤ M) : Bg B M (k + 1) (.list ds) := by
  have a := BgA.of h
  have hw : ds.length * (m + 1) ≤ n * (m + 1) := Nat.mul_le_mul_right _ hn
  exact ⟨by simpa only [PyData.canLay0] using a.lay, by simpa only [PyData.showable] using a.sho, by simpa only [PyData.leavesShort] using a.ish, by simp only [PyData.weight]; exact Nat.le_trans a.wt (Nat.le_trans hw hM), by simp only [PyData.depth]; exact Nat.succ_le_succ a.dep⟩
theorem Bg.tup {B n m k M : Nat} {ds : List PyData} (hn : ds.length ≤ n) (h : ∀ d ∈ ds, Bg B m k d) (hM : n * (m + 1) ≤ M) : Bg B M (k + 1) (.tuple ds) := by
  have a := BgA.of h
  have hw : ds.length * (m + 1) ≤ n * (m + 1) := Nat.mul_le_mul_right _ hn
  exact ⟨by simpa only [PyData.canLay0] using a.lay, by simpa only [PyData.showable] using a.sho, by simpa only [PyData.leavesShort] using a.ish, by simp only [PyData.weight]; exact Nat.le_trans a.wt (Nat.le_trans hw hM), by simp only [PyData.depth]; exact Nat.succ_le_succ a.dep⟩
theorem Bg.short {B m k : Nat} {d : PyData} (h : Bg B m k d) (hB : 8 ≤ B) (hm : (B + 2) * m + B ≤ 15000000) : d.shown.length ≤ sizeLine := by
  have h1 := PyData.shown_le B hB d h.ish
  have h2 : (B + 2) * d.weight ≤ (B + 2) * m := Nat.mul_le_mul_left _ h.wt
  rw [sizeLine_eq]
  omega
def rShowB (K : PySem.W.Frag) : List V → Hp → VK → Prop := fun xs H Q => ∃ v d B m k, xs = [v] ∧ Dp K H v d ∧ Bg B m k d ∧ 8 ≤ B ∧ (B + 2) * m + B ≤ 15000000 ∧ k ≤ 50 ∧ Q (.str d.shown) H
theorem call_showB (K : PySem.W.Frag) {X : Cx} (hg : X.A.guards = some []) (hu : X.A.units + 64 < cLine) (hK : X.K = K := by rfl) : CallR X (.builtin "repr") (rShowB K) := by
  subst hK
  intro pins s σ H xs us Q I r h
  obtain ⟨v, d, B, m, k, rfl, hd, sh, hB, hm, hk, q⟩ := h
  have hdep := sh.dep
  have hz := sh.short hB hm
  cases hd with
  | non =>
    obtain ⟨u, rfl, rfl⟩ := vals1 r
    exact PySem.P.repr_of_none ⟨.str _, H, I.tok _, ⟨_, rfl⟩, by simpa only [PyData.shown] using q⟩
  | bl b =>
    obtain ⟨u, rfl, rfl⟩ := vals1 r
    refine PySem.P.repr_of_bool ⟨.str _, H, I.tok _, ⟨_, rfl⟩, ?_⟩
    simp only [PyData.shown] at q
    cases b <;> exact q
  | int i =>
    obtain ⟨u, rfl, t, rfl⟩ := vals1 r
    have hi : i.natAbs.log2 < 1920 := by simpa [PyData.showable] using sh.sho
    exact PySem.P.repr_of_int hi ⟨.str _, H, I.tok _, ⟨_, rfl⟩, by simpa only [PyData.shown] using q⟩
  | str x =>
    obtain ⟨u, rfl, t, rfl⟩ := vals1 r
    simp only [PyData.shown] at q hz
    exact PySem.P.repr_of_str ⟨.str _, H, I.tok _, ⟨_, rfl⟩, q⟩ hz
  | @lst a ys ds hs hds =>
    obtain ⟨u, rfl, rfl⟩ := vals1 r
    obtain ⟨as, rd⟩ := Dp.reads I _ _ _ (Dp.lst hs hds) (show RelV (.ref a) (.ref a) from rfl)
    exact PySem.repr_of_reads' rd sh.sho (PyData.noDict_hsm (PyData.hasDict_of_canLay _ sh.lay)) hg (by omega) (fun _ _ e => e) (fun h' u tk keep => ⟨.str _, H, I.kept keep, ⟨_, rfl⟩, q⟩) hz
  | @tup a ys ds hs hds =>
    obtain ⟨u, rfl, rfl⟩ := vals1 r
    obtain ⟨as, rd⟩ := Dp.reads I _ _ _ (Dp.tup hs hds) (show RelV (.ref a) (.ref a) from rfl)
    exact PySem.repr_of_reads' rd sh.sho (PyData.noDict_hsm (PyData.hasDict_of_canLay _ sh.lay)) hg (by omega) (fun _ _ e => e) (fun h' u tk keep => ⟨.str _, H, I.kept keep, ⟨_, rfl⟩, q⟩) hz
end Pf


namespace Pf
open PySem PySem.Spec PyProof.Rows L2
def topS (i : Nat) : Stmt := PySem.Challenge.pw_pairfolds_k30_shares_reckoned.main.body.getD i (.Pass ⟨0, 0, 0, 0⟩)
/-! ### the pen: a list of cells, a place, a rest -/
def Pen (H : Hp) (p c : Addr) (n : Nat) : Prop := ∃ (cells : List Int) (a r : Int), H p = some (.lst [.ref c, .int a, .int r]) ∧ H c = some (.lst (cells.map V.int)) ∧ 0 ≤ a ∧ a ≤ n ∧ 0 ≤ r ∧ cells.length ≤ 63
section
variable {H H' : Hp} {p c q : Addr} {n m : Nat} {o : HO}
theorem Pen.mono (h : Pen H p c n) (l : n ≤ m) : Pen H p c m := by
  obtain ⟨cells, a, r, h1, h2, h3, h4, h5, h6⟩ := h
  exact ⟨cells, a, r, h1, h2, h3, by omega, h5, h6⟩
theorem Pen.put (h : Pen H p c n) (hp : q ≠ p) (hc : q ≠ c) : Pen (upd H q o) p c n := by
  obtain ⟨cells, a, r, h1, h2, h3⟩ := h
  exact ⟨cells, a, r, by rw [upd_ne hp.symm]; exact h1, by rw [upd_ne hc.symm]; exact h2, h3⟩
theorem Pen.ne (h : Pen H p c n) (hq : H q = none) : q ≠ p ∧ q ≠ c := by
  obtain ⟨cells, a, r, h1, h2, h3⟩ := h
  exact ⟨(ne_of_none h1 hq).symm, (ne_of_none h2 hq).symm⟩
theorem Pen.new (h : Pen H p c n) (hq : H q = none) : Pen (upd H q o) p c n := h.put (h.ne hq).1 (h.ne hq).2
theorem Pen.tup (h : Pen H p c n) {b : Addr} {xs : List V} (e : H b = some (.tup xs)) : b ≠ p := by
  obtain ⟨cells, a, r, h1, _⟩ := h
  exact ne_of e h1 (by intro z; cases z)
theorem Pen.frz (h : Pen H p c n) {b : Addr} {ob : Obj} {u : HO} (e : H b = some (.frz ob u)) : b ≠ p := by
  obtain ⟨cells, a, r, h1, _⟩ := h
  exact ne_of e h1 (by intro z; cases z)
theorem Pen.ext (h : Pen H p c n) (k : Ext H H') : Pen H' p c n := by
  obtain ⟨cells, a, r, h1, h2, h3⟩ := h
  exact ⟨cells, a, r, k _ _ h1, k _ _ h2, h3⟩
end
theorem TupK.of {p c : Addr} {n : Nat} {H H' : Hp} (k : Kp p H H') (hP : Pen H p c n) : TupK H H' := ⟨fun b _ e => k b _ (hP.tup e) e, fun b _ _ e => k b _ (hP.frz e) e⟩
theorem Kp.ext {p : Addr} {H H' : Hp} (k : Ext H H') : Kp p H H' := fun b o _ e => k b o e
theorem cut_ints (ns : List Int) (lo hi : Option Int) : ∃ cs : List Int, cutV (ns.map V.int) lo hi = cs.map V.int ∧ cs.length ≤ ns.length := by
  unfold cutV
  refine ⟨(ns.drop _).take _, by rw [List.map_take, List.map_drop], ?_⟩
  rw [List.length_take, List.length_drop]
  omega
theorem mod_b (z m : Int) (h : 0 < m) (h2 : m < 2 ^ 64) : -(2 ^ 64) < z % m ∧ z % m < 2 ^ 64 := by
  have h3 := Int.emod_nonneg z (show m ≠ 0 by omega)
  have h4 := Int.emod_lt_of_pos z h
  omega
theorem draw_b1 {z a : Int} (a0 : 0 ≤ a) (a1 : a ≤ 1000000) : (z % 2147483563 + 9461 * a + 257).natAbs < 2 ^ 64 := by
  have h3 := Int.emod_nonneg z (show (2147483563 : Int) ≠ 0 by decide)
  have h4 := Int.emod_lt_of_pos z (show (0 : Int) < 2147483563 by decide)
  omega
theorem draw_b3 (y z : Int) {a : Int} (a0 : 0 ≤ a) (a1 : a ≤ 1000000) : (z % 2147483647 * (a + 50021) + y % 1033).natAbs < 2 ^ 64 := by
  have h3 := Int.emod_nonneg z (show (2147483647 : Int) ≠ 0 by decide)
  have h4 := Int.emod_lt_of_pos z (show (0 : Int) < 2147483647 by decide)
  have h5 := Int.emod_nonneg y (show (1033 : Int) ≠ 0 by decide)
  have h6 := Int.emod_lt_of_pos y (show (0 : Int) < 1033 by decide)
  have h1 : z % 2147483647 * (a + 50021) ≤ 2147483647 * 1050021 := Int.mul_le_mul (by omega) (by omega) (by omega) (by decide)
  have h2 : 0 ≤ z % 2147483647 * (a + 50021) := Int.mul_nonneg h3 (by omega)
  omega
section
variable {P : Program} {w : World} {K : PySem.W.Frag} {mg : Str → Option Value} {base : Heap}
abbrev s_law_pen : Stmt := topS 7
theorem sc_law_pen : FnScope ["_law_script"] ["_law_script"] (defScope s_law_pen) :=
  ⟨rfl, rfl, rfl, by decide +kernel, rfl, by decide +kernel, by decide +kernel⟩
def spStart (K : PySem.W.Frag) : Sp := fun vs H Q _ => ∃ (a : Addr) (ns : List Int), vs = [.ref a] ∧ SqL K H a (ns.map V.int) ∧ ns.length ≤ 63 ∧ ∀ p c H', Pen H' p c 0 → Q (.ref p) H'
theorem ok_start {f : Addr} {fd : FuncData} {k : Nat} (F : Fun K "_law_pen" "_law_pen" s_law_pen f fd) : FnOk P w K mg base CX0 (k + 1) f fd ["_law_script"] (spStart K) := by
  refine F.ok sc_law_pen (fun vs H Q E h => ?_) (fun cdv A outer s H vs Q E hr h => ?_)
  · obtain ⟨a, ns, rfl, _⟩ := h
    rfl
  · obtain ⟨a, ns, rfl, hS, hns, q⟩ := h
    refine ⟨_, (pss_one (ps_ret (pe_lst (pa_cons (pe_slice (slL K) (pv 0) po_none (po_some pe_int)) (pa_cons pe_int (pa_cons pe_int pa_nil)))))), ?_⟩
    obtain ⟨cs, hcs, hcl⟩ := cut_ints ns none (some 63)
    refine ⟨_, rfl, 63, rfl, a, _, rfl, hS, fun c hc => ?_⟩
    rw [hcs]
    refine ⟨szL (show 3 ≤ 1000000 by decide), fun p hp => ?_⟩
    refine q p c _ ⟨cs, 0, 0, upd_same, ?_, by decide, by decide, by decide, by omega⟩
    exact Ext.new hp _ _ upd_same
abbrev s_law_take : Stmt := topS 8
theorem sc_law_take : FnScope ["_law_pen_here", "_law_many", "_law_digit", "_law_turn", "_law_cell", "_law_whole", "_law_stirred"] ["_law_pen_here", "_law_many"] (defScope s_law_take) :=
  ⟨rfl, rfl, rfl, by decide +kernel, rfl, by decide +kernel, by decide +kernel⟩
def spDraw : Sp := fun vs H Q _ => ∃ (p c : Addr) (m : Int) (n : Nat), vs = [.ref p, .int m] ∧ Pen H p c n ∧ n < 1000000 ∧ 0 < m ∧ m ≤ 1000000 ∧
  ∀ r H', 0 ≤ r → r < m → Kp p H H' → Pen H' p c (n + 1) → Q (.int r) H'
theorem ok_draw {f : Addr} {fd : FuncData} {k : Nat} (F : Fun K "_law_take" "_law_take" s_law_take f fd) (mlen : mg "len" = none) (mabs : mg "abs" = none) (mint : mg "int" = none) : FnOk P w K mg base CX0 (k + 1) f fd ["_law_pen_here", "_law_many"] spDraw := by
  refine F.ok sc_law_take (fun vs H Q E h => ?_) (fun cdv A outer s H vs Q E hr h => ?_)
  · obtain ⟨p, c, m, n, rfl, _⟩ := h
    rfl
  · obtain ⟨p, c, m, n, rfl, hP, hn, m0, m1, q⟩ := h
    obtain ⟨cells, a, r, hp, hc, a0, a1, r0, cl⟩ := hP
    refine ⟨_, (pss_cons (ps_if (pt_cmpR op_gt (pe_ix (ixL K) (pv 0) pe_int (fun _ _ => rfl)) pe_int (nomark _)) (pss_cons (ps_set (i := 2) sc_law_take.nd rfl (.inl rfl) (pe_op op_mod (pe_ix (ixL K) (pv 0) pe_int (fun _ _ => rfl)) (pv 1)))
      (pss_cons (ps_asg (pe_op op_fdiv (pe_ix (ixL K) (pv 0) pe_int (fun _ _ => rfl)) (pv 1)) (pg_sub (pv 0) pe_int set_list))
      (pss_one (ps_ret (pv 2))))) pss_nil)
      (pss_cons (ps_set (i := 3) sc_law_take.nd rfl (.inl rfl) (pe_ix (ixL K) (pv 0) pe_int (fun _ _ => rfl)))
      (pss_cons (ps_asg (pe_op op_add (pv 3) pe_int) (pg_sub (pv 0) pe_int set_list))
      (pss_cons (ps_set (i := 4) sc_law_take.nd rfl (.inl rfl) pe_int)
      (pss_cons (ps_if (pt_cmpR op_gt (pe_callB (lenQ K) (by rfl) mlen (by decide +kernel) (pa_cons (pe_ix (ixL K) (pv 0) pe_int (fun _ _ => rfl)) pa_nil)) pe_int (nomark _)) (pss_one (ps_set (i := 4) sc_law_take.nd rfl (.inl rfl) (pe_ix (ixL K) (pe_ix (ixL K) (pv 0) pe_int (fun _ _ => rfl)) (pe_op op_mod (pv 3) (pe_callB (lenQ K) (by rfl) mlen (by decide +kernel) (pa_cons (pe_ix (ixL K) (pv 0) pe_int (fun _ _ => rfl)) pa_nil))) (fun _ _ => rfl)))) pss_nil)
      (pss_cons (ps_if (PW.pt (pw_and (pt_cmpR op_lt (pv 3) (pe_callB (lenQ K) (by rfl) mlen (by decide +kernel) (pa_cons (pe_ix (ixL K) (pv 0) pe_int (fun _ _ => rfl)) pa_nil)) (nomark _)) (pw_and1 (pt_cmpR op_ge (pe_callB call_abs (by rfl) mabs (by decide +kernel) (pa_cons (pv 4) pa_nil)) (pe_op op_pow pe_int pe_int) (nomark _))))) (pss_cons (ps_set (i := 5) sc_law_take.nd rfl (.inl rfl) (pe_op op_add (pe_op op_mul pe_int (pe_callB call_abs (by rfl) mabs (by decide +kernel) (pa_cons (pv 4) pa_nil))) (pe_callTy call_int1 (by rfl) mint (by decide +kernel) (pa_cons (pe_cmpR op_lt (pv 4) pe_int (nomark _)) pa_nil))))
      (pss_cons (ps_asg (pe_op op_fdiv (pv 5) (pv 1)) (pg_sub (pv 0) pe_int set_list))
      (pss_one (ps_ret (pe_op op_mod (pv 5) (pv 1)))))) pss_nil)
      (pss_cons (ps_set (i := 6) sc_law_take.nd rfl (.inl rfl) (pe_op op_mod (pe_op op_pow (pe_op op_add (pe_op op_add (pe_op op_mod (pv 4) pe_int) (pe_op op_mul pe_int (pv 3))) pe_int) pe_int) pe_int))
      (pss_cons (ps_set (i := 6) sc_law_take.nd rfl (.inl rfl) (pe_op op_mod (pe_op op_pow (pe_op op_add (pe_op op_mul (pv 6) (pe_op op_add (pv 3) pe_int)) (pe_op op_mod (pv 4) pe_int)) pe_int) pe_int))
      (pss_one (ps_ret (pe_op op_mod (pe_op op_fdiv (pv 6) pe_int) (pv 1)))))))))))), ?_⟩
    have ncp : c ≠ p := ne_of hc hp (by
      intro z
      injection z with z
      cases cells with
      | nil => cases z
      | cons x y => injection z with z1 _; cases z1)
    refine ⟨.ref p, rfl, p, _, 2, .int r, rfl, rfl, SqL.of hp, rfl, _, _, rfl, rfl, _, rfl, ite2 (fun e => ?_) (fun e => ?_)⟩
    · refine ⟨.ref p, rfl, p, _, 2, .int r, rfl, rfl, SqL.of hp, rfl, .int m, rfl, r, m, rfl, rfl, m0, ?_⟩
      refine ⟨.ref p, rfl, p, _, 2, .int r, rfl, rfl, SqL.of hp, rfl, .int m, rfl, r, m, rfl, rfl, ⟨m0, by omega⟩, .ref p, rfl, p, _, 2, 2, rfl, rfl, hp, rfl, ?_⟩
      refine ⟨_, rfl, q _ _ (Int.emod_nonneg _ (by omega)) (Int.emod_lt_of_pos _ m0) Kp.at ⟨cells, a, r / m, upd_same, ?_, a0, by omega, Int.ediv_nonneg r0 (by omega), cl⟩⟩
      rw [upd_ne ncp]
      exact hc
    · refine ⟨.ref p, rfl, p, _, 1, .int a, rfl, rfl, SqL.of hp, rfl, ?_⟩
      refine ⟨.int a, rfl, a, 1, rfl, rfl, .ref p, rfl, p, _, 1, 1, rfl, rfl, hp, rfl, ?_⟩
      have hp2 : (upd H p (.lst [.ref c, .int (a + 1), .int r])) p = some (.lst [.ref c, .int (a + 1), .int r]) := upd_same
      have hc2 : (upd H p (.lst [.ref c, .int (a + 1), .int r])) c = some (.lst (cells.map V.int)) := by
        rw [upd_ne ncp]
        exact hc
      have k2 : Kp p H (upd H p (.lst [.ref c, .int (a + 1), .int r])) := Kp.at
      have hl1 : ((cells.map V.int).length : Int) = cells.length := by rw [List.length_map]
      refine ⟨.ref p, rfl, p, _, 0, .ref c, rfl, rfl, SqL.of hp2, rfl, c, _, rfl, .inl (SqL.of hc2), _, _, rfl, rfl, _, rfl, ite2 (fun e1 => ?_) (fun e1 => ?_)⟩
      · have hl2 : (0 : Int) < ((cells.map V.int).length : Int) := by simpa using e1
        obtain ⟨z, _, hat⟩ := atI_ints (ns := cells) (Int.emod_nonneg a (show ((cells.map V.int).length : Int) ≠ 0 by omega)) (by
          have := Int.emod_lt_of_pos a (show (0 : Int) < ((cells.map V.int).length : Int) by omega)
          omega)
        refine ⟨.ref p, rfl, p, _, 0, .ref c, rfl, rfl, SqL.of hp2, rfl, .int a, rfl, .ref p, rfl, p, _, 0, .ref c, rfl, rfl, SqL.of hp2, rfl, c, _, rfl, .inl (SqL.of hc2), _, _, rfl, rfl, hl2, c, _, _, _, rfl, rfl, SqL.of hc2, hat, ?_⟩
        refine ⟨.int a, rfl, .ref p, rfl, p, _, 0, .ref c, rfl, rfl, SqL.of hp2, rfl, c, _, rfl, .inl (SqL.of hc2), _, _, rfl, rfl, _, rfl, ite2 (fun e2 => ?_) (fun e2 => ?_)⟩
        refine ⟨_, rfl, _, rfl, 10, 18, rfl, rfl, ⟨by decide, by decide, by decide⟩, _, _, rfl, rfl, _, rfl, ite2 (fun e3 => ?_) (fun e3 => ?_)⟩
        · refine ⟨_, rfl, _, rfl, 2, _, rfl, rfl, .inl ⟨by decide, by decide⟩, _, rfl, _, _, rfl, rfl, .inr ⟨_, rfl, ?_⟩⟩
          obtain ⟨e, he⟩ : ∃ e : Int, e = (if decide (z < 0) = true then 1 else 0) := ⟨_, rfl⟩
          have he2 : 0 ≤ e ∧ e < 2 := by
            rw [he]
            split <;> omega
          rw [← he]
          have hw0 : 0 ≤ 2 * (if z < 0 then -z else z) + e := by
            have : 0 ≤ (if z < 0 then -z else z) := by split <;> omega
            omega
          refine ⟨_, _, rfl, rfl, ?_⟩
          refine ⟨_, rfl, .int m, rfl, _, m, rfl, rfl, ⟨m0, by omega⟩, .ref p, rfl, p, _, 2, 2, rfl, rfl, hp2, rfl, ?_⟩
          refine ⟨_, rfl, .int m, rfl, _, m, rfl, rfl, m0, q _ _ (Int.emod_nonneg _ (by omega)) (Int.emod_lt_of_pos _ m0) (k2.trans Kp.at) ⟨cells, a + 1, _, upd_same, ?_, by omega, by omega, Int.ediv_nonneg hw0 (by omega), cl⟩⟩
          rw [upd_ne ncp]
          exact hc2
        all_goals
          refine ⟨.int z, rfl, z, 2147483563, rfl, rfl, (show (0 : Int) < 2147483563 by decide), .int a, rfl, 9461, a, rfl, rfl, .inl ⟨by decide, by decide⟩, _, _, rfl, rfl, _, 257, rfl, rfl, _, 3, rfl, rfl, ⟨by decide, by decide, draw_b1 a0 (by omega)⟩, _, 2147483647, rfl, rfl, (show (0 : Int) < 2147483647 by decide), ?_⟩
          refine ⟨_, rfl, .int a, rfl, a, 50021, rfl, rfl, _, _, rfl, rfl, .inl (mod_b _ _ (by decide) (by decide)), .int z, rfl, z, 1033, rfl, rfl, (show (0 : Int) < 1033 by decide), _, _, rfl, rfl, _, 2, rfl, rfl, ⟨by decide, by decide, draw_b3 _ _ a0 (by omega)⟩, _, 2147483629, rfl, rfl, (show (0 : Int) < 2147483629 by decide), ?_⟩
          refine ⟨_, rfl, _, 128, rfl, rfl, ⟨by decide, by decide⟩, .int m, rfl, _, m, rfl, rfl, m0, q _ _ (Int.emod_nonneg _ (by omega)) (Int.emod_lt_of_pos _ m0) k2 ⟨cells, a + 1, r, hp2, hc2, by omega, by omega, r0, cl⟩⟩
      · refine ⟨.int a, rfl, .ref p, rfl, p, _, 0, .ref c, rfl, rfl, SqL.of hp2, rfl, c, _, rfl, .inl (SqL.of hc2), _, _, rfl, rfl, _, rfl, ite2 (fun e2 => ?_) (fun e2 => ?_)⟩
        · exfalso
          have h1 : ¬ (0 : Int) < ((cells.map V.int).length : Int) := by simpa using e1
          have h2 : a < ((cells.map V.int).length : Int) := by simpa using e2
          omega
        · refine ⟨.int 127, rfl, 127, 2147483563, rfl, rfl, (show (0 : Int) < 2147483563 by decide), .int a, rfl, 9461, a, rfl, rfl, .inl ⟨by decide, by decide⟩, _, _, rfl, rfl, _, 257, rfl, rfl, _, 3, rfl, rfl, ⟨by decide, by decide, draw_b1 a0 (by omega)⟩, _, 2147483647, rfl, rfl, (show (0 : Int) < 2147483647 by decide), ?_⟩
          refine ⟨_, rfl, .int a, rfl, a, 50021, rfl, rfl, _, _, rfl, rfl, .inl (mod_b _ _ (by decide) (by decide)), .int 127, rfl, 127, 1033, rfl, rfl, (show (0 : Int) < 1033 by decide), _, _, rfl, rfl, _, 2, rfl, rfl, ⟨by decide, by decide, draw_b3 _ _ a0 (by omega)⟩, _, 2147483629, rfl, rfl, (show (0 : Int) < 2147483629 by decide), ?_⟩
          refine ⟨_, rfl, _, 128, rfl, rfl, ⟨by decide, by decide⟩, .int m, rfl, _, m, rfl, rfl, m0, q _ _ (Int.emod_nonneg _ (by omega)) (Int.emod_lt_of_pos _ m0) k2 ⟨cells, a + 1, r, hp2, hc2, by omega, by omega, r0, cl⟩⟩
abbrev CDraw (P : Program) (w : World) (K : PySem.W.Frag) (mg : Str → Option Value) (base : Heap) : Prop := Ca P w K mg base 1 "_law_take" ["_law_pen_here", "_law_many"] spDraw
abbrev s_law_number : Stmt := topS 10
theorem sc_law_number : FnScope ["_law_pen_here", "_law_far", "_law_some"] ["_law_pen_here"] (defScope s_law_number) :=
  ⟨rfl, rfl, rfl, by decide +kernel, rfl, by decide +kernel, by decide +kernel⟩
def spNum : Sp := fun vs H Q _ => ∃ (p c : Addr) (n : Nat), vs = [.ref p] ∧ Pen H p c n ∧ n < 900000 ∧ ∀ r H', r.natAbs < 2 ^ 200 → Kp p H H' → Pen H' p c (n + 5) → Q (.int r) H'
theorem far5 {f : Int} (h0 : 0 ≤ f) (h1 : f < 1000000000000) : 0 ≤ f * f * f * f * f ∧ f * f * f * f * f < 1000000000000 * 1000000000000 * 1000000000000 * 1000000000000 * 1000000000000 := by
  have h2 : f * f < 1000000000000 * 1000000000000 := by
    have := Int.mul_le_mul (show f ≤ 999999999999 by omega) (show f ≤ 999999999999 by omega) h0 (by decide)
    omega
  have g2 : 0 ≤ f * f := Int.mul_nonneg h0 h0
  have h3 : f * f * f < 1000000000000 * 1000000000000 * 1000000000000 := by
    have := Int.mul_le_mul (Int.le_of_lt h2) (show f ≤ 999999999999 by omega) h0 (by decide)
    omega
  have g3 : 0 ≤ f * f * f := Int.mul_nonneg g2 h0
  have h4 : f * f * f * f < 1000000000000 * 1000000000000 * 1000000000000 * 1000000000000 := by
    have := Int.mul_le_mul (Int.le_of_lt h3) (show f ≤ 999999999999 by omega) h0 (by decide)
    omega
  have g4 : 0 ≤ f * f * f * f := Int.mul_nonneg g3 h0
  have h5 : f * f * f * f * f < 1000000000000 * 1000000000000 * 1000000000000 * 1000000000000 * 1000000000000 := by
    have := Int.mul_le_mul (Int.le_of_lt h4) (show f ≤ 999999999999 by omega) h0 (by decide)
    omega
  exact ⟨Int.mul_nonneg g4 h0, h5⟩
theorem ok_num {f : Addr} {fd : FuncData} {k : Nat} (F : Fun K "_law_number" "_law_number" s_law_number f fd) (c_law_take : CDraw P w K mg base) : FnOk P w K mg base CX0 (k + 2) f fd ["_law_pen_here"] spNum := by
  refine F.ok sc_law_number (fun vs H Q E h => ?_) (fun cdv A outer s H vs Q E hr h => ?_)
  · obtain ⟨p, c, n, rfl, _⟩ := h
    rfl
  · obtain ⟨p, c, n, rfl, hP, hn, q⟩ := h
    refine ⟨_, (pss_cons (ps_set (i := 1) sc_law_number.nd rfl (.inl rfl) (pe_op op_add (pe_op op_mul (pe_ca c_law_take (hr.mono (by omega)) (by rfl) (pa_cons (pv 0) (pa_cons (pe_op op_pow pe_int pe_int) pa_nil))) (pe_op op_pow pe_int pe_int)) (pe_ca c_law_take (hr.mono (by omega)) (by rfl) (pa_cons (pv 0) (pa_cons (pe_op op_pow pe_int pe_int) pa_nil)))))
      (pss_cons (ps_set (i := 2) sc_law_number.nd rfl (.inl rfl) (pe_lst (pa_cons pe_int (pa_cons pe_int (pa_cons (pe_ca c_law_take (hr.mono (by omega)) (by rfl) (pa_cons (pv 0) (pa_cons pe_int pa_nil))) (pa_cons (pv 1) (pa_cons (pe_op op_mul (pe_op op_mul (pe_op op_mul (pe_op op_mul (pv 1) (pv 1)) (pv 1)) (pv 1)) (pv 1)) (pa_cons pe_int (pa_cons (pe_op op_mul pe_int (pv 1)) (pa_cons (pe_op op_pow pe_int pe_int) pa_nil))))))))))
      (pss_one (ps_ret (pe_op op_mul (pe_ix (ixL K) (pv 2) (pe_ca c_law_take (hr.mono (by omega)) (by rfl) (pa_cons (pv 0) (pa_cons pe_int pa_nil))) (fun _ _ => rfl)) (pe_ix (ixL K) (pe_lst (pa_cons pe_int (pa_cons (pe_un un_neg pe_int) pa_nil))) (pe_ca c_law_take (hr.mono (by omega)) (by rfl) (pa_cons (pv 0) (pa_cons pe_int pa_nil))) (fun _ _ => rfl))))))), ?_⟩
    refine ⟨_, rfl, 10, 6, rfl, rfl, ⟨by decide, by decide, by decide⟩, p, c, _, n, rfl, hP, by omega, by decide, by decide, fun r1 H1 a1 b1 k1 hP1 => ?_⟩
    refine ⟨10, 6, rfl, rfl, ⟨by decide, by decide, by decide⟩, r1, _, rfl, rfl, .inr ⟨by decide, by decide⟩, ?_⟩
    refine ⟨_, rfl, 10, 6, rfl, rfl, ⟨by decide, by decide, by decide⟩, p, c, _, _, rfl, hP1, by omega, by decide, by decide, fun r2 H2 a2 b2 k2 hP2 => ?_⟩
    refine ⟨_, _, rfl, rfl, ?_⟩
    obtain ⟨g, hg⟩ : ∃ g : Int, g = r1 * 10 ^ (6 : Int).toNat + r2 := ⟨_, rfl⟩
    show gName 1 (V.int (r1 * 10 ^ (6 : Int).toNat + r2)) _ _ _
    rw [← hg]
    have e6 : (10 : Int) ^ (6 : Int).toNat = 1000000 := by decide
    rw [e6] at hg b1 b2
    have hg0 : 0 ≤ g := by omega
    have hg1 : g < 1000000000000 := by omega
    have f5 := far5 hg0 hg1
    refine ⟨_, rfl, p, c, 13, _, rfl, hP2, by omega, by decide, by decide, fun r3 H3 a3 b3 k3 hP3 => ?_⟩
    refine ⟨_, rfl, _, rfl, _, rfl, _, _, rfl, rfl, .inr ⟨by omega, by omega⟩, _, rfl, _, _, rfl, rfl, .inr ⟨by omega, by omega⟩, _, rfl, _, _, rfl, rfl, .inr ⟨by omega, by omega⟩, _, rfl, _, _, rfl, rfl, .inr ⟨by omega, by omega⟩, ?_⟩
    refine ⟨_, rfl, 2, _, rfl, rfl, .inr ⟨by omega, by omega⟩, 10, 9, rfl, rfl, ⟨by decide, by decide, by decide⟩, szL (show 8 ≤ 1000000 by decide), fun l4 hl4 => ?_⟩
    have e9 : (10 : Int) ^ (9 : Int).toNat = 1000000000 := by decide
    have hP4 := hP3.new (o := .lst [.int 0, .int 1, .int r3, .int g, .int (g * g * g * g * g), .int 720720, .int (2 * g), .int (10 ^ (9 : Int).toNat)]) hl4
    refine ⟨_, rfl, _, rfl, p, c, 8, _, rfl, hP4, by omega, by decide, by decide, fun r5 H5 a5 b5 k5 hP5 => ?_⟩
    obtain ⟨z, hz, hat⟩ := atI_ints (ns := [0, 1, r3, g, g * g * g * g * g, 720720, 2 * g, 10 ^ (9 : Int).toNat]) a5 (show r5 < 8 by omega)
    have hzb : 0 ≤ z ∧ z < 1000000000000 * 1000000000000 * 1000000000000 * 1000000000000 * 1000000000000 := by
      simp only [List.mem_cons, List.not_mem_nil, or_false] at hz
      rw [e9] at hz
      omega
    refine ⟨l4, _, r5, _, rfl, rfl, SqL.of (k5 _ _ (hP3.ne hl4).1 upd_same), hat, ?_⟩
    refine ⟨_, rfl, szL (show 2 ≤ 1000000 by decide), fun l6 hl6 => ?_⟩
    refine ⟨_, rfl, p, c, 2, _, rfl, hP5.new hl6, by omega, by decide, by decide, fun r7 H7 a7 b7 k7 hP7 => ?_⟩
    obtain ⟨y, hy, hat2⟩ := atI_ints (ns := [1, -1]) a7 (show r7 < 2 by omega)
    have hyb : y = 1 ∨ y = -1 := by
      simp only [List.mem_cons, List.not_mem_nil, or_false] at hy
      exact hy
    refine ⟨l6, _, r7, _, rfl, rfl, SqL.of (k7 _ _ (hP5.ne hl6).1 upd_same), hat2, z, y, rfl, rfl, .inr ⟨by omega, by omega⟩, ?_⟩
    refine q _ _ ?_ ?_ (hP7.mono (by omega))
    · rcases hyb with rfl | rfl <;> omega
    · exact (((((k1.trans k2).trans k3).trans (Kp.new hl4)).trans k5).trans (Kp.new hl6)).trans k7
abbrev CNum (P : Program) (w : World) (K : PySem.W.Frag) (mg : Str → Option Value) (base : Heap) : Prop := Ca P w K mg base 2 "_law_number" ["_law_pen_here"] spNum
end
end Pf


namespace Pf
open PySem PySem.Spec PyProof.Rows L2
/-! ### made short -/
def shr (u d : Int) : Int × Int := if d < 0 then ((-u) / (Int.gcd u d : Int), (-d) / (Int.gcd u d : Int)) else (u / (Int.gcd u d : Int), d / (Int.gcd u d : Int))
theorem gcd_pos {u d : Int} (h : d ≠ 0) : 0 < (Int.gcd u d : Int) := Int.ofNat_lt.mpr (Int.gcd_pos_of_ne_zero_right u h)
theorem gcd_le {u d : Int} (h : d ≠ 0) : Int.gcd u d ≤ d.natAbs := Nat.le_of_dvd (Int.natAbs_pos.mpr h) (Nat.gcd_dvd_right _ _)
theorem shr_neg {u d : Int} (h : d < 0) : shr (-u) (-d) = shr u d := by
  unfold shr
  rw [if_pos h, if_neg (by omega), Int.gcd_neg, Int.neg_gcd]
theorem shr_pos {u d : Int} (h : 0 < d) : shr u d = (u / (Int.gcd u d : Int), d / (Int.gcd u d : Int)) := by
  unfold shr
  rw [if_neg (by omega)]
theorem shr_one (u : Int) : shr u 1 = (u, 1) := by
  rw [shr_pos (by decide), Int.gcd_one]
  simp
theorem fdiv_neg' (u g : Int) (h : 0 < g) : u.fdiv (0 - g) = (-u) / g := by
  have h1 : u.fdiv (0 - g) = (-u).fdiv g := by
    have := Int.neg_fdiv_neg (-u) g
    rw [Int.neg_neg] at this
    rw [Int.zero_sub]
    exact this
  rw [h1, Int.fdiv_eq_ediv_of_nonneg _ (by omega)]
theorem div_abs {z g : Int} {B : Nat} (hg : 0 < g) (h : z.natAbs < B) : (z / g).natAbs < B := by
  have h1 : (z / g).natAbs ≤ z.natAbs := Int.natAbs_ediv_le_natAbs z g
  omega
theorem shr_b {u d : Int} {B : Nat} (h : d ≠ 0) (hu : u.natAbs < B) (hd : d.natAbs < B) : (shr u d).1.natAbs < B ∧ (shr u d).2.natAbs < B ∧ 1 ≤ (shr u d).2 := by
  have hg := gcd_pos (u := u) h
  have hdv : (Int.gcd u d : Int) ∣ d := Int.gcd_dvd_right ..
  unfold shr
  split
  · refine ⟨div_abs hg (by omega), div_abs hg (by omega), ?_⟩
    exact Int.le_ediv_of_mul_le hg (by
      have := Int.le_of_dvd (show 0 < -d by omega) ((Int.dvd_neg).mpr hdv)
      omega)
  · refine ⟨div_abs hg hu, div_abs hg hd, ?_⟩
    exact Int.le_ediv_of_mul_le hg (by
      have := Int.le_of_dvd (show 0 < d by omega) hdv
      omega)
/-! ### a share in the heap -/
def ShT (H : Hp) (v : V) (s : Int × Int) : Prop := ∃ t, v = .ref t ∧ H t = some (.tup [.int s.1, .int s.2])
def ShOk (s : Int × Int) : Prop := s.1.natAbs < 2 ^ 200 ∧ s.2.natAbs < 2 ^ 200 ∧ 1 ≤ s.2
theorem ShT.mono {H H' : Hp} {v : V} {s : Int × Int} (k : TupK H H') (h : ShT H v s) : ShT H' v s := by
  obtain ⟨t, rfl, e⟩ := h
  exact ⟨t, rfl, k.1 _ _ e⟩
def dSh (s : Int × Int) : PyData := .tuple [.int s.1, .int s.2]
theorem dp_sh {K : PySem.W.Frag} {H : Hp} {v : V} {s : Int × Int} (h : ShT H v s) : Dp K H v (dSh s) := by
  obtain ⟨t, rfl, e⟩ := h
  exact .tup (SqT.of e) (.cons (.int _) (.cons (.int _) .nil))
def ShBg (s : Int × Int) : Prop := s.1.natAbs < 2 ^ 500 ∧ s.2.natAbs < 2 ^ 500
theorem bg_sh {s : Int × Int} (h : ShBg s) : Bg 501 1002 1 (dSh s) := by
  refine Bg.tup (n := 2) (m := 500) (by simp) (fun d hd => ?_) (by decide)
  simp only [List.mem_cons, List.not_mem_nil, or_false] at hd
  rcases hd with rfl | rfl
  · exact Bg.int (by decide) (by decide) h.1
  · exact Bg.int (by decide) (by decide) h.2
theorem ShOk.bg {s : Int × Int} (h : ShOk s) : ShBg s := ⟨Nat.lt_of_lt_of_le h.1 (Nat.pow_le_pow_right (by decide) (by decide)), Nat.lt_of_lt_of_le h.2.1 (Nat.pow_le_pow_right (by decide) (by decide))⟩
section
variable {P : Program} {w : World} {K : PySem.W.Frag} {mg : Str → Option Value} {base : Heap}
/-! ### the greatest divisor -/
abbrev s_greatest_divisor : Stmt := topS 1
theorem sc_greatest_divisor : FnScope ["number", "other"] ["number", "other"] (defScope s_greatest_divisor) :=
  ⟨rfl, rfl, rfl, by decide +kernel, rfl, by decide +kernel, by decide +kernel⟩
def spGD : Sp := fun vs H Q _ => ∃ (a b : Nat), vs = [.int a, .int b] ∧ ∀ H', Ext H H' → Q (.int (Nat.gcd a b)) H'
theorem ok_gd {f : Addr} {fd : FuncData} {k : Nat} (F : Fun K "greatest_divisor" "greatest_divisor" s_greatest_divisor f fd) : FnOk P w K mg base CX0 (k + 1) f fd ["number", "other"] spGD := by
  refine F.ok sc_greatest_divisor (fun vs H Q E h => ?_) (fun cdv A outer s H vs Q E hr h => ?_)
  · obtain ⟨a, b, rfl, _⟩ := h
    rfl
  · obtain ⟨a, b, rfl, q⟩ := h
    refine ⟨_, (pss_cons (ps_while PassesOwn.never (pt_cmpR op_gt (pv 1) pe_int (nomark _)) (pss_one (ps_par (i := 0) (j := 1) rfl sc_greatest_divisor.nd rfl rfl (by decide) rfl rfl (pa_cons (pv 1) (pa_cons (pe_op op_mod (pv 0) (pv 1)) pa_nil)) (by rfl))))
      (pss_one (ps_ret (pv 0)))), ?_⟩
    refine ⟨fun m σ H' => ∃ x y : Nat, σ = [some (.int x), some (.int y)] ∧ y = m ∧ Nat.gcd x y = Nat.gcd a b ∧ Ext H H', ⟨b, a, b, rfl, rfl, rfl, Ext.refl⟩, ?_⟩
    rintro m σ H' ⟨x, y, rfl, rfl, hg, hE⟩
    refine ⟨.int y, rfl, _, _, rfl, rfl, _, rfl, ite2 (fun e => ?_) (fun e => ?_)⟩
    · have hy : (0 : Int) < (y : Int) := by simpa using e
      refine ⟨fun σ' H' => ∃ m', m' < y ∧ ∃ x y : Nat, σ' = [some (.int x), some (.int y)] ∧ y = m' ∧ Nat.gcd x y = Nat.gcd a b ∧ Ext H H', fun _ _ h => h, ?_⟩
      refine ⟨_, rfl, .int x, rfl, .int y, rfl, _, _, rfl, rfl, hy, _, _, rfl, ?_⟩
      refine ⟨x % y, Nat.mod_lt _ (by omega), y, x % y, rfl, rfl, ?_, hE⟩
      rw [← hg, Nat.gcd_comm x y, Nat.gcd_comm y (x % y)]
      exact (Nat.gcd_rec y x).symm
    · have hy : y = 0 := by
        have : ¬ (0 : Int) < (y : Int) := by simpa using e
        omega
      subst hy
      rw [Nat.gcd_zero_right] at hg
      refine ⟨_, rfl, ?_⟩
      rw [hg]
      exact q _ hE
abbrev CGD (P : Program) (w : World) (K : PySem.W.Frag) (mg : Str → Option Value) (base : Heap) : Prop := Ca P w K mg base 1 "greatest_divisor" ["number", "other"] spGD
/-! ### the law's own -/
abbrev s_law_short : Stmt := topS 9
theorem sc_law_short : FnScope ["_law_up", "_law_down", "_law_one", "_law_two"] ["_law_up", "_law_down"] (defScope s_law_short) :=
  ⟨rfl, rfl, rfl, by decide +kernel, rfl, by decide +kernel, by decide +kernel⟩
def spShort : Sp := fun vs H Q _ => ∃ (u d : Int), vs = [.int u, .int d] ∧ d ≠ 0 ∧ d.natAbs < 2 ^ 500 ∧ ∀ v H', ShT H' v (shr u d) → Ext H H' → Q v H'
theorem natAbs_ite (z : Int) : (if z < 0 then -z else z) = (z.natAbs : Int) := by
  split <;> omega
theorem g_log {u d : Int} (h : d ≠ 0) (hd : d.natAbs < 2 ^ 500) : (Int.gcd u d : Int).natAbs.log2 < 9000 := by
  have h1 := gcd_le (u := u) h
  have h2 : (Int.gcd u d : Int).natAbs < 2 ^ 500 := by
    rw [Int.natAbs_natCast]
    omega
  exact Nat.lt_of_lt_of_le (PySem.Flt.log2_lt_of (by decide) h2) (by decide)
theorem ok_short {f : Addr} {fd : FuncData} {k : Nat} (F : Fun K "_law_short" "_law_short" s_law_short f fd) (mabs : mg "abs" = none) : FnOk P w K mg base CX0 (k + 1) f fd ["_law_up", "_law_down"] spShort := by
  refine F.ok sc_law_short (fun vs H Q E h => ?_) (fun cdv A outer s H vs Q E hr h => ?_)
  · obtain ⟨u, d, rfl, _⟩ := h
    rfl
  · obtain ⟨u, d, rfl, hd0, hd, q⟩ := h
    refine ⟨_, (pss_cons (ps_par (i := 2) (j := 3) rfl sc_law_short.nd rfl rfl (by decide) rfl rfl (pa_cons (pe_callB call_abs (by rfl) mabs (by decide +kernel) (pa_cons (pv 0) pa_nil)) (pa_cons (pe_callB call_abs (by rfl) mabs (by decide +kernel) (pa_cons (pv 1) pa_nil)) pa_nil)) (by rfl))
      (pss_cons (ps_while PassesOwn.never (pt_cmpR op_gt (pv 3) pe_int (nomark _)) (pss_one (ps_par (i := 2) (j := 3) rfl sc_law_short.nd rfl rfl (by decide) rfl rfl (pa_cons (pv 3) (pa_cons (pe_op op_mod (pv 2) (pv 3)) pa_nil)) (by rfl))))
      (pss_cons (ps_if (pt_cmpR op_lt (pv 1) pe_int (nomark _)) (pss_one (ps_set (i := 2) sc_law_short.nd rfl (.inl rfl) (pe_op op_sub pe_int (pv 2)))) pss_nil)
      (pss_one (ps_ret (pe_tup (pa_cons (pe_op op_fdivNW (pv 0) (pv 2)) (pa_cons (pe_op op_fdivNW (pv 1) (pv 2)) pa_nil)))))))), ?_⟩
    refine ⟨_, rfl, _, rfl, _, rfl, _, rfl, ?_⟩
    rw [natAbs_ite, natAbs_ite]
    refine ⟨_, _, rfl, ?_⟩
    refine ⟨fun m σ H' => ∃ x y : Nat, σ = [some (.int u), some (.int d), some (.int x), some (.int y)] ∧ y = m ∧ Nat.gcd x y = Int.gcd u d ∧ Ext H H', ⟨d.natAbs, u.natAbs, d.natAbs, rfl, rfl, rfl, Ext.refl⟩, ?_⟩
    rintro m σ H' ⟨x, y, rfl, rfl, hg, hE⟩
    refine ⟨.int y, rfl, _, _, rfl, rfl, _, rfl, ite2 (fun e => ?_) (fun e => ?_)⟩
    · have hy : (0 : Int) < (y : Int) := by simpa using e
      refine ⟨fun σ' H' => ∃ m', m' < y ∧ ∃ x y : Nat, σ' = [some (.int u), some (.int d), some (.int x), some (.int y)] ∧ y = m' ∧ Nat.gcd x y = Int.gcd u d ∧ Ext H H', fun _ _ h => h, ?_⟩
      refine ⟨_, rfl, .int x, rfl, .int y, rfl, _, _, rfl, rfl, hy, _, _, rfl, ?_⟩
      refine ⟨x % y, Nat.mod_lt _ (by omega), y, x % y, rfl, rfl, ?_, hE⟩
      rw [← hg, Nat.gcd_comm x y, Nat.gcd_comm y (x % y)]
      exact (Nat.gcd_rec y x).symm
    · have hy : y = 0 := by
        have : ¬ (0 : Int) < (y : Int) := by simpa using e
        omega
      subst hy
      rw [Nat.gcd_zero_right] at hg
      subst hg
      have gp := gcd_pos (u := u) hd0
      have gl := g_log (u := u) hd0 hd
      refine ⟨_, rfl, _, _, rfl, rfl, _, rfl, ite2 (fun e => ?_) (fun e => ?_)⟩
      · have hn : d < 0 := by simpa using e
        refine ⟨_, rfl, _, _, rfl, rfl, ?_⟩
        have c0 : ∀ z : Int, CDivNW z (0 - (Int.gcd u d : Int)) := fun z => ⟨by omega, by
          have : (0 - (Int.gcd u d : Int)).natAbs = (Int.gcd u d : Int).natAbs := by omega
          rw [this]
          exact gl⟩
        refine ⟨_, rfl, _, rfl, _, _, rfl, rfl, c0 _, _, rfl, _, rfl, _, _, rfl, rfl, c0 _, szL (show 2 ≤ 1000000 by decide), fun t2 ht2 => q _ _ ⟨t2, rfl, ?_⟩ (hE.trans (Ext.new ht2))⟩
        unfold shr
        rw [if_pos hn, upd_same]
        show some (HO.tup [V.int (u.fdiv (0 - (Int.gcd u d : Int))), V.int (d.fdiv (0 - (Int.gcd u d : Int)))]) = _
        rw [fdiv_neg' _ _ gp, fdiv_neg' _ _ gp]
      · have hn : ¬ d < 0 := by simpa using e
        have c0 : ∀ z : Int, CDivNW z (Int.gcd u d : Int) := fun z => ⟨by omega, gl⟩
        refine ⟨_, rfl, _, rfl, _, _, rfl, rfl, c0 _, _, rfl, _, rfl, _, _, rfl, rfl, c0 _, szL (show 2 ≤ 1000000 by decide), fun t2 ht2 => q _ _ ⟨t2, rfl, ?_⟩ (hE.trans (Ext.new ht2))⟩
        unfold shr
        rw [if_neg hn, upd_same]
        show some (HO.tup [V.int (u.fdiv (Int.gcd u d : Int)), V.int (d.fdiv (Int.gcd u d : Int))]) = _
        rw [Int.fdiv_eq_ediv_of_nonneg _ (by omega), Int.fdiv_eq_ediv_of_nonneg _ (by omega)]
abbrev CShort (P : Program) (w : World) (K : PySem.W.Frag) (mg : Str → Option Value) (base : Heap) : Prop := Ca P w K mg base 1 "_law_short" ["_law_up", "_law_down"] spShort
/-! ### share_of -/
abbrev s_share_of : Stmt := topS 2
theorem sc_share_of : FnScope ["top", "bottom", "divisor"] ["top", "bottom"] (defScope s_share_of) :=
  ⟨rfl, rfl, rfl, by decide +kernel, rfl, by decide +kernel, by decide +kernel⟩
abbrev FunSh (K : PySem.W.Frag) (f : Addr) (fd : FuncData) : Prop := FunD K "share_of" "share_of" (defArgs s_share_of) (defBody s_share_of) (defScope s_share_of) [.int 1] [] f fd
def spSh0 : Sp := fun vs H Q _ => ∃ (u d : Int), vs = [.int u, .int d] ∧ 0 < d ∧ d.natAbs < 2 ^ 500 ∧ ∀ v H', ShT H' v (shr u d) → Ext H H' → Q v H'
theorem ok_sh0 {f : Addr} {fd : FuncData} {k : Nat} (F : FunSh K f fd) (cshare_of : Ca P w K mg base 0 "share_of" ["top", "bottom"] (fun _ _ _ _ => False)) (cgreatest_divisor : CGD P w K mg base) (mabs : mg "abs" = none) : FnOk P w K mg base CX0 (k + 2) f fd ["top", "bottom"] spSh0 := by
  refine F.ok sc_share_of (fun vs H Q E h => ?_) (fun cdv A outer s H vs Q E hr h => ?_)
  · obtain ⟨u, d, rfl, _⟩ := h
    rfl
  · obtain ⟨u, d, rfl, hd0, hd, q⟩ := h
    refine ⟨_, PSs.nox (pss_cons (ps_if (pt_cmpR op_lt (pv 1) pe_int (nomark _)) (pss_one (ps_ret (pe_ca cshare_of (hr.mono (by omega)) (by rfl) (pa_cons (pe_un un_neg (pv 0)) (pa_cons (pe_un un_neg (pv 1)) pa_nil))))) pss_nil)
      (pss_cons (ps_set (i := 2) sc_share_of.nd rfl (.inl rfl) (pe_ca cgreatest_divisor (hr.mono (by omega)) (by rfl) (pa_cons (pe_callB call_abs (by rfl) mabs (by decide +kernel) (pa_cons (pv 0) pa_nil)) (pa_cons (pv 1) pa_nil))))
      (pss_one (ps_ret (pe_tup (pa_cons (pe_op op_fdivNW (pv 0) (pv 2)) (pa_cons (pe_op op_fdivNW (pv 1) (pv 2)) pa_nil))))))), ?_⟩
    refine ⟨_, rfl, _, _, rfl, rfl, _, rfl, ite2 (fun e => ?_) (fun e => ?_)⟩
    · exfalso
      have : d < 0 := by simpa using e
      omega
    · have hn : d ≠ 0 := by omega
      have gp := gcd_pos (u := u) hn
      have gl := g_log (u := u) hn hd
      refine ⟨_, rfl, _, rfl, _, rfl, u.natAbs, d.natAbs, ?_, fun H1 hE => ?_⟩
      · rw [natAbs_ite, show (d.natAbs : Int) = d by omega]
        rfl
      · have c0 : ∀ z : Int, CDivNW z (Int.gcd u d : Int) := fun z => ⟨by omega, gl⟩
        refine ⟨_, rfl, _, rfl, _, _, rfl, rfl, c0 _, _, rfl, _, rfl, _, _, rfl, rfl, c0 _, szL (show 2 ≤ 1000000 by decide), fun t2 ht2 => q _ _ ⟨t2, rfl, ?_⟩ (hE.trans (Ext.new ht2))⟩
        rw [shr_pos hd0, upd_same]
        show some (HO.tup [V.int (u.fdiv (Int.gcd u d : Int)), V.int (d.fdiv (Int.gcd u d : Int))]) = _
        rw [Int.fdiv_eq_ediv_of_nonneg _ (by omega), Int.fdiv_eq_ediv_of_nonneg _ (by omega)]
theorem ok_sh {f : Addr} {fd : FuncData} {k : Nat} (F : FunSh K f fd) (cshare_of : Ca P w K mg base 2 "share_of" ["top", "bottom"] spSh0) (cgreatest_divisor : CGD P w K mg base) (mabs : mg "abs" = none) : FnOk P w K mg base CX0 (k + 3) f fd ["top", "bottom"] spShort := by
  refine F.ok sc_share_of (fun vs H Q E h => ?_) (fun cdv A outer s H vs Q E hr h => ?_)
  · obtain ⟨u, d, rfl, _⟩ := h
    rfl
  · obtain ⟨u, d, rfl, hn, hd, q⟩ := h
    refine ⟨_, PSs.nox (pss_cons (ps_if (pt_cmpR op_lt (pv 1) pe_int (nomark _)) (pss_one (ps_ret (pe_ca cshare_of (hr.mono (by omega)) (by rfl) (pa_cons (pe_un un_neg (pv 0)) (pa_cons (pe_un un_neg (pv 1)) pa_nil))))) pss_nil)
      (pss_cons (ps_set (i := 2) sc_share_of.nd rfl (.inl rfl) (pe_ca cgreatest_divisor (hr.mono (by omega)) (by rfl) (pa_cons (pe_callB call_abs (by rfl) mabs (by decide +kernel) (pa_cons (pv 0) pa_nil)) (pa_cons (pv 1) pa_nil))))
      (pss_one (ps_ret (pe_tup (pa_cons (pe_op op_fdivNW (pv 0) (pv 2)) (pa_cons (pe_op op_fdivNW (pv 1) (pv 2)) pa_nil))))))), ?_⟩
    refine ⟨_, rfl, _, _, rfl, rfl, _, rfl, ite2 (fun e => ?_) (fun e => ?_)⟩
    · have hn : d < 0 := by simpa using e
      refine ⟨_, rfl, _, rfl, _, rfl, _, rfl, -u, -d, rfl, by omega, by omega, fun v H' hs hE => q v H' ?_ hE⟩
      rw [← shr_neg hn]
      exact hs
    · have hd0 : 0 < d := by
        have : ¬ d < 0 := by simpa using e
        omega
      have gp := gcd_pos (u := u) hn
      have gl := g_log (u := u) hn hd
      refine ⟨_, rfl, _, rfl, _, rfl, u.natAbs, d.natAbs, ?_, fun H1 hE => ?_⟩
      · rw [natAbs_ite, show (d.natAbs : Int) = d by omega]
        rfl
      · have c0 : ∀ z : Int, CDivNW z (Int.gcd u d : Int) := fun z => ⟨by omega, gl⟩
        refine ⟨_, rfl, _, rfl, _, _, rfl, rfl, c0 _, _, rfl, _, rfl, _, _, rfl, rfl, c0 _, szL (show 2 ≤ 1000000 by decide), fun t2 ht2 => q _ _ ⟨t2, rfl, ?_⟩ (hE.trans (Ext.new ht2))⟩
        rw [shr_pos hd0, upd_same]
        show some (HO.tup [V.int (u.fdiv (Int.gcd u d : Int)), V.int (d.fdiv (Int.gcd u d : Int))]) = _
        rw [Int.fdiv_eq_ediv_of_nonneg _ (by omega), Int.fdiv_eq_ediv_of_nonneg _ (by omega)]
abbrev CSh (P : Program) (w : World) (K : PySem.W.Frag) (mg : Str → Option Value) (base : Heap) : Prop := Ca P w K mg base 3 "share_of" ["top", "bottom"] spShort
/-! ### sum, product, quotient -/
def plusS (a b : Int × Int) : Int × Int := shr (a.1 * b.2 + b.1 * a.2) (a.2 * b.2)
def timesS (a b : Int × Int) : Int × Int := shr (a.1 * b.1) (a.2 * b.2)
def overS (a b : Int × Int) : Int × Int := shr (a.1 * b.2) (a.2 * b.1)
theorem m200 {i j : Int} (hi : i.natAbs < 2 ^ 200) (hj : j.natAbs < 2 ^ 200) : CMulW i j := wide_mul hi hj (by decide) (by decide) (by decide)
theorem m400 {i j : Int} (hi : i.natAbs < 2 ^ 200) (hj : j.natAbs < 2 ^ 200) : (i * j).natAbs < 2 ^ 400 := wide_lt hi hj
theorem p400 : (2 : Nat) ^ 400 + 2 ^ 400 ≤ 2 ^ 500 := by decide +kernel
theorem mul_ne {i j : Int} (hi : i ≠ 0) (hj : j ≠ 0) : i * j ≠ 0 := Int.mul_ne_zero hi hj
theorem plus_bg {a b : Int × Int} (ha : ShOk a) (hb : ShOk b) : ShBg (plusS a b) := by
  have h1 := m400 ha.1 hb.2.1
  have h2 := m400 hb.1 ha.2.1
  have h3 := m400 ha.2.1 hb.2.1
  have hp := p400
  have hn : a.2 * b.2 ≠ 0 := mul_ne (by have := ha.2.2; omega) (by have := hb.2.2; omega)
  have := shr_b (B := 2 ^ 500) hn (u := a.1 * b.2 + b.1 * a.2) (by omega) (by omega)
  exact ⟨this.1, this.2.1⟩
theorem times_bg {a b : Int × Int} (ha : ShOk a) (hb : ShOk b) : ShBg (timesS a b) := by
  have h1 := m400 ha.1 hb.1
  have h3 := m400 ha.2.1 hb.2.1
  have hp := p400
  have hn : a.2 * b.2 ≠ 0 := mul_ne (by have := ha.2.2; omega) (by have := hb.2.2; omega)
  have := shr_b (B := 2 ^ 500) hn (u := a.1 * b.1) (by omega) (by omega)
  exact ⟨this.1, this.2.1⟩
theorem over_bg {a b : Int × Int} (ha : ShOk a) (hb : ShOk b) (h0 : b.1 ≠ 0) : ShBg (overS a b) := by
  have h1 := m400 ha.1 hb.2.1
  have h3 := m400 ha.2.1 hb.1
  have hp := p400
  have hn : a.2 * b.1 ≠ 0 := mul_ne (by have := ha.2.2; omega) h0
  have := shr_b (B := 2 ^ 500) hn (u := a.1 * b.2) (by omega) (by omega)
  exact ⟨this.1, this.2.1⟩
abbrev s_plus : Stmt := topS 3
theorem sc_plus : FnScope ["share", "other"] ["share", "other"] (defScope s_plus) :=
  ⟨rfl, rfl, rfl, by decide +kernel, rfl, by decide +kernel, by decide +kernel⟩
abbrev s_times : Stmt := topS 4
theorem sc_times : FnScope ["share", "other"] ["share", "other"] (defScope s_times) :=
  ⟨rfl, rfl, rfl, by decide +kernel, rfl, by decide +kernel, by decide +kernel⟩
abbrev s_over : Stmt := topS 5
theorem sc_over : FnScope ["share", "other"] ["share", "other"] (defScope s_over) :=
  ⟨rfl, rfl, rfl, by decide +kernel, rfl, by decide +kernel, by decide +kernel⟩
def spBin (C : (Int × Int) → Prop) (f : (Int × Int) → (Int × Int) → (Int × Int)) : Sp := fun vs H Q _ => ∃ (v1 v2 : V) (a b : Int × Int), vs = [v1, v2] ∧ ShT H v1 a ∧ ShT H v2 b ∧ ShOk a ∧ ShOk b ∧ C b ∧ ∀ v H', ShT H' v (f a b) → Ext H H' → Q v H'
theorem ok_plus {f : Addr} {fd : FuncData} {k : Nat} (F : Fun K "plus" "plus" s_plus f fd) (cshare_of : CSh P w K mg base) : FnOk P w K mg base CX0 (k + 4) f fd ["share", "other"] (spBin (fun _ => True) plusS) := by
  refine F.ok sc_plus (fun vs H Q E h => ?_) (fun cdv A outer s H vs Q E hr h => ?_)
  · obtain ⟨v1, v2, a, b, rfl, _⟩ := h
    rfl
  · obtain ⟨v1, v2, a, b, rfl, ⟨t1, rfl, e1⟩, ⟨t2, rfl, e2⟩, ha, hb, _, q⟩ := h
    refine ⟨_, (pss_one (ps_ret (pe_ca cshare_of (hr.mono (by omega)) (by rfl) (pa_cons (pe_op op_add (pe_op op_mulW (pe_ix (ixT K) (pv 0) pe_int (fun _ _ => rfl)) (pe_ix (ixT K) (pv 1) pe_int (fun _ _ => rfl))) (pe_op op_mulW (pe_ix (ixT K) (pv 1) pe_int (fun _ _ => rfl)) (pe_ix (ixT K) (pv 0) pe_int (fun _ _ => rfl)))) (pa_cons (pe_op op_mulW (pe_ix (ixT K) (pv 0) pe_int (fun _ _ => rfl)) (pe_ix (ixT K) (pv 1) pe_int (fun _ _ => rfl))) pa_nil))))), ?_⟩
    have hp := p400
    have h3 := m400 ha.2.1 hb.2.1
    refine ⟨_, rfl, t1, _, 0, _, rfl, rfl, SqT.of e1, rfl, _, rfl, t2, _, 1, _, rfl, rfl, SqT.of e2, rfl, _, _, rfl, rfl, m200 ha.1 hb.2.1, ?_⟩
    refine ⟨_, rfl, t2, _, 0, _, rfl, rfl, SqT.of e2, rfl, _, rfl, t1, _, 1, _, rfl, rfl, SqT.of e1, rfl, _, _, rfl, rfl, m200 hb.1 ha.2.1, _, _, rfl, rfl, ?_⟩
    refine ⟨_, rfl, t1, _, 1, _, rfl, rfl, SqT.of e1, rfl, _, rfl, t2, _, 1, _, rfl, rfl, SqT.of e2, rfl, _, _, rfl, rfl, m200 ha.2.1 hb.2.1, ?_⟩
    exact ⟨_, _, rfl, mul_ne (by have := ha.2.2; omega) (by have := hb.2.2; omega), by omega, q⟩
theorem ok_times {f : Addr} {fd : FuncData} {k : Nat} (F : Fun K "times" "times" s_times f fd) (cshare_of : CSh P w K mg base) : FnOk P w K mg base CX0 (k + 4) f fd ["share", "other"] (spBin (fun _ => True) timesS) := by
  refine F.ok sc_times (fun vs H Q E h => ?_) (fun cdv A outer s H vs Q E hr h => ?_)
  · obtain ⟨v1, v2, a, b, rfl, _⟩ := h
    rfl
  · obtain ⟨v1, v2, a, b, rfl, ⟨t1, rfl, e1⟩, ⟨t2, rfl, e2⟩, ha, hb, _, q⟩ := h
    refine ⟨_, (pss_one (ps_ret (pe_ca cshare_of (hr.mono (by omega)) (by rfl) (pa_cons (pe_op op_mulW (pe_ix (ixT K) (pv 0) pe_int (fun _ _ => rfl)) (pe_ix (ixT K) (pv 1) pe_int (fun _ _ => rfl))) (pa_cons (pe_op op_mulW (pe_ix (ixT K) (pv 0) pe_int (fun _ _ => rfl)) (pe_ix (ixT K) (pv 1) pe_int (fun _ _ => rfl))) pa_nil))))), ?_⟩
    have hp := p400
    have h3 := m400 ha.2.1 hb.2.1
    refine ⟨_, rfl, t1, _, 0, _, rfl, rfl, SqT.of e1, rfl, _, rfl, t2, _, 0, _, rfl, rfl, SqT.of e2, rfl, _, _, rfl, rfl, m200 ha.1 hb.1, ?_⟩
    refine ⟨_, rfl, t1, _, 1, _, rfl, rfl, SqT.of e1, rfl, _, rfl, t2, _, 1, _, rfl, rfl, SqT.of e2, rfl, _, _, rfl, rfl, m200 ha.2.1 hb.2.1, ?_⟩
    exact ⟨_, _, rfl, mul_ne (by have := ha.2.2; omega) (by have := hb.2.2; omega), by omega, q⟩
theorem ok_over {f : Addr} {fd : FuncData} {k : Nat} (F : Fun K "over" "over" s_over f fd) (cshare_of : CSh P w K mg base) : FnOk P w K mg base CX0 (k + 4) f fd ["share", "other"] (spBin (fun b => b.1 ≠ 0) overS) := by
  refine F.ok sc_over (fun vs H Q E h => ?_) (fun cdv A outer s H vs Q E hr h => ?_)
  · obtain ⟨v1, v2, a, b, rfl, _⟩ := h
    rfl
  · obtain ⟨v1, v2, a, b, rfl, ⟨t1, rfl, e1⟩, ⟨t2, rfl, e2⟩, ha, hb, h0, q⟩ := h
    refine ⟨_, (pss_one (ps_ret (pe_ca cshare_of (hr.mono (by omega)) (by rfl) (pa_cons (pe_op op_mulW (pe_ix (ixT K) (pv 0) pe_int (fun _ _ => rfl)) (pe_ix (ixT K) (pv 1) pe_int (fun _ _ => rfl))) (pa_cons (pe_op op_mulW (pe_ix (ixT K) (pv 0) pe_int (fun _ _ => rfl)) (pe_ix (ixT K) (pv 1) pe_int (fun _ _ => rfl))) pa_nil))))), ?_⟩
    have hp := p400
    have h3 := m400 ha.2.1 hb.1
    refine ⟨_, rfl, t1, _, 0, _, rfl, rfl, SqT.of e1, rfl, _, rfl, t2, _, 1, _, rfl, rfl, SqT.of e2, rfl, _, _, rfl, rfl, m200 ha.1 hb.2.1, ?_⟩
    refine ⟨_, rfl, t1, _, 1, _, rfl, rfl, SqT.of e1, rfl, _, rfl, t2, _, 0, _, rfl, rfl, SqT.of e2, rfl, _, _, rfl, rfl, m200 ha.2.1 hb.1, ?_⟩
    exact ⟨_, _, rfl, mul_ne (by have := ha.2.2; omega) h0, by omega, q⟩
end
end Pf


namespace Pf
open PySem PySem.Spec PyProof.Rows L2
theorem dp_shs {K : PySem.W.Frag} {H : Hp} : ∀ {vs : List V} {ss : List (Int × Int)}, Paired (ShT H) vs ss → DpAll K H vs (ss.map dSh)
  | _, _, .nil => .nil
  | _, _, .cons h t => .cons (dp_sh h) (dp_shs t)
theorem bg_shs {ss : List (Int × Int)} (hl : ss.length ≤ 3) (h : ∀ s ∈ ss, ShBg s) : Bg 501 4000 2 (.list (ss.map dSh)) := by
  refine Bg.lst (n := 3) (m := 1002) (by rw [List.length_map]; exact hl) (fun d hd => ?_) (by decide)
  obtain ⟨s, hs, rfl⟩ := List.mem_map.mp hd
  exact bg_sh (h s hs)
section
variable {P : Program} {w : World} {K : PySem.W.Frag} {mg : Str → Option Value} {base : Heap}
abbrev CPlus (P : Program) (w : World) (K : PySem.W.Frag) (mg : Str → Option Value) (base : Heap) : Prop := Ca P w K mg base 4 "plus" ["share", "other"] (spBin (fun _ => True) plusS)
abbrev CTimes (P : Program) (w : World) (K : PySem.W.Frag) (mg : Str → Option Value) (base : Heap) : Prop := Ca P w K mg base 4 "times" ["share", "other"] (spBin (fun _ => True) timesS)
abbrev COver (P : Program) (w : World) (K : PySem.W.Frag) (mg : Str → Option Value) (base : Heap) : Prop := Ca P w K mg base 4 "over" ["share", "other"] (spBin (fun b => b.1 ≠ 0) overS)
abbrev CPlusK (P : Program) (w : World) (K : PySem.W.Frag) (mg : Str → Option Value) (base : Heap) : Prop := CaK P w K mg base 4 "plus" ["share", "other"] ["share", "other"] (permV [0, 1]) (spBin (fun _ => True) plusS)
abbrev CTimesK (P : Program) (w : World) (K : PySem.W.Frag) (mg : Str → Option Value) (base : Heap) : Prop := CaK P w K mg base 4 "times" ["share", "other"] ["share", "other"] (permV [0, 1]) (spBin (fun _ => True) timesS)
abbrev COverK (P : Program) (w : World) (K : PySem.W.Frag) (mg : Str → Option Value) (base : Heap) : Prop := CaK P w K mg base 4 "over" ["share", "other"] ["share", "other"] (permV [0, 1]) (spBin (fun b => b.1 ≠ 0) overS)
abbrev s_law_pair_right : Stmt := topS 11
theorem sc_law_pair_right : FnScope ["_law_one", "_law_two", "_law_due", "_law_found", "_law_named"] ["_law_one", "_law_two"] (defScope s_law_pair_right) :=
  ⟨rfl, rfl, rfl, by decide +kernel, rfl, by decide +kernel, by decide +kernel⟩
def spPR : Sp := fun vs H Q _ => ∃ (v1 v2 : V) (a b : Int × Int), vs = [v1, v2] ∧ ShT H v1 a ∧ ShT H v2 b ∧ ShOk a ∧ ShOk b ∧ ∀ H', Ext H H' → Q (.bl true) H'
theorem ok_pr {f : Addr} {fd : FuncData} (F : Fun K "_law_pair_right" "_law_pair_right" s_law_pair_right f fd) (c_law_short : CShort P w K mg base) (cplus : CPlus P w K mg base) (ctimes : CTimes P w K mg base) (cover : COver P w K mg base) (cplusK : CPlusK P w K mg base) (ctimesK : CTimesK P w K mg base) (coverK : COverK P w K mg base) (mrepr : mg "repr" = none) :
    FnOg P w K mg base 5 f fd ["_law_one", "_law_two"] spPR := by
  refine FnOg.of (k := 4) F sc_law_pair_right (fun vs H Q E h => ?_) (fun cdv A outer s H vs Q E hr hG h => ?_)
  · obtain ⟨v1, v2, a, b, rfl, _⟩ := h
    rfl
  · obtain ⟨v1, v2, a, b, rfl, ⟨t1, rfl, e1⟩, ⟨t2, rfl, e2⟩, ha, hb, q⟩ := h
    refine ⟨_, (pss_cons (ps_set (i := 2) sc_law_pair_right.nd rfl (.inl rfl) (pe_lst (pa_cons (pe_ca c_law_short (hr.mono (by omega)) (by rfl) (pa_cons (pe_op op_add (pe_op op_mulW (pe_ix (ixT K) (pv 0) pe_int (fun _ _ => rfl)) (pe_ix (ixT K) (pv 1) pe_int (fun _ _ => rfl))) (pe_op op_mulW (pe_ix (ixT K) (pv 1) pe_int (fun _ _ => rfl)) (pe_ix (ixT K) (pv 0) pe_int (fun _ _ => rfl)))) (pa_cons (pe_op op_mulW (pe_ix (ixT K) (pv 0) pe_int (fun _ _ => rfl)) (pe_ix (ixT K) (pv 1) pe_int (fun _ _ => rfl))) pa_nil))) (pa_cons (pe_ca c_law_short (hr.mono (by omega)) (by rfl) (pa_cons (pe_op op_mulW (pe_ix (ixT K) (pv 0) pe_int (fun _ _ => rfl)) (pe_ix (ixT K) (pv 1) pe_int (fun _ _ => rfl))) (pa_cons (pe_op op_mulW (pe_ix (ixT K) (pv 0) pe_int (fun _ _ => rfl)) (pe_ix (ixT K) (pv 1) pe_int (fun _ _ => rfl))) pa_nil))) pa_nil))))
      (pss_cons (ps_set (i := 3) sc_law_pair_right.nd rfl (.inl rfl) (pe_lst (pa_cons (pe_ca cplus (hr.mono (by omega)) (by rfl) (pa_cons (pv 0) (pa_cons (pv 1) pa_nil))) (pa_cons (pe_ca ctimes (hr.mono (by omega)) (by rfl) (pa_cons (pv 0) (pa_cons (pv 1) pa_nil))) pa_nil))))
      (pss_cons (ps_set (i := 4) sc_law_pair_right.nd rfl (.inl rfl) (pe_lst (pa_cons (pe_caK cplusK (hr.mono (by omega)) (by rfl) (pk_cons (pv 0) (pk_cons (pv 1) pk_nil))) (pa_cons (pe_caK ctimesK (hr.mono (by omega)) (by rfl) (pk_cons (pv 0) (pk_cons (pv 1) pk_nil))) pa_nil))))
      (pss_cons (ps_if (pt_cmpR op_ne (pe_ix (ixT K) (pv 1) pe_int (fun _ _ => rfl)) pe_int (nomark _)) (pss_cons (ps_expr (pe_bm PySem.F.plainAttrs_list PySem.F.slot_list_append PySem.F.type_list_append mt_append (pv 2) (pa_cons (pe_ca c_law_short (hr.mono (by omega)) (by rfl) (pa_cons (pe_op op_mulW (pe_ix (ixT K) (pv 0) pe_int (fun _ _ => rfl)) (pe_ix (ixT K) (pv 1) pe_int (fun _ _ => rfl))) (pa_cons (pe_op op_mulW (pe_ix (ixT K) (pv 0) pe_int (fun _ _ => rfl)) (pe_ix (ixT K) (pv 1) pe_int (fun _ _ => rfl))) pa_nil))) pa_nil)))
      (pss_cons (ps_expr (pe_bm PySem.F.plainAttrs_list PySem.F.slot_list_append PySem.F.type_list_append mt_append (pv 3) (pa_cons (pe_ca cover (hr.mono (by omega)) (by rfl) (pa_cons (pv 0) (pa_cons (pv 1) pa_nil))) pa_nil)))
      (pss_one (ps_expr (pe_bm PySem.F.plainAttrs_list PySem.F.slot_list_append PySem.F.type_list_append mt_append (pv 4) (pa_cons (pe_caK coverK (hr.mono (by omega)) (by rfl) (pk_cons (pv 0) (pk_cons (pv 1) pk_nil))) pa_nil)))))) pss_nil)
      (pss_one (ps_ret (pe_and (pe_cmpR op_eq (pe_callB (call_showB K hG hr.units) (by rfl) mrepr (by decide +kernel) (pa_cons (pv 3) pa_nil)) (pe_callB (call_showB K hG hr.units) (by rfl) mrepr (by decide +kernel) (pa_cons (pv 2) pa_nil)) (nomark _)) (pe_one (pe_cmpR op_eq (pe_callB (call_showB K hG hr.units) (by rfl) mrepr (by decide +kernel) (pa_cons (pv 4) pa_nil)) (pe_callB (call_showB K hG hr.units) (by rfl) mrepr (by decide +kernel) (pa_cons (pv 2) pa_nil)) (nomark _)))))))))), ?_⟩
    have hp := p400
    have h3 := m400 ha.2.1 hb.2.1
    have n22 : a.2 * b.2 ≠ 0 := mul_ne (by have := ha.2.2; omega) (by have := hb.2.2; omega)
    refine ⟨_, rfl, t1, _, 0, _, rfl, rfl, SqT.of e1, rfl, _, rfl, t2, _, 1, _, rfl, rfl, SqT.of e2, rfl, _, _, rfl, rfl, m200 ha.1 hb.2.1, ?_⟩
    refine ⟨_, rfl, t2, _, 0, _, rfl, rfl, SqT.of e2, rfl, _, rfl, t1, _, 1, _, rfl, rfl, SqT.of e1, rfl, _, _, rfl, rfl, m200 hb.1 ha.2.1, _, _, rfl, rfl, ?_⟩
    refine ⟨_, rfl, t1, _, 1, _, rfl, rfl, SqT.of e1, rfl, _, rfl, t2, _, 1, _, rfl, rfl, SqT.of e2, rfl, _, _, rfl, rfl, m200 ha.2.1 hb.2.1, ?_⟩
    refine ⟨_, _, rfl, n22, by omega, fun w1 H1 s1 x1 => ?_⟩
    have e11 := x1 _ _ e1
    have e21 := x1 _ _ e2
    refine ⟨_, rfl, t1, _, 0, _, rfl, rfl, SqT.of e11, rfl, _, rfl, t2, _, 0, _, rfl, rfl, SqT.of e21, rfl, _, _, rfl, rfl, m200 ha.1 hb.1, ?_⟩
    refine ⟨_, rfl, t1, _, 1, _, rfl, rfl, SqT.of e11, rfl, _, rfl, t2, _, 1, _, rfl, rfl, SqT.of e21, rfl, _, _, rfl, rfl, m200 ha.2.1 hb.2.1, ?_⟩
    refine ⟨_, _, rfl, n22, by omega, fun w2 H2 s2 x2 => ?_⟩
    refine ⟨szL (show 2 ≤ 1000000 by decide), fun l1 hl1 => ?_⟩
    have y1 := (x1.trans x2).trans (Ext.new (o := .lst [w1, w2]) hl1)
    have y1' := x2.trans (Ext.new (o := .lst [w1, w2]) hl1)
    -- found
    refine ⟨_, rfl, _, rfl, .ref t1, .ref t2, a, b, rfl, ⟨t1, rfl, y1 _ _ e1⟩, ⟨t2, rfl, y1 _ _ e2⟩, ha, hb, trivial, fun w3 H3 s3 x3 => ?_⟩
    have y3 := y1.trans x3
    refine ⟨_, rfl, _, rfl, .ref t1, .ref t2, a, b, rfl, ⟨t1, rfl, y3 _ _ e1⟩, ⟨t2, rfl, y3 _ _ e2⟩, ha, hb, trivial, fun w4 H4 s4 x4 => ?_⟩
    refine ⟨szL (show 2 ≤ 1000000 by decide), fun l2 hl2 => ?_⟩
    have y4 := (y3.trans x4).trans (Ext.new (o := .lst [w3, w4]) hl2)
    -- named
    refine ⟨_, rfl, _, rfl, rfl, rfl, .ref t1, .ref t2, a, b, rfl, ⟨t1, rfl, y4 _ _ e1⟩, ⟨t2, rfl, y4 _ _ e2⟩, ha, hb, trivial, fun w5 H5 s5 x5 => ?_⟩
    have y5 := y4.trans x5
    refine ⟨_, rfl, _, rfl, rfl, rfl, .ref t1, .ref t2, a, b, rfl, ⟨t1, rfl, y5 _ _ e1⟩, ⟨t2, rfl, y5 _ _ e2⟩, ha, hb, trivial, fun w6 H6 s6 x6 => ?_⟩
    refine ⟨szL (show 2 ≤ 1000000 by decide), fun l3 hl3 => ?_⟩
    have x7 := Ext.new (o := .lst [w5, w6]) hl3
    have y7 := (y5.trans x6).trans x7
    -- what stands now
    have k27 : Ext H2 (upd H6 l3 (.lst [w5, w6])) := ((Ext.new (o := .lst [w1, w2]) hl1).trans x3).trans (x4.trans ((Ext.new (o := .lst [w3, w4]) hl2).trans (x5.trans (x6.trans x7))))
    have g1 : upd H6 l3 (.lst [w5, w6]) l1 = some (.lst [w1, w2]) := (x3.trans (x4.trans ((Ext.new (o := .lst [w3, w4]) hl2).trans (x5.trans (x6.trans x7))))) _ _ upd_same
    have g2 : upd H6 l3 (.lst [w5, w6]) l2 = some (.lst [w3, w4]) := (x5.trans (x6.trans x7)) _ _ upd_same
    have g3 : upd H6 l3 (.lst [w5, w6]) l3 = some (.lst [w5, w6]) := upd_same
    have r1 := s1.mono (TupK.ext (x2.trans k27))
    have r2 := s2.mono (TupK.ext k27)
    have r3 := s3.mono (TupK.ext (x4.trans ((Ext.new (o := .lst [w3, w4]) hl2).trans (x5.trans (x6.trans x7)))))
    have r4 := s4.mono (TupK.ext ((Ext.new (o := .lst [w3, w4]) hl2).trans (x5.trans (x6.trans x7))))
    have r5 := s5.mono (TupK.ext (x6.trans x7))
    have r6 := s6.mono (TupK.ext x7)
    have z1 : H l1 = none := (x1.trans x2).none hl1
    have z2 : H l2 = none := (y3.trans x4).none hl2
    have z3 : H l3 = none := (y5.trans x6).none hl3
    have n12 : l1 ≠ l2 := by
      rintro rfl
      have := (x3.trans x4) _ _ (upd_same (H := H2) (a := l1) (o := .lst [w1, w2]))
      rw [hl2] at this
      cases this
    have n13 : l1 ≠ l3 := by
      rintro rfl
      have := (x3.trans (x4.trans ((Ext.new (o := .lst [w3, w4]) hl2).trans (x5.trans x6)))) _ _ (upd_same (H := H2) (a := l1) (o := .lst [w1, w2]))
      rw [hl3] at this
      cases this
    have n23 : l2 ≠ l3 := by
      rintro rfl
      have := (x5.trans x6) _ _ (upd_same (H := H4) (a := l2) (o := .lst [w3, w4]))
      rw [hl3] at this
      cases this
    generalize upd H6 l3 (.lst [w5, w6]) = G at *
    refine ⟨_, rfl, t2, _, 0, _, rfl, rfl, SqT.of (y7 _ _ e2), rfl, rfl, _, rfl, ite2 (fun e => ?_) (fun e => ?_)⟩
    · have hb0 : b.1 ≠ 0 := by simpa using e
      have n21 : a.2 * b.1 ≠ 0 := mul_ne (by have := ha.2.2; omega) hb0
      have h4 := m400 ha.2.1 hb.1
      -- due.append
      refine ⟨_, rfl, .inl ⟨rfl, _, SqL.of g1⟩, ?_⟩
      refine ⟨_, rfl, t1, _, 0, _, rfl, rfl, SqT.of (y7 _ _ e1), rfl, _, rfl, t2, _, 1, _, rfl, rfl, SqT.of (y7 _ _ e2), rfl, _, _, rfl, rfl, m200 ha.1 hb.2.1, ?_⟩
      refine ⟨_, rfl, t1, _, 1, _, rfl, rfl, SqT.of (y7 _ _ e1), rfl, _, rfl, t2, _, 0, _, rfl, rfl, SqT.of (y7 _ _ e2), rfl, _, _, rfl, rfl, m200 ha.2.1 hb.1, ?_⟩
      refine ⟨_, _, rfl, n21, by omega, fun w7 H7 s7 x8 => ?_⟩
      refine ⟨l1, _, _, rfl, rfl, x8 _ _ g1, szLt (show 2 < 1000000 by decide), ?_⟩
      have u1 : Ext H (upd H7 l1 (.lst [w1, w2, w7])) := (y7.trans x8).put z1
      have j1 : TupK H7 (upd H7 l1 (.lst [w1, w2, w7])) := TupK.lst (x8 _ _ g1)
      -- found.append
      have a2 : upd H7 l1 (.lst [w1, w2, w7]) l2 = some (.lst [w3, w4]) := by rw [upd_ne n12.symm]; exact x8 _ _ g2
      refine ⟨_, rfl, .inl ⟨rfl, _, SqL.of a2⟩, ?_⟩
      refine ⟨_, rfl, _, rfl, .ref t1, .ref t2, a, b, rfl, ⟨t1, rfl, u1 _ _ e1⟩, ⟨t2, rfl, u1 _ _ e2⟩, ha, hb, hb0, fun w8 H8 s8 x9 => ?_⟩
      refine ⟨l2, _, _, rfl, rfl, x9 _ _ a2, szLt (show 2 < 1000000 by decide), ?_⟩
      have u2 : Ext H (upd H8 l2 (.lst [w3, w4, w8])) := (u1.trans x9).put z2
      have j2 : TupK H8 (upd H8 l2 (.lst [w3, w4, w8])) := TupK.lst (x9 _ _ a2)
      -- named.append
      have a3 : upd H8 l2 (.lst [w3, w4, w8]) l3 = some (.lst [w5, w6]) := by
        rw [upd_ne n23.symm]
        refine x9 _ _ ?_
        rw [upd_ne n13.symm]
        exact x8 _ _ g3
      refine ⟨_, rfl, .inl ⟨rfl, _, SqL.of a3⟩, ?_⟩
      refine ⟨_, rfl, _, rfl, rfl, rfl, .ref t1, .ref t2, a, b, rfl, ⟨t1, rfl, u2 _ _ e1⟩, ⟨t2, rfl, u2 _ _ e2⟩, ha, hb, hb0, fun w9 H9 s9 x10 => ?_⟩
      refine ⟨l3, _, _, rfl, rfl, x10 _ _ a3, szLt (show 2 < 1000000 by decide), ?_⟩
      have kF : Ext H (upd H9 l3 (.lst [w5, w6, w9])) := (u2.trans x10).put z3
      have j3 : TupK H9 (upd H9 l3 (.lst [w5, w6, w9])) := TupK.lst (x10 _ _ a3)
      have jA := (TupK.ext x8).trans (j1.trans ((TupK.ext x9).trans (j2.trans ((TupK.ext x10).trans j3))))
      have jB := j1.trans ((TupK.ext x9).trans (j2.trans ((TupK.ext x10).trans j3)))
      have jC := j2.trans ((TupK.ext x10).trans j3)
      have f1 : upd H9 l3 (.lst [w5, w6, w9]) l1 = some (.lst [w1, w2, w7]) := by
        rw [upd_ne n13]
        refine x10 _ _ ?_
        rw [upd_ne n12]
        exact x9 _ _ upd_same
      have f2 : upd H9 l3 (.lst [w5, w6, w9]) l2 = some (.lst [w3, w4, w8]) := by
        rw [upd_ne n23]
        exact x10 _ _ upd_same
      have f3 : upd H9 l3 (.lst [w5, w6, w9]) l3 = some (.lst [w5, w6, w9]) := upd_same
      obtain ⟨ss, hss⟩ : ∃ ss, ss = [plusS a b, timesS a b, overS a b] := ⟨_, rfl⟩
      have p1 : Paired (ShT (upd H9 l3 (.lst [w5, w6, w9]))) [w1, w2, w7] ss := hss ▸ .cons (r1.mono jA) (.cons (r2.mono jA) (.cons (s7.mono jB) .nil))
      have p2 : Paired (ShT (upd H9 l3 (.lst [w5, w6, w9]))) [w3, w4, w8] ss := hss ▸ .cons (r3.mono jA) (.cons (r4.mono jA) (.cons (s8.mono jC) .nil))
      have p3 : Paired (ShT (upd H9 l3 (.lst [w5, w6, w9]))) [w5, w6, w9] ss := hss ▸ .cons (r5.mono jA) (.cons (r6.mono jA) (.cons (s9.mono j3) .nil))
      have bgL := bg_shs (ss := ss) (by rw [hss]; simp) (fun s hs => by
        rw [hss] at hs
        simp only [List.mem_cons, List.not_mem_nil, or_false] at hs
        rcases hs with rfl | rfl | rfl
        · exact plus_bg ha hb
        · exact times_bg ha hb
        · exact over_bg ha hb hb0)
      refine ⟨_, rfl, .ref l2, .list (ss.map dSh), 501, 4000, 2, rfl, .lst (SqL.of f2) (dp_shs p2), bgL, by decide, by decide, by decide, ?_⟩
      refine ⟨_, rfl, .ref l1, .list (ss.map dSh), 501, 4000, 2, rfl, .lst (SqL.of f1) (dp_shs p1), bgL, by decide, by decide, by decide, rfl, ?_⟩
      refine ⟨_, rfl, ite2 (fun _ => ?_) (fun e9 => by simp at e9)⟩
      refine ⟨_, rfl, .ref l3, .list (ss.map dSh), 501, 4000, 2, rfl, .lst (SqL.of f3) (dp_shs p3), bgL, by decide, by decide, by decide, ?_⟩
      refine ⟨_, rfl, .ref l1, .list (ss.map dSh), 501, 4000, 2, rfl, .lst (SqL.of f1) (dp_shs p1), bgL, by decide, by decide, by decide, rfl, ?_⟩
      rw [decide_eq_true rfl]
      exact q _ kF
    · have kF := y7
      have f1 := g1
      have f2 := g2
      have f3 := g3
      obtain ⟨ss, hss⟩ : ∃ ss, ss = [plusS a b, timesS a b] := ⟨_, rfl⟩
      have p1 : Paired (ShT G) [w1, w2] ss := hss ▸ .cons r1 (.cons r2 .nil)
      have p2 : Paired (ShT G) [w3, w4] ss := hss ▸ .cons r3 (.cons r4 .nil)
      have p3 : Paired (ShT G) [w5, w6] ss := hss ▸ .cons r5 (.cons r6 .nil)
      have bgL := bg_shs (ss := ss) (by rw [hss]; simp) (fun s hs => by
        rw [hss] at hs
        simp only [List.mem_cons, List.not_mem_nil, or_false] at hs
        rcases hs with rfl | rfl
        · exact plus_bg ha hb
        · exact times_bg ha hb)
      refine ⟨_, rfl, .ref l2, .list (ss.map dSh), 501, 4000, 2, rfl, .lst (SqL.of f2) (dp_shs p2), bgL, by decide, by decide, by decide, ?_⟩
      refine ⟨_, rfl, .ref l1, .list (ss.map dSh), 501, 4000, 2, rfl, .lst (SqL.of f1) (dp_shs p1), bgL, by decide, by decide, by decide, rfl, ?_⟩
      refine ⟨_, rfl, ite2 (fun _ => ?_) (fun e9 => by simp at e9)⟩
      refine ⟨_, rfl, .ref l3, .list (ss.map dSh), 501, 4000, 2, rfl, .lst (SqL.of f3) (dp_shs p3), bgL, by decide, by decide, by decide, ?_⟩
      refine ⟨_, rfl, .ref l1, .list (ss.map dSh), 501, 4000, 2, rfl, .lst (SqL.of f1) (dp_shs p1), bgL, by decide, by decide, by decide, rfl, ?_⟩
      rw [decide_eq_true rfl]
      exact q _ kF
end
end Pf


namespace Pf
open PySem PySem.Spec PyProof.Rows L2
theorem one500 : (1 : Int).natAbs < 2 ^ 500 := by decide +kernel
theorem p25 : (2 : Nat) ^ 200 ≤ 2 ^ 500 := Nat.pow_le_pow_right (by decide) (by decide)
theorem paired_at {α β : Type} {R : α → β → Prop} : ∀ {xs : List α} {ys : List β}, Paired R xs ys → ∀ x ∈ xs, ∃ y ∈ ys, R x y
  | _, _, .nil, x, h => nomatch h
  | _, _, .cons r t, x, h => by
    rcases List.mem_cons.mp h with rfl | h
    · exact ⟨_, List.mem_cons_self .., r⟩
    · obtain ⟨y, hy, e⟩ := paired_at t x h
      exact ⟨y, List.mem_cons_of_mem _ hy, e⟩
def ShL (H : Hp) (ls : Addr) (m : Nat) : Prop := ∃ (vs : List V) (ss : List (Int × Int)), H ls = some (.lst vs) ∧ vs.length = m ∧ Paired (ShT H) vs ss ∧ ∀ s ∈ ss, ShOk s
theorem bg_two {a b : Int × Int} (ha : ShOk a) (hb : ShOk b) : Bg 501 2006 2 (.tuple [dSh a, dSh b]) := by
  refine Bg.tup (n := 2) (m := 1002) (by simp) (fun d hd => ?_) (by decide)
  simp only [List.mem_cons, List.not_mem_nil, or_false] at hd
  rcases hd with rfl | rfl
  · exact bg_sh ha.bg
  · exact bg_sh hb.bg
section
variable {P : Program} {w : World} {K : PySem.W.Frag} {mg : Str → Option Value} {base : Heap}
abbrev CStart (P : Program) (w : World) (K : PySem.W.Frag) (mg : Str → Option Value) (base : Heap) : Prop := Ca P w K mg base 1 "_law_pen" ["_law_script"] (spStart K)
abbrev CShK (P : Program) (w : World) (K : PySem.W.Frag) (mg : Str → Option Value) (base : Heap) : Prop := CaK P w K mg base 3 "share_of" ["top", "bottom"] ["top", "bottom"] (permV [0, 1]) spShort
abbrev CShD (P : Program) (w : World) (K : PySem.W.Frag) (mg : Str → Option Value) (base : Heap) : Prop := CaD P w K mg base 3 "share_of" ["top", "bottom"] [.int 1] spShort
abbrev CPR (P : Program) (w : World) (K : PySem.W.Frag) (mg : Str → Option Value) (base : Heap) : Prop := CaG P w K mg base 5 "_law_pair_right" ["_law_one", "_law_two"] spPR
abbrev s_law : Stmt := topS 12
theorem sc_law : FnScope ["_law_script", "_law_pen_here", "_law_shares_made", "_law_turn", "_law_up", "_law_down", "_law_due", "_law_one", "_law_two", "_law_kept"] ["_law_script"] (defScope s_law) :=
  ⟨rfl, rfl, rfl, by decide +kernel, rfl, by decide +kernel, by decide +kernel⟩
def spLaw (K : PySem.W.Frag) : Sp := fun vs H Q _ => ∃ (a : Addr) (ns : List Int), vs = [.ref a] ∧ SqL K H a (ns.map V.int) ∧ ns.length ≤ 63 ∧ ∀ H', Q (.bl true) H'
theorem ok_law {f : Addr} {fd : FuncData} (F : Fun K "law" "law" s_law f fd) (room : Room 6 callerA) (c_law_pen : CStart P w K mg base) (c_law_take : CDraw P w K mg base) (c_law_number : CNum P w K mg base) (c_law_short : CShort P w K mg base) (cshare_of : CSh P w K mg base) (cshare_ofK : CShK P w K mg base) (cshare_ofD : CShD P w K mg base) (c_law_pair_right : CPR P w K mg base)
    (mrange : mg "range" = none) (mrepr : mg "repr" = none) : FnG P w K mg base f fd ["_law_script"] (spLaw K) := by
  refine FnG.of (k := 5) F sc_law room (fun vs H Q E h => ?_) (fun cdv s H vs Q E hr hG h => ?_)
  · obtain ⟨a, ns, rfl, _⟩ := h
    rfl
  · obtain ⟨a, ns, rfl, hS, hns, q⟩ := h
    refine ⟨_, (pss_cons (ps_set (i := 1) sc_law.nd rfl (.inl rfl) (pe_ca c_law_pen (hr.mono (by decide)) (by rfl) (pa_cons (pv 0) pa_nil)))
      (pss_cons (ps_set (i := 2) sc_law.nd rfl (.inl rfl) (pe_lst (pa_cons (pe_tup (pa_cons pe_int (pa_cons pe_int pa_nil))) (pa_cons (pe_tup (pa_cons pe_int (pa_cons pe_int pa_nil))) pa_nil))))
      (pss_cons (ps_for PassesOwn.never rfl (pi_range1 (by rfl) mrange (pa_cons pe_int pa_nil)) (pg_name (i := 3) sc_law.nd rfl (.inl rfl)) (pss_cons (ps_par (i := 4) (j := 5) rfl sc_law.nd rfl rfl (by decide) rfl rfl (pa_cons (pe_ca c_law_number (hr.mono (by decide)) (by rfl) (pa_cons (pv 1) pa_nil)) (pa_cons (pe_ca c_law_number (hr.mono (by decide)) (by rfl) (pa_cons (pv 1) pa_nil)) pa_nil)) (by rfl))
      (pss_cons (ps_if (pt_cmpR op_eq (pv 5) pe_int (nomark _)) (pss_one (ps_set (i := 5) sc_law.nd rfl (.inl rfl) (pe_ix (ixL K) (pe_lst (pa_cons pe_int (pa_cons (pe_un un_neg pe_int) (pa_cons pe_int pa_nil)))) (pe_ca c_law_take (hr.mono (by decide)) (by rfl) (pa_cons (pv 1) (pa_cons pe_int pa_nil))) (fun _ _ => rfl)))) pss_nil)
      (pss_cons (ps_set (i := 6) sc_law.nd rfl (.inl rfl) (pe_ca c_law_short (hr.mono (by decide)) (by rfl) (pa_cons (pv 4) (pa_cons (pv 5) pa_nil))))
      (pss_cons (ps_if (PW.pt (pw_or (pt_cmpR op_ne (pe_callB (call_showB K hG hr.units) (by rfl) mrepr (by decide +kernel) (pa_cons (pe_ca cshare_of (hr.mono (by decide)) (by rfl) (pa_cons (pv 4) (pa_cons (pv 5) pa_nil))) pa_nil)) (pe_callB (call_showB K hG hr.units) (by rfl) mrepr (by decide +kernel) (pa_cons (pv 6) pa_nil)) (nomark _)) (pw_or1 (pt_cmpR op_ne (pe_callB (call_showB K hG hr.units) (by rfl) mrepr (by decide +kernel) (pa_cons (pe_caK cshare_ofK (hr.mono (by decide)) (by rfl) (pk_cons (pv 4) (pk_cons (pv 5) pk_nil))) pa_nil)) (pe_callB (call_showB K hG hr.units) (by rfl) mrepr (by decide +kernel) (pa_cons (pv 6) pa_nil)) (nomark _))))) (pss_one (ps_ret pe_bl)) pss_nil)
      (pss_cons (ps_if (pt_cmpR op_ne (pe_callB (call_showB K hG hr.units) (by rfl) mrepr (by decide +kernel) (pa_cons (pe_caD cshare_ofD (hr.mono (by decide)) (by rfl) (pa_cons (pv 4) pa_nil)) pa_nil)) (pe_callB (call_showB K hG hr.units) (by rfl) mrepr (by decide +kernel) (pa_cons (pe_tup (pa_cons (pv 4) (pa_cons pe_int pa_nil))) pa_nil)) (nomark _)) (pss_one (ps_ret pe_bl)) pss_nil)
      (pss_one (ps_expr (pe_bm PySem.F.plainAttrs_list PySem.F.slot_list_append PySem.F.type_list_append mt_append (pv 2) (pa_cons (pv 6) pa_nil))))))))))
      (pss_cons (ps_for PassesOwn.never rfl (pi_range1 (by rfl) mrange (pa_cons pe_int pa_nil)) (pg_name (i := 3) sc_law.nd rfl (.inl rfl)) (pss_cons (ps_set (i := 7) sc_law.nd rfl (.inl rfl) (pe_ix (ixL K) (pv 2) (pe_ca c_law_take (hr.mono (by decide)) (by rfl) (pa_cons (pv 1) (pa_cons pe_int pa_nil))) (fun _ _ => rfl)))
      (pss_cons (ps_set (i := 8) sc_law.nd rfl (.inl rfl) (pe_ix (ixL K) (pv 2) (pe_ca c_law_take (hr.mono (by decide)) (by rfl) (pa_cons (pv 1) (pa_cons pe_int pa_nil))) (fun _ _ => rfl)))
      (pss_cons (ps_set (i := 9) sc_law.nd rfl (.inl rfl) (pe_callB (call_showB K hG hr.units) (by rfl) mrepr (by decide +kernel) (pa_cons (pe_tup (pa_cons (pv 7) (pa_cons (pv 8) pa_nil))) pa_nil)))
      (pss_one (ps_if (PW.pt (pw_or (pt_not (pt_val (pe_caG c_law_pair_right hG (hr.mono (by decide)) (by rfl) (pa_cons (pv 7) (pa_cons (pv 8) pa_nil))))) (pw_or1 (pt_cmpR op_ne (pe_callB (call_showB K hG hr.units) (by rfl) mrepr (by decide +kernel) (pa_cons (pe_tup (pa_cons (pv 7) (pa_cons (pv 8) pa_nil))) pa_nil)) (pv 9) (nomark _))))) (pss_one (ps_ret pe_bl)) pss_nil))))))
      (pss_one (ps_ret pe_bl)))))), ?_⟩
    refine ⟨_, rfl, a, ns, rfl, hS, hns, fun p c H1 hP1 => ?_⟩
    refine ⟨szL (show 2 ≤ 1000000 by decide), fun t0 ht0 => ⟨szL (show 2 ≤ 1000000 by decide), fun t1 ht1 => ⟨szL (show 2 ≤ 1000000 by decide), fun ls hls => ?_⟩⟩⟩
    have hP1' := (hP1.new (o := .tup [.int 0, .int 1]) ht0).new (o := .tup [.int 1, .int 1]) ht1
    have nlp := (hP1'.ne hls).1
    have nlc := (hP1'.ne hls).2
    have sl0 : ShL (upd (upd (upd H1 t0 (.tup [.int 0, .int 1])) t1 (.tup [.int 1, .int 1])) ls (.lst [.ref t0, .ref t1])) ls 2 := by
      refine ⟨_, [(0, 1), (1, 1)], upd_same, rfl, .cons ⟨t0, rfl, ?_⟩ (.cons ⟨t1, rfl, ?_⟩ .nil), ?_⟩
      · exact Ext.new hls _ _ (Ext.new ht1 _ _ upd_same)
      · exact Ext.new hls _ _ upd_same
      · intro s hs
        simp only [List.mem_cons, List.not_mem_nil, or_false] at hs
        rcases hs with rfl | rfl
        · exact ⟨by decide +kernel, by decide +kernel, by decide⟩
        · exact ⟨by decide +kernel, by decide +kernel, by decide⟩
    refine ⟨8, rfl, by decide, by decide, for_range (n := 8) (fun i σ H2 => ∃ (y3 y4 y5 y6 y7 y8 y9 : Option V), σ = [some (.ref a), some (.ref p), some (.ref ls), y3, y4, y5, y6, y7, y8, y9] ∧ Pen H2 p c (11 * i) ∧ ShL H2 ls (2 + i))
      ⟨none, none, none, none, none, none, none, rfl, hP1'.new hls, sl0⟩ (fun i σ H2 hi hv => ?_) (fun σ H2 hv => ?_)⟩
    · obtain ⟨y3, y4, y5, y6, y7, y8, y9, rfl, hP2, vs, ss, hls2, hlen, hpair, hok⟩ := hv
      refine ⟨_, rfl, p, c, _, rfl, hP2, by omega, fun r1 H3 b1 k3 hP3 => ⟨_, rfl, p, c, _, rfl, hP3, by omega, fun r2 H4 b2 k4 hP4 => ⟨_, _, rfl, ?_⟩⟩⟩
      have hP4' := hP4
      have k4' : Kp p H2 H4 := k3.trans k4
      refine ⟨_, rfl, rfl, _, rfl, ite2 (fun e => ?_) (fun e => ?_)⟩
      · refine ⟨_, rfl, szL (show 3 ≤ 1000000 by decide), fun l5 hl5 => ⟨_, rfl, p, c, 3, _, rfl, hP4'.new hl5, by omega, by decide, by decide, fun r5 H5 a5 c5 k5 hP5 => ?_⟩⟩
        obtain ⟨z, hz, hat⟩ := atI_ints (ns := [1, -1, 6]) a5 (show r5 < 3 by omega)
        have hz0 : z ≠ 0 := by
          simp only [List.mem_cons, List.not_mem_nil, or_false] at hz
          omega
        have hzb : z.natAbs < 2 ^ 200 := by
          have : z.natAbs < 7 := by
            simp only [List.mem_cons, List.not_mem_nil, or_false] at hz
            omega
          exact Nat.lt_of_lt_of_le this (by decide +kernel)
        refine ⟨l5, _, r5, _, rfl, rfl, SqL.of (k5 _ _ (hP4'.ne hl5).1 upd_same), hat, ?_⟩
        have kB := (k4'.trans (Kp.new (o := .lst [.int 1, .int (-1), .int 6]) hl5)).trans k5
        -- due
        refine ⟨_, rfl, _, rfl, r1, z, rfl, hz0, Nat.lt_of_lt_of_le hzb p25, fun w6 H6 s6 x6 => ?_⟩
        have okS := shr_b (B := 2 ^ 200) hz0 b1 hzb
        have okD : ShOk (shr r1 z) := ⟨okS.1, okS.2.1, okS.2.2⟩
        have bgD := bg_sh okD.bg
        refine ⟨_, rfl, _, rfl, r1, z, rfl, hz0, Nat.lt_of_lt_of_le hzb p25, fun w7 H7 s7 x7 => ?_⟩
        refine ⟨w7, _, _, _, _, rfl, dp_sh s7, bgD, by decide, by decide, by decide, _, rfl, w6, _, _, _, _, rfl, dp_sh (s6.mono (TupK.ext x7)), bgD, by decide, by decide, by decide, rfl, _, rfl, iteNS rfl ?_⟩
        refine ⟨_, rfl, _, rfl, rfl, rfl, r1, z, rfl, hz0, Nat.lt_of_lt_of_le hzb p25, fun w8 H8 s8 x8 => ?_⟩
        refine ⟨w8, _, _, _, _, rfl, dp_sh s8, bgD, by decide, by decide, by decide, _, rfl, w6, _, _, _, _, rfl, dp_sh (s6.mono (TupK.ext (x7.trans x8))), bgD, by decide, by decide, by decide, rfl, _, rfl, iteNS rfl ?_⟩
        refine ⟨_, rfl, r1, 1, rfl, by decide, by decide, fun w9 H9 s9 x9 => ?_⟩
        rw [shr_one] at s9
        have bg1 : Bg 501 1002 1 (dSh (r1, 1)) := bg_sh ⟨Nat.lt_of_lt_of_le b1 p25, one500⟩
        refine ⟨w9, _, _, _, _, rfl, dp_sh s9, bg1, by decide, by decide, by decide, _, rfl, szL (show 2 ≤ 1000000 by decide), fun t10 ht10 => ?_⟩
        have x10 := Ext.new (o := .tup [.int r1, .int 1]) ht10
        refine ⟨.ref t10, dSh (r1, 1), _, _, _, rfl, dp_sh ⟨t10, rfl, upd_same⟩, bg1, by decide, by decide, by decide, rfl, _, rfl, iteNS rfl ?_⟩
        have xs := x6.trans (x7.trans (x8.trans (x9.trans x10)))
        have kk : Kp p H2 (upd H9 t10 (.tup [.int r1, .int 1])) := kB.trans (Kp.ext xs)
        have hls3 := kk _ _ nlp hls2
        refine ⟨_, rfl, .inl ⟨rfl, _, SqL.of hls3⟩, _, rfl, ls, _, _, rfl, rfl, hls3, szLt (by omega), ?_⟩
        have jK : TupK H2 (upd H9 t10 (.tup [.int r1, .int 1])) := TupK.of kk hP2
        have jL : TupK (upd H9 t10 (.tup [.int r1, .int 1])) (upd (upd H9 t10 (.tup [.int r1, .int 1])) ls (.lst (vs ++ [w6]))) := TupK.lst hls3
        refine ⟨_, _, _, _, _, _, _, rfl, (((hP5).ext xs).put nlp nlc).mono (by omega), vs ++ [w6], ss ++ [shr r1 z], upd_same, by rw [List.length_append, hlen]; simp; omega, ?_, ?_⟩
        · exact paired_app (paired_imp (fun _ _ h => ShT.mono (jK.trans jL) h) hpair) (.cons (s6.mono ((TupK.ext (x7.trans (x8.trans (x9.trans x10)))).trans jL)) .nil)
        · intro s hs
          rcases List.mem_append.mp hs with h | h
          · exact hok s h
          · rw [List.mem_singleton] at h
            rw [h]
            exact okD
      · have hz0 : r2 ≠ 0 := by
          intro z
          subst z
          simp at e
        -- due
        refine ⟨_, rfl, _, rfl, r1, r2, rfl, hz0, Nat.lt_of_lt_of_le b2 p25, fun w6 H6 s6 x6 => ?_⟩
        have okS := shr_b (B := 2 ^ 200) hz0 b1 b2
        have okD : ShOk (shr r1 r2) := ⟨okS.1, okS.2.1, okS.2.2⟩
        have bgD := bg_sh okD.bg
        refine ⟨_, rfl, _, rfl, r1, r2, rfl, hz0, Nat.lt_of_lt_of_le b2 p25, fun w7 H7 s7 x7 => ?_⟩
        refine ⟨w7, _, _, _, _, rfl, dp_sh s7, bgD, by decide, by decide, by decide, _, rfl, w6, _, _, _, _, rfl, dp_sh (s6.mono (TupK.ext x7)), bgD, by decide, by decide, by decide, rfl, _, rfl, iteNS rfl ?_⟩
        refine ⟨_, rfl, _, rfl, rfl, rfl, r1, r2, rfl, hz0, Nat.lt_of_lt_of_le b2 p25, fun w8 H8 s8 x8 => ?_⟩
        refine ⟨w8, _, _, _, _, rfl, dp_sh s8, bgD, by decide, by decide, by decide, _, rfl, w6, _, _, _, _, rfl, dp_sh (s6.mono (TupK.ext (x7.trans x8))), bgD, by decide, by decide, by decide, rfl, _, rfl, iteNS rfl ?_⟩
        refine ⟨_, rfl, r1, 1, rfl, by decide, by decide, fun w9 H9 s9 x9 => ?_⟩
        rw [shr_one] at s9
        have bg1 : Bg 501 1002 1 (dSh (r1, 1)) := bg_sh ⟨Nat.lt_of_lt_of_le b1 p25, one500⟩
        refine ⟨w9, _, _, _, _, rfl, dp_sh s9, bg1, by decide, by decide, by decide, _, rfl, szL (show 2 ≤ 1000000 by decide), fun t10 ht10 => ?_⟩
        have x10 := Ext.new (o := .tup [.int r1, .int 1]) ht10
        refine ⟨.ref t10, dSh (r1, 1), _, _, _, rfl, dp_sh ⟨t10, rfl, upd_same⟩, bg1, by decide, by decide, by decide, rfl, _, rfl, iteNS rfl ?_⟩
        have xs := x6.trans (x7.trans (x8.trans (x9.trans x10)))
        have kk : Kp p H2 (upd H9 t10 (.tup [.int r1, .int 1])) := k4'.trans (Kp.ext xs)
        have hls3 := kk _ _ nlp hls2
        refine ⟨_, rfl, .inl ⟨rfl, _, SqL.of hls3⟩, _, rfl, ls, _, _, rfl, rfl, hls3, szLt (by omega), ?_⟩
        have jK : TupK H2 (upd H9 t10 (.tup [.int r1, .int 1])) := TupK.of kk hP2
        have jL : TupK (upd H9 t10 (.tup [.int r1, .int 1])) (upd (upd H9 t10 (.tup [.int r1, .int 1])) ls (.lst (vs ++ [w6]))) := TupK.lst hls3
        refine ⟨_, _, _, _, _, _, _, rfl, (((hP4').ext xs).put nlp nlc).mono (by omega), vs ++ [w6], ss ++ [shr r1 r2], upd_same, by rw [List.length_append, hlen]; simp; omega, ?_, ?_⟩
        · exact paired_app (paired_imp (fun _ _ h => ShT.mono (jK.trans jL) h) hpair) (.cons (s6.mono ((TupK.ext (x7.trans (x8.trans (x9.trans x10)))).trans jL)) .nil)
        · intro s hs
          rcases List.mem_append.mp hs with h | h
          · exact hok s h
          · rw [List.mem_singleton] at h
            rw [h]
            exact okD
    · obtain ⟨y3, y4, y5, y6, y7, y8, y9, rfl, hP2, sl2⟩ := hv
      refine ⟨16, rfl, by decide, by decide, for_range (n := 16) (fun i σ H2 => ∃ (y3 y4 y5 y6 y7 y8 y9 : Option V), σ = [some (.ref a), some (.ref p), some (.ref ls), y3, y4, y5, y6, y7, y8, y9] ∧ Pen H2 p c (88 + 2 * i) ∧ ShL H2 ls 10)
        ⟨_, _, _, _, _, _, _, rfl, hP2, sl2⟩ (fun i σ H2 hi hv => ?_) (fun σ H2 hv => ?_)⟩
      · obtain ⟨y3, y4, y5, y6, y7, y8, y9, rfl, hP2, vs, ss, hls2, hlen, hpair, hok⟩ := hv
        refine ⟨_, rfl, _, rfl, p, c, 10, _, rfl, hP2, by omega, by decide, by decide, fun r3 H3 a3 b3 k3 hP3 => ?_⟩
        obtain ⟨v1, hv1, hat1⟩ := atI_mem (xs := vs) a3 (by omega)
        refine ⟨ls, _, r3, _, rfl, rfl, SqL.of (k3 _ _ nlp hls2), hat1, ?_⟩
        refine ⟨_, rfl, _, rfl, p, c, 10, _, rfl, hP3, by omega, by decide, by decide, fun r4 H4 a4 b4 k4 hP4 => ?_⟩
        obtain ⟨v2, hv2, hat2⟩ := atI_mem (xs := vs) a4 (by omega)
        have hls4 := k4 _ _ nlp (k3 _ _ nlp hls2)
        refine ⟨ls, _, r4, _, rfl, rfl, SqL.of hls4, hat2, ?_⟩
        have j4 := TupK.of (k3.trans k4) hP2
        have hp4 := paired_imp (fun _ _ h => ShT.mono j4 h) hpair
        obtain ⟨sa, hsa, s1⟩ := paired_at hp4 _ hv1
        obtain ⟨sb, hsb, s2⟩ := paired_at hp4 _ hv2
        have oa := hok _ hsa
        have ob := hok _ hsb
        have bg2 := bg_two oa ob
        refine ⟨_, rfl, _, rfl, szL (show 2 ≤ 1000000 by decide), fun t5 ht5 => ?_⟩
        have x5 := Ext.new (o := .tup [v1, v2]) ht5
        refine ⟨.ref t5, _, _, _, _, rfl, .tup (SqT.of upd_same) (.cons (dp_sh (s1.mono (TupK.ext x5))) (.cons (dp_sh (s2.mono (TupK.ext x5))) .nil)), bg2, by decide, by decide, by decide, ?_⟩
        refine ⟨_, rfl, _, rfl, v1, v2, sa, sb, rfl, s1.mono (TupK.ext x5), s2.mono (TupK.ext x5), oa, ob, fun H6 x6 => ⟨true, rfl, iteF ?_⟩⟩
        refine ⟨_, rfl, _, rfl, szL (show 2 ≤ 1000000 by decide), fun t7 ht7 => ?_⟩
        have x7 := Ext.new (o := .tup [v1, v2]) ht7
        have xs := x5.trans (x6.trans x7)
        refine ⟨.ref t7, _, _, _, _, rfl, .tup (SqT.of upd_same) (.cons (dp_sh (s1.mono (TupK.ext xs))) (.cons (dp_sh (s2.mono (TupK.ext xs))) .nil)), bg2, by decide, by decide, by decide, _, rfl, rfl, _, rfl, iteNS rfl ?_⟩
        exact ⟨_, _, _, _, _, _, _, rfl, (hP4.ext xs).mono (by omega), vs, ss, xs _ _ hls4, hlen, paired_imp (fun _ _ h => ShT.mono (TupK.ext xs) h) hp4, hok⟩
      · exact q _
end
end Pf


namespace Pf
open PySem PySem.Spec PyProof.Rows L2
/-! ### what the top has written; the law's own head -/
theorem all_mk {l : PySem.W.OpenLaw} {w : World} {K : PySem.W.Frag} {h : Heap} {mg : Str → Option Value} {fa f0 f1 f2 f3 f4 f5 f6 f7 f8 f9 f10 : Addr} (X : K.In h) (G : h.Ns mainGlobals mg) (hfa : mg "law" = some (.ref fa))
    {od0 an0 od1 an1 od2 an2 od3 an3 od4 an4 od5 an5 od6 an6 od7 an7 od8 an8 od9 an9 od10 an10 : Option Addr} {sl0 sl1 sl2 sl3 sl4 sl5 sl6 sl7 sl8 sl9 sl10 : Array (Option Value)} {oc0 kV0 dc0 pm0 cd0 ct0 oc1 kV1 dc1 pm1 cd1 ct1 oc2 kV2 dc2 pm2 cd2 ct2 oc3 kV3 dc3 pm3 cd3 ct3 oc4 kV4 dc4 pm4 cd4 ct4 oc5 kV5 dc5 pm5 cd5 ct5 oc6 kV6 dc6 pm6 cd6 ct6 oc7 kV7 dc7 pm7 cd7 ct7 oc8 kV8 dc8 pm8 cd8 ct8 oc9 kV9 dc9 pm9 cd9 ct9 oc10 kV10 dc10 pm10 cd10 ct10 : Value} {T1 : Addr} {odT1 : Option Addr} {slT1 : Array (Option Value)} {nT1 : Nat} {tD1_0 : Tok} 
    (a0 : PySem.W.nsIn K mainGlobals "greatest_divisor" = some (some (.ref f0))) (l0 : K.lookup f0 = some ⟨oc0, od0, .func (PySem.W.fnOf "greatest_divisor" "greatest_divisor" (defArgs s_greatest_divisor) (defBody s_greatest_divisor) (defScope s_greatest_divisor) .none kV0 dc0 pm0 an0 cd0 ct0), sl0⟩) (c0 : PySem.W.codeIn K cd0 "greatest_divisor" = true) (k0 : PySem.W.keepIn K (.ref f0) = true)
    (a1 : PySem.W.nsIn K mainGlobals "share_of" = some (some (.ref f1))) (l1 : K.lookup f1 = some ⟨oc1, od1, .func (PySem.W.fnOf "share_of" "share_of" (defArgs s_share_of) (defBody s_share_of) (defScope s_share_of) (.ref T1) kV1 dc1 pm1 an1 cd1 ct1), sl1⟩) (c1 : PySem.W.codeIn K cd1 "share_of" = true) (k1 : PySem.W.keepIn K (.ref f1) = true) (u1 : K.lookup T1 = some ⟨.type "tuple", odT1, .seq #[.int 1 tD1_0] nT1, slT1⟩)
    (a2 : PySem.W.nsIn K mainGlobals "plus" = some (some (.ref f2))) (l2 : K.lookup f2 = some ⟨oc2, od2, .func (PySem.W.fnOf "plus" "plus" (defArgs s_plus) (defBody s_plus) (defScope s_plus) .none kV2 dc2 pm2 an2 cd2 ct2), sl2⟩) (c2 : PySem.W.codeIn K cd2 "plus" = true) (k2 : PySem.W.keepIn K (.ref f2) = true)
    (a3 : PySem.W.nsIn K mainGlobals "times" = some (some (.ref f3))) (l3 : K.lookup f3 = some ⟨oc3, od3, .func (PySem.W.fnOf "times" "times" (defArgs s_times) (defBody s_times) (defScope s_times) .none kV3 dc3 pm3 an3 cd3 ct3), sl3⟩) (c3 : PySem.W.codeIn K cd3 "times" = true) (k3 : PySem.W.keepIn K (.ref f3) = true)
    (a4 : PySem.W.nsIn K mainGlobals "over" = some (some (.ref f4))) (l4 : K.lookup f4 = some ⟨oc4, od4, .func (PySem.W.fnOf "over" "over" (defArgs s_over) (defBody s_over) (defScope s_over) .none kV4 dc4 pm4 an4 cd4 ct4), sl4⟩) (c4 : PySem.W.codeIn K cd4 "over" = true) (k4 : PySem.W.keepIn K (.ref f4) = true)
    (a5 : PySem.W.nsIn K mainGlobals "_law_pen" = some (some (.ref f5))) (l5 : K.lookup f5 = some ⟨oc5, od5, .func (PySem.W.fnOf "_law_pen" "_law_pen" (defArgs s_law_pen) (defBody s_law_pen) (defScope s_law_pen) .none kV5 dc5 pm5 an5 cd5 ct5), sl5⟩) (c5 : PySem.W.codeIn K cd5 "_law_pen" = true) (k5 : PySem.W.keepIn K (.ref f5) = true)
    (a6 : PySem.W.nsIn K mainGlobals "_law_take" = some (some (.ref f6))) (l6 : K.lookup f6 = some ⟨oc6, od6, .func (PySem.W.fnOf "_law_take" "_law_take" (defArgs s_law_take) (defBody s_law_take) (defScope s_law_take) .none kV6 dc6 pm6 an6 cd6 ct6), sl6⟩) (c6 : PySem.W.codeIn K cd6 "_law_take" = true) (k6 : PySem.W.keepIn K (.ref f6) = true)
    (a7 : PySem.W.nsIn K mainGlobals "_law_short" = some (some (.ref f7))) (l7 : K.lookup f7 = some ⟨oc7, od7, .func (PySem.W.fnOf "_law_short" "_law_short" (defArgs s_law_short) (defBody s_law_short) (defScope s_law_short) .none kV7 dc7 pm7 an7 cd7 ct7), sl7⟩) (c7 : PySem.W.codeIn K cd7 "_law_short" = true) (k7 : PySem.W.keepIn K (.ref f7) = true)
    (a8 : PySem.W.nsIn K mainGlobals "_law_number" = some (some (.ref f8))) (l8 : K.lookup f8 = some ⟨oc8, od8, .func (PySem.W.fnOf "_law_number" "_law_number" (defArgs s_law_number) (defBody s_law_number) (defScope s_law_number) .none kV8 dc8 pm8 an8 cd8 ct8), sl8⟩) (c8 : PySem.W.codeIn K cd8 "_law_number" = true) (k8 : PySem.W.keepIn K (.ref f8) = true)
    (a9 : PySem.W.nsIn K mainGlobals "_law_pair_right" = some (some (.ref f9))) (l9 : K.lookup f9 = some ⟨oc9, od9, .func (PySem.W.fnOf "_law_pair_right" "_law_pair_right" (defArgs s_law_pair_right) (defBody s_law_pair_right) (defScope s_law_pair_right) .none kV9 dc9 pm9 an9 cd9 ct9), sl9⟩) (c9 : PySem.W.codeIn K cd9 "_law_pair_right" = true) (k9 : PySem.W.keepIn K (.ref f9) = true)
    (a10 : PySem.W.nsIn K mainGlobals "law" = some (some (.ref f10))) (l10 : K.lookup f10 = some ⟨oc10, od10, .func (PySem.W.fnOf "law" "law" (defArgs s_law) (defBody s_law) (defScope s_law) .none kV10 dc10 pm10 an10 cd10 ct10), sl10⟩) (c10 : PySem.W.codeIn K cd10 "law" = true) (k10 : PySem.W.keepIn K (.ref f10) = true)
    (z0 : PySem.W.nsIn K mainGlobals "len" = some none)
    (z1 : PySem.W.nsIn K mainGlobals "abs" = some none)
    (z2 : PySem.W.nsIn K mainGlobals "int" = some none)
    (z3 : PySem.W.nsIn K mainGlobals "range" = some none)
    (z4 : PySem.W.nsIn K mainGlobals "repr" = some none) :
    ∃ fd : FuncData, (∀ (s : Shared) (v : Value), BindsTo s fd ⟨[v], []⟩ [("_law_script", v)]) ∧ ∀ base : Heap, K.In base → base.Ns mainGlobals mg → FnG l.prog w K mg base fa fd ["_law_script"] (spLaw K) := by
  have e := hfa.symm.trans (PySem.W.mg_of X G a10)
  cases e
  have F0 := fun_mk (st := s_greatest_divisor) l0 c0 k0
  have F1 : FunD K "share_of" "share_of" (defArgs s_share_of) (defBody s_share_of) (defScope s_share_of) [.int 1] [] f1 (PySem.W.fnOf "share_of" "share_of" (defArgs s_share_of) (defBody s_share_of) (defScope s_share_of) (.ref T1) kV1 dc1 pm1 an1 cd1 ct1) := ⟨⟨oc1, od1, .ref T1, kV1, dc1, pm1, an1, cd1, ct1, sl1, rfl, l1, c1, .inr ⟨by simp, T1, _, [.int 1 tD1_0], nT1, rfl, u1, rfl, (.cons ⟨_, rfl⟩ .nil)⟩, .inl rfl⟩, k1⟩
  have F2 := fun_mk (st := s_plus) l2 c2 k2
  have F3 := fun_mk (st := s_times) l3 c3 k3
  have F4 := fun_mk (st := s_over) l4 c4 k4
  have F5 := fun_mk (st := s_law_pen) l5 c5 k5
  have F6 := fun_mk (st := s_law_take) l6 c6 k6
  have F7 := fun_mk (st := s_law_short) l7 c7 k7
  have F8 := fun_mk (st := s_law_number) l8 c8 k8
  have F9 := fun_mk (st := s_law_pair_right) l9 c9 k9
  have F10 := fun_mk (st := s_law) l10 c10 k10
  have mlen := PySem.W.mg_none_of X G z0
  have mabs := PySem.W.mg_none_of X G z1
  have mint := PySem.W.mg_none_of X G z2
  have mrange := PySem.W.mg_none_of X G z3
  have mrepr := PySem.W.mg_none_of X G z4
  refine ⟨PySem.W.fnOf "law" "law" (defArgs s_law) (defBody s_law) (defScope s_law) .none kV10 dc10 pm10 an10 cd10 ct10, fun s v => .of_eq rfl, fun base _ _ => ?_⟩
  have cgreatest_divisor : Ca l.prog w K mg base 1 "greatest_divisor" ["number", "other"] spGD := ⟨f0, _, ok_gd F0, PySem.W.mg_of X G a0, F0.kp, F0.binds fun _ _ _ _ _ _ us hl => match us, hl with | [_, _], _ => rfl⟩
  have hbA : Binds K (PySem.W.fnOf "share_of" "share_of" (defArgs s_share_of) (defBody s_share_of) (defScope s_share_of) (.ref T1) kV1 dc1 pm1 an1 cd1 ct1) ["top", "bottom"] [] := by
    obtain ⟨ds, hv, hb⟩ := F1.binds1 (ps := ["top", "bottom"]) 2 1 (by simp) rfl (fun T kV doc pm an cdv ct us its h1 h2 => match us, its, h1, h2 with | [_, _], [_], _, _ => ⟨_, rfl, rfl⟩)
    cases hv
    exact hb
  obtain ⟨dsD, hvD, hbD⟩ := F1.binds1 (ps := ["top", "bottom"]) 1 0 (by simp) rfl (fun T kV doc pm an cdv ct us its h1 h2 => match us, its, h1, h2 with | [_], [_], _, _ => ⟨_, rfl, rfl⟩)
  have cF : Ca l.prog w K mg base 0 "share_of" ["top", "bottom"] (fun _ _ _ _ => False) := ⟨f1, _, fn_false, PySem.W.mg_of X G a1, F1.kp, hbA⟩
  have c0 : Ca l.prog w K mg base 2 "share_of" ["top", "bottom"] spSh0 := ⟨f1, _, ok_sh0 F1 cF cgreatest_divisor mabs, PySem.W.mg_of X G a1, F1.kp, hbA⟩
  have cshare_of : Ca l.prog w K mg base 3 "share_of" ["top", "bottom"] spShort := ⟨f1, _, ok_sh F1 c0 cgreatest_divisor mabs, PySem.W.mg_of X G a1, F1.kp, hbA⟩
  have cshare_ofD : CaD l.prog w K mg base 3 "share_of" ["top", "bottom"] [.int 1] spShort := ⟨f1, _, dsD, ok_sh F1 c0 cgreatest_divisor mabs, PySem.W.mg_of X G a1, F1.kp, hvD, hbD⟩
  have cshare_ofK : CaK l.prog w K mg base 3 "share_of" ["top", "bottom"] ["top", "bottom"] (permV [0, 1]) spShort := ⟨f1, _, _, ok_sh F1 c0 cgreatest_divisor mabs, PySem.W.mg_of X G a1, F1.kp, kb_D F1 [0, 1] (by simp) (fun T kV doc pm an cdv ct ws its h1 h2 => match ws, its, h1, h2 with | [_, _], [_], _, _ => ⟨_, rfl, rfl⟩)⟩
  have cplus : Ca l.prog w K mg base 4 "plus" ["share", "other"] (spBin (fun _ => True) plusS) := ⟨f2, _, ok_plus F2 cshare_of, PySem.W.mg_of X G a2, F2.kp, F2.binds fun _ _ _ _ _ _ us hl => match us, hl with | [_, _], _ => rfl⟩
  have cplusK : CaK l.prog w K mg base 4 "plus" ["share", "other"] ["share", "other"] (permV [0, 1]) (spBin (fun _ => True) plusS) := ⟨f2, _, permU [0, 1], ok_plus F2 cshare_of, PySem.W.mg_of X G a2, F2.kp, kbn_of [0, 1] fun ws hw => match ws, hw with | [_, _], _ => rfl⟩
  have ctimes : Ca l.prog w K mg base 4 "times" ["share", "other"] (spBin (fun _ => True) timesS) := ⟨f3, _, ok_times F3 cshare_of, PySem.W.mg_of X G a3, F3.kp, F3.binds fun _ _ _ _ _ _ us hl => match us, hl with | [_, _], _ => rfl⟩
  have ctimesK : CaK l.prog w K mg base 4 "times" ["share", "other"] ["share", "other"] (permV [0, 1]) (spBin (fun _ => True) timesS) := ⟨f3, _, permU [0, 1], ok_times F3 cshare_of, PySem.W.mg_of X G a3, F3.kp, kbn_of [0, 1] fun ws hw => match ws, hw with | [_, _], _ => rfl⟩
  have cover : Ca l.prog w K mg base 4 "over" ["share", "other"] (spBin (fun b => b.1 ≠ 0) overS) := ⟨f4, _, ok_over F4 cshare_of, PySem.W.mg_of X G a4, F4.kp, F4.binds fun _ _ _ _ _ _ us hl => match us, hl with | [_, _], _ => rfl⟩
  have coverK : CaK l.prog w K mg base 4 "over" ["share", "other"] ["share", "other"] (permV [0, 1]) (spBin (fun b => b.1 ≠ 0) overS) := ⟨f4, _, permU [0, 1], ok_over F4 cshare_of, PySem.W.mg_of X G a4, F4.kp, kbn_of [0, 1] fun ws hw => match ws, hw with | [_, _], _ => rfl⟩
  have c_law_pen : Ca l.prog w K mg base 1 "_law_pen" ["_law_script"] (spStart K) := ⟨f5, _, ok_start F5, PySem.W.mg_of X G a5, F5.kp, F5.binds fun _ _ _ _ _ _ us hl => match us, hl with | [_], _ => rfl⟩
  have c_law_take : Ca l.prog w K mg base 1 "_law_take" ["_law_pen_here", "_law_many"] spDraw := ⟨f6, _, ok_draw F6 mlen mabs mint, PySem.W.mg_of X G a6, F6.kp, F6.binds fun _ _ _ _ _ _ us hl => match us, hl with | [_, _], _ => rfl⟩
  have c_law_short : Ca l.prog w K mg base 1 "_law_short" ["_law_up", "_law_down"] spShort := ⟨f7, _, ok_short F7 mabs, PySem.W.mg_of X G a7, F7.kp, F7.binds fun _ _ _ _ _ _ us hl => match us, hl with | [_, _], _ => rfl⟩
  have c_law_number : Ca l.prog w K mg base 2 "_law_number" ["_law_pen_here"] spNum := ⟨f8, _, ok_num F8 c_law_take, PySem.W.mg_of X G a8, F8.kp, F8.binds fun _ _ _ _ _ _ us hl => match us, hl with | [_], _ => rfl⟩
  have c_law_pair_right : CaG l.prog w K mg base 5 "_law_pair_right" ["_law_one", "_law_two"] spPR := ⟨f9, _, ok_pr F9 c_law_short cplus ctimes cover cplusK ctimesK coverK mrepr, PySem.W.mg_of X G a9, F9.kp, F9.binds fun _ _ _ _ _ _ us hl => match us, hl with | [_, _], _ => rfl⟩
  exact ok_law F10 ⟨rfl, by decide, by decide⟩ c_law_pen c_law_take c_law_number c_law_short cshare_of cshare_ofK cshare_ofD c_law_pair_right mrange mrepr
end Pf
open PySem PySem.W PyProof.Rows
set_option maxHeartbeats 0 in
theorem PySem.Challenge.cw_pairfolds_k30_shares_reckoned_holds : PySem.Challenge.rw_pairfolds_k30_shares_reckoned.Holds := by
  w_on; o_law; k_head; (case hw => w_witness2)
  k_fill
  refine Pf.walk_g (l := PySem.Challenge.rw_pairfolds_k30_shares_reckoned) (n := 63) (x := "_law_script") (sp := fun w => Pf.spLaw _) rfl (by decide) rfl (fun w h Y => PySem.W.kIn_of Y) ?F (fun _ _ a ns hl hS => ⟨a, ns, rfl, hS, hl, fun _ => rfl⟩)
  case F =>
    intro w mg fa h KX G hmg
    refine' Pf.all_mk KX G hmg ?a0 ?l0 ?c0 ?k0 ?a1 ?l1 ?c1 ?k1 ?u1 ?a2 ?l2 ?c2 ?k2 ?a3 ?l3 ?c3 ?k3 ?a4 ?l4 ?c4 ?k4 ?a5 ?l5 ?c5 ?k5 ?a6 ?l6 ?c6 ?k6 ?a7 ?l7 ?c7 ?k7 ?a8 ?l8 ?c8 ?k8 ?a9 ?l9 ?c9 ?k9 ?a10 ?l10 ?c10 ?k10 ?z0 ?z1 ?z2 ?z3 ?z4
    (case a0 => k_is); (case l0 => k_is); (case c0 => k_is); (case k0 => k_is); (case a1 => k_is); (case l1 => k_is); (case c1 => k_is); (case k1 => k_is); (case u1 => k_is); (case a2 => k_is); (case l2 => k_is); (case c2 => k_is); (case k2 => k_is); (case a3 => k_is); (case l3 => k_is); (case c3 => k_is); (case k3 => k_is); (case a4 => k_is); (case l4 => k_is); (case c4 => k_is); (case k4 => k_is); (case a5 => k_is); (case l5 => k_is); (case c5 => k_is); (case k5 => k_is); (case a6 => k_is); (case l6 => k_is); (case c6 => k_is); (case k6 => k_is); (case a7 => k_is); (case l7 => k_is); (case c7 => k_is); (case k7 => k_is); (case a8 => k_is); (case l8 => k_is); (case c8 => k_is); (case k8 => k_is); (case a9 => k_is); (case l9 => k_is); (case c9 => k_is); (case k9 => k_is); (case a10 => k_is); (case l10 => k_is); (case c10 => k_is); (case k10 => k_is); (case z0 => k_is); (case z1 => k_is); (case z2 => k_is); (case z3 => k_is); (case z4 => k_is)
