import PyProof.Rows.All
import Wide.All
import OpenK.AllK
import Wide.FinOn
import HandS.ForMost
import HandS.Defaults
import HandS.TupMul
import HandS.TupAny
import HandS.IsInst
import HandS.Conv
import KE.SortData
import KE.GoesMore
import HandS.Style
import HandS.Walk
import HandS.Zip
import HandS.TupLe
import HandS.DictComp
import KE.KDictSum
import HandS.ExcValue
import PySem.Challenge.RW_pairfolds_k50_shut_in_below_a_ridge
import KE.KDictZip
import HandS.Text
import HandS.Sort
import PyProof.SumWalkG
import HandS.ListItems
import HandS.More
import KE.KDictKeyed
import PyProof.TupleKey
import HandS.TupSets
import PyProof.DictMoreH
import PyProof.DictRoadsH
import HandS.DictSubView
import KE.DataCmp
import PyProof.FactsAll.subtypes_4
import PyProof.Transfer
import HandS.SortKw
import KE.KMinKey
import PyProof.EqAt
import HandS.SetFor
import HandS.Deep
import KE.KDictDisplayH
import HandS.Wide
set_option Elab.async false
set_option linter.all false
set_option maxRecDepth 100000
set_option maxHeartbeats 4000000
namespace Pf
open PySem PySem.Spec PyProof.Rows L2

/-! ### a def that may be called: its promise, its name, its binding -/
structure Ca (P : Program) (w : World) (K : PySem.W.Frag) (mg : Str → Option Value) (base : Heap) (k : Nat) (x : Str) (ps : List Str) (sp : Sp) : Prop where
  ex : ∃ f fd, FnOk P w K mg base CX0 k f fd ps sp ∧ mg x = some (.ref f) ∧ PySem.W.keepIn K (.ref f) = true ∧ Binds K fd ps []
structure CaK (P : Program) (w : World) (K : PySem.W.Frag) (mg : Str → Option Value) (base : Heap) (k : Nat) (x : Str) (ps ks : List Str) (gV : List V → List V → List V) (sp : Sp) : Prop where
  ex : ∃ f fd g, FnOk P w K mg base CX0 k f fd ps sp ∧ mg x = some (.ref f) ∧ PySem.W.keepIn K (.ref f) = true ∧ KBn K fd ps 0 ks g gV
section
variable {X : Cx} {k : Nat} {x : Str} {ps ks : List Str} {sp : Sp} {p pos : Pos} {e : Expr} {es : List Expr} {kws : List Keyword} {t tk : TA} {gV : List V → List V → List V}
theorem pe_ca (c : Ca X.prog X.w X.K X.mg X.base k x ps sp) (hr : Room k X.A) (hg : Gl X x) (ha : PA X (e :: es) t) (hdb : (x == ("__debug__" : Str)) = false := by decide)
    (he : starEach (e :: es) X.env = (false, eval e X.env) :: starEach es X.env := by rfl) (hpl : (backTo pos (starEach es X.env)).any (·.1) = false := by rfl) :
    PE X (.Call (.Name x p) (e :: es) [] pos) (tCall sp [] E0 t) := by
  obtain ⟨f, fd, F, hm, hk, hb⟩ := c.ex
  exact pe_call F hr hg hm hk hb .nil pass0 ha hdb he hpl
theorem pe_ca0 (c : Ca X.prog X.w X.K X.mg X.base k x ps sp) (hr : Room k X.A) (hg : Gl X x) (hdb : (x == ("__debug__" : Str)) = false := by decide) :
    PE X (.Call (.Name x p) [] [] pos) (tCall sp [] E0 tNil) := by
  obtain ⟨f, fd, F, hm, hk, hb⟩ := c.ex
  exact pe_call0 F hr hg hm hk hb .nil pass0 hdb
/-- f(k = v, ..), by names alone -/
theorem pe_caK (c : CaK X.prog X.w X.K X.mg X.base k x ps ks gV sp) (hr : Room k X.A) (hg : Gl X x) (hkw : PK X kws tk)
    (hall : (backToKw pos (keywordEach kws X.env)).all (·.1.isSome) = true := by rfl) (hks : (backToKw pos (keywordEach kws X.env)).filterMap (·.1) = ks := by rfl) (hdb : (x == ("__debug__" : Str)) = false := by decide)
    (hpl : ((backTo pos (starEach [] X.env)).any (·.1) || (backToKw pos (keywordEach kws X.env)).any (·.1.isNone)) = false := by rfl) :
    PE X (.Call (.Name x p) [] kws pos) (tCallN 0 ks.length sp gV E0 tNil tk) := by
  obtain ⟨f, fd, g, F, hm, hk, hb⟩ := c.ex
  refine ⟨fun pins s σ H Q I h => ?_⟩
  refine wpAny_Call_Name_kw (ld_glob I hg hm ?_ hdb)
  refine PySem.W.callWith_KW0 (h₀ := X.base) I.ok.mod.kin hk hall ?_ hpl
  refine thn (hkw.run pos pins s σ H _ I h) fun ws s2 ⟨zs, H2, I2, rz, l1, l2, q2⟩ => ⟨I2.kIn, ?_⟩
  rw [hks]
  exact run_fnN (us := []) (vs := []) F hr hb pass0 I2 .nil rz rfl l2 q2
end

/-! ### rules that read a list or a tuple, the written part by its letter -/
theorem ixL (K : PySem.W.Frag) {X : Cx} (h : X.K = K := by rfl) : IxR X (rIxL K) := h ▸ ix_list
theorem ixT (K : PySem.W.Frag) {X : Cx} (h : X.K = K := by rfl) : IxR X (rIxT K) := h ▸ ix_tup
theorem ixA (K : PySem.W.Frag) {X : Cx} (h : X.K = K := by rfl) : IxR X (rIx K) := h ▸ ix_seq
def rLenA (K : PySem.W.Frag) : List V → Hp → VK → Prop := fun xs H Q => ∃ x n, xs = [x] ∧ LenV K x H n ∧ Q (.int n) H
theorem lenA (K : PySem.W.Frag) {X : Cx} (h : X.K = K := by rfl) : CallR X (.builtin "len") (rLenA K) := by
  subst h
  exact call_len
theorem repT (K : PySem.W.Frag) {X : Cx} (h : X.K = K := by rfl) : OpR X (binaryOp .Mult) (rRepT K) := h ▸ op_repT
theorem slL (K : PySem.W.Frag) {X : Cx} (h : X.K = K := by rfl) : SlR X (rSlL K) := h ▸ sl_list
theorem slT (K : PySem.W.Frag) {X : Cx} (h : X.K = K := by rfl) : SlR X (rSlT K) := h ▸ sl_tup
theorem eqD (K : PySem.W.Frag) {X : Cx} (hu : X.A.units + 64 < cLine) (h : X.K = K := by rfl) : OpR X (compareOp .Eq) (rEqD K) := h ▸ op_eqD hu
theorem neD (K : PySem.W.Frag) {X : Cx} (hu : X.A.units + 64 < cLine) (h : X.K = K := by rfl) : OpR X (compareOp .NotEq) (rNeD K) := h ▸ op_neD hu
theorem catT (K : PySem.W.Frag) {X : Cx} (h : X.K = K := by rfl) : OpR X (binaryOp .Add) (rCatT K) := h ▸ op_catT
theorem catA (K : PySem.W.Frag) {X : Cx} (h : X.K = K := by rfl) : OpR X (binaryOp .Add) (rCatA K) := h ▸ op_catA
theorem slA (K : PySem.W.Frag) {X : Cx} (h : X.K = K := by rfl) : SlR X (rSlA K) := h ▸ sl_tupA
theorem isi1 (K : PySem.W.Frag) {X : Cx} (h : X.K = K := by rfl) : CallR X (.builtin "isinstance") (rIsi K) := h ▸ call_isi
theorem pgT (K : PySem.W.Frag) {X : Cx} {es : List Expr} {k n : Nat} {t : TGs} {pos : Pos} (hc : X.calm = true) (h : PGs X es t) (hK : X.K = K := by rfl) (hn : (assignEach es X.env).length = n := by rfl) (hst : (assignEach es X.env).findIdx? (·.1) = none := by rfl) :
    PG X (.Tuple es k pos) (gTup K n t) := by
  subst hK
  exact pg_tup hc h hn hst
def rLen (K : PySem.W.Frag) : List V → Hp → VK → Prop := fun xs H Q => ∃ p ys, xs = [.ref p] ∧ (SqL K H p ys ∨ SqT K H p ys) ∧ Q (.int ys.length) H
theorem lenQ (K : PySem.W.Frag) {X : Cx} (h : X.K = K := by rfl) : CallR X (.builtin "len") (rLen K) := by
  subst h
  exact call_len_seq
def rListOf (K : PySem.W.Frag) : List V → Hp → VK → Prop := fun xs H Q => ∃ p ys, xs = [.ref p] ∧ (SqL K H p ys ∨ SqT K H p ys) ∧ ∀ l, H l = none → Q (.ref l) (upd H l (.lst ys))
theorem listOf (K : PySem.W.Frag) {X : Cx} (h : X.K = K := by rfl) : CallR X (.type "list") (rListOf K) := by
  subst h
  exact call_list_of
def rTupleOf (K : PySem.W.Frag) : List V → Hp → VK → Prop := fun xs H Q => ∃ p ys, xs = [.ref p] ∧ ((SqL K H p ys ∧ ∀ l, H l = none → Q (.ref l) (upd H l (.tup ys))) ∨ (SqT K H p ys ∧ Q (.ref p) H))
theorem tupleOf (K : PySem.W.Frag) {X : Cx} (h : X.K = K := by rfl) : CallR X (.type "tuple") (rTupleOf K) := by
  subst h
  exact call_tuple_of

/-! ### repr of a plain thing -/
def repV : V → Str
  | .non => "None"
  | .bl b => if b then "True" else "False"
  | .int i => toString i
  | _ => ""
def RepOk : V → Prop
  | .non => True
  | .bl _ => True
  | .int i => i.natAbs.log2 < 1920
  | _ => False
theorem call_repr {X : Cx} : CallR X (.builtin "repr") (fun xs H Q => ∃ v, xs = [v] ∧ RepOk v ∧ Q (.str (repV v)) H) := by
  intro pins s σ H xs us Q I r h
  obtain ⟨v, rfl, hz, q⟩ := h
  cases v with
  | non =>
    obtain ⟨u, rfl, rfl⟩ := vals1 r
    exact PySem.P.repr_of_none ⟨.str _, H, I.tok _, ⟨_, rfl⟩, q⟩
  | bl b =>
    obtain ⟨u, rfl, rfl⟩ := vals1 r
    exact PySem.P.repr_of_bool ⟨.str _, H, I.tok _, ⟨_, rfl⟩, by cases b <;> exact q⟩
  | int i =>
    obtain ⟨u, rfl, t, rfl⟩ := vals1 r
    exact PySem.P.repr_of_int hz ⟨.str _, H, I.tok _, ⟨_, rfl⟩, q⟩
  | str _ => exact hz.elim
  | byt _ => exact hz.elim
  | flt _ => exact hz.elim
  | ref _ => exact hz.elim
  | ty _ => exact hz.elim

/-! ### texts of small letters -/
def Small (x : Str) : Prop := ∀ c ∈ x.cps.toList, 97 ≤ c ∧ c ≤ 122
theorem Small.app {a b : Str} (ha : Small a) (hb : Small b) : Small (a ++ b) := fun c h => by
  rw [Str.cps_append, Array.toList_append, List.mem_append] at h
  rcases h with h | h
  · exact ha c h
  · exact hb c h
theorem Small.one {c : Nat} (h : 97 ≤ c ∧ c ≤ 122) : Small ⟨#[c]⟩ := fun d hd => by
  have e : d = c := by simpa using hd
  subst e
  exact h
theorem Small.at {x : Str} (h : Small x) {i c : Nat} (hi : x.cps[i]? = some c) : 97 ≤ c ∧ c ≤ 122 := by
  refine h c ?_
  have := Array.mem_of_getElem? hi
  exact Array.mem_toList_iff.mpr this
theorem Small.ok {x : Str} (h : Small x) : PyData.strOk x = true := by
  show x.cps.all (· < 0x110000) = true
  rw [Array.all_eq_true_iff_forall_mem]
  intro c hc
  have := h c (Array.mem_toList_iff.mpr hc)
  exact decide_eq_true (by omega)
/-! ### a chain of three comparisons -/
def tChain3 (r1 r2 r3 : R2) (ta tb tc td : TE) : TE := fun σ H Q => ta σ H fun x H1 => tb σ H1 fun y H2 => r1 x y H2 fun z H3 => ∃ k, z = .bl k ∧
  (if k = true then tc σ H3 fun u H4 => r2 y u H4 fun z2 H5 => ∃ k2, z2 = .bl k2 ∧ (if k2 = true then td σ H5 fun v H6 => r3 u v H6 Q else Q (.bl false) H5) else Q (.bl false) H3)
theorem pt_chain3 {X : Cx} {o1 o2 o3 : CmpOp} {r1 r2 r3 : R2} {a b c d : Expr} {ta tb tc td : TE} {pos : Pos} (h1 : OpR X (compareOp o1) r1) (h2 : OpR X (compareOp o2) r2) (h3 : OpR X (compareOp o3) r3)
    (ha : PE X a ta) (hb : PE X b tb) (hc : PE X c tc) (hd : PE X d td) (hm : lastMarks [o1, o2, o3] [b, c, d] = false := by with_unfolding_all rfl) :
    PT X (.Compare a [o1, o2, o3] [b, c, d] pos) (tTest (tChain3 r1 r2 r3 ta tb tc td)) := by
  refine ⟨fun pins s σ H Q I h => isTrue_chain (thn (ha.run pins s σ H _ I h) fun v s1 ⟨x, H1, I1, e1, q1⟩ => test_link ?_) hm⟩
  refine thn (hb.run pins s1 σ H1 _ I1 q1) fun u s2 ⟨y, H2, I2, e2, q2⟩ => ?_
  refine thn (h1 pins s2 σ H2 x y v u _ I2 e1 e2 q2) fun dv s3 ⟨z, H3, I3, e3, k, ek, q3⟩ => ?_
  subst ek
  cases e3
  refine wpAny_truthy_bool ?_
  cases k with
  | false =>
    obtain ⟨k', e', q'⟩ := q3
    cases e'
    exact ite_ff ⟨H3, I3, q'⟩
  | true =>
    refine ite_tt (test_link ?_)
    refine thn (hc.run pins s3 σ H3 _ I3 q3) fun u4 s4 ⟨y4, H4, I4, e4, q4⟩ => ?_
    refine thn (h2 pins s4 σ H4 y y4 u u4 _ I4 e2 e4 q4) fun dv5 s5 ⟨z5, H5, I5, e5, k5, ek5, q5⟩ => ?_
    subst ek5
    cases e5
    refine wpAny_truthy_bool ?_
    cases k5 with
    | false =>
      obtain ⟨k', e', q'⟩ := q5
      cases e'
      exact ite_ff ⟨H5, I5, q'⟩
    | true =>
      refine ite_tt (test_last ?_)
      refine thn (hd.run pins s5 σ H5 _ I5 q5) fun u6 s6 ⟨y6, H6, I6, e6, q6⟩ => ?_
      refine thn (h3 pins s6 σ H6 y4 y6 u4 u6 _ I6 e4 e6 q6) fun dv7 s7 ⟨z7, H7, I7, e7, k7, ek7, q7⟩ => ?_
      subst ek7
      cases e7
      exact wpAny_truthy_bool ⟨H7, I7, q7⟩
theorem inSeq (K : PySem.W.Frag) {X : Cx} (h : X.K = K := by rfl) : OpR X (compareOp .In) (rIn K false) := h ▸ op_in_seq
theorem notInSeq (K : PySem.W.Frag) {X : Cx} (h : X.K = K := by rfl) : OpR X (compareOp .NotIn) (rIn K true) := h ▸ op_notIn_seq
/-! ### join with nothing between -/
theorem join_str (ys : List Str) : Txt.join "" ys = Str.join "" ys := eq_of_beq (join_closes (ys := ys) rfl)
theorem sjoin_le {m : Nat} : ∀ {ys : List Str}, (∀ y ∈ ys, y.length ≤ m) → (Str.join "" ys).length ≤ ys.length * m
  | [], _ => Nat.zero_le _
  | [y], h => by
    have := h y (List.mem_cons_self ..)
    show y.length ≤ 1 * m
    omega
  | y :: z :: r, h => by
    have h1 := h y (List.mem_cons_self ..)
    have h2 := sjoin_le (ys := z :: r) fun x hx => h x (List.mem_cons_of_mem _ hx)
    show (y ++ "" ++ Str.join "" (z :: r)).length ≤ _
    rw [Str.length_append, Str.length_append, List.length_cons, Nat.succ_mul]
    show y.length + 0 + _ ≤ _
    omega
theorem small_nil : Small "" := by
  unfold Small
  decide +kernel
theorem sjoin_small : ∀ {ys : List Str}, (∀ y ∈ ys, Small y) → Small (Str.join "" ys)
  | [], _ => small_nil
  | [y], h => h y (List.mem_cons_self ..)
  | y :: z :: r, h => ((h y (List.mem_cons_self ..)).app small_nil).app (sjoin_small (ys := z :: r) fun x hx => h x (List.mem_cons_of_mem _ hx))
theorem join_le {m : Nat} {ys : List Str} (h : ∀ y ∈ ys, y.length ≤ m) : (Txt.join "" ys).length ≤ ys.length * m := by
  rw [join_str]
  exact sjoin_le h
theorem join_small {ys : List Str} (h : ∀ y ∈ ys, Small y) : Small (Txt.join "" ys) := by
  rw [join_str]
  exact sjoin_small h

/-! ### a walk over a text's signs -/
theorem for_str {x : Str} {g : TG} {tb : TS} {D : Ends} {σ : L2.St} {H : Hp} (Pv : Nat → L2.St → Hp → Prop) (h0 : Pv 0 σ H)
    (hs : ∀ i c σ H, x.cps[i]? = some c → Pv i σ H → g (.str ⟨#[c]⟩) σ H fun σ2 H2 => tb { D with nx := Pv (i + 1), ct := Pv (i + 1), bk := D.nx } σ2 H2) (hd : ∀ σ H, Pv x.cps.size σ H → D.nx σ H) :
    ∃ W : Nat → Nat → L2.St → Hp → Prop, (∃ m, W 0 m σ H) ∧ ∀ i m σ H, W i m σ H →
      ((Its x).stop i H ∧ D.nx σ H) ∨ ((Its x).go i H ∧ ∃ N : L2.St → Hp → Prop, (∀ σ' H', N σ' H' → ∃ m', m' < m ∧ W (i + 1) m' σ' H') ∧ ∀ y H', (Its x).yld i H y H' → g y σ H' fun σ2 H2 => tb { D with nx := N, ct := N, bk := D.nx } σ2 H2) := by
  refine ⟨fun i m σ H => m = x.cps.size - i ∧ i ≤ x.cps.size ∧ Pv i σ H, ⟨x.cps.size, by simp, Nat.zero_le _, h0⟩, ?_⟩
  rintro i m σ H ⟨rfl, hi, p⟩
  by_cases hlt : i < x.cps.size
  · refine .inr ⟨hlt, Pv (i + 1), fun σ' H' p' => ⟨x.cps.size - (i + 1), by omega, rfl, hlt, p'⟩, fun y H' z => ?_⟩
    obtain ⟨e, c, hc, ev⟩ := z
    subst e ev
    exact hs i c σ _ hc p
  · have e : i = x.cps.size := by omega
    subst e
    exact .inl ⟨Nat.le_refl _, hd σ H p⟩
theorem lc_str {x : Str} {g : TG} {tt : TT} {te : TE} {vs : List Nat} {σ : L2.St} {H1 : Hp} {D : Addr} {Qd : Hp → Prop} (Pv : Nat → Hp → Prop) (h0 : Pv 0 (upd H1 D (.lst [])))
    (hs : ∀ i c H, x.cps[i]? = some c → Pv i H → g (.str ⟨#[c]⟩) (wipe σ vs) H fun σ2 H2 => wipe σ2 vs = wipe σ vs ∧ tt σ2 H2 fun b H3 =>
      if b = true then te σ2 H3 fun y H4 => ∃ acc, H4 D = some (.lst acc) ∧ acc.length < sizeLine ∧ Pv (i + 1) (upd H4 D (.lst (acc ++ [y]))) else Pv (i + 1) H3) (hd : ∀ H, Pv x.cps.size H → Qd H) :
    ∃ W : Nat → Nat → Hp → Prop, (∃ m, W 0 m (upd H1 D (.lst []))) ∧ ∀ i m H, W i m H →
      ((Its x).stop i H ∧ Qd H) ∨ ((Its x).go i H ∧ ∃ Nx : Hp → Prop, (∀ H', Nx H' → ∃ m', m' < m ∧ W (i + 1) m' H') ∧ ∀ y H', (Its x).yld i H y H' → g y (wipe σ vs) H' fun σ2 H2 => wipe σ2 vs = wipe σ vs ∧ tt σ2 H2 fun b H3 =>
        if b = true then te σ2 H3 fun y H4 => ∃ acc, H4 D = some (.lst acc) ∧ acc.length < sizeLine ∧ Nx (upd H4 D (.lst (acc ++ [y]))) else Nx H3) := by
  refine ⟨fun i m H => m = x.cps.size - i ∧ i ≤ x.cps.size ∧ Pv i H, ⟨x.cps.size, by simp, Nat.zero_le _, h0⟩, ?_⟩
  rintro i m H ⟨rfl, hi, p⟩
  by_cases hlt : i < x.cps.size
  · refine .inr ⟨hlt, Pv (i + 1), fun H' p' => ⟨x.cps.size - (i + 1), by omega, rfl, hlt, p'⟩, fun y H' z => ?_⟩
    obtain ⟨e, c, hc, ev⟩ := z
    subst e ev
    exact hs i c _ hc p
  · have e : i = x.cps.size := by omega
    subst e
    exact .inl ⟨Nat.le_refl _, hd H p⟩

/-! ### what stays in the heap, but the thing at p -/
def Kp (p : Addr) (H H' : Hp) : Prop := ∀ b o, b ≠ p → H b = some o → H' b = some o
theorem Kp.refl {p : Addr} {H : Hp} : Kp p H H := fun _ _ _ e => e
theorem Kp.trans {p : Addr} {H H1 H2 : Hp} (a : Kp p H H1) (b : Kp p H1 H2) : Kp p H H2 := fun c o n e => b c o n (a c o n e)
theorem Kp.new {p q : Addr} {H : Hp} {o : HO} (h : H q = none) : Kp p H (upd H q o) := fun b x _ e => by
  rw [upd_ne (ne_of_none e h)]
  exact e
theorem Kp.at {p : Addr} {H : Hp} {o : HO} : Kp p H (upd H p o) := fun b x n e => by
  rw [upd_ne n]
  exact e
/-- a change of what stood nowhere in H -/
theorem Kp.put {p q : Addr} {H H1 : Hp} {o : HO} (k : Kp p H H1) (h : H q = none) : Kp p H (upd H1 q o) := fun b x n e => by
  rw [upd_ne (ne_of_none e h)]
  exact k b x n e
theorem Kp.tup {p : Addr} {H H' : Hp} {ys : List V} {b : Addr} {xs : List V} (k : Kp p H H') (hp : H p = some (.lst ys)) (h : H b = some (.tup xs)) : H' b = some (.tup xs) :=
  k b _ (ne_of h hp (by intro z; cases z)) h
theorem Kp.some {p : Addr} {H H' : Hp} (k : Kp p H H') (hp : ∃ o, H' p = some o) {b : Addr} (h : H' b = none) : H b = none := by
  cases e : H b with
  | none => rfl
  | some o =>
    by_cases n : b = p
    · subst n
      obtain ⟨o', e'⟩ := hp
      rw [e'] at h
      cases h
    · rw [k b o n e] at h
      cases h

/-! ### arguments by names, in another order -/
def permV (js : List Nat) : List V → List V → List V := fun _ zs => js.map fun j => zs.getD j .non
def permU (js : List Nat) : List Value → List Value → List Value := fun _ ws => js.map fun j => ws.getD j .none
theorem vals_getD : ∀ {zs : List V} {ws : List Value} (j : Nat), Vals zs ws → RelV (zs.getD j .non) (ws.getD j .none)
  | _, _, _, .nil => rfl
  | _, _, 0, .cons r _ => r
  | _, _, j + 1, .cons _ t => vals_getD j t
theorem perm_rel {zs : List V} {ws : List Value} (r : Vals zs ws) : ∀ js : List Nat, Vals (js.map fun j => zs.getD j .non) (js.map fun j => ws.getD j .none)
  | [] => .nil
  | j :: js => .cons (vals_getD j r) (perm_rel r js)
theorem kbn_of {K : PySem.W.Frag} {fd : FuncData} {ps ks : List Str} (js : List Nat) (h : ∀ ws : List Value, ws.length = ks.length → bindArgs fd ⟨[], ks.zip ws⟩ = pure (ps.zip (js.map fun j => ws.getD j .none))) :
    KBn K fd ps 0 ks (permU js) (permV js) where
  to := fun s us ws _ hu hw => by
    obtain rfl := List.length_eq_zero_iff.mp hu
    exact .of_eq (h ws hw)
  rel := fun _ r => perm_rel r js
/-! ### what is added, and nothing changed -/
def Ext (H H' : Hp) : Prop := ∀ b o, H b = some o → H' b = some o
theorem Ext.refl {H : Hp} : Ext H H := fun _ _ e => e
theorem Ext.trans {H H1 H2 : Hp} (a : Ext H H1) (b : Ext H1 H2) : Ext H H2 := fun c o e => b c o (a c o e)
theorem Ext.new {q : Addr} {H : Hp} {o : HO} (h : H q = none) : Ext H (upd H q o) := fun b x e => by
  rw [upd_ne (ne_of_none e h)]
  exact e
theorem Ext.put {q : Addr} {H H1 : Hp} {o : HO} (k : Ext H H1) (h : H q = none) : Ext H (upd H1 q o) := fun b x e => by
  rw [upd_ne (ne_of_none e h)]
  exact k b x e
theorem Ext.none {H H' : Hp} (k : Ext H H') {q : Addr} (h : H' q = none) : H q = none := by
  cases e : H q with
  | none => rfl
  | some o =>
    rw [k q o e] at h
    cases h

theorem atI_get {α : Type} {xs : List α} {i : Int} (h0 : 0 ≤ i) (h1 : i < xs.length) : atI xs i = some (xs[i.toNat]'(by omega)) := by
  unfold atI ixN
  rw [if_pos h0, if_pos h1]
  exact List.getElem?_eq_getElem _
theorem atI_ints {ns : List Int} {i : Int} (h0 : 0 ≤ i) (h1 : i < ns.length) : ∃ z, z ∈ ns ∧ atI (ns.map V.int) i = some (.int z) := by
  have h2 : i < (ns.map V.int).length := by rw [List.length_map]; exact h1
  refine ⟨ns[i.toNat]'(by omega), List.getElem_mem _, ?_⟩
  rw [atI_get h0 h2, List.getElem_map]
theorem atI_mem {α : Type} {xs : List α} {i : Int} (h0 : 0 ≤ i) (h1 : i < xs.length) : ∃ v, v ∈ xs ∧ atI xs i = some v :=
  ⟨xs[i.toNat]'(by omega), List.getElem_mem _, atI_get h0 h1⟩
theorem len_pos {x : Str} (h : ¬ x = "") : 1 ≤ x.length := by
  obtain ⟨⟨l⟩⟩ := x
  cases l with
  | nil => exact absurd (by decide +kernel) h
  | cons a r =>
    show 1 ≤ (a :: r).length
    exact Nat.succ_pos _
theorem natAbs_lt_of {i : Int} {n : Nat} (h0 : -(n : Int) < i) (h1 : i < n) : i.natAbs < n := by omega
theorem log2_small {i : Int} (h : i.natAbs < 2 ^ 64) : i.natAbs.log2 < 1920 := by
  by_cases z : i.natAbs = 0
  · rw [z]
    decide
  · exact (Nat.log2_lt z).mpr (Nat.lt_of_lt_of_le h (Nat.pow_le_pow_right (by decide) (by decide)))
theorem szL {n : Nat} (h : n ≤ 1000000) : n ≤ sizeLine := by
  rw [sizeLine_eq]
  omega
theorem szLt {n : Nat} (h : n < 1000000) : n < sizeLine := by
  rw [sizeLine_eq]
  omega
end Pf


namespace Pf
open PySem PySem.Spec PyProof.Rows L2
/-! ### the law's own call: made by nobody, nothing being shown meanwhile -/
structure FnG (P : Program) (w : World) (K : PySem.W.Frag) (mg : Str → Option Value) (base : Heap) (f : Addr) (fd : FuncData) (ps : List Str) (sp : Sp) : Prop where
  run : ∀ (s : Shared) (H : Hp) (args : Args) (us : List Value) (vs : List V) (Q : VK) (E : XK), Env0 P w K mg base callerA [] s H → BindsTo s fd args (ps.zip us) → Vals vs us → sp vs H Q E →
    codeAny (model P w) callerA (.call (.ref f) args) (CR CX0 [] P w H s Q E) s
theorem FnG.of {P : Program} {w : World} {K : PySem.W.Frag} {mg : Str → Option Value} {base : Heap} {k : Nat} {f : Addr} {fd : FuncData} {x qual : Str} {st : Stmt} {N ps : List Str} {sp : Sp} (F : Fun K x qual st f fd) (S : FnScope N ps (defScope st))
    (room : Room (k + 1) callerA) (len : ∀ vs H Q E, sp vs H Q E → vs.length = ps.length)
    (body : ∀ (cdv : Value) (s : Shared) (H : Hp) (vs : List V) (Q : VK) (E : XK), Room k (callerA.deeper (envOfC qual (defScope st) s.heap.objs.size f cdv)) → (callerA.deeper (envOfC qual (defScope st) s.heap.objs.size f cdv)).guards = some [] → sp vs H Q E →
      ∃ t, PSs (cxOf CX0 P w K mg base N qual (defScope st) f cdv callerA [] s H E).nox (defBody st) t ∧ t { nx := fun _ H' => Q .non H', rt := Q } (start N vs) H) : FnG P w K mg base f fd ps sp := by
  obtain ⟨oc, od, kV, doc, pm, an, cdv, ct, osl, rfl, lk, hcd⟩ := F.ex
  refine ⟨fun s H args us vs Q E env0 bnd rel hsp => ?_⟩
  have inS : K.In s.heap := env0.mod.kin.keeps fun b o e => (env0.bs b o e).1
  have limS : s.heap.NoLimit := env0.mod.nolimit.keeps fun b o e => (env0.bs b o e).1
  have kinds : ∀ y ∈ ps.zip us, (defScope st).names.lookup y.1 = some .local ∨ ((defScope st).names.lookup y.1 = some .cell ∧ ((cellsFrom (s.heap.objs.size + 1) (defScope st).names []).lookup y.1).isSome = true) := by
    rintro ⟨n, v⟩ hy
    cases S.par n (List.of_mem_zip hy).1 with
    | inl q => exact .inl q
    | inr q => exact .inr ⟨q, PySem.W.cellsFrom_some _ _ _ (.inl q)⟩
  refine codeAny_call_function room.depth (inS _ _ lk) rfl S.co S.gen rfl (PySem.W.codeRec_of inS hcd) (bnd _ _ _ _ ?_)
  refine wpAny_newFunctionEnv_cells S.kind kinds fun env0' he s1 inC => ?_
  subst he
  refine ⟨limS.keeps inC.toInCall.keep, codeAny_func ?_⟩
  obtain ⟨t, ht, hq⟩ := body cdv s H vs Q E (room.deeper _) rfl hsp
  have I0 : Inv (cxOf CX0 P w K mg base N qual (defScope st) f cdv callerA [] s H E) [] (start N vs) H s1 := inv_start S room.hd env0 (len _ _ _ _ hsp) rel inC
  refine wpAny_mono (ht.nox.run [] s1 (start N vs) H _ I0 hq) (fun fl s' hs => ?_) fun _ _ z => z
  cases fl with
  | ret u =>
    obtain ⟨v, σ', H', J, rv, q⟩ := hs
    exact ⟨v, H', J.os, J.bare, J.base, J.hok, rv, q⟩
  | next =>
    obtain ⟨σ', H', J, q⟩ := hs
    exact ⟨.non, H', J.os, J.bare, J.base, J.hok, rfl, q⟩
  | brk => exact False.elim (by obtain ⟨_, _, _, q⟩ := hs; exact q)
  | cont => exact False.elim (by obtain ⟨_, _, _, q⟩ := hs; exact q)
/-- its end: from an abstract heap that holds the script or nothing -/
theorem FnG.ends {P : Program} {w : World} {K : PySem.W.Frag} {mg mb : Str → Option Value} {fa a : Addr} {fd : FuncData} {x : Str} {sp : Sp} {s1 : Shared} {vs : List Value} {ns : List Int}
    (inK : K.In s1.heap) (gl : s1.heap.Ns mainGlobals mg) (bl : s1.heap.Ns builtinsNs mb) (bb : ∀ x : Str, x ≠ "__name__" → mb x = bootBuiltins x) (lim : s1.heap.NoLimit) (gens : s1.gens = #[])
    (hscr : s1.heap.get? a = some { cls := .type "list", data := .seq vs.toArray }) (hin : IntsAre vs ns) (F : ∀ base : Heap, K.In base → base.Ns mainGlobals mg → FnG P w K mg base fa fd [x] sp) (bnd : ∀ (s : Shared) (u : Value), BindsTo s fd ⟨[u], []⟩ [(x, u)])
    {H : Hp} (only : Only H) (hsp : sp [.ref a] H (fun v _ => v = .bl true) fun _ _ _ => False) (hok : HOk P w H s1.heap) (hA : ∀ b, H b ≠ none → b = a) (hK : H a ≠ none → K.lookup a = none) :
    codeAny (model P w) callerA (.call (.ref fa) ⟨[.ref a], []⟩) (fun r s' => r = .ok (.ret (.bool true)) ∧ OldK s1.heap s'.heap ∧ s'.os = s1.os ∧ AllBare s'.gens) s1 := by
  have isA : ∀ {b : Addr} {u : HO}, H b = some u → b = a := fun {b u} q => hA b (by rw [q]; exact Option.some_ne_none _)
  have hid : ∀ {b : Addr} {o : Obj}, s1.heap.get? b = some o → H b = none → (hidT s1.heap H).get? b = some o := fun e n => hidT_get e n
  have dictN : ∀ {b : Addr} {o : Obj} {es : Array DictEntry} {ep : Nat}, s1.heap.get? b = some o → o.data = .dict es ep → H b = none := by
    intro b o es ep e d
    cases q : H b with
    | none => rfl
    | some u =>
      obtain rfl := isA q
      rw [hscr] at e
      cases e
      exact nomatch d
  have nsH : ∀ {b : Addr} {m : Str → Option Value}, s1.heap.Ns b m → (hidT s1.heap H).Ns b m := by
    rintro b m ⟨o, es, ep, e, d, r⟩
    exact ⟨o, es, ep, hid e (dictN e d), d, r⟩
  have inB : K.In (hidT s1.heap H) := by
    intro b o e
    refine hid (inK b o e) ?_
    cases q : H b with
    | none => rfl
    | some u =>
      obtain rfl := isA q
      rw [hK (by rw [q]; exact Option.some_ne_none _)] at e
      cases e
  have limB : (hidT s1.heap H).NoLimit := by
    obtain ⟨mc, h1, h2⟩ := lim
    exact ⟨mc, nsH h1, h2⟩
  have env0 : Env0 P w K mg (hidT s1.heap H) callerA [] s1 H :=
    ⟨rfl, ⟨inB, nsH gl, ⟨mb, nsH bl, bb⟩, limB⟩, fun b o e => of_hidT e, Nat.le_of_eq (hidT_size _ _), trivial, fun b hb => (nomatch (show b ∈ ([] : List Addr) from hb)), hok, .of_eq gens⟩
  refine codeAny_mono ((F _ inB (nsH gl)).run s1 H ⟨[.ref a], []⟩ [.ref a] [.ref a] _ _ env0 (bnd s1 (.ref a)) (.cons rfl .nil) hsp) fun r s' h => ?_
  match r, h with
  | .error _, h => exact False.elim h
  | .ok .next, h => exact False.elim h
  | .ok .brk, h => exact False.elim h
  | .ok .cont, h => exact False.elim h
  | .ok (.ret u), h =>
    obtain ⟨v, H', os, bare, un, hok', rel, q⟩ := h
    obtain rfl : v = .bl true := q
    obtain rfl : u = Value.bool true := rel
    refine ⟨rfl, OldK.of_keep fun b o e => ?_, os, bare⟩
    cases q : H b with
    | none => exact un.keep b o e q (fun z => (nomatch (show b ∈ ([] : List Addr) from z))) (by simp)
    | some u =>
      cases only b with
      | inl z => rw [q] at z; cases z
      | inr z =>
        obtain ⟨ob, xs, z⟩ := z
        have kept := (hok' b _ (un.frzs b ob _ z)).1
        have was := (hok b _ z).1
        rw [e] at was
        cases was
        exact kept
theorem walk_g {l : PySem.W.OpenLaw} {n : Nat} {q : Program} {loose : List Str} {XP : (Str → Option Value) → Heap → Prop} {YP : World → Heap → Prop} {d : DefRec} {K : Params → PySem.W.Frag} {sp : World → Sp} {x : Str}
    (hn : l.most = some n) (hn2 : n ≤ sizeLine) (hdf : d.params.defaults = []) (hY : ∀ (w : World) (h : Heap), YP w h → (K w.params).In h)
    (F : ∀ (w : World) (mg : Str → Option Value) (fa : Addr) (h : Heap), (K w.params).In h → h.Ns mainGlobals mg → mg d.name = some (.ref fa) →
      ∃ fd : FuncData, (∀ (s : Shared) (u : Value), BindsTo s fd ⟨[u], []⟩ [(x, u)]) ∧ ∀ base : Heap, (K w.params).In base → base.Ns mainGlobals mg → FnG l.prog w (K w.params) mg base fa fd [x] (sp w))
    (hsp : ∀ (w : World) (H : Hp) (a : Addr) (ns : List Int), ns.length ≤ n → SqL (K w.params) H a (ns.map V.int) → sp w [.ref a] H (fun v _ => v = .bl true) fun _ _ _ => False) :
    PySem.W.WalkO q loose XP YP l.row.toRowW d [] (fun f vs => PySem.call f vs) := by
  refine Att.attach_call hn hdf fun w s0 s1 mg mb fa o pm cd doc a vs ns G Y ho hd hcd hmg hobj hints hlen hg => ?_
  have inK := hY w _ Y
  obtain ⟨fd, bnd, hF⟩ := F w mg fa _ inK G.T.g hmg
  have szs : ns.length ≤ sizeLine := Nat.le_trans hlen hn2
  have vals := vals_ints hints
  cases hk : (K w.params).lookup a with
  | some ob =>
    have e := inK a ob hk
    rw [hobj] at e
    cases e
    have here : SqL (K w.params) (fun _ => none) a (ns.map V.int) := .inr ⟨_, vs.toArray, _, hk, rfl, rfl, rfl, by rw [List.size_toArray, hints.length]; exact szs, by simpa using vals⟩
    exact FnG.ends inK G.T.g G.T.b G.T.builtins G.T.nolimit hg hobj hints hF bnd (fun _ => .inl rfl) (hsp w _ a ns hlen here) (fun _ _ z => (nomatch z)) (fun b z => absurd rfl z) fun z => absurd rfl z
  | none =>
    have here : SqL (K w.params) (fun b => if b = a then some (.frz { cls := .type "list", data := .seq vs.toArray } (.lst (ns.map V.int))) else none) a (ns.map V.int) := .inl (.inr ⟨_, if_pos rfl⟩)
    refine FnG.ends inK G.T.g G.T.b G.T.builtins G.T.nolimit hg hobj hints hF bnd (fun b => ?_) (hsp w _ a ns hlen here) (fun b u z => ?_) (fun b z => ?_) fun _ => hk
    · exact if h : b = a then .inr ⟨_, _, if_pos h⟩ else .inl (if_neg h)
    · by_cases h : b = a
      · rw [if_pos h] at z
        cases z
        subst h
        exact ⟨hobj, by rw [List.length_map]; exact szs, vs, _, vals, hobj⟩
      · rw [if_neg h] at z
        cases z
    · by_cases h : b = a
      · exact h
      · exact absurd (if_neg h) z
/-! ### data that are small: how much they weigh, how deep they are -/
structure Sm (m k : Nat) (d : PyData) : Prop where
  lay : d.canLay0 = true
  sho : d.showable = true
  ish : d.intsShort 13 = true
  wt : d.weight ≤ m
  dep : d.depth ≤ k
theorem Sm.le {m k m' k' : Nat} {d : PyData} (h : Sm m k d) (hm : m ≤ m') (hk : k ≤ k') : Sm m' k' d := ⟨h.lay, h.sho, h.ish, Nat.le_trans h.wt hm, Nat.le_trans h.dep hk⟩
theorem Sm.non : Sm 0 0 .none := ⟨by simp [PyData.canLay0], by simp [PyData.showable], by simp [PyData.intsShort], by simp [PyData.weight], by simp [PyData.depth]⟩
theorem Sm.bl (b : Bool) : Sm 0 0 (.bool b) := ⟨by simp [PyData.canLay0], by simp [PyData.showable], by simp [PyData.intsShort], by simp [PyData.weight], by simp [PyData.depth]⟩
theorem Sm.int {i : Int} (h0 : -1000000000 < i) (h1 : i < 1000000000) : Sm 64 0 (.int i) := by
  have hb : i.natAbs < 2 ^ 64 := by omega
  have hl : i.natAbs.log2 < 64 := by
    by_cases z : i.natAbs = 0
    · rw [z]
      decide
    · exact (Nat.log2_lt z).mpr hb
  refine ⟨by simp [PyData.canLay0], ?_, ?_, ?_, by simp [PyData.depth]⟩
  · simp only [PyData.showable]
    exact decide_eq_true (by omega)
  · simp only [PyData.intsShort, PyData.shown]
    refine decide_eq_true ?_
    by_cases hn : i < 0
    · rw [len_text_neg hn]
      have := toString_length_le (v := 0 - i) (k := 9) (by omega) (by decide) (by omega)
      omega
    · have := toString_length_le (v := i) (k := 9) (by omega) (by decide) (by omega)
      omega
  · simp only [PyData.weight]
    split <;> omega
theorem Sm.str {x : Str} {n : Nat} (h : PyData.strOk x = true) (hn : x.length ≤ n) : Sm n 0 (.str x) :=
  ⟨by simpa only [PyData.canLay0] using h, by simp [PyData.showable], by simp [PyData.intsShort], by simp only [PyData.weight]; exact hn, by simp [PyData.depth]⟩
structure SmA (n m k : Nat) (ds : List PyData) : Prop where
  lay : PyData.canLayAll0 ds = true
  sho : PyData.showableAll ds = true
  ish : PyData.intsShortAll 13 ds = true
  wt : PyData.weightAll ds ≤ ds.length * (m + 1)
  dep : PyData.depthAll ds ≤ k
theorem SmA.of {m k : Nat} : ∀ {ds : List PyData}, (∀ d ∈ ds, Sm m k d) → SmA ds.length m k ds
  | [], _ => ⟨by simp [PyData.canLayAll0], by simp [PyData.showableAll], by simp [PyData.intsShortAll], by simp [PyData.weightAll], by simp [PyData.depthAll]⟩
  | d :: ds, h => by
    have h1 := h d (List.mem_cons_self ..)
    have h2 := SmA.of (ds := ds) fun x hx => h x (List.mem_cons_of_mem _ hx)
    refine ⟨by simp [PyData.canLayAll0, h1.lay, h2.lay], by simp [PyData.showableAll, h1.sho, h2.sho], by simp [PyData.intsShortAll, h1.ish, h2.ish], ?_, ?_⟩
    · have e1 := h1.wt
      have e2 := h2.wt
      simp only [PyData.weightAll, List.length_cons, Nat.succ_mul]
      omega
    · simp only [PyData.depthAll]
      exact Nat.max_le.mpr ⟨h1.dep, h2.dep⟩
theorem Sm.lst {n m k M : Nat} {ds : List PyData} (hn : ds.length ≤ n) (h : ∀ d ∈ ds, Sm m k d) (hM : n * (m + 1) ≤ M) : Sm M (k + 1) (.list ds) := by
  have a := SmA.of h
  have hw : ds.length * (m + 1) ≤ n * (m + 1) := Nat.mul_le_mul_right _ hn
  exact ⟨by simpa only [PyData.canLay0] using a.lay, by simpa only [PyData.showable] using a.sho, by simpa only [PyData.intsShort] using a.ish, by simp only [PyData.weight]; exact Nat.le_trans a.wt (Nat.le_trans hw hM), by simp only [PyData.depth]; exact Nat.succ_le_succ a.dep⟩
theorem Sm.tup {n m k M : Nat} {ds : List PyData} (hn : ds.length ≤ n) (h : ∀ d ∈ ds, Sm m k d) (hM : n * (m + 1) ≤ M) : Sm M (k + 1) (.tuple ds) := by
  have a := SmA.of h
  have hw : ds.length * (m + 1) ≤ n * (m + 1) := Nat.mul_le_mul_right _ hn
  exact ⟨by simpa only [PyData.canLay0] using a.lay, by simpa only [PyData.showable] using a.sho, by simpa only [PyData.intsShort] using a.ish, by simp only [PyData.weight]; exact Nat.le_trans a.wt (Nat.le_trans hw hM), by simp only [PyData.depth]; exact Nat.succ_le_succ a.dep⟩
theorem Sm.shaped {m k : Nat} {d : PyData} (h : Sm m k d) (hk : k ≤ 50) : SeqAt.shaped d = true := by
  show (d.canLay0 && decide (d.depth ≤ 64)) = true
  rw [h.lay, decide_eq_true (show d.depth ≤ 64 from Nat.le_trans h.dep (by omega))]
  rfl
theorem Sm.short {m k : Nat} {d : PyData} (h : Sm m k d) (hm : m ≤ 1000000) (hk : k ≤ 50) : d.shown.length ≤ sizeLine := by
  have e : PyData.layable0 d = true := by
    show (d.canLay0 && decide (d.depth ≤ 64) && decide (d.weight ≤ 2 ^ 20)) = true
    rw [h.lay, decide_eq_true (show d.depth ≤ 64 from Nat.le_trans h.dep (by omega)), decide_eq_true (show d.weight ≤ 2 ^ 20 from Nat.le_trans h.wt (by omega))]
    rfl
  have := shown_le13 e h.ish
  rw [sizeLine_eq]
  omega
/-! ### repr of data at any depth -/
def rShow (K : PySem.W.Frag) : List V → Hp → VK → Prop := fun xs H Q => ∃ v d m k, xs = [v] ∧ Dp K H v d ∧ Sm m k d ∧ m ≤ 1000000 ∧ k ≤ 50 ∧ Q (.str d.shown) H
theorem call_show (K : PySem.W.Frag) {X : Cx} (hg : X.A.guards = some []) (hu : X.A.units + 64 < cLine) (hK : X.K = K := by rfl) : CallR X (.builtin "repr") (rShow K) := by
  subst hK
  intro pins s σ H xs us Q I r h
  obtain ⟨v, d, m, k, rfl, hd, sh, hm, hk, q⟩ := h
  have hdep := sh.dep
  have hz := sh.short hm hk
  cases hd with
  | non =>
    obtain ⟨u, rfl, rfl⟩ := vals1 r
    exact PySem.P.repr_of_none ⟨.str _, H, I.tok _, ⟨_, rfl⟩, by simpa only [PyData.shown] using q⟩
  | bl b =>
    obtain ⟨u, rfl, rfl⟩ := vals1 r
    refine PySem.P.repr_of_bool ⟨.str _, H, I.tok _, ⟨_, rfl⟩, ?_⟩
    simp only [PyData.shown] at q
    cases b <;> exact q
  | int i =>
    obtain ⟨u, rfl, t, rfl⟩ := vals1 r
    have hi : i.natAbs.log2 < 1920 := by simpa [PyData.showable] using sh.sho
    exact PySem.P.repr_of_int hi ⟨.str _, H, I.tok _, ⟨_, rfl⟩, by simpa only [PyData.shown] using q⟩
  | str x =>
    obtain ⟨u, rfl, t, rfl⟩ := vals1 r
    simp only [PyData.shown] at q hz
    exact PySem.P.repr_of_str ⟨.str _, H, I.tok _, ⟨_, rfl⟩, q⟩ hz
  | @lst a ys ds hs hds =>
    obtain ⟨u, rfl, rfl⟩ := vals1 r
    obtain ⟨as, rd⟩ := Dp.reads I _ _ _ (Dp.lst hs hds) (show RelV (.ref a) (.ref a) from rfl)
    exact PySem.repr_of_reads' rd sh.sho (PyData.noDict_hsm (PyData.hasDict_of_canLay _ sh.lay)) hg (by omega) (fun _ _ e => e) (fun h' u tk keep => ⟨.str _, H, I.kept keep, ⟨_, rfl⟩, q⟩) hz
  | @tup a ys ds hs hds =>
    obtain ⟨u, rfl, rfl⟩ := vals1 r
    obtain ⟨as, rd⟩ := Dp.reads I _ _ _ (Dp.tup hs hds) (show RelV (.ref a) (.ref a) from rfl)
    exact PySem.repr_of_reads' rd sh.sho (PyData.noDict_hsm (PyData.hasDict_of_canLay _ sh.lay)) hg (by omega) (fun _ _ e => e) (fun h' u tk keep => ⟨.str _, H, I.kept keep, ⟨_, rfl⟩, q⟩) hz
/-! ### sorted of data -/
def rSortD (K : PySem.W.Frag) : List V → Hp → VK → Prop := fun vs H Q => ∃ (β : Type) (v : β → V) (d : β → PyData) (a : Addr) (bs : List β), vs = [.ref a] ∧ SqL K H a (bs.map v) ∧ (∀ b ∈ bs, Dp K H (v b) (d b) ∧ (d b).depth ≤ 50) ∧
  PySem.W.AllAlike (bs.map d) ∧ PySem.W.Sortable (bs.map d) ∧ ∀ p, H p = none → Q (.ref p) (upd H p (.lst ((bs.mergeSort (PySem.W.dataLe false d)).map v)))
section
variable {β : Type} {v : β → V} {d : β → PyData}
theorem each_vals : ∀ {bs : List β} {its : List Value}, Vals (bs.map v) its → PySem.W.EachIs (fun (u : Value) (b : β) => RelV (v b) u) its bs
  | [], _, .nil => .nil
  | _ :: _, _, .cons r t => .cons r (each_vals t)
theorem vals_each : ∀ {bs : List β} {its : List Value}, PySem.W.EachIs (fun (u : Value) (b : β) => RelV (v b) u) its bs → Vals (bs.map v) its
  | [], _, .nil => .nil
  | _ :: _, _, .cons r t => .cons r (vals_each t)
theorem each_reads {X : Cx} {pins : List (Addr × Obj)} {σ : L2.St} {H : Hp} {s : Shared} (I : Inv X pins σ H s) : ∀ {bs : List β} {its : List Value}, Vals (bs.map v) its → (∀ b ∈ bs, Dp X.K H (v b) (d b)) → PySem.W.EachIs (fun (u : Value) (b : β) => ∃ as, Reads s.heap u (d b) as) its bs
  | [], _, .nil, _ => .nil
  | b :: _, _, .cons r t, h => .cons (Dp.reads I _ _ _ (h b (List.mem_cons_self ..)) r) (each_reads I t fun x hx => h x (List.mem_cons_of_mem _ hx))
end
theorem cr_sortD (K : PySem.W.Frag) {X : Cx} (hu : X.A.units + 64 < cLine) (hK : X.K = K := by rfl) : CallR X (.builtin "sorted") (rSortD K) := by
  subst hK
  intro pins s σ H vs us Q I r h
  obtain ⟨β, v, d, a, bs, rfl, hs, hd, al, so, q⟩ := h
  obtain ⟨u, rfl, rfl⟩ := vals1 r
  obtain ⟨its, rv, hl, hz⟩ := I.list hs
  rw [List.length_map] at hz
  refine PySem.W.sorted_data (enc := d) (R := fun (u : Value) (b : β) => RelV (v b) u) hl.isList (each_vals rv) (each_reads I rv fun b hb => (hd b hb).1) al so hz (fun b hb => ?_) fun out hlen he => ?_
  · have := (hd b hb).2
    omega
  · obtain ⟨ep, he'⟩ := PyProof.Rows.sortedAll_at s.heap its out.toArray
    have hlen2 : ((bs.mergeSort (PySem.W.dataLe false d)).map v).length ≤ sizeLine := by
      rw [List.length_map, List.length_mergeSort]
      exact hz
    exact ⟨.ref _, upd H (s.heap.objs.size + 1) (.lst ((bs.mergeSort (PySem.W.dataLe false d)).map v)), I.laid (t' := s.toks) (fun _ _ => PyProof.Rows.sortedAll_old) (Nat.le_succ _) ⟨hlen2, out, ep, vals_each he, by simpa using he'⟩, rfl, q _ (I.hok.fresh (Nat.le_succ _))⟩
end Pf


namespace Pf
open PySem PySem.Spec PyProof.Rows L2
/-! ### tuples stay -/
structure TupK (H H' : Hp) : Prop where
  tup : ∀ b xs, H b = some (.tup xs) → H' b = some (.tup xs)
  frz : ∀ b o u, H b = some (.frz o u) → H' b = some (.frz o u)
instance {H H' : Hp} : CoeFun (TupK H H') (fun _ => ∀ b xs, H b = some (.tup xs) → H' b = some (.tup xs)) := ⟨TupK.tup⟩
theorem TupK.refl {H : Hp} : TupK H H := ⟨fun _ _ e => e, fun _ _ _ e => e⟩
theorem TupK.trans {H H1 H2 : Hp} (a : TupK H H1) (b : TupK H1 H2) : TupK H H2 := ⟨fun c xs e => b.tup c xs (a.tup c xs e), fun c o u e => b.frz c o u (a.frz c o u e)⟩
theorem TupK.ext {H H' : Hp} (k : Ext H H') : TupK H H' := ⟨fun b _ e => k b _ e, fun b _ _ e => k b _ e⟩
theorem TupK.new {q : Addr} {H : Hp} {o : HO} (h : H q = none) : TupK H (upd H q o) := TupK.ext (Ext.new h)
theorem TupK.lst {q : Addr} {H : Hp} {o : HO} {ys : List V} (h : H q = some (.lst ys)) : TupK H (upd H q o) := by
  refine ⟨fun b xs e => ?_, fun b o u e => ?_⟩
  · rw [upd_ne (ne_of e h (by intro z; cases z))]
    exact e
  · rw [upd_ne (ne_of e h (by intro z; cases z))]
    exact e
theorem paired_imp {α β : Type} {R S : α → β → Prop} (h : ∀ a b, R a b → S a b) : ∀ {xs : List α} {ys : List β}, Paired R xs ys → Paired S xs ys
  | _, _, .nil => .nil
  | _, _, .cons r t => .cons (h _ _ r) (paired_imp h t)
theorem paired_get {α β : Type} {R : α → β → Prop} : ∀ {xs : List α} {ys : List β} {i : Nat} {x : α}, Paired R xs ys → xs[i]? = some x → ∃ y, ys[i]? = some y ∧ R x y
  | _, _, _, _, .nil, e => by simp at e
  | _, _, 0, _, .cons r _, e => by
    simp at e
    subst e
    exact ⟨_, rfl, r⟩
  | _, _, i + 1, x, .cons _ t, e => by
    obtain ⟨y, h1, h2⟩ := paired_get (i := i) (x := x) t (by simpa using e)
    exact ⟨y, by simpa using h1, h2⟩
theorem paired_len {α β : Type} {R : α → β → Prop} : ∀ {xs : List α} {ys : List β}, Paired R xs ys → xs.length = ys.length
  | _, _, .nil => rfl
  | _, _, .cons _ t => by rw [List.length_cons, List.length_cons, paired_len t]
theorem paired_app {α β : Type} {R : α → β → Prop} : ∀ {xs xs' : List α} {ys ys' : List β}, Paired R xs ys → Paired R xs' ys' → Paired R (xs ++ xs') (ys ++ ys')
  | _, _, _, _, .nil, s => s
  | _, _, _, _, .cons r t, s => .cons r (paired_app t s)
/-! ### things as they lie in the heap -/
def PairAt (H : Hp) (v : V) (x : Str × Int) : Prop := ∃ a, v = .ref a ∧ H a = some (.tup [.str x.1, .int x.2])
def StackAt (H : Hp) (v : V) (x : Str × Str × Int) : Prop := ∃ a, v = .ref a ∧ H a = some (.tup [.str x.1, .str x.2.1, .int x.2.2])
def TwoAt (H : Hp) (v : V) (x : Int × Int) : Prop := ∃ a, v = .ref a ∧ H a = some (.tup [.int x.1, .int x.2])
def TupOf {α : Type} (R : Hp → V → α → Prop) (H : Hp) (v : V) (xs : List α) : Prop := ∃ a vs, v = .ref a ∧ H a = some (.tup vs) ∧ Paired (R H) vs xs
def Mono {α : Type} (R : Hp → V → α → Prop) : Prop := ∀ H H' v x, TupK H H' → R H v x → R H' v x
theorem PairAt.mono : Mono PairAt := fun H H' v x k ⟨a, e, h⟩ => ⟨a, e, k _ _ h⟩
theorem StackAt.mono : Mono StackAt := fun H H' v x k ⟨a, e, h⟩ => ⟨a, e, k _ _ h⟩
theorem TwoAt.mono : Mono TwoAt := fun H H' v x k ⟨a, e, h⟩ => ⟨a, e, k _ _ h⟩
theorem TupOf.mono {α : Type} {R : Hp → V → α → Prop} (m : Mono R) : Mono (TupOf R) := fun H H' v x k ⟨a, vs, e, h, r⟩ => ⟨a, vs, e, k _ _ h, paired_imp (fun _ _ => m _ _ _ _ k) r⟩
/-- a tuple whose object is known to have no dict -/
def FrzOf {α : Type} (R : Hp → V → α → Prop) (H : Hp) (v : V) (xs : List α) : Prop := ∃ (a : Addr) (o : Obj) (vs : List V), v = .ref a ∧ H a = some (.frz o (.tup vs)) ∧ o.dict = none ∧ Paired (R H) vs xs
theorem FrzOf.mono {α : Type} {R : Hp → V → α → Prop} (m : Mono R) : Mono (FrzOf R) := fun H H' v x k ⟨a, o, vs, e, h, hd, r⟩ => ⟨a, o, vs, e, k.frz _ _ _ h, hd, paired_imp (fun _ _ => m _ _ _ _ k) r⟩
theorem SqT.fz {K : PySem.W.Frag} {H : Hp} {a : Addr} {o : Obj} {xs : List V} (h : H a = some (.frz o (.tup xs))) : SqT K H a xs := .inl (.inr ⟨o, h⟩)
def IntAt (_ : Hp) (v : V) (x : Int) : Prop := v = .int x
theorem IntAt.mono : Mono IntAt := fun _ _ _ _ _ e => e
theorem paired_ints {H : Hp} : ∀ ns : List Int, Paired (IntAt H) (ns.map V.int) ns
  | [] => .nil
  | _ :: r => .cons rfl (paired_ints r)
structure Rl where
  letters : Str
  prs : List (Str × Int)
  span : Int
  loops : List Int
  stk : List (Str × Str × Int)
def RulesAt (H : Hp) (v : V) (r : Rl) : Prop := ∃ a vp vl vs, v = .ref a ∧ H a = some (.tup [.str r.letters, vp, .int r.span, vl, vs]) ∧ FrzOf PairAt H vp r.prs ∧ TupOf IntAt H vl r.loops ∧ TupOf StackAt H vs r.stk
theorem RulesAt.mono : Mono RulesAt := fun H H' v x k ⟨a, vp, vl, vs, e, h, h1, h2, h3⟩ => ⟨a, vp, vl, vs, e, k _ _ h, FrzOf.mono PairAt.mono _ _ _ _ k h1, TupOf.mono IntAt.mono _ _ _ _ k h2, TupOf.mono StackAt.mono _ _ _ _ k h3⟩
/-- pairs as a tuple of either make -/
def PrsW (H : Hp) (v : V) (xs : List (Str × Int)) : Prop := ∃ (a : Addr) (vs : List V), v = .ref a ∧ ((∃ o, H a = some (.frz o (.tup vs))) ∨ H a = some (.tup vs)) ∧ Paired (PairAt H) vs xs
theorem PrsW.mono : Mono PrsW := fun H H' v x k ⟨a, vs, e, h, r⟩ => ⟨a, vs, e, h.elim (fun ⟨o, h⟩ => .inl ⟨o, k.frz _ _ _ h⟩) (fun h => .inr (k _ _ h)), paired_imp (fun _ _ => PairAt.mono _ _ _ _ k) r⟩
theorem SqT.w {K : PySem.W.Frag} {H : Hp} {a : Addr} {xs : List V} (h : (∃ o, H a = some (.frz o (.tup xs))) ∨ H a = some (.tup xs)) : SqT K H a xs := h.elim (fun ⟨_, h⟩ => SqT.fz h) (fun h => SqT.of h)
def RulesW (H : Hp) (v : V) (r : Rl) : Prop := ∃ a vp vl vs, v = .ref a ∧ H a = some (.tup [.str r.letters, vp, .int r.span, vl, vs]) ∧ PrsW H vp r.prs ∧ TupOf IntAt H vl r.loops ∧ TupOf StackAt H vs r.stk
theorem RulesW.mono : Mono RulesW := fun H H' v x k ⟨a, vp, vl, vs, e, h, h1, h2, h3⟩ => ⟨a, vp, vl, vs, e, k _ _ h, PrsW.mono _ _ _ _ k h1, TupOf.mono IntAt.mono _ _ _ _ k h2, TupOf.mono StackAt.mono _ _ _ _ k h3⟩
theorem RulesAt.w {H : Hp} {v : V} {r : Rl} (h : RulesAt H v r) : RulesW H v r := by
  obtain ⟨a, vp, vl, vs, e, h, ⟨ap, o, us, e1, h1, _, p⟩, h2, h3⟩ := h
  exact ⟨a, vp, vl, vs, e, h, ⟨ap, us, e1, .inl ⟨o, h1⟩, p⟩, h2, h3⟩
def Two (t : Str) : Prop := t.length = 2 ∧ Small t
structure RlOk (r : Rl) : Prop where
  let6 : r.letters.length ≤ 6
  let1 : 1 ≤ r.letters.length
  small : Small r.letters
  prs : r.prs.length ≤ 12
  pr : ∀ x ∈ r.prs, Two x.1 ∧ -99 ≤ x.2 ∧ x.2 ≤ 99
  sp0 : 0 ≤ r.span
  sp3 : r.span ≤ 3
  lo9 : r.loops.length = 9
  lo : ∀ x ∈ r.loops, -99 ≤ x ∧ x ≤ 99
  stk : r.stk.length ≤ 12
  st : ∀ x ∈ r.stk, Two x.1 ∧ Two x.2.1 ∧ -99 ≤ x.2.2 ∧ x.2.2 ≤ 99
  nd : (r.stk.map fun x => (x.1, x.2.1)).Nodup
  pn : (r.prs.map (·.1)).Nodup
/-! ### a dict by two texts -/
def encE (x : Str × Str × Int) : List Key × V := ([.inr x.1, .inr x.2.1], .int x.2.2)
def putE (es : List (Str × Str × Int)) (a b : Str) (i : Int) : List (Str × Str × Int) :=
  if (es.any fun x => decide (x.1 = a ∧ x.2.1 = b)) = true then es.map (fun x => if x.1 = a ∧ x.2.1 = b then (x.1, x.2.1, i) else x) else es ++ [(a, b, i)]
theorem encE_key (x : Str × Str × Int) (a b : Str) : ((encE x).1 = [Sum.inr a, Sum.inr b]) ↔ (x.1 = a ∧ x.2.1 = b) := by
  unfold encE
  constructor
  · intro h
    injection h with h1 h2
    injection h2 with h3 _
    exact ⟨Sum.inr.inj h1, Sum.inr.inj h3⟩
  · rintro ⟨h1, h2⟩
    rw [h1, h2]
theorem put_enc (es : List (Str × Str × Int)) (a b : Str) (i : Int) : putK (es.map encE) [Sum.inr a, Sum.inr b] (.int i) = (putE es a b i).map encE := by
  have hany : ((es.map encE).any fun kv => decide (kv.1 = [Sum.inr a, Sum.inr b])) = es.any fun x => decide (x.1 = a ∧ x.2.1 = b) := by
    rw [List.any_map]
    congr 1
    funext x
    exact decide_eq_decide.mpr (encE_key x a b)
  unfold putK putE
  rw [hany]
  by_cases h : (es.any fun x => decide (x.1 = a ∧ x.2.1 = b)) = true
  · rw [if_pos h, if_pos h, List.map_map, List.map_map]
    refine List.map_congr_left fun x _ => ?_
    show (if (encE x).1 = [Sum.inr a, Sum.inr b] then ((encE x).1, V.int i) else encE x) = encE (if x.1 = a ∧ x.2.1 = b then (x.1, x.2.1, i) else x)
    by_cases e : x.1 = a ∧ x.2.1 = b
    · rw [if_pos ((encE_key x a b).mpr e), if_pos e]
      rfl
    · rw [if_neg (fun z => e ((encE_key x a b).mp z)), if_neg e]
  · rw [if_neg h, if_neg h, List.map_append]
    rfl
theorem putE_keys (es : List (Str × Str × Int)) (a b : Str) (i : Int) (hn : (es.map fun x => (x.1, x.2.1)).Nodup) : ((putE es a b i).map fun x => (x.1, x.2.1)).Nodup := by
  unfold putE
  split
  · rw [List.map_map]
    have e : ((fun x : Str × Str × Int => (x.1, x.2.1)) ∘ fun x => if x.1 = a ∧ x.2.1 = b then (x.1, x.2.1, i) else x) = fun x => (x.1, x.2.1) := by
      funext x
      show (fun x : Str × Str × Int => (x.1, x.2.1)) (if x.1 = a ∧ x.2.1 = b then (x.1, x.2.1, i) else x) = _
      split <;> rfl
    rw [e]
    exact hn
  · rename_i h
    rw [List.map_append]
    refine List.nodup_append.mpr ⟨hn, by simp, fun x hx y hy e => ?_⟩
    obtain ⟨z, hz, rfl⟩ := List.mem_map.mp hx
    have hy' : y = (a, b) := by simpa using hy
    rw [hy'] at e
    injection e with e1 e2
    exact h (List.any_eq_true.mpr ⟨z, hz, decide_eq_true ⟨e1, e2⟩⟩)
theorem putE_len (es : List (Str × Str × Int)) (a b : Str) (i : Int) : (putE es a b i).length ≤ es.length + 1 := by
  unfold putE
  split
  · rw [List.length_map]
    omega
  · rw [List.length_append]
    exact Nat.le_refl _
theorem putE_all {Pd : Str × Str × Int → Prop} {es : List (Str × Str × Int)} {a b : Str} {i : Int} (h : ∀ x ∈ es, Pd x) (hn : Pd (a, b, i)) : ∀ x ∈ putE es a b i, Pd x := by
  intro x hx
  unfold putE at hx
  split at hx
  · obtain ⟨y, hy, rfl⟩ := List.mem_map.mp hx
    split
    · rename_i e
      rw [e.1, e.2]
      exact hn
    · exact h y hy
  · rcases List.mem_append.mp hx with hx | hx
    · exact h x hx
    · rw [List.mem_singleton.mp hx]
      exact hn
theorem val_enc {es : List (Str × Str × Int)} {a b : Str} {i : Int} (hn : (es.map fun x => (x.1, x.2.1)).Nodup) (h : (a, b, i) ∈ es) : valV (es.map encE) [Sum.inr a, Sum.inr b] = some (.int i) := by
  induction es with
  | nil => cases h
  | cons y r ih =>
    rw [List.map_cons]
    rw [List.map_cons, List.nodup_cons] at hn
    by_cases e : y.1 = a ∧ y.2.1 = b
    · rw [valV_pos ((encE_key y a b).mpr e)]
      rcases List.mem_cons.mp h with z | z
      · rw [← z]
        rfl
      · exact absurd (List.mem_map.mpr ⟨_, z, by rw [e.1, e.2]⟩) hn.1
    · rw [valV_neg (fun z => e ((encE_key y a b).mp z))]
      rcases List.mem_cons.mp h with z | z
      · rw [← z] at e
        exact absurd ⟨rfl, rfl⟩ e
      · exact ih hn.2 z
theorem map_erase {α β : Type} (f : α → β) : ∀ (xs : List α) (k : Nat), (xs.map f).eraseIdx k = (xs.eraseIdx k).map f
  | [], _ => rfl
  | _ :: _, 0 => rfl
  | x :: r, k + 1 => by
    show f x :: (r.map f).eraseIdx k = f x :: (r.eraseIdx k).map f
    rw [map_erase f r k]
theorem dpStrs {K : PySem.W.Frag} {H : Hp} : ∀ us : List Str, DpAll K H (us.map V.str) (us.map PyData.str)
  | [] => .nil
  | _ :: r => .cons (.str _) (dpStrs r)
theorem sm_strs {us : List Str} {n m : Nat} (hn : us.length ≤ n) (h : ∀ t ∈ us, Small t ∧ t.length ≤ m) (hM : n * (m + 1) ≤ 1000000) : Sm 1000000 1 (.list (us.map PyData.str)) := by
  refine Sm.lst (n := n) (m := m) (k := 0) (by rw [List.length_map]; exact hn) (fun d hd => ?_) hM
  obtain ⟨t, ht, rfl⟩ := List.mem_map.mp hd
  exact Sm.str (h t ht).1.ok (h t ht).2
theorem keys_zip {H : Hp} : ∀ {es : List (Str × Str × Int)} {bs : List Addr}, IsKeys H (es.map encE) bs → ∃ bes : List (Addr × (Str × Str × Int)), bes.map (·.1) = bs ∧ bes.map (·.2) = es ∧ ∀ x ∈ bes, H x.1 = some (.tup [.str x.2.1, .str x.2.2.1])
  | [], _, .nil => ⟨[], rfl, rfl, fun x h => by cases h⟩
  | e :: es, b :: bs, .cons r t => by
    obtain ⟨bes, h1, h2, h3⟩ := keys_zip (es := es) t
    refine ⟨(b, e) :: bes, by rw [List.map_cons, h1], by rw [List.map_cons, h2], fun x hx => ?_⟩
    rcases List.mem_cons.mp hx with rfl | hx
    · exact r
    · exact h3 x hx
theorem ixN_in {n : Nat} {i : Int} (h0 : 0 ≤ i) (h1 : i < n) : seqIndex? i n = some i.toNat := by
  refine (ixN_seq ?_).1
  unfold ixN
  rw [if_pos h0, if_pos h1]
end Pf


namespace Pf
open PySem PySem.Spec PyProof.Rows L2
/-! ### enumerate of a text -/
def ItES (x : Str) : It :=
  ⟨fun i _ => i < x.cps.size, fun i H v H' => ∃ T c, v = .ref T ∧ H T = none ∧ H' = upd H T (.tup [.int (i : Nat), .str ⟨#[c]⟩]) ∧ x.cps[i]? = some c, fun i _ => i = x.cps.size⟩
theorem turn_es {P : Program} {w : World} {K : PySem.W.Frag} {elts : List Expr} {kk : Nat} {tpos : Pos} (x : Str) (t : Tok) (e it : Addr) :
    Turn P w K (.Tuple elts kk tpos) (ItES x) [e, it] e (fun i h => (∃ old, IsEnum h e it ((i : Nat) : Int) old) ∧ h.IsStrIter it (strIterType x) x t i ∧ e ≠ it) where
  mem := by simp
  obj := fun i h st b hb => by
    obtain ⟨⟨old, he⟩, ⟨o, ho, hc, hd⟩, _⟩ := st
    have e' : b = e ∨ b = it := by simpa using hb
    cases e' with
    | inl z =>
      rw [z]
      exact ⟨_, he, fun v q => nomatch q⟩
    | inr z =>
      rw [z]
      exact ⟨o, ho, fun v q => by rw [hd] at q; cases q⟩
  keep := fun i h h' st k => by
    obtain ⟨⟨old, he⟩, ⟨o, ho, r⟩, hne⟩ := st
    exact ⟨⟨old, k e (by simp) _ he⟩, ⟨o, k it (by simp) o ho, r⟩, hne⟩
  item := by
    intro X hP hw hK hc i pins s σ H E I hf st hg
    subst hP hw hK
    obtain ⟨⟨old, he⟩, hit, hne⟩ := st
    have hel : e < s.heap.objs.size := Heap.lt_size he
    have hil : it < s.heap.objs.size := by
      obtain ⟨_, q, _⟩ := hit
      exact Heap.lt_size q
    have D := Draws.text (prog := X.prog) (w := X.w) (A := X.A.in1) (show X.A.in1.handled = none from I.ok.hd hc) it x t
    refine wpAny_pyNext_enum_itemD D he hit hg hne (by simpa using hne) fun u h' tk hu ho hit' hT hsz hk => ?_
    obtain ⟨c, t2, hcx, rfl⟩ := hu
    refine ⟨_, rfl, wpAny_letOwnedTupleGo_enum (s := { s with heap := h', toks := tk + 1 }) ho fun h'' he' sb => ?_⟩
    have hT2 := (sb.2 _ (Nat.ne_of_gt hel)).trans hT
    have new : ObjOk X.prog X.w (upd H s.heap.objs.size (.tup [.int (i : Nat), .str ⟨#[c]⟩])) h'' s.heap.objs.size (.tup [.int (i : Nat), .str ⟨#[c]⟩]) :=
      ⟨by show 2 ≤ sizeLine; decide, [.int i tk, .str ⟨#[c]⟩ t2], .cons ⟨_, rfl⟩ (.cons ⟨_, rfl⟩ .nil), ⟨_, hT2, rfl, _, rfl⟩⟩
    have I1 : Inv X pins σ (upd H s.heap.objs.size (.tup [.int (i : Nat), .str ⟨#[c]⟩])) { s with heap := h'', toks := tk + 1 } :=
      I.turnedNew (ch := [e, it]) (fun b ob hb q => (sb.2 b (fun z => hb (by simp [z]))).trans (hk b ob (fun z => hb (by simp [z])) (fun z => hb (by simp [z])) q)) hf (Nat.le_refl _) new
    obtain ⟨oi, hoi, ri⟩ := hit'
    refine ⟨.ref s.heap.objs.size, _, I1, rfl, ⟨_, c, rfl, I.hok.fresh (Nat.le_refl _), rfl, hcx⟩, ⟨⟨.str ⟨#[c]⟩ t2, ?_⟩, ⟨oi, (sb.2 it (Ne.symm hne)).trans hoi, ri⟩, hne⟩, fun b hb => ?_⟩
    · have e1 : ((i + 1 : Nat) : Int) = (i : Int) + 1 := by omega
      rw [e1]
      exact he'
    · have hb' : b < s.heap.objs.size := by
        have e' : b = e ∨ b = it := by simpa using hb
        cases e' with
        | inl z => rw [z]; exact hel
        | inr z => rw [z]; exact hil
      rw [upd_ne (Nat.ne_of_lt hb')]
      exact (hf b hb).1
  done := by
    intro X hP hw hK hc i pins s σ H E I hf st hg
    subst hP hw hK
    obtain ⟨⟨old, he⟩, hit, hne⟩ := st
    have hi : i = x.cps.size := hg
    subst hi
    obtain ⟨f0, f1, f2, f3, f4, f5⟩ := hf it (by simp)
    have D := Draws.text (prog := X.prog) (w := X.w) (A := X.A.in1) (show X.A.in1.handled = none from I.ok.hd hc) it x t
    exact wpAny_pyNext_enum_endD D he hit fun h' eb => ⟨rfl, I.turned (t' := s.toks) (fun b o hb q => eb b o hb q) f0 f1 f3 f4 f5⟩
  self := fun A i s Q E st h => by
    obtain ⟨⟨_, he⟩, _⟩ := st
    exact wpAny_pyIter_enum he h
def iEnumS (ta : TA) : TI := fun σ H R => ta σ H fun vs H1 => ∃ x, vs = [.str x] ∧ R (ItES x) H1
theorem pi_enumS {X : Cx} {e : Expr} {ta : TA} {p pos tpos : Pos} {elts : List Expr} {kk : Nat} (hg : Gl X "enumerate") (hm : X.mg "enumerate" = none) (ha : PA X [e] ta) (hs : starEach [e] X.env = [(false, eval e X.env)] := by rfl) :
    PI X (.Tuple elts kk tpos) (.Call (.Name "enumerate" p) [e] [] pos) (iEnumS ta) := by
  refine ⟨fun pins s σ H R I h => ?_⟩
  refine Call_ (ld_blt I hg hm boot_enumerate (PyProof.Rows.callWith_type1 (thn (ha.run pos pins s σ H _ I h) fun us s1 ⟨vs, H1, I1, r1, q1⟩ => ?_) hs rfl))
  obtain ⟨x, rfl, q⟩ := q1
  obtain ⟨u, rfl, t, rfl⟩ := vals1 r1
  refine call_enumerate_str fun h' he hit hsz hk => wpAny_pyIter_enum he ?_
  refine ⟨s1.heap.objs.size + 1, [s1.heap.objs.size + 1, s1.heap.objs.size], _, _, H1, rfl, I1.kept (t' := s1.toks) hk, turn_es x t (s1.heap.objs.size + 1) s1.heap.objs.size, ⟨⟨.none, he⟩, hit, Nat.succ_ne_self _⟩, fun b hb => ?_, q⟩
  have e' : b = s1.heap.objs.size + 1 ∨ b = s1.heap.objs.size := by simpa using hb
  have hle : s1.heap.objs.size ≤ b := by
    cases e' with
    | inl z => rw [z]; exact Nat.le_add_right _ _
    | inr z => rw [z]; exact Nat.le_refl _
  exact I1.fpOk hle (I1.hok.fresh hle)
theorem for_es {x : Str} {g : TG} {tb : TS} {D : Ends} {σ : L2.St} {H : Hp} (Pv : Nat → L2.St → Hp → Prop) (h0 : Pv 0 σ H)
    (hs : ∀ i c T σ H, x.cps[i]? = some c → Pv i σ H → H T = none → g (.ref T) σ (upd H T (.tup [.int (i : Nat), .str ⟨#[c]⟩])) fun σ2 H2 => tb { D with nx := Pv (i + 1), ct := Pv (i + 1), bk := D.nx } σ2 H2) (hd : ∀ σ H, Pv x.cps.size σ H → D.nx σ H) :
    ∃ W : Nat → Nat → L2.St → Hp → Prop, (∃ m, W 0 m σ H) ∧ ∀ i m σ H, W i m σ H →
      ((ItES x).stop i H ∧ D.nx σ H) ∨ ((ItES x).go i H ∧ ∃ N : L2.St → Hp → Prop, (∀ σ' H', N σ' H' → ∃ m', m' < m ∧ W (i + 1) m' σ' H') ∧ ∀ y H', (ItES x).yld i H y H' → g y σ H' fun σ2 H2 => tb { D with nx := N, ct := N, bk := D.nx } σ2 H2) := by
  refine ⟨fun i m σ H => m = x.cps.size - i ∧ i ≤ x.cps.size ∧ Pv i σ H, ⟨x.cps.size, by simp, Nat.zero_le _, h0⟩, ?_⟩
  rintro i m σ H ⟨rfl, hi, p⟩
  by_cases hlt : i < x.cps.size
  · refine .inr ⟨hlt, Pv (i + 1), fun σ' H' p' => ⟨x.cps.size - (i + 1), by omega, rfl, hlt, p'⟩, fun y H' z => ?_⟩
    obtain ⟨T, c, rfl, hT, rfl, hc⟩ := z
    exact hs i c T σ _ hc p hT
  · have e : i = x.cps.size := by omega
    subst e
    exact .inl ⟨rfl, hd σ H p⟩
theorem lc_es {x : Str} {g : TG} {tt : TT} {te : TE} {vs : List Nat} {σ : L2.St} {H1 : Hp} {D : Addr} {Qd : Hp → Prop} (Pv : Nat → Hp → Prop) (h0 : Pv 0 (upd H1 D (.lst [])))
    (hs : ∀ i c T H, x.cps[i]? = some c → Pv i H → H T = none → g (.ref T) (wipe σ vs) (upd H T (.tup [.int (i : Nat), .str ⟨#[c]⟩])) fun σ2 H2 => wipe σ2 vs = wipe σ vs ∧ tt σ2 H2 fun b H3 =>
      if b = true then te σ2 H3 fun y H4 => ∃ acc, H4 D = some (.lst acc) ∧ acc.length < sizeLine ∧ Pv (i + 1) (upd H4 D (.lst (acc ++ [y]))) else Pv (i + 1) H3) (hd : ∀ H, Pv x.cps.size H → Qd H) :
    ∃ W : Nat → Nat → Hp → Prop, (∃ m, W 0 m (upd H1 D (.lst []))) ∧ ∀ i m H, W i m H →
      ((ItES x).stop i H ∧ Qd H) ∨ ((ItES x).go i H ∧ ∃ Nx : Hp → Prop, (∀ H', Nx H' → ∃ m', m' < m ∧ W (i + 1) m' H') ∧ ∀ y H', (ItES x).yld i H y H' → g y (wipe σ vs) H' fun σ2 H2 => wipe σ2 vs = wipe σ vs ∧ tt σ2 H2 fun b H3 =>
        if b = true then te σ2 H3 fun y H4 => ∃ acc, H4 D = some (.lst acc) ∧ acc.length < sizeLine ∧ Nx (upd H4 D (.lst (acc ++ [y]))) else Nx H3) := by
  refine ⟨fun i m H => m = x.cps.size - i ∧ i ≤ x.cps.size ∧ Pv i H, ⟨x.cps.size, by simp, Nat.zero_le _, h0⟩, ?_⟩
  rintro i m H ⟨rfl, hi, p⟩
  by_cases hlt : i < x.cps.size
  · refine .inr ⟨hlt, Pv (i + 1), fun H' p' => ⟨x.cps.size - (i + 1), by omega, rfl, hlt, p'⟩, fun y H' z => ?_⟩
    obtain ⟨T, c, rfl, hT, rfl, hc⟩ := z
    exact hs i c T _ hc p hT
  · have e : i = x.cps.size := by omega
    subst e
    exact .inl ⟨rfl, hd H p⟩
/-! ### a text backwards: some text, no longer -/
def tRevS (te : TE) : TE := fun σ H Q => te σ H fun x H1 => ∃ z : Str, x = .str z ∧ z.length ≤ sizeLine ∧ ∀ y : Str, y.length ≤ z.length → (∀ c ∈ y.cps.toList, c ∈ z.cps.toList) → Q (.str y) H1
theorem sliceBy_mem (x : Str) (l u : Option (Int × Tok)) (st : Int × Tok) : ∀ c ∈ (Txt.sliceBy x l u st).cps.toList, c ∈ x.cps.toList := by
  intro c hc
  unfold Txt.sliceBy at hc
  split at hc
  · exact hc
  · have hc : c ∈ List.filterMap (x.cps[·]?) _ := hc
    obtain ⟨i, _, hi⟩ := List.mem_filterMap.mp hc
    exact Array.mem_toList_iff.mpr (Array.mem_of_getElem? hi)
theorem pe_revS {X : Cx} {e : Expr} {te : TE} {k : Nat} {p1 p2 p3 pos : Pos} (he : PE X e te) : PE X (.Subscript e (.Slice none none (some (.UnaryOp .USub (.Constant (.int 1) k p1) p2)) p3) pos) (tRevS te) := by
  refine ⟨fun pins s σ H Q I h => ?_⟩
  refine Subscript_ (thn (he.run pins s σ H _ I h) fun v s1 ⟨x, H1, I1, r1, q1⟩ => ?_)
  obtain ⟨z, rfl, hz, q⟩ := q1
  obtain ⟨t, rfl⟩ := r1
  have hst : PO X (some (.UnaryOp .USub (.Constant (.int 1) k p1) p2)) (tPart (tUn (rU fun i => .int (-i)) (tC (.int 1)))) := po_some (pe_un un_neg pe_int)
  refine wpAny_Slice (thn (po_none.run pins s1 σ H1 (fun o H2 => o = none ∧ H2 = H1) I1 ⟨rfl, rfl⟩) fun vl s2 ⟨l, H2, I2, pl, el, e2⟩ => ?_)
  subst el e2
  refine thn (po_none.run pins s2 σ H2 (fun o H3 => o = none ∧ H3 = H2) I2 ⟨rfl, rfl⟩) fun vu s3 ⟨u, H3, I3, pu, eu, e3⟩ => ?_
  subst eu e3
  refine thn (hst.run pins s3 σ H3 (fun o H4 => o = some (-1) ∧ H4 = H3) I3 ⟨1, rfl, -1, rfl, rfl, rfl⟩) fun vs s4 ⟨o, H4, I4, ps, eo, e4⟩ => ?_
  subst eo e4
  cases pl
  cases pu
  cases ps with
  | int i t5 =>
    refine tail_any (ops := [.str z t, .ref s4.heap.objs.size]) (typeIs_str _ _ _) (PySem.F.slot_str_getitem.lookup) ?_ (by with_unfolding_all rfl)
    refine wpAny_getItem_str_slice (l := none) (u := none) (st := some (-1, t5)) ⟨_, Heap.get?_push_size _ rfl, rfl, rfl⟩ rfl ?_
    refine post_val_or_str ⟨Nat.le_trans (Txt.sliceBy_le z none none (-1, t5) (show (-1 : Int) ≠ 0 by decide)) hz, fun t6 tk => ?_⟩
    exact ⟨.str _, H4, (I4.kept (t' := tk) fun b ob q => Heap.get?_push_of_some _ q), ⟨_, rfl⟩, q _ (Txt.sliceBy_le z none none (-1, t5) (show (-1 : Int) ≠ 0 by decide)) (sliceBy_mem z none none (-1, t5))⟩
end Pf


namespace Pf
open PySem PySem.Spec PyProof.Rows L2
/-! ### enumerate of a tuple -/
abbrev EnO (a : Addr) : Obj := { cls := .type "enumerate", data := .fields #[.none, .bool false, .ref a, rawInt 0, .none, .none] }
theorem meets_en1 {u : Value} {ob : Obj} {G : Heap → Prop} (B : Begins u ob G) : Meets (Builtin.«enumerate.__new__» ⟨[.type "enumerate", u], []⟩) (fun _ R s => G s.heap ∧ R (.ok (.ret (.ref (s.heap.push ob).objs.size))) { s with heap := (s.heap.push ob).push (EnO s.heap.objs.size) }) :=
  .of_wp fun prog w A R s z => by
    obtain ⟨hp, g, d, tk, os⟩ := s
    obtain ⟨z1, z⟩ := z
    have hse := sub_enumerate
    have q : ∀ {A' : Around} {E : Value → Shared → Prop} {Q : Value → Shared → Prop}, Q (.ref hp.objs.size) ⟨hp.push ob, g, d, tk, os⟩ → wpAny (model prog w) A' (pyIter u) Q E ⟨hp, g, d, tk, os⟩ := fun r => B.iter prog w _ _ ⟨hp, g, d, tk, os⟩ _ z1 r
    wp_walk using q
    refine wpAny_stack_any fun sk => wpAny_pure ?_
    split
    · rename_i c _ _ _ _ _
      cases ec : (c == Value.type "enumerate")
      · wp_walk using q
        exact ⟨_, rfl, z⟩
      · wp_walk using q
        exact ⟨_, rfl, z⟩
    · wp_walk using q
      exact ⟨_, rfl, z⟩
theorem en1_begins {P : Program} {w : World} {A : Around} {E : Value → Shared → Prop} {s : Shared} {u : Value} {ob : Obj} {G : Heap → Prop} {Q : Value → Shared → Prop} (B : Begins u ob G) (z1 : G s.heap)
    (z : ∀ h', IsEnum h' (s.heap.objs.size + 1) s.heap.objs.size 0 .none → h'.get? s.heap.objs.size = some ob → h'.objs.size = s.heap.objs.size + 2 → (∀ b o, s.heap.get? b = some o → h'.get? b = some o) → Q (.ref (s.heap.objs.size + 1)) { s with heap := h' }) :
    wpAny (model P w) A (call (.type "enumerate") [u]) Q E s := by
  refine callType_new F.called_enumerate (by decide) (F.typeCall_enumerate_1 _) (F.newCall_enumerate_1 _) (fun obj => F.args_object_init_2 obj _) F.entry_enumerate_new (meets_en1 B) ⟨z1, ?_⟩
  have e1 : (s.heap.push ob).objs.size = s.heap.objs.size + 1 := Heap.size_push ..
  show _ ∧ _
  rw [e1]
  have hen : IsEnum ((s.heap.push ob).push (EnO s.heap.objs.size)) (s.heap.objs.size + 1) s.heap.objs.size 0 .none := by
    have := Heap.get?_push_size (s.heap.push ob) (o := EnO s.heap.objs.size) rfl
    rw [e1] at this
    exact this
  exact ⟨⟨_, hen, rfl⟩, z _ hen (Heap.get?_push_of_some _ (Heap.get?_push_size _ B.free)) (by rw [Heap.size_push, e1]) fun b o y => Heap.get?_push_of_some _ (Heap.get?_push_of_some _ y)⟩
def ItET (K : PySem.W.Frag) (a : Addr) : It :=
  ⟨fun i H => ∃ (xs : List V) (x : V), SqT K H a xs ∧ xs[i]? = some x, fun i H v H' => ∃ T x, v = .ref T ∧ H T = none ∧ H' = upd H T (.tup [.int (i : Nat), x]) ∧ ∀ xs, SqT K H a xs → xs[i]? = some x, fun i H => ∃ xs : List V, SqT K H a xs ∧ xs.length = i⟩
theorem turn_et {P : Program} {w : World} {K : PySem.W.Frag} {elts : List Expr} {kk : Nat} {tpos : Pos} (a e it : Addr) :
    Turn P w K (.Tuple elts kk tpos) (ItET K a) [e, it] e (fun i h => (∃ old, IsEnum h e it ((i : Nat) : Int) old) ∧ h.IsTupleIter it a i ∧ e ≠ it ∧ e ≠ a ∧ a ≠ it) where
  mem := by simp
  obj := fun i h st b hb => by
    obtain ⟨⟨old, he⟩, ⟨o, ho, hc, hd⟩, _⟩ := st
    have e' : b = e ∨ b = it := by simpa using hb
    cases e' with
    | inl z =>
      rw [z]
      exact ⟨_, he, fun v q => nomatch q⟩
    | inr z =>
      rw [z]
      exact ⟨o, ho, fun v q => by rw [hd] at q; cases q⟩
  keep := fun i h h' st k => by
    obtain ⟨⟨old, he⟩, ⟨o, ho, r⟩, hne⟩ := st
    exact ⟨⟨old, k e (by simp) _ he⟩, ⟨o, k it (by simp) o ho, r⟩, hne⟩
  item := by
    intro X hP hw hK hc i pins s σ H E I hf st hg
    subst hP hw hK
    obtain ⟨⟨old, he⟩, hit, hne, hea, hai⟩ := st
    obtain ⟨xs, x, hq, hx⟩ := hg
    obtain ⟨its, rv, pt, hz⟩ := I.tuple hq
    obtain ⟨u, hu, ru⟩ := rv.get hx
    have hel : e < s.heap.objs.size := Heap.lt_size he
    have hil : it < s.heap.objs.size := by
      obtain ⟨_, q, _⟩ := hit
      exact Heap.lt_size q
    have hti : s.heap.IsTuple a its.toArray := pt
    have D := Draws.tuple (prog := X.prog) (w := X.w) (A := X.A.in1) (show X.A.in1.handled = none from I.ok.hd hc) it a hai its.toArray
    refine wpAny_pyNext_enum_itemD D he ⟨hit, hti⟩ (by have := (List.getElem?_eq_some_iff.mp hu).1; simpa using this) hne (by simp [hne, hea]) fun y h' tk hy ho hit' hT hsz hk => ?_
    have ey : y = u := by
      have h2 : its[i]? = some y := by simpa using hy
      rw [hu] at h2
      exact (Option.some.inj h2).symm
    subst ey
    refine ⟨_, rfl, wpAny_letOwnedTupleGo_enum (s := { s with heap := h', toks := tk + 1 }) ho fun h'' he' sb => ?_⟩
    have hT2 := (sb.2 _ (Nat.ne_of_gt hel)).trans hT
    have new : ObjOk X.prog X.w (upd H s.heap.objs.size (.tup [.int (i : Nat), x])) h'' s.heap.objs.size (.tup [.int (i : Nat), x]) :=
      ⟨by show 2 ≤ sizeLine; decide, [.int i tk, y], .cons ⟨_, rfl⟩ (.cons ru .nil), ⟨_, hT2, rfl, _, rfl⟩⟩
    have I1 : Inv X pins σ (upd H s.heap.objs.size (.tup [.int (i : Nat), x])) { s with heap := h'', toks := tk + 1 } :=
      I.turnedNew (ch := [e, it]) (fun b ob hb q => (sb.2 b (fun z => hb (by simp [z]))).trans (hk b ob (fun z => hb (by simp [z])) (fun z => hb (by simp [z])) q)) hf (Nat.le_refl _) new
    obtain ⟨oi, hoi, ri⟩ := hit'.1
    refine ⟨.ref s.heap.objs.size, _, I1, rfl, ⟨_, x, rfl, I.hok.fresh (Nat.le_refl _), rfl, fun ys hy => by rw [I.tuple_inj hy hq]; exact hx⟩, ⟨⟨y, ?_⟩, ⟨oi, (sb.2 it (Ne.symm hne)).trans hoi, ri⟩, hne, hea, hai⟩, fun b hb => ?_⟩
    · have e1 : ((i + 1 : Nat) : Int) = (i : Int) + 1 := by omega
      rw [e1]
      exact he'
    · have hb' : b < s.heap.objs.size := by
        have e' : b = e ∨ b = it := by simpa using hb
        cases e' with
        | inl z => rw [z]; exact hel
        | inr z => rw [z]; exact hil
      rw [upd_ne (Nat.ne_of_lt hb')]
      exact (hf b hb).1
  done := by
    intro X hP hw hK hc i pins s σ H E I hf st hg
    subst hP hw hK
    obtain ⟨⟨old, he⟩, hit, hne, hea, hai⟩ := st
    obtain ⟨xs, hq, hx⟩ := hg
    obtain ⟨its, rv, pt, hz⟩ := I.tuple hq
    have hln := rv.length
    obtain ⟨f0, f1, f2, f3, f4, f5⟩ := hf it (by simp)
    have hti : s.heap.IsTuple a its.toArray := pt
    have D := Draws.tuple (prog := X.prog) (w := X.w) (A := X.A.in1) (show X.A.in1.handled = none from I.ok.hd hc) it a hai its.toArray
    have ei : its.toArray.size = i := by
      rw [List.size_toArray]
      omega
    exact wpAny_pyNext_enum_endD D he ⟨by rw [ei]; exact hit, hti⟩ fun h' eb => ⟨rfl, I.turned (t' := s.toks) (fun b o hb q => eb b o hb q) f0 f1 f3 f4 f5⟩
  self := fun A i s Q E st h => by
    obtain ⟨⟨_, he⟩, _⟩ := st
    exact wpAny_pyIter_enum he h
def iEnumT (K : PySem.W.Frag) (ta : TA) : TI := fun σ H R => ta σ H fun vs H1 => ∃ a xs, vs = [.ref a] ∧ SqT K H1 a xs ∧ R (ItET K a) H1
theorem pi_enumT {X : Cx} {e : Expr} {ta : TA} {p pos tpos : Pos} {elts : List Expr} {kk : Nat} (hg : Gl X "enumerate") (hm : X.mg "enumerate" = none) (ha : PA X [e] ta) (hs : starEach [e] X.env = [(false, eval e X.env)] := by rfl) :
    PI X (.Tuple elts kk tpos) (.Call (.Name "enumerate" p) [e] [] pos) (iEnumT X.K ta) := by
  refine ⟨fun pins s σ H R I h => ?_⟩
  refine Call_ (ld_blt I hg hm boot_enumerate (PyProof.Rows.callWith_type1 (thn (ha.run pos pins s σ H _ I h) fun us s1 ⟨vs, H1, I1, r1, q1⟩ => ?_) hs rfl))
  obtain ⟨a, xs, rfl, hq, q⟩ := q1
  obtain ⟨u, rfl, er⟩ := vals1 r1
  cases er
  obtain ⟨its, rv, pt, hz⟩ := I1.tuple hq
  have hti : s1.heap.IsTuple a its.toArray := pt
  have hal : a < s1.heap.objs.size := by
    obtain ⟨_, q, _⟩ := hti
    exact Heap.lt_size q
  refine en1_begins (begins_tuple a its.toArray) hti fun h' he hit hsz hk => wpAny_pyIter_enum he ?_
  refine ⟨s1.heap.objs.size + 1, [s1.heap.objs.size + 1, s1.heap.objs.size], _, _, H1, rfl, I1.kept (t' := s1.toks) hk, turn_et a (s1.heap.objs.size + 1) s1.heap.objs.size, ⟨⟨.none, he⟩, ⟨_, hit, rfl, rfl⟩, Nat.succ_ne_self _, Nat.ne_of_gt (Nat.lt_succ_of_lt hal), Nat.ne_of_lt hal⟩, fun b hb => ?_, q⟩
  have e' : b = s1.heap.objs.size + 1 ∨ b = s1.heap.objs.size := by simpa using hb
  have hle : s1.heap.objs.size ≤ b := by
    cases e' with
    | inl z => rw [z]; exact Nat.le_add_right _ _
    | inr z => rw [z]; exact Nat.le_refl _
  exact I1.fpOk hle (I1.hok.fresh hle)
theorem walk_et {K : PySem.W.Frag} {a : Addr} {xs : List V} : Walk (ItET K a) xs.length (fun H => SqT K H a xs) (YPair (fun i => some (.int (i : Nat))) (fun i => xs[i]?)) :=
  ⟨fun i H hi q => ⟨xs, _, q, List.getElem?_eq_getElem hi⟩, fun H q => ⟨xs, q, rfl⟩, fun i H x H' hi q ⟨T, y, e1, e2, e3, e4⟩ => ⟨T, _, y, e1, e2, e3, rfl, e4 xs q⟩⟩
theorem walk_zt {K : PySem.W.Frag} {a b : Addr} {xs ys : List V} {n : Nat} (hn : n = min xs.length ys.length) : Walk (RZ.ItzT K a b) n (fun H => SqT K H a xs ∧ SqT K H b ys) (YPair (fun i => xs[i]?) (fun i => ys[i]?)) := by
  subst hn
  refine ⟨fun i H hi q => ⟨xs, ys, _, _, q.1, q.2, List.getElem?_eq_getElem (by omega), List.getElem?_eq_getElem (by omega)⟩, fun H q => ⟨xs, ys, q.1, q.2, by omega⟩, fun i H x H' hi q ⟨T, y, z, e1, e2, e3, e4, e5⟩ => ⟨T, y, z, e1, e2, e3, e4 xs q.1, e5 ys q.2⟩⟩
/-! ### two fors in a comprehension -/
def LcIn (J1 : It) (g1 : TG) (tt1 : TT) (te : TE) (vs1 : List Nat) (σ2 : L2.St) (D : Addr) (H4 : Hp) (Nx : Hp → Prop) : Prop := ∃ W1 : Nat → Nat → Hp → Prop, (∃ m, W1 0 m H4) ∧ ∀ j k H, W1 j k H →
  (J1.stop j H ∧ Nx H) ∨ (J1.go j H ∧ ∃ Nx1 : Hp → Prop, (∀ H', Nx1 H' → ∃ k', k' < k ∧ W1 (j + 1) k' H') ∧ ∀ x H', J1.yld j H x H' → g1 x (wipe σ2 vs1) H' fun σ3 H5 => wipe σ3 vs1 = wipe σ2 vs1 ∧ tt1 σ3 H5 fun b H6 => if b = true then te σ3 H6 fun y H7 => ∃ acc, H7 D = some (.lst acc) ∧ acc.length < sizeLine ∧ Nx1 (upd H7 D (.lst (acc ++ [y]))) else Nx1 H6)
theorem lc_in {J1 : It} {n : Nat} {G : Hp → Prop} {Y : Nat → Hp → V → Hp → Prop} (w : Walk J1 n G Y) {g1 : TG} {tt1 : TT} {te : TE} {vs1 : List Nat} {σ2 : L2.St} {D : Addr} {H4 : Hp} {Nx : Hp → Prop} (Pv : Nat → Hp → Prop) (h0 : Pv 0 H4) (hG : ∀ i H, i ≤ n → Pv i H → G H)
    (hs : ∀ i x H H', i < n → Pv i H → Y i H x H' → g1 x (wipe σ2 vs1) H' fun σ3 H5 => wipe σ3 vs1 = wipe σ2 vs1 ∧ tt1 σ3 H5 fun b H6 => if b = true then te σ3 H6 fun y H7 => ∃ acc, H7 D = some (.lst acc) ∧ acc.length < sizeLine ∧ Pv (i + 1) (upd H7 D (.lst (acc ++ [y]))) else Pv (i + 1) H6)
    (hd : ∀ H, Pv n H → Nx H) : LcIn J1 g1 tt1 te vs1 σ2 D H4 Nx := by
  refine ⟨fun i m H => m = n - i ∧ i ≤ n ∧ Pv i H, ⟨n, rfl, Nat.zero_le _, h0⟩, ?_⟩
  rintro i m H ⟨rfl, hi, pv⟩
  have hq := hG i H hi pv
  by_cases hlt : i < n
  · exact .inr ⟨w.goes i H hlt hq, Pv (i + 1), fun H' p' => ⟨n - (i + 1), by omega, rfl, hlt, p'⟩, fun x H' y => hs i x H H' hlt pv (w.yields i H x H' hlt hq y)⟩
  · obtain rfl : i = n := by omega
    exact .inl ⟨w.stops H hq, hd H pv⟩
theorem lc_two {J : It} {n : Nat} {G : Hp → Prop} {Y : Nat → Hp → V → Hp → Prop} (w : Walk J n G Y) {g : TG} {tt : TT} {wi1 : TI} {g1 : TG} {tt1 : TT} {te : TE} {vs vs1 : List Nat} {σ : L2.St} {H1 : Hp} {D : Addr} {Qd : Hp → Prop} (Pv : Nat → Hp → Prop) (h0 : Pv 0 (upd H1 D (.lst []))) (hG : ∀ i H, i ≤ n → Pv i H → G H)
    (hs : ∀ i x H H', i < n → Pv i H → Y i H x H' → g x (wipe σ vs) H' fun σ2 H2 => wipe σ2 vs = wipe σ vs ∧ tt σ2 H2 fun b H3 => if b = true then wi1 σ2 H3 fun J1 H4 => LcIn J1 g1 tt1 te vs1 σ2 D H4 (Pv (i + 1)) else Pv (i + 1) H3)
    (hd : ∀ H, Pv n H → Qd H) :
    ∃ W : Nat → Nat → Hp → Prop, (∃ m, W 0 m (upd H1 D (.lst []))) ∧ ∀ i m H, W i m H → (J.stop i H ∧ Qd H) ∨ (J.go i H ∧ ∃ Nx : Hp → Prop, (∀ H', Nx H' → ∃ m', m' < m ∧ W (i + 1) m' H') ∧ ∀ x H', J.yld i H x H' → g x (wipe σ vs) H' fun σ2 H2 => wipe σ2 vs = wipe σ vs ∧ tt σ2 H2 fun b H3 =>
      if b = true then wi1 σ2 H3 fun J1 H4 => LcIn J1 g1 tt1 te vs1 σ2 D H4 Nx else Nx H3) := by
  refine ⟨fun i m H => m = n - i ∧ i ≤ n ∧ Pv i H, ⟨n, rfl, Nat.zero_le _, h0⟩, ?_⟩
  rintro i m H ⟨rfl, hi, pv⟩
  have hq := hG i H hi pv
  by_cases hlt : i < n
  · exact .inr ⟨w.goes i H hlt hq, Pv (i + 1), fun H' p' => ⟨n - (i + 1), by omega, rfl, hlt, p'⟩, fun x H' y => hs i x H H' hlt pv (w.yields i H x H' hlt hq y)⟩
  · obtain rfl : i = n := by omega
    exact .inl ⟨w.stops H hq, hd H pv⟩
/-! ### tuples of numbers compared; truths by identity -/
theorem ltT (K : PySem.W.Frag) {X : Cx} (hu : X.A.units < cLine) (h : X.K = K := by rfl) : OpR X (compareOp .Lt) (rLtT K) := h ▸ op_ltT hu
theorem lex2 (a b c d : Int) : HT.lexLt [a, b] [c, d] = decide (a < c ∨ (a = c ∧ b < d)) := by
  rw [HT.lexLt_cons, HT.lexLt_cons, HT.lexLt_nil_nil]
  by_cases e : a = c
  · rw [if_pos e]
    by_cases e2 : b = d
    · rw [if_pos e2]
      exact (decide_eq_false (by omega)).symm
    · rw [if_neg e2]
      exact decide_eq_decide.mpr (by omega)
  · rw [if_neg e]
    exact decide_eq_decide.mpr (by omega)
/-! ### parts of tuples -/
theorem piT (K : PySem.W.Frag) {X : Cx} {tg l : Expr} {tl : TE} (hl : PE X l tl) (h : X.K = K := by rfl) : PI X tg l (iTup K tl) := by
  subst h
  exact pi_tup hl
theorem piL (K : PySem.W.Frag) {X : Cx} {tg l : Expr} {tl : TE} (hl : PE X l tl) (h : X.K = K := by rfl) : PI X tg l (iList K tl) := by
  subst h
  exact pi_list hl
/-- a part of a tuple: the same one, or another -/
def rSlE (K : PySem.W.Frag) : V → Option Int → Option Int → Hp → VK → Prop := fun x lo hi H Q => ∃ a xs, x = .ref a ∧ H a = some (.tup xs) ∧ ∀ p H', Ext H H' → H' p = some (.tup (cutV xs lo hi)) → Q (.ref p) H'
theorem slE (K : PySem.W.Frag) {X : Cx} (h : X.K = K := by rfl) : SlR X (rSlE K) := fun pins s σ H x v vl vu lo hi sl Q I rx hs pl pu ⟨a, xs, ex, ha, q⟩ => by
  refine slA K h pins s σ H x v vl vu lo hi sl Q I rx hs pl pu ⟨a, xs, ex, SqT.of ha, fun z => ?_, fun _ p hp => q p _ (Ext.new hp) upd_same⟩
  refine q a H Ext.refl ?_
  have e : cutV xs lo hi = xs := by
    unfold cutV
    rw [z.1, z.2, List.drop_zero, Nat.sub_zero, List.take_length]
  rw [e]
  exact ha
theorem cut_from {xs : List V} {k : Nat} : cutV xs (some (k : Int)) none = xs.drop k := by
  unfold cutV
  have e1 : HT.sIx xs.length 0 (some (k : Int)) = min k xs.length := HT.sIx_nat _ _ _
  have e2 : HT.sIx xs.length xs.length none = xs.length := rfl
  rw [e1, e2, List.take_of_length_le (by rw [List.length_drop]; omega)]
  by_cases h : k ≤ xs.length
  · rw [Nat.min_eq_left h]
  · rw [Nat.min_eq_right (by omega), List.drop_length, List.drop_eq_nil_of_le (by omega)]
theorem cut_to {xs : List V} {k : Nat} : cutV xs none (some (k : Int)) = xs.take k := by
  unfold cutV
  have e1 : HT.sIx xs.length 0 none = 0 := rfl
  have e2 : HT.sIx xs.length xs.length (some (k : Int)) = min k xs.length := HT.sIx_nat _ _ _
  rw [e1, e2, List.drop_zero, Nat.sub_zero]
  by_cases h : k ≤ xs.length
  · rw [Nat.min_eq_left h]
  · rw [Nat.min_eq_right (by omega), List.take_length, List.take_of_length_le (by omega)]
theorem paired_take {α β : Type} {R : α → β → Prop} : ∀ {xs : List α} {ys : List β} (k : Nat), Paired R xs ys → Paired R (xs.take k) (ys.take k)
  | _, _, 0, _ => by rw [List.take_zero, List.take_zero]; exact .nil
  | _, _, k + 1, .nil => by rw [List.take_nil, List.take_nil]; exact .nil
  | _, _, k + 1, .cons r t => by rw [List.take_succ_cons, List.take_succ_cons]; exact .cons r (paired_take k t)
theorem paired_drop {α β : Type} {R : α → β → Prop} : ∀ {xs : List α} {ys : List β} (k : Nat), Paired R xs ys → Paired R (xs.drop k) (ys.drop k)
  | _, _, 0, h => by rw [List.drop_zero, List.drop_zero]; exact h
  | _, _, k + 1, .nil => by rw [List.drop_nil, List.drop_nil]; exact .nil
  | _, _, k + 1, .cons r t => by rw [List.drop_succ_cons, List.drop_succ_cons]; exact paired_drop k t
/-- two tuples put together: one of them, or another -/
def rCatE (K : PySem.W.Frag) : R2 := fun x y H Q => ∃ a b xs ys, x = .ref a ∧ y = .ref b ∧ H a = some (.tup xs) ∧ H b = some (.tup ys) ∧ xs.length + ys.length ≤ sizeLine ∧ ∀ p H', Ext H H' → H' p = some (.tup (xs ++ ys)) → Q (.ref p) H'
theorem catE (K : PySem.W.Frag) {X : Cx} (h : X.K = K := by rfl) : OpR X (binaryOp .Add) (rCatE K) := fun pins s σ H x y v u Q I rx ry ⟨a, b, xs, ys, ex, ey, ha, hb, hz, q⟩ => by
  refine catA K h pins s σ H x y v u Q I rx ry ⟨a, b, xs, ys, ex, ey, SqT.of ha, SqT.of hb, hz, fun z => ?_, fun _ z => ?_, fun _ _ p hp => q p _ (Ext.new hp) upd_same⟩
  · exact q b H Ext.refl (by rw [z]; exact hb)
  · exact q a H Ext.refl (by rw [z, List.append_nil]; exact ha)
end Pf


namespace Pf
open PySem PySem.Spec PyProof.Rows L2
/-! ### sorting tuples, the first of them empty -/
section
open PySem.W PySem.SeqAt PySem.Calls
variable {prog : Program} {w : World} {A : Around} {E : Value → Shared → Prop} {s : Shared}
theorem tup_lt1 {Q : Bool → Shared → Prop} {a b : Value} {xs ys : List PyData} {as bs : List Addr} (ra : Reads s.heap a (.tuple xs) as) (rb : Reads s.heap b (.tuple ys) bs) (hal : alikeAll xs ys = true)
    (hu : A.units + min (PyData.tuple xs).depth (PyData.tuple ys).depth < cLine) (hq : Q (dataLt (.tuple xs) (.tuple ys)) s) : wpAny (model prog w) A (oneLt' true a b) Q E s := by
  cases ra with
  | @tuple l o vs n _ as₁ h1 h2 h3 h4 =>
    cases rb with
    | @tuple m p ws k _ bs₁ g1 g2 g3 g4 =>
      have z1 : vs.size = xs.length := by simpa using ReadsAll.length _ _ _ h4
      have z2 : ws.size = ys.length := by simpa using ReadsAll.length _ _ _ g4
      rw [dataLt_tuple, ← firstLt_toks xs ys hal, ← z1, ← z2] at hq
      obtain ⟨ocls, odd, odata, osl⟩ := o
      obtain ⟨pcls, pdd, pdata, psl⟩ := p
      simp only at h2 h3 g2 g3
      subst h2 h3 g2 g3
      rw [oneLt'_eq]
      simp only [if_true]
      refine wpAny_bind (wpAny_cRoomFor (room_here hu) (wpAny_bind (wpAny_callSpecialIfBound?_slot (T := "tuple") ⟨_, h1, rfl⟩ F.slot_tuple_lt ?_)))
      refine call_meets F.slot_tuple_lt ⟨_, h1, rfl⟩ F.entry_tuple_lt (F.args_tuple_lt_2 _ _) (tuple_ltAt l m vs ws n k odd pdd osl psl (pairEq xs ys) (fun j => dataLt (xs.getD j .none) (ys.getD j .none))) ⟨h1, g1, fun j j1 j2 => ?_, fun j j1 j2 hj => ?_, wpAny_truthy_bool hq⟩
      · have y := eqAt_alikeAll xs ys A.in1 s vs.toList ws.toList _ _ h4 g4 hal (room_in hu) j (by simpa using j1) (by simpa using j2)
        simpa using y
      · have y := rcLt_alikeAll xs ys A.in1 s vs.toList ws.toList _ _ h4 g4 hal (room_in hu) j (by simpa using j1) (by simpa using j2) hj
        simpa using y
theorem ft_at {M : Model} {v : Value} {ds : List PyData} {as : List Addr} (r : Reads s.heap v (.tuple ds) as) : ∃ f : Option Value, (ds = [] → f = none) ∧ ∀ Q : Option Value → Shared → Prop, Q f s → wpAny M A (firstOfTuple' v) Q E s := by
  cases r with
  | @tuple a o xs n _ _ ho hc hd hr =>
    refine ⟨xs[0]?, fun e => ?_, fun Q q => ?_⟩
    · subst e
      cases q : xs.toList with
      | nil =>
        rw [← Array.getElem?_toList, q]
        rfl
      | cons f fr =>
        rw [q] at hr
        cases hr
    · rw [kas_first_eq]
      refine wpAny_bind (Looks.here (show Looks M s.heap (typeOf (.ref a)) o.cls from (Looks.ld ho).andThen .now) ?_)
      rw [hc, if_neg (by simp)]
      exact wpAny_bind (listItems_at ho hd (wpAny_pure q))
theorem fts_at {M : Model} : ∀ {vs : List Value} {ds : List PyData}, EachIs (fun v d => ∃ as, Reads s.heap v d as) vs ds → (∀ d ∈ ds, ∃ xs, d = .tuple xs) → ∃ fs : List (Option Value), (∀ r, ds = .tuple [] :: r → ∃ t, fs = none :: t) ∧ ∀ Q : List (Option Value) → Shared → Prop, Q fs s → wpAny M A (vs.mapM firstOfTuple') Q E s
  | _, _, .nil, _ => ⟨[], (fun r z => by cases z), fun Q q => by rw [List.mapM_nil]; exact wpAny_pure q⟩
  | _, _, .cons (b := d) ⟨as, r⟩ t, ht => by
    obtain ⟨fs, _, h2⟩ := fts_at (M := M) t fun d hd => ht d (List.mem_cons_of_mem _ hd)
    obtain ⟨xs, rfl⟩ := ht d (List.mem_cons_self ..)
    obtain ⟨f, e1, e2⟩ := ft_at (M := M) (A := A) (E := E) r
    refine ⟨f :: fs, fun r z => ⟨fs, ?_⟩, fun Q q => ?_⟩
    · injection z with z _
      injection z with z
      rw [e1 z]
    · rw [List.mapM_cons]
      exact wpAny_bind (e2 _ (wpAny_bind (h2 _ (wpAny_pure q))))
theorem kind_empt {M : Model} {vs : List Value} {ds : List PyData} {Q : SortKind → Shared → Prop} (e : EachIs (fun v d => ∃ as, Reads s.heap v d as) vs (.tuple [] :: ds)) (ht : ∀ d ∈ PyData.tuple [] :: ds, ∃ xs, d = .tuple xs) (q : Q oneType' s) : wpAny M A (keyKind' vs.toArray) Q E s := by
  obtain ⟨fs, h1, h2⟩ := fts_at (M := M) (A := A) (E := E) e ht
  obtain ⟨t, rfl⟩ := h1 ds rfl
  obtain ⟨v0, vr, rfl⟩ : ∃ v0 vr, vs = v0 :: vr := by
    cases e with
    | cons z zs => exact ⟨_, _, rfl⟩
  rw [keyKind'_eq, List.mapM_toArray, map_eq_pure_bind]
  refine wpAny_bind (wpAny_bind (h2 _ (wpAny_pure ?_)))
  rw [if_neg (by simp), if_neg (by simp), oneTypeOnly'_eq, List.mapM_toArray, map_eq_pure_bind]
  refine wpAny_bind (wpAny_bind (wpAny_bind (kas_mapM (r := Value.type "tuple") _ (fun v hv Q' hq => ?_) (wpAny_pure ?_))))
  · obtain ⟨d, hd, as, r⟩ := e.left v hv
    obtain ⟨xs, rfl⟩ := ht d hd
    exact (looks_reads r).here hq
  · have h0 : (List.map (fun _ => Value.type "tuple") (v0 :: vr)).toArray[0]? = some (Value.type "tuple") := by simp
    rw [h0]
    have ha : ((List.map (fun _ : Value => Value.type "tuple") (v0 :: vr)).toArray.all fun x => x == Value.type "tuple") = true := by
      simp only [List.all_toArray, List.all_map, List.all_eq_true]
      intro _ _
      rfl
    simp only [ha, if_true]
    exact wpAny_pure (wpAny_pure q)
theorem sorts_empt {vs : List Value} {ds : List PyData} (e : EachIs (fun v d => ∃ as, Reads s.heap v d as) vs (.tuple [] :: ds)) (hal : AllAlike (.tuple [] :: ds)) (ht : ∀ d ∈ PyData.tuple [] :: ds, ∃ xs, d = .tuple xs) (hu : ∀ d ∈ PyData.tuple [] :: ds, A.units + d.depth < cLine) : SortsAt prog w A s (dataKind s.heap (.tuple [] :: ds)) vs := by
  refine ⟨fun v hv => ?_, oneType', ?_, fun h2 E Q hq => kind_empt e ht hq⟩
  · obtain ⟨d, hd, as, r⟩ := e.left v hv
    exact ⟨_, dataKind_some hal hd r⟩
  · intro E x y a b Q ha hb hq
    obtain ⟨d, as, hd, ra, rfl⟩ := dataKind_inv ha
    obtain ⟨d', as', hd', rb, rfl⟩ := dataKind_inv hb
    have hdd := hal d hd d' hd'
    have hroom : A.units + min d.depth d'.depth < cLine := Nat.lt_of_le_of_lt (Nat.add_le_add_left (Nat.min_le_left _ _) _) (hu d hd)
    obtain ⟨xs, rfl⟩ := ht d hd
    obtain ⟨ys, rfl⟩ := ht d' hd'
    rw [keyLt'_oneType]
    exact tup_lt1 ra rb (by simpa [alike] using hdd) hroom hq
theorem sorted_empt {β : Type} {vs : List Value} {bs : List β} {enc : β → PyData} {R : Value → β → Prop} {l : Addr} {r : List PyData} {Q : Value → Shared → Prop} (hl : s.heap.IsList l vs.toArray) (e : EachIs R vs bs) (er : EachIs (fun v b => ∃ as, Reads s.heap v (enc b) as) vs bs) (hal : AllAlike (bs.map enc)) (h0 : bs.map enc = .tuple [] :: r) (ht : ∀ d ∈ bs.map enc, ∃ xs, d = .tuple xs) (hL : bs.length ≤ sizeLine)
    (hu : ∀ b, b ∈ bs → A.units + 2 + (enc b).depth < cLine) (h : ∀ out, out.length = bs.length → EachIs R out (bs.mergeSort (dataLe false enc)) → Q (.ref (s.heap.objs.size + 1)) { s with heap := sortedAll s.heap vs (List.toArray out) }) :
    wpAny (model prog w) A (call (.builtin "sorted") [.ref l]) Q E s := by
  have er2 : EachIs (fun v b => ∃ as, Reads (sortingHeap (copyHeap s.heap vs) (s.heap.objs.size + 1) vs) v (enc b) as) vs bs := er.mono fun _ _ ⟨as, z⟩ => ⟨as, PyProof.Rows.Reads.keeps (fun _ _ => sorting_copy_old) z⟩
  have em := each_map (R := fun v d => ∃ as, Reads (sortingHeap (copyHeap s.heap vs) (s.heap.objs.size + 1) vs) v d as) enc er2
  have bm := bound_map (A := A.in1.in1) (bs := bs) (enc := enc) hu
  have S : SortsAt prog w A.in1.in1 { s with heap := sortingHeap (copyHeap s.heap vs) (s.heap.objs.size + 1) vs } (dataKind (sortingHeap (copyHeap s.heap vs) (s.heap.objs.size + 1) vs) (bs.map enc)) vs := by
    rw [h0] at em bm ht hal ⊢
    exact sorts_empt (s := { s with heap := sortingHeap (copyHeap s.heap vs) (s.heap.objs.size + 1) vs }) em hal ht bm
  exact sorted_vals hl S (by rw [e.length]; exact hL) (h _ (by rw [sortVals_length false rfl]; exact e.length) (sortVals_data false e er2 hal))
end
/-- sorted of tuples, the first of them empty -/
def rSortE (K : PySem.W.Frag) : List V → Hp → VK → Prop := fun vs H Q => ∃ (β : Type) (v : β → V) (d : β → PyData) (a : Addr) (bs : List β) (r : List PyData), vs = [.ref a] ∧ SqL K H a (bs.map v) ∧ (∀ b ∈ bs, Dp K H (v b) (d b) ∧ (d b).depth ≤ 50) ∧
  PySem.W.AllAlike (bs.map d) ∧ bs.map d = .tuple [] :: r ∧ (∀ e ∈ bs.map d, ∃ xs, e = .tuple xs) ∧ ∀ p, H p = none → Q (.ref p) (upd H p (.lst ((bs.mergeSort (PySem.W.dataLe false d)).map v)))
theorem cr_sortE (K : PySem.W.Frag) {X : Cx} (hu : X.A.units + 64 < cLine) (hK : X.K = K := by rfl) : CallR X (.builtin "sorted") (rSortE K) := by
  subst hK
  intro pins s σ H vs us Q I r h
  obtain ⟨β, v, d, a, bs, rd, rfl, hs, hd, al, h0, ht, q⟩ := h
  obtain ⟨u, rfl, rfl⟩ := vals1 r
  obtain ⟨its, rv, hl, hz⟩ := I.list hs
  rw [List.length_map] at hz
  refine sorted_empt (enc := d) (R := fun (u : Value) (b : β) => RelV (v b) u) hl.isList (each_vals rv) (each_reads I rv fun b hb => (hd b hb).1) al h0 ht hz (fun b hb => ?_) fun out hlen he => ?_
  · have := (hd b hb).2
    omega
  · obtain ⟨ep, he'⟩ := PyProof.Rows.sortedAll_at s.heap its out.toArray
    have hlen2 : ((bs.mergeSort (PySem.W.dataLe false d)).map v).length ≤ sizeLine := by
      rw [List.length_map, List.length_mergeSort]
      exact hz
    exact ⟨.ref _, upd H (s.heap.objs.size + 1) (.lst ((bs.mergeSort (PySem.W.dataLe false d)).map v)), I.laid (t' := s.toks) (fun _ _ => PyProof.Rows.sortedAll_old) (Nat.le_succ _) ⟨hlen2, out, ep, vals_each he, by simpa using he'⟩, rfl, q _ (I.hok.fresh (Nat.le_succ _))⟩
end Pf


namespace Pf
open PySem PySem.Spec PyProof.Rows L2
/-! ### a dict by tuples, made in a comprehension -/
theorem dset_t {X : Cx} {pins : List (Addr × Obj)} {σ : L2.St} {H : Hp} {s : Shared} {E : Value → Shared → Prop} {D b : Addr} {kvs : List (List Key × V)} {ks : List Key} {z : V} {u : Value} {Q : Unit → Shared → Prop} (hu : X.A.units < cLine) (I : Inv X pins σ H s) (hD : H D = some (.dT kvs)) (hb : H b = some (.tup (ks.map kV))) (hz : kvs.length < sizeLine)
    (rz : RelV z u) (go : ∀ s', Inv X pins σ (upd H D (.dT (putK kvs ks z))) s' → Q () s') : wpAny (model X.prog X.w) X.A (dictSet D (.ref b) u) Q E s := by
  obtain ⟨len, nsys, xs, rel, dd⟩ := dt_of I.hok hD
  have lx : xs.length ≤ sizeLine := Paired.length rel ▸ len
  have lp := length_putK kvs ks z
  refine wpAny_dictSet_heap (hsz := lx) (show (tupleKind (mixKind X.prog X.w)).room X.A from hu) (key_of I.hok hb) dd fun h' dd' same => go _ ?_
  obtain ⟨ob, es, ep, e1, e2, e3, e4, _, e5⟩ := dd'
  have stays : ∀ c ys, H c = some (.tup ys) → (upd H D (.dT (putK kvs ks z))) c = some (.tup ys) := fun c ys ec => by
    rw [upd_ne (ne_of ec hD (by intro y; cases y))]
    exact ec
  exact d_write I (by rw [hD]; exact True.intro) same ⟨ob, e1⟩ ⟨by omega, nsys, _, (rel.put ks hb rz).keeps stays, ob, es, ep, e1, e2, e3, e4, e5⟩
/-- what is asked of a turn's key and value -/
def PutT (D : Addr) (y z : V) (H : Hp) (N : Hp → Prop) : Prop := ∃ kvs ks b, y = .ref b ∧ H b = some (.tup (ks.map kV)) ∧ H D = some (.dT kvs) ∧ kvs.length < sizeLine ∧ N (upd H D (.dT (putK kvs ks z)))
def tDcT (wi : TI) (g : TG) (tk tv : TE) (vs : List Nat) : TE := fun σ H Q => wi σ H fun J H1 => ∀ D, H1 D = none → ∃ W : Nat → Nat → Hp → Prop, (∃ m, W 0 m (upd H1 D (.dT []))) ∧ ∀ i m H, W i m H →
  (J.stop i H ∧ Q (.ref D) H) ∨ (J.go i H ∧ ∃ Nx : Hp → Prop, (∀ H', Nx H' → ∃ m', m' < m ∧ W (i + 1) m' H') ∧ ∀ x H', J.yld i H x H' → g x (wipe σ vs) H' fun σ2 H2 => wipe σ2 vs = wipe σ vs ∧ tk σ2 H2 fun y H3 => tv σ2 H3 fun z H4 => PutT D y z H4 Nx)
/-- the block's context is free of what the walk itself holds -/
theorem blk_free {X : Cx} {s : Shared} {H : Hp} {scope : Scope} {ce : Env} {fp : List Addr} {σ' : L2.St} {H' : Hp} {s' : Shared} (J : Inv (X.blk s H scope ce fp) [] σ' H' s') (nn : ∀ b ∈ fp, H' b = none) : ∀ b ∈ fp, FpOk (X.blk s H scope ce fp) [] H' b := fun b hb =>
  ⟨nn b hb, (J.ok.exf b hb).1, J.ok.exfs b hb, .inl hb, fun x c e => (J.ok.exf b hb).2 x c e, fun p hp => by
    have hp : p ∈ ([] : List (Addr × Obj)) ++ [] := hp
    cases hp⟩
/-- a turn is over: the block again as it began, but for the heap -/
theorem blk_turn {X Y : Cx} {fp : List Addr} {it : Addr} {tg : Expr} {J : It} {tn : Nat → Heap → Prop} {P : Program} {w : World} {K : PySem.W.Frag} (T : Turn P w K tg J fp it tn) {i : Nat} {h7 : Heap} (st : tn (i + 1) h7) {σ0 σ8 : L2.St} {vs : List Nat} {H' : Hp} {s' : Shared} (hw : wipe σ8 vs = wipe σ0 vs)
    (JJ : Inv Y ([] ++ pinsAt fp h7) σ8 H' s') : Inv Y [] (wipe σ0 vs) H' s' ∧ tn (i + 1) s'.heap ∧ ∀ b ∈ fp, H' b = none := by
  have held : ∀ b ∈ fp, ∀ o, h7.get? b = some o → s'.heap.get? b = some o ∧ H' b = none := fun b hb o e => by
    have z := JJ.pin (b, o) (List.mem_append_right _ (List.mem_append_right _ (mem_pinsAt hb e)))
    exact ⟨z.1, z.2.1⟩
  refine ⟨(JJ.unpinned (pins := [])).weak (by rw [← hw, wipe_length]) (fun j v e => ?_), T.keep _ _ _ st fun b hb o e => (held b hb o e).1, fun b hb => ?_⟩
  · rw [← hw] at e
    exact (wipe_some e).1
  · obtain ⟨o, e, _⟩ := T.obj _ _ st b hb
    exact (held b hb o e).2
theorem dcT_core {X : Cx} {pins : List (Addr × Obj)} {s : Shared} {σ : L2.St} {H : Hp} {Q : VK} {kx vx tg iter : Expr} {scope : Scope} {own : List (Str × Nat)} {pos pos' : Pos} {wi : TI} {g : TG} {tk tv : TE} {use : Option (Value → Sem Unit)} {Qf : Value → Shared → Prop} (hu : X.A.units < cLine) (calm : X.calm = true) (nd : X.N.Nodup) (I : Inv X pins σ H s) (hi : PI X tg iter wi) (ok : BlkOk X.N X.env.scope scope own)
    (hg : ∀ (s : Shared) (H : Hp) (C : Addr) (cl : List (Str × Addr)) (fp : List Addr), PG (X.blk s H scope (compEnvC scope cl C X.env) fp) tg g)
    (hk : ∀ (s : Shared) (H : Hp) (C : Addr) (cl : List (Str × Addr)) (fp : List Addr), PE (X.blk s H scope (compEnvC scope cl C X.env) fp) kx tk)
    (hv : ∀ (s : Shared) (H : Hp) (C : Addr) (cl : List (Str × Addr)) (fp : List Addr), PE (X.blk s H scope (compEnvC scope cl C X.env) fp) vx tv) (hfs : ∀ x, foldedSetIterable iter X.env x = pure x) (h : tDcT wi g tk tv (own.map (·.2)) σ H Q)
    (fin : ∀ D C s' m H', Inv X pins σ H' s' → Q (.ref D) H' → s'.heap.Ns C m → FpOk X pins H' C → compPost (model X.prog X.w) X.A X.xe use Qf (.ref D) C (.ok .next) s') :
    wpAny (model X.prog X.w) X.A (comprehension (.DictComp kx vx [⟨tg, iter, [], 0⟩] scope pos) scope X.env pos' newDict false (eval iter X.env) use) Qf X.xe s := by
  have cells : ∀ y ∈ scope.names, y.2 = .free → ∃ c, X.env.cells.lookup y.1 = some c := fun y hy e => (ok.free y hy e).elim (fun k => I.ok.has _ (.inl k)) fun k => I.ok.has _ (.inr k)
  refine wpAny_comprehension_free (use := use) rfl hfs (closure_ok cells) ok.kind (fun y hy e => by rw [ok.uniq y hy, e]) (thn (hi.run pins s σ H _ I h) fun xv sa ha => thn ha fun itv sb hb => ?_)
  obtain ⟨it, fp, tn, J, Hb, rfl, Ib, T, stb, fb, rest⟩ := hb
  refine wpAny_newObj_type (newEnv_comp ?_)
  obtain ⟨W, ⟨m0, w0⟩, turn⟩ := rest sb.heap.objs.size (Ib.hok.fresh (Nat.le_refl _))
  have Ic : Inv X pins σ (upd Hb sb.heap.objs.size (.dT [])) { sb with heap := sb.heap.push { cls := .type "dict", data := .dict #[] } } := Ib.laid (t' := sb.toks) (fun b o e => Heap.get?_push_of_some _ e) (Nat.le_refl _) (dt_empty sb.heap Ib.big)
  have stc : tn 0 (sb.heap.push { cls := .type "dict", data := .dict #[] }) := T.keep _ _ _ stb fun b _ o e => Heap.get?_push_of_some _ e
  have below : ∀ b ∈ fp, b < sb.heap.objs.size := fun b hb => by
    obtain ⟨o, e, _⟩ := T.obj _ _ stb b hb
    exact Heap.lt_size e
  have fc : ∀ b ∈ fp, FpOk X pins (upd Hb sb.heap.objs.size (.dT [])) b ∧ b < (sb.heap.push { cls := .type "dict", data := .dict #[] }).objs.size := fun b hb => by
    refine ⟨⟨?_, (fb b hb).2⟩, ?_⟩
    · rw [upd_ne (Nat.ne_of_lt (below b hb))]
      exact (fb b hb).1
    · rw [Heap.size_push]
      exact Nat.lt_succ_of_lt (below b hb)
  generalize sb.heap.objs.size = D at turn w0 Ic fc ⊢
  generalize hsc : ({ sb with heap := sb.heap.push { cls := .type "dict", data := .dict #[] } } : Shared) = sc at Ic ⊢
  have stc : tn 0 sc.heap := by rw [← hsc]; exact stc
  generalize upd Hb D (.dT []) = Hc at w0 Ic fc
  have fc : ∀ b ∈ fp, FpOk X pins Hc b ∧ b < sc.heap.objs.size := by rw [← hsc]; exact fc
  have Id := block_start Ic ok nd fc
  have pg := hg sc Hc sc.heap.objs.size (cellsFrom (sc.heap.objs.size + 1) scope.names (cloFrom X.env.cells scope.names [])) fp
  have pk := hk sc Hc sc.heap.objs.size (cellsFrom (sc.heap.objs.size + 1) scope.names (cloFrom X.env.cells scope.names [])) fp
  have pv := hv sc Hc sc.heap.objs.size (cellsFrom (sc.heap.objs.size + 1) scope.names (cloFrom X.env.cells scope.names [])) fp
  show codeAny _ _ (.compStart _ 0 (.ref it) (.ref D) (compEnvC scope (cellsFrom (sc.heap.objs.size + 1) scope.names (cloFrom X.env.cells scope.names [])) sc.heap.objs.size X.env)) (compPost _ _ _ _ _ (.ref D) sc.heap.objs.size) { sc with heap := pushCells (sc.heap.push { cls := .type "dict", data := .dict #[] }) scope.names }
  have std : tn 0 (pushCells (sc.heap.push { cls := .type "dict", data := .dict #[] }) scope.names) := T.keep _ _ _ stc fun b _ o e => pushCells_keeps _ _ _ _ (Heap.get?_push_of_some _ e)
  generalize ec : compEnvC scope (cellsFrom (sc.heap.objs.size + 1) scope.names (cloFrom X.env.cells scope.names [])) sc.heap.objs.size X.env = ce at Id pg pk pv ⊢
  have cl : ce.locals = sc.heap.objs.size := by rw [← ec]; rfl
  generalize ed : ({ sc with heap := pushCells (sc.heap.push { cls := .type "dict", data := .dict #[] }) scope.names } : Shared) = sd at Id ⊢
  have std : tn 0 sd.heap := by rw [← ed]; exact std
  have loop : codeAny (model X.prog X.w) X.A (.compLoop (.DictComp kx vx [⟨tg, iter, [], 0⟩] scope pos) 0 (.ref it) (.ref D) ce) (compPost (model X.prog X.w) X.A X.xe use Qf (.ref D) sc.heap.objs.size) sd := by
    refine compLoop_anyD (fun n s' => ∃ i H', Inv (X.blk sc Hc scope ce fp) [] (wipe σ (own.map (·.2))) H' s' ∧ tn i s'.heap ∧ (∀ b ∈ fp, H' b = none) ∧ W i n H') ?_ m0 ⟨0, Hc, Id, std, fun b hb => (fc b hb).1.1, w0⟩
    rintro n s5 ⟨i, H5, I5, st5, n5, w5⟩
    rcases turn i n H5 w5 with ⟨ends, qq⟩ | ⟨goes, Nx, hNx, step⟩
    · refine thnF (T.done (X.blk sc Hc scope ce fp) rfl rfl rfl calm i [] s5 _ H5 (fun _ _ => False) I5 (blk_free I5 n5) st5 ends) fun r s6 ⟨er, I6⟩ => ?_
      subst er
      have I7 : Inv X pins σ H5 s6 := Ic.call' (ch := fp) I6.os I6.base I6.hok I6.bare fun b hb => ⟨(fc b hb).1.2.2.2.1, (fc b hb).1.2.1, (fc b hb).1.2.2.2.2.1, (fc b hb).1.2.2.2.2.2⟩
      have nl : H5 sc.heap.objs.size = none := by
        rw [← cl]
        exact I6.free
      obtain ⟨m, hn, _⟩ := I6.loc
      have hn : s6.heap.Ns ce.locals m := hn
      rw [cl] at hn
      exact fin D sc.heap.objs.size s6 m H5 I7 qq hn (Ic.fpOk (Nat.le_refl _) nl)
    · refine thnF (T.item (X.blk sc Hc scope ce fp) rfl rfl rfl calm i [] s5 _ H5 (fun _ _ => False) I5 (blk_free I5 n5) st5 goes) fun r s6 ⟨u, er, h6⟩ => ?_
      subst er
      refine thnF h6 fun _ s7 ⟨x, H7, I7, r7, y7, st7, n7⟩ => ?_
      refine thnF (pg.run _ s7 _ H7 x u _ (I7.pinned (blk_free I7 n7) (T.obj _ _ st7)) r7 (step x H7 y7)) fun _ s8 ⟨σ8, H8, I8, hw8, q8⟩ => ?_
      rw [List.forIn_nil]
      refine wpAny_pure ?_
      rw [if_pos rfl]
      refine thnF (pk.run _ s8 σ8 H8 _ I8 q8) fun v9 s9 ⟨y9, H9, I9, r9, q9⟩ => ?_
      refine thnF (pv.run _ s9 σ8 H9 _ I9 q9) fun v10 s10 ⟨z10, H10, I10, r10, kvs, ks, b, ey, eb, eD, lz, nx⟩ => ?_
      subst ey
      cases (show v9 = Value.ref b from r9)
      refine dset_t (X := X.blk sc Hc scope ce fp) hu I10 eD eb lz r10 fun s11 I11 => ?_
      obtain ⟨m', hm, w'⟩ := hNx _ nx
      obtain ⟨a1, a2, a3⟩ := blk_turn (X := X) T st7 hw8 I11
      exact ⟨m', hm, i + 1, _, a1, a2, a3, w'⟩
  exact codeAny_compStart_dict loop (T.self X.A 0 _ _ _ std loop)
theorem pe_dcT {X : Cx} {kx vx tg iter : Expr} {scope : Scope} {own : List (Str × Nat)} {pos : Pos} {wi : TI} {g : TG} {tk tv : TE} (hu : X.A.units < cLine) (calm : X.calm = true) (nd : X.N.Nodup) (hi : PI X tg iter wi) (ok : BlkOk X.N X.env.scope scope own)
    (hg : ∀ (s : Shared) (H : Hp) (C : Addr) (cl : List (Str × Addr)) (fp : List Addr), PG (X.blk s H scope (compEnvC scope cl C X.env) fp) tg g)
    (hk : ∀ (s : Shared) (H : Hp) (C : Addr) (cl : List (Str × Addr)) (fp : List Addr), PE (X.blk s H scope (compEnvC scope cl C X.env) fp) kx tk)
    (hv : ∀ (s : Shared) (H : Hp) (C : Addr) (cl : List (Str × Addr)) (fp : List Addr), PE (X.blk s H scope (compEnvC scope cl C X.env) fp) vx tv) (hfs : ∀ x, foldedSetIterable iter X.env x = pure x := by intro _; rfl) :
    PE X (.DictComp kx vx [⟨tg, iter, [], 0⟩] scope pos) (tDcT wi g tk tv (own.map (·.2))) := by
  refine ⟨fun pins s σ H Q I h => ?_⟩
  rw [arm_eval_DictComp]
  refine dcT_core hu calm nd I hi ok hg hk hv hfs h fun D C s' m H' I' q hn f => ⟨m, hn, fun h'' sb => ?_⟩
  obtain ⟨f0, f1, f2, f3, f4, f5⟩ := f
  exact ⟨.ref D, H', I'.turned (t' := s'.toks) (fun b o hb e => (sb.2 b hb).trans e) f0 f1 f3 f4 f5, rfl, q⟩
/-- a name on the same line takes it, before the block's own names go -/
theorem ps_setDcT {X : Cx} {i : Nat} {y : Str} {py : Pos} {kx vx tg iter : Expr} {scope : Scope} {own : List (Str × Nat)} {pos spos : Pos} {wi : TI} {g : TG} {tk tv : TE} (hu : X.A.units < cLine) (calm : X.calm = true) (nd : X.N.Nodup) (at_ : X.N[i]? = some y) (loc : X.env.scope.names.lookup y = some .local)
    (sw : swapsWith (.DictComp kx vx [⟨tg, iter, [], 0⟩] scope pos) (some (.Name y py)) spos.line X.env = pure true) (hi : PI X tg iter wi) (ok : BlkOk X.N X.env.scope scope own)
    (hg : ∀ (s : Shared) (H : Hp) (C : Addr) (cl : List (Str × Addr)) (fp : List Addr), PG (X.blk s H scope (compEnvC scope cl C X.env) fp) tg g)
    (hk : ∀ (s : Shared) (H : Hp) (C : Addr) (cl : List (Str × Addr)) (fp : List Addr), PE (X.blk s H scope (compEnvC scope cl C X.env) fp) kx tk)
    (hv : ∀ (s : Shared) (H : Hp) (C : Addr) (cl : List (Str × Addr)) (fp : List Addr), PE (X.blk s H scope (compEnvC scope cl C X.env) fp) vx tv) (hfs : ∀ x, foldedSetIterable iter X.env x = pure x := by intro _; rfl) :
    PS X (.Assign [.Name y py] (.DictComp kx vx [⟨tg, iter, [], 0⟩] scope pos) spos) (tAsg (tDcT wi g tk tv (own.map (·.2))) (gName i)) := by
  refine ⟨fun pins s σ H D I h => ?_⟩
  rw [exec_Assign_Name_used _ _ _ _ sw]
  refine wpAny_bind (wpAny_standAt (wpAny_bind ?_))
  show wpAny _ X.A (do let _ ← comprehension (.DictComp kx vx [⟨tg, iter, [], 0⟩] scope pos) scope X.env (firstIterPos [⟨tg, iter, [], 0⟩] pos) newDict false (eval iter X.env) (some (assign (.Name y py) X.env))) _ _ s
  have h : tDcT wi g tk tv (own.map (·.2)) σ H (fun x H1 => gName i x σ H1 D.nx) := h
  refine wpAny_bind (thn (dcT_core (Qf := fun _ s' => SP X pins D .next s') hu calm nd I hi ok hg hk hv hfs h fun L C s' m H' I' q hn f => ?_) fun _ s' hq => wpAny_pure (wpAny_pure hq))
  show wpAny _ _ (assign (.Name y py) X.env (.ref L)) _ _ _
  refine wpAny_assign_Name (store_ok2 (v := V.ref L) I' nd at_ (.inl loc) rfl (fun s2 I2 ⟨a, sb, ha⟩ => ?_) (.inr loc))
  obtain ⟨f0, f1, f2, f3, f4, f5⟩ := f
  have apart : C ≠ a := by
    rcases ha with z | z
    · rw [z]
      exact f1
    · exact fun e => f4 y a z e.symm
  exact ⟨m, hn.sameBut sb apart, fun h3 sb3 => ⟨_, H', I2.turned (t' := s2.toks) (fun b o hb e => (sb3.2 b hb).trans e) f0 f1 f3 f4 f5, q⟩⟩
theorem swD_true {kx vx : Expr} {gs : List Comprehension} {scope : Scope} {pos py : Pos} {y : Str} {l : Nat} {env : Env} (hk : env.scope.kind = .function) (hy : env.scope.names.lookup y = some .local) (hl : (py.line == pos.line) = true)
    (ha : (scope.names.any fun (n, k) => n == y && (k == .local || k == .cell)) = false) : swapsWith (.DictComp kx vx gs scope pos) (some (.Name y py)) l env = pure true := by
  have ky : env.kindOf y = some .local := hy
  have hb : env.blockKind = .function := by unfold Env.blockKind; rw [hk]; rfl
  unfold swapsWith
  simp only [hb, ky, ha, Expr.pos, hl]
  rfl
theorem dcT_it {J : It} {n : Nat} {G : Hp → Prop} {Y : Nat → Hp → V → Hp → Prop} (w : Walk J n G Y) {g : TG} {tk tv : TE} {vs : List Nat} {σ : L2.St} {H1 : Hp} {D : Addr} {Qd : Hp → Prop} (Pv : Nat → Hp → Prop) (h0 : Pv 0 (upd H1 D (.dT []))) (hG : ∀ i H, i ≤ n → Pv i H → G H)
    (hs : ∀ i x H H', i < n → Pv i H → Y i H x H' → g x (wipe σ vs) H' fun σ2 H2 => wipe σ2 vs = wipe σ vs ∧ tk σ2 H2 fun y H3 => tv σ2 H3 fun z H4 => PutT D y z H4 (Pv (i + 1))) (hd : ∀ H, Pv n H → Qd H) :
    ∃ W : Nat → Nat → Hp → Prop, (∃ m, W 0 m (upd H1 D (.dT []))) ∧ ∀ i m H, W i m H → (J.stop i H ∧ Qd H) ∨ (J.go i H ∧ ∃ Nx : Hp → Prop, (∀ H', Nx H' → ∃ m', m' < m ∧ W (i + 1) m' H') ∧ ∀ x H', J.yld i H x H' → g x (wipe σ vs) H' fun σ2 H2 => wipe σ2 vs = wipe σ vs ∧ tk σ2 H2 fun y H3 => tv σ2 H3 fun z H4 => PutT D y z H4 Nx) := by
  refine ⟨fun i m H => m = n - i ∧ i ≤ n ∧ Pv i H, ⟨n, rfl, Nat.zero_le _, h0⟩, ?_⟩
  rintro i m H ⟨rfl, hi, pv⟩
  have hq := hG i H hi pv
  by_cases hlt : i < n
  · exact .inr ⟨w.goes i H hlt hq, Pv (i + 1), fun H' p' => ⟨n - (i + 1), by omega, rfl, hlt, p'⟩, fun x H' y => hs i x H H' hlt pv (w.yields i H x H' hlt hq y)⟩
  · obtain rfl : i = n := by omega
    exact .inl ⟨w.stops H hq, hd H pv⟩
end Pf


namespace Pf
open PySem PySem.Spec PyProof.Rows L2
/-! ### a list lengthened in its place -/
theorem lk_iadd : typeLookup (.type "list") (dunderI "add") = pure (some (.builtin "list.__iadd__")) := PySem.F.slot_list_iadd.lookup
theorem nf_list : fillsNumberSlot (.type "list") "add" = pure false := by kernel_rfl
theorem iadd_lst {M : Model} {A : Around} {E : Value → Shared → Prop} {s : Shared} {a b : Value} {Q : Value → Shared → Prop} (ha : s.TypeIs a "list") (hb : s.TypeIs b "list") (hc : wpAny M A (call (.builtin "list.__iadd__") [a, b]) Q E s) : wpAny M A (inplaceOp .Add a b) Q E s := by
  unfold inplaceOp
  refine wpAny_holding ?_
  have h1 : fillsInplaceSlot (.type "list") "add" (Operator.Add == .Add) = pure false := by
    unfold fillsInplaceSlot
    show (typeLookup (.type "list") (dunderI "add") >>= fun z => pure (z.isSome && !isSeqSlot z)) = pure false
    rw [lk_iadd]
    kernel_rfl
  have h2 : seqSlot? (.type "list") (dunderI "add") = pure (some (.builtin "list.__iadd__")) := PySem.seqSlot_of lk_iadd (by kernel_rfl)
  refine wpAny_bind (wpAny_typeOf ha (wpAny_bind (wpAny_of_eq h1 ?_)))
  show wpAny M A (if false = true then _ else _) Q E s
  rw [if_neg Bool.false_ne_true]
  exact wpAny_bind (wpAny_binaryOp1_none (nm := "add") ha hb nf_list (wpAny_bind (wpAny_of_eq h2 (wpAny_bind (wpAny_rule hc)))))
def rIext : TIp := fun x y H Q => ∃ l b xs zs, x = .ref l ∧ y = .ref b ∧ H l = some (.lst xs) ∧ H b = some (.lst zs) ∧ xs.length + zs.length ≤ sizeLine ∧ Q (.ref l) (upd H l (.lst (xs ++ zs)))
theorem ip_ext {X : Cx} : PIp X .Add rIext := by
  intro pins s σ H x y v u Q I rx ry h
  obtain ⟨l, b, xs, zs, rfl, rfl, hH, hB, hz, q⟩ := h
  cases rx
  cases ry
  obtain ⟨z, its, n, r, hl, e⟩ := I.lstM hH
  obtain ⟨z2, its2, n2, r2, hl2, e2⟩ := I.lstM hB
  have hs2 : its.toArray.size + its2.toArray.size ≤ sizeLine := by
    rw [List.size_toArray, List.size_toArray]
    omega
  have long : ¬ (!its.toArray.isEmpty && Builtin.List.listTooLong (its.toArray.size + its2.toArray.size)) = true := by
    rw [notLongL hs2, Bool.and_false]
    exact Bool.false_ne_true
  refine iadd_lst ⟨_, e, rfl⟩ ⟨_, e2, rfl⟩ (call_meets PySem.F.slot_list_iadd ⟨_, e, rfl⟩ PySem.F.entry_list_iadd (PySem.F.args_list_iadd_2 _ _) (AutoSeq1.list___iadd___list_list_0 l its.toArray n b its2.toArray n2 long (by rw [List.size_toArray]; omega) (by omega)) ⟨e, e2, ?_⟩)
  refine ⟨.ref l, _, I.lset (its' := its ++ its2) hH e (by simp) (r.append r2) ?_, rfl, q⟩
  rw [List.length_append]
  omega
end Pf


namespace Pf
open PySem PySem.Spec PyProof.Rows L2
/-! ### sorted of a dict by tuples -/
theorem obj_there {P : Program} {w : World} {H : Hp} {h : Heap} {a : Addr} {o : HO} (x : ObjOk P w H h a o) : ∃ u, h.get? a = some u := by
  cases o with
  | lst _ =>
    obtain ⟨_, _, _, _, e⟩ := x
    exact ⟨_, e⟩
  | tup _ =>
    obtain ⟨_, _, _, u, e, _⟩ := x
    exact ⟨u, e⟩
  | dK _ =>
    obtain ⟨_, _, _, _, u, _, _, e, _⟩ := x
    exact ⟨u, e⟩
  | dT _ =>
    obtain ⟨_, _, _, _, u, _, _, e, _⟩ := x
    exact ⟨u, e⟩
  | set _ _ =>
    obtain ⟨u, _, _, _, e, _⟩ := x
    exact ⟨u, e⟩
  | ins _ _ _ =>
    obtain ⟨_, _, _, e, _⟩ := x
    exact ⟨_, e⟩
  | own _ => exact x
  | xd _ =>
    obtain ⟨_, ⟨u, _, _, e, _⟩, _⟩ := x
    exact ⟨u, e⟩
  | rng _ _ =>
    obtain ⟨_, _, _, e⟩ := x
    exact ⟨_, e⟩
  | frz u _ => exact ⟨u, x.1⟩
  | tbl _ => exact ⟨_, x⟩
  | met _ _ => exact ⟨_, x⟩
  | ext _ => exact x.2.1
def rSortKT (K : PySem.W.Frag) : List V → Hp → VK → Prop := fun vs H Q => ∃ (d : Addr) (kvs : List (List Key × V)), vs = [.ref d] ∧ Rd H d (.dT kvs) ∧ ∀ bs : List Addr, IsKeys H kvs bs → ∃ (β : Type) (ad : β → Addr) (dd : β → PyData) (ys : List β), bs = ys.map ad ∧ (∀ y ∈ ys, Dp K H (.ref (ad y)) (dd y) ∧ (dd y).depth ≤ 50) ∧
  PySem.W.AllAlike (ys.map dd) ∧ PySem.W.Sortable (ys.map dd) ∧ ∀ p, H p = none → Q (.ref p) (upd H p (.lst ((ys.mergeSort (PySem.W.dataLe false dd)).map fun y => .ref (ad y))))
theorem cr_sortKT (K : PySem.W.Frag) {X : Cx} (calm : X.calm = true) (hu : X.A.units + 64 < cLine) (hK : X.K = K := by rfl) : CallR X (.builtin "sorted") (rSortKT K) := by
  subst hK
  intro pins s σ H vs us Q I r h
  obtain ⟨d, kvs, rfl, hd, q⟩ := h
  obtain ⟨u, rfl, er⟩ := vals1 r
  cases er
  obtain ⟨z, hs, ks, pr, o, es, ep, ho, hx, hdt, he, hn⟩ := (show ObjOk X.prog X.w H s.heap d (.dT kvs) from hd.ok I.hok)
  have l1 : es.size = ks.length := size_of_entries he
  have l2 : kvs.length = ks.length := Paired.length pr
  obtain ⟨β, ad, dd, ys, eys, hy, al, so, qq⟩ := q _ (isKeys_of pr)
  have hyl : ys.length = ks.length := by
    have := congrArg List.length eys
    rw [List.length_map, List.length_map] at this
    exact this.symm
  refine Calls.call_function_entry kind_sorted plain_sorted entry_sorted (args_sorted1 _) ?_
  unfold Builtin.«sorted»
  refine wpAny_bind (m := checkCount "sorted" 1 1 _) (wpAny_pure ?_)
  refine wpAny_bind (PySem.W.kdu_collect (kdl_raw hs hx hdt) (I.ok.hd calm) ho (by omega) fun h1 tk acc kp items => ?_)
  have ea : acc.toList = ys.map fun y => Value.ref (ad y) := by
    have e0 : (ks.map fun x => x.2.1).map Value.ref = ys.map fun y => Value.ref (ad y) := by
      rw [eys, List.map_map]
      rfl
    rw [← e0]
    refine List.ext_getElem? fun j => ?_
    rw [List.getElem?_map, List.getElem?_map]
    cases hj : acc.toList[j]? with
    | none =>
      have := List.getElem?_eq_none_iff.mp hj
      rw [Array.length_toList, items.1] at this
      rw [List.getElem?_eq_none (by omega)]
      rfl
    | some v =>
      obtain ⟨en, hen, hv⟩ := items.2 j v (by rw [← Array.getElem?_toList]; exact hj)
      have qe := entry_at he j
      rw [hen] at qe
      cases hb : ks[j]? with
      | none =>
        rw [hb] at qe
        exact nomatch (show some en = none from qe)
      | some b =>
        rw [hb] at qe
        rw [hv, Option.some.inj (show some en = some (entryOfKey (tupleKind (mixKind X.prog X.w)) b) from qe)]
        rfl
  have hz2 : acc.toList.length ≤ sizeLine := by
    rw [ea, List.length_map]
    omega
  refine wpAny_bind (wpAny_newList ?_ hz2)
  have hat : (h1.push (seqObj "list" acc.toList.toArray 0)).get? h1.objs.size = some (seqObj "list" acc.toList.toArray 0) := Heap.get?_push_size _ rfl
  have hlt : ∀ b ob, s.heap.get? b = some ob → b ≠ h1.objs.size := fun b ob e => Nat.ne_of_lt (Heap.lt_size (kp b ob e))
  have old : ∀ b ob, s.heap.get? b = some ob → (h1.push (seqObj "list" acc.toList.toArray 0)).get? b = some ob := fun b ob e => Heap.get?_push_of_some _ (kp b ob e)
  have rel : PySem.W.EachIs (fun (v : Value) (y : β) => RelV (V.ref (ad y)) v) acc.toList ys := by
    rw [ea]
    clear q qq eys hy al so hyl ea
    induction ys with
    | nil => exact .nil
    | cons y t ih => exact .cons rfl ih
  have rv : Vals (ys.map fun y => V.ref (ad y)) acc.toList := vals_each (v := fun y => V.ref (ad y)) rel
  have rd : PySem.W.EachIs (fun (v : Value) (y : β) => ∃ as, Reads (PySem.W.sortingHeap (h1.push (seqObj "list" acc.toList.toArray 0)) h1.objs.size acc.toList) v (dd y) as) acc.toList ys := (each_reads (v := fun y => V.ref (ad y)) I rv fun y hy' => (hy y hy').1).mono fun _ _ ⟨as, w⟩ => ⟨as, PyProof.Rows.Reads.keeps (fun b ob e => PySem.W.sortingHeap_old (hlt b ob e) (old b ob e)) w⟩
  have hub : ∀ y ∈ ys, X.A.in1.in1.units + (dd y).depth < cLine := fun y hy' => by
    have := (hy y hy').2
    show X.A.units + 2 + (dd y).depth < cLine
    omega
  have S := PySem.W.SortsAt.data (prog := X.prog) (w := X.w) (A := X.A.in1.in1) (s := { s with heap := PySem.W.sortingHeap (h1.push (seqObj "list" acc.toList.toArray 0)) h1.objs.size acc.toList, toks := tk }) (PySem.W.each_map (R := fun v d => ∃ as, Reads (PySem.W.sortingHeap (h1.push (seqObj "list" acc.toList.toArray 0)) h1.objs.size acc.toList) v d as) dd rd) al so (PySem.W.bound_map hub)
  refine wpAny_bind (wpAny_holding (wpAny_call_entry slot_list_sort ⟨_, hat, rfl⟩ entry_list_sort ?body (args_list_sort _)))
  case body =>
    refine PySem.W.list_sort_vals (s := { s with heap := h1.push (seqObj "list" acc.toList.toArray 0), toks := tk }) hat S hz2 ⟨_, rfl, wpAny_pure ⟨_, rfl, ?_⟩⟩
    have each := PySem.W.sortVals_data false rel rd al
    generalize PySem.W.sortVals (PySem.W.dataKind (PySem.W.sortingHeap (h1.push (seqObj "list" acc.toList.toArray 0)) h1.objs.size acc.toList) (ys.map dd)) false acc.toList acc.toList = out at each ⊢
    obtain ⟨ee, he'⟩ := PyProof.Rows.sortedHeap_at (vs := acc.toList) (out := out.toArray) hat
    have hl2 : ((ys.mergeSort (PySem.W.dataLe false dd)).map fun y => V.ref (ad y)).length ≤ sizeLine := by
      rw [List.length_map, List.length_mergeSort]
      omega
    have gone : s.heap.get? h1.objs.size = none := by
      cases e : s.heap.get? h1.objs.size with
      | none => rfl
      | some ob => exact absurd rfl (hlt _ ob e)
    have free : H h1.objs.size = none := by
      cases e : H h1.objs.size with
      | none => rfl
      | some u =>
        obtain ⟨ob, e2⟩ := obj_there (I.hok _ _ e)
        rw [gone] at e2
        cases e2
    exact ⟨.ref h1.objs.size, upd H h1.objs.size (.lst ((ys.mergeSort (PySem.W.dataLe false dd)).map fun y => V.ref (ad y))), I.laidN (t' := tk) (fun b ob e => by rw [PyProof.Rows.sortedHeap_old (hlt b ob e) (Heap.lt_size (old b ob e))]; exact old b ob e) gone free ⟨hl2, out, ee, vals_each (v := fun y => V.ref (ad y)) each, by simpa using he'⟩, rfl, qq _ free⟩
end Pf


namespace Pf
open PySem PySem.Spec PyProof.Rows L2
/-! ### a text so many times: some text of its letters, no longer than it may be -/
theorem rep_cps (x : Array Nat) : ∀ (n : Nat) (acc : Array Nat), (((List.replicate n x).foldl (· ++ ·) acc).size = acc.size + x.size * n) ∧ ∀ c ∈ ((List.replicate n x).foldl (· ++ ·) acc).toList, c ∈ acc.toList ∨ c ∈ x.toList
  | 0, acc => ⟨by rw [Nat.mul_zero]; rfl, fun c h => .inl h⟩
  | n + 1, acc => by
    have ih := rep_cps x n (acc ++ x)
    rw [List.replicate_succ, List.foldl_cons]
    refine ⟨?_, fun c h => ?_⟩
    · rw [ih.1, Array.size_append, Nat.mul_succ]
      omega
    · rcases ih.2 c h with z | z
      · rw [Array.toList_append, List.mem_append] at z
        exact z
      · exact .inr z
def rRepS : R2 := fun x y H Q => ∃ (z : Str) (k : Int), x = .str z ∧ y = .int k ∧ 0 ≤ k ∧ k ≤ 1000 ∧ z.length ≤ 1000 ∧ ∀ w : Str, w.length ≤ z.length * k.toNat → (∀ c ∈ w.cps.toList, c ∈ z.cps.toList) → Q (.str w) H
theorem op_repS {X : Cx} : OpR X (binaryOp .Mult) rRepS := by
  intro pins s σ H x y v u Q I rx ry h
  obtain ⟨z, k, rfl, rfl, k0, k1, hz, q⟩ := h
  obtain ⟨t, rfl⟩ := rx
  obtain ⟨t2, rfl⟩ := ry
  have hm : z.length * k.toNat ≤ 1000 * 1000 := Nat.mul_le_mul hz (by omega)
  have hbig : (z.length : Int) * k ≤ 1000 * 1000 := Int.mul_le_mul (by omega) k1 k0 (by decide)
  refine PySem.P.mul_str (by rw [decide_eq_false (by omega), decide_eq_false (by omega)]; rfl) (fun h1 _ z2 => ?_) (fun _ _ => ?_) ?_
  · have h3 : (1000 : Int) ≤ (2 ^ 63 - 1) / k := by
      rw [Int.le_ediv_iff_mul_le (by omega)]
      omega
    omega
  · unfold Builtin.Str.tooLong
    exact decide_eq_false (by rw [sizeLine_eq]; omega)
  · by_cases c1 : k < 1
    · rw [if_pos c1]
      exact ⟨by decide, .str Str.empty, H, I.tok _, ⟨_, rfl⟩, q _ (Nat.zero_le _) (fun c hc => by cases hc)⟩
    · rw [if_neg c1]
      by_cases c2 : (k == 1 || z.length == 0) = true
      · rw [if_pos c2]
        refine ⟨.str z, H, I, ⟨_, rfl⟩, q z ?_ fun _ hc => hc⟩
        exact Nat.le_mul_of_pos_right _ (by omega)
      · rw [if_neg c2]
        have hr := rep_cps z.cps k.toNat #[]
        have hl : (⟨(List.replicate k.toNat z.cps).foldl (· ++ ·) #[]⟩ : Str).length = z.length * k.toNat := by
          show ((List.replicate k.toNat z.cps).foldl (· ++ ·) #[]).size = _
          rw [hr.1]
          show 0 + z.length * k.toNat = _
          omega
        refine ⟨?_, .str _, H, I.tok _, ⟨_, rfl⟩, q _ (Nat.le_of_eq hl) fun c hc => ?_⟩
        · rw [hl, sizeLine_eq]
          omega
        · rcases hr.2 c hc with y | y
          · cases y
          · exact y
/-! ### a list under way -/
section
variable {β : Type} {R : Hp → V → β → Prop} {D : Addr} {H H1 H4 : Hp} {ys : List β} {v : V} {b : β}
def GenL (R : Hp → V → β → Prop) (D : Addr) (H1 : Hp) (ys : List β) (H : Hp) : Prop := ∃ vs, H D = some (.lst vs) ∧ Paired (R H) vs ys ∧ Ext H1 H
theorem genl_new (hD : H1 D = none) : GenL R D H1 [] (upd H1 D (.lst [])) := ⟨[], upd_same, .nil, Ext.new hD⟩
theorem GenL.ext (h : GenL R D H1 ys H) : Ext H1 H := by
  obtain ⟨_, _, _, k⟩ := h
  exact k
theorem GenL.keep (m : Mono R) (h : GenL R D H1 ys H) (k : Ext H H4) : GenL R D H1 ys H4 := by
  obtain ⟨vs, hL, hP, k1⟩ := h
  exact ⟨vs, k _ _ hL, paired_imp (fun _ _ => m _ _ _ _ (TupK.ext k)) hP, k1.trans k⟩
theorem genl_step (m : Mono R) (hD : H1 D = none) (h : GenL R D H1 ys H) (k : Ext H H4) (hv : R H4 v b) (hn : ys.length < 1000000) : ∃ acc, H4 D = some (.lst acc) ∧ acc.length < sizeLine ∧ GenL R D H1 (ys ++ [b]) (upd H4 D (.lst (acc ++ [v]))) := by
  obtain ⟨vs, hL, hP, k1⟩ := h
  have hl := paired_len hP
  have hL4 := k _ _ hL
  exact ⟨vs, hL4, szLt (by omega), vs ++ [v], upd_same, paired_app (paired_imp (fun _ _ => m _ _ _ _ ((TupK.ext k).trans (TupK.lst hL4))) hP) (.cons (m _ _ _ _ (TupK.lst hL4) hv) .nil), (k1.trans k).put hD⟩
/-- one more at its end -/
theorem app_ok {Q : VK} (m : Mono R) (hD : H1 D = none) (h : GenL R D H1 ys H) (k : Ext H H4) (hv : R H4 v b) (hn : ys.length < 1000000) (q : ∀ H', GenL R D H1 (ys ++ [b]) H' → Q .non H') : rAppend (.ref D) [v] H4 Q := by
  obtain ⟨acc, h1, h2, h3⟩ := genl_step m hD h k hv hn
  exact ⟨D, acc, v, rfl, rfl, h1, h2, q _ h3⟩
theorem GenL.sq {K : PySem.W.Frag} (h : GenL R D H1 ys H) : ∃ vs, SqL K H D vs := by
  obtain ⟨vs, h1, _⟩ := h
  exact ⟨vs, SqL.of h1⟩
end
theorem putT_len (c : List (List Key × V)) (k : List Key) (v : V) : (putK c k v).length ≤ c.length + 1 := by
  unfold putK
  split
  · rw [List.length_map]
    omega
  · rw [List.length_append, List.length_singleton]
    exact Nat.le_refl _
end Pf


namespace Pf
open PySem PySem.Spec PyProof.Rows L2
def topS (i : Nat) : Stmt := PySem.Challenge.pw_pairfolds_k50_shut_in_below_a_ridge.main.body.getD i (.Pass ⟨0, 0, 0, 0⟩)
/-! ### the pen: a list of cells, a place, a rest -/
def Pen (H : Hp) (p c : Addr) (n : Nat) : Prop := ∃ (cells : List Int) (a r : Int), H p = some (.lst [.ref c, .int a, .int r]) ∧ H c = some (.lst (cells.map V.int)) ∧ 0 ≤ a ∧ a ≤ n ∧ 0 ≤ r ∧ cells.length ≤ 63
section
variable {H H' : Hp} {p c q : Addr} {n m : Nat} {o : HO}
theorem Pen.mono (h : Pen H p c n) (l : n ≤ m) : Pen H p c m := by
  obtain ⟨cells, a, r, h1, h2, h3, h4, h5, h6⟩ := h
  exact ⟨cells, a, r, h1, h2, h3, by omega, h5, h6⟩
theorem Pen.put (h : Pen H p c n) (hp : q ≠ p) (hc : q ≠ c) : Pen (upd H q o) p c n := by
  obtain ⟨cells, a, r, h1, h2, h3⟩ := h
  exact ⟨cells, a, r, by rw [upd_ne hp.symm]; exact h1, by rw [upd_ne hc.symm]; exact h2, h3⟩
theorem Pen.ne (h : Pen H p c n) (hq : H q = none) : q ≠ p ∧ q ≠ c := by
  obtain ⟨cells, a, r, h1, h2, h3⟩ := h
  exact ⟨(ne_of_none h1 hq).symm, (ne_of_none h2 hq).symm⟩
theorem Pen.new (h : Pen H p c n) (hq : H q = none) : Pen (upd H q o) p c n := h.put (h.ne hq).1 (h.ne hq).2
theorem Pen.tup (h : Pen H p c n) {b : Addr} {xs : List V} (e : H b = some (.tup xs)) : b ≠ p := by
  obtain ⟨cells, a, r, h1, _⟩ := h
  exact ne_of e h1 (by intro z; cases z)
theorem Pen.frz (h : Pen H p c n) {b : Addr} {ob : Obj} {u : HO} (e : H b = some (.frz ob u)) : b ≠ p := by
  obtain ⟨cells, a, r, h1, _⟩ := h
  exact ne_of e h1 (by intro z; cases z)
theorem Pen.ext (h : Pen H p c n) (k : Ext H H') : Pen H' p c n := by
  obtain ⟨cells, a, r, h1, h2, h3⟩ := h
  exact ⟨cells, a, r, k _ _ h1, k _ _ h2, h3⟩
end
theorem TupK.of {p c : Addr} {n : Nat} {H H' : Hp} (k : Kp p H H') (hP : Pen H p c n) : TupK H H' := ⟨fun b _ e => k b _ (hP.tup e) e, fun b _ _ e => k b _ (hP.frz e) e⟩
theorem Kp.ext {p : Addr} {H H' : Hp} (k : Ext H H') : Kp p H H' := fun b o _ e => k b o e
theorem dpInts {K : PySem.W.Frag} {H : Hp} : ∀ cells : List Int, DpAll K H (cells.map V.int) (cells.map PyData.int)
  | [] => .nil
  | _ :: r => .cons (.int _) (dpInts r)
theorem cut_ints (ns : List Int) (lo hi : Option Int) : ∃ cs : List Int, cutV (ns.map V.int) lo hi = cs.map V.int ∧ cs.length ≤ ns.length := by
  unfold cutV
  refine ⟨(ns.drop _).take _, by rw [List.map_take, List.map_drop], ?_⟩
  rw [List.length_take, List.length_drop]
  omega
section
variable {P : Program} {w : World} {K : PySem.W.Frag} {mg : Str → Option Value} {base : Heap}
abbrev s_law_pen : Stmt := topS 30
theorem sc_law_pen : FnScope ["_law_script"] ["_law_script"] (defScope s_law_pen) :=
  ⟨rfl, rfl, rfl, by decide +kernel, rfl, by decide +kernel, by decide +kernel⟩
def spStart (K : PySem.W.Frag) : Sp := fun vs H Q _ => ∃ (a : Addr) (ns : List Int), vs = [.ref a] ∧ SqL K H a (ns.map V.int) ∧ ns.length ≤ 63 ∧ ∀ p c H', Pen H' p c 0 → Q (.ref p) H'
theorem ok_start {f : Addr} {fd : FuncData} {k : Nat} (F : Fun K "_law_pen" "_law_pen" s_law_pen f fd) (mlist : mg "list" = none) : FnOk P w K mg base CX0 (k + 1) f fd ["_law_script"] (spStart K) := by
  refine F.ok sc_law_pen (fun vs H Q E h => ?_) (fun cdv A outer s H vs Q E hr h => ?_)
  · obtain ⟨a, ns, rfl, _⟩ := h
    rfl
  · obtain ⟨a, ns, rfl, hS, hns, q⟩ := h
    refine ⟨_, (pss_one (ps_ret (pe_lst (pa_cons (pe_callTy (listOf K) (by rfl) mlist (by decide +kernel) (pa_cons (pe_slice (slL K) (pv 0) po_none (po_some pe_int)) pa_nil)) (pa_cons pe_int (pa_cons pe_int pa_nil)))))), ?_⟩
    obtain ⟨cs, hcs, hcl⟩ := cut_ints ns none (some 63)
    refine ⟨_, rfl, 63, rfl, a, _, rfl, hS, fun c0 hc0 => ?_⟩
    rw [hcs]
    refine ⟨c0, _, rfl, .inl (SqL.of upd_same), fun c hc => ⟨szL (show 3 ≤ 1000000 by decide), fun p hp => ?_⟩⟩
    refine q p c _ ⟨cs, 0, 0, upd_same, ?_, by decide, by decide, by decide, by omega⟩
    exact Ext.new hp _ _ upd_same
/-! ### draw -/
abbrev s_law_take : Stmt := topS 31
theorem sc_law_take : FnScope ["_law_pen_here", "_law_many", "_law_digit", "_law_nth", "_law_cell", "_law_stirred"] ["_law_pen_here", "_law_many"] (defScope s_law_take) :=
  ⟨rfl, rfl, rfl, by decide +kernel, rfl, by decide +kernel, by decide +kernel⟩
def spDraw : Sp := fun vs H Q _ => ∃ (p c : Addr) (m : Int) (n : Nat), vs = [.ref p, .int m] ∧ Pen H p c n ∧ n < 1000000 ∧ 0 < m ∧ m < 1000000 ∧
  ∀ r H', 0 ≤ r → r < m → Kp p H H' → Pen H' p c (n + 1) → Q (.int r) H'
theorem draw_b1 {z a : Int} (a0 : 0 ≤ a) (a1 : a ≤ 1000000) : (z % 2147483579 + 52021 * a * a + 33013 * a + 43).natAbs < 2 ^ 64 := by
  have h1 : 52021 * a * a ≤ 52021 * 1000000 * 1000000 := Int.mul_le_mul (by omega) a1 a0 (by decide)
  have h2 : 0 ≤ 52021 * a * a := Int.mul_nonneg (by omega) a0
  have h3 := Int.emod_nonneg z (show (2147483579 : Int) ≠ 0 by decide)
  have h4 := Int.emod_lt_of_pos z (show (0 : Int) < 2147483579 by decide)
  omega
theorem draw_b2 (z : Int) : -(2 ^ 64) < z % 2147483629 ∧ z % 2147483629 < 2 ^ 64 := by
  have h3 := Int.emod_nonneg z (show (2147483629 : Int) ≠ 0 by decide)
  have h4 := Int.emod_lt_of_pos z (show (0 : Int) < 2147483629 by decide)
  omega
theorem draw_b3 (z : Int) {a : Int} (a0 : 0 ≤ a) (a1 : a ≤ 1000000) : (z % 2147483629 * (2 * a + 5) + 70001).natAbs < 2 ^ 64 := by
  have h3 := Int.emod_nonneg z (show (2147483629 : Int) ≠ 0 by decide)
  have h4 := Int.emod_lt_of_pos z (show (0 : Int) < 2147483629 by decide)
  have h1 : z % 2147483629 * (2 * a + 5) ≤ 2147483629 * 2000005 := Int.mul_le_mul (by omega) (by omega) (by omega) (by decide)
  have h2 : 0 ≤ z % 2147483629 * (2 * a + 5) := Int.mul_nonneg h3 (by omega)
  omega
theorem ok_draw {f : Addr} {fd : FuncData} {k : Nat} (F : Fun K "_law_take" "_law_take" s_law_take f fd) (mlen : mg "len" = none) (mabs : mg "abs" = none) : FnOk P w K mg base CX0 (k + 1) f fd ["_law_pen_here", "_law_many"] spDraw := by
  refine F.ok sc_law_take (fun vs H Q E h => ?_) (fun cdv A outer s H vs Q E hr h => ?_)
  · obtain ⟨p, c, m, n, rfl, _⟩ := h
    rfl
  · obtain ⟨p, c, m, n, rfl, hP, hn, m0, m1, q⟩ := h
    obtain ⟨cells, a, r, hp, hc, a0, a1, r0, cl⟩ := hP
    refine ⟨_, (pss_cons (ps_if (pt_cmpR op_gt (pe_ix (ixL K) (pv 0) pe_int (fun _ _ => rfl)) pe_int (nomark _)) (pss_cons (ps_set (i := 2) sc_law_take.nd rfl (.inl rfl) (pe_op op_mod (pe_ix (ixL K) (pv 0) pe_int (fun _ _ => rfl)) (pv 1)))
      (pss_cons (ps_asg (pe_op op_fdiv (pe_ix (ixL K) (pv 0) pe_int (fun _ _ => rfl)) (pv 1)) (pg_sub (pv 0) pe_int set_list))
      (pss_one (ps_ret (pv 2))))) pss_nil)
      (pss_cons (ps_set (i := 3) sc_law_take.nd rfl (.inl rfl) (pe_ix (ixL K) (pv 0) pe_int (fun _ _ => rfl)))
      (pss_cons (ps_asg (pe_op op_add (pv 3) pe_int) (pg_sub (pv 0) pe_int set_list))
      (pss_cons (ps_set (i := 4) sc_law_take.nd rfl (.inl rfl) (pe_op op_add (pe_op op_mul pe_int (pv 3)) pe_int))
      (pss_cons (ps_if (pt_cmpR (neD K hr.units) (pe_ix (ixL K) (pv 0) pe_int (fun _ _ => rfl)) (pe_lst pa_nil) (nomark _)) (pss_one (ps_set (i := 4) sc_law_take.nd rfl (.inl rfl) (pe_ix (ixL K) (pe_ix (ixL K) (pv 0) pe_int (fun _ _ => rfl)) (pe_op op_mod (pv 3) (pe_callB (lenQ K) (by rfl) mlen (by decide +kernel) (pa_cons (pe_ix (ixL K) (pv 0) pe_int (fun _ _ => rfl)) pa_nil))) (fun _ _ => rfl)))) pss_nil)
      (pss_cons (ps_if (PW.pt (pw_and (pt_cmpR op_lt (pv 3) (pe_callB (lenQ K) (by rfl) mlen (by decide +kernel) (pa_cons (pe_ix (ixL K) (pv 0) pe_int (fun _ _ => rfl)) pa_nil)) (nomark _)) (pw_and1 (pt_cmpR op_ge (pe_callB call_abs (by rfl) mabs (by decide +kernel) (pa_cons (pv 4) pa_nil)) (pe_op op_pow pe_int pe_int) (nomark _))))) (pss_cons (ps_asg (pe_op op_fdiv (pe_callB call_abs (by rfl) mabs (by decide +kernel) (pa_cons (pv 4) pa_nil)) (pv 1)) (pg_sub (pv 0) pe_int set_list))
      (pss_one (ps_ret (pe_op op_mod (pe_callB call_abs (by rfl) mabs (by decide +kernel) (pa_cons (pv 4) pa_nil)) (pv 1))))) pss_nil)
      (pss_cons (ps_set (i := 5) sc_law_take.nd rfl (.inl rfl) (pe_op op_mod (pe_op op_pow (pe_op op_add (pe_op op_add (pe_op op_add (pe_op op_mod (pv 4) pe_int) (pe_op op_mul (pe_op op_mul pe_int (pv 3)) (pv 3))) (pe_op op_mul pe_int (pv 3))) pe_int) pe_int) pe_int))
      (pss_cons (ps_set (i := 5) sc_law_take.nd rfl (.inl rfl) (pe_op op_mod (pe_op op_pow (pe_op op_add (pe_op op_mul (pv 5) (pe_op op_add (pe_op op_mul pe_int (pv 3)) pe_int)) pe_int) pe_int) pe_int))
      (pss_one (ps_ret (pe_op op_mod (pe_op op_fdiv (pv 5) pe_int) (pv 1)))))))))))), ?_⟩
    have ncp : c ≠ p := ne_of hc hp (by
      intro z
      injection z with z
      cases cells with
      | nil => cases z
      | cons x y => injection z with z1 _; cases z1)
    -- if pen[2] > 0
    refine ⟨.ref p, rfl, p, _, 2, .int r, rfl, rfl, SqL.of hp, rfl, _, _, rfl, rfl, _, rfl, ite2 (fun e => ?_) (fun e => ?_)⟩
    · refine ⟨.ref p, rfl, p, _, 2, .int r, rfl, rfl, SqL.of hp, rfl, .int m, rfl, r, m, rfl, rfl, m0, ?_⟩
      refine ⟨.ref p, rfl, p, _, 2, .int r, rfl, rfl, SqL.of hp, rfl, .int m, rfl, r, m, rfl, rfl, ⟨m0, by omega⟩, .ref p, rfl, p, _, 2, 2, rfl, rfl, hp, rfl, ?_⟩
      refine ⟨_, rfl, q _ _ (Int.emod_nonneg _ (by omega)) (Int.emod_lt_of_pos _ m0) Kp.at ⟨cells, a, r / m, upd_same, ?_, a0, by omega, Int.ediv_nonneg r0 (by omega), cl⟩⟩
      rw [upd_ne ncp]
      exact hc
    · -- at = pen[1]; pen[1] = at + 1
      refine ⟨.ref p, rfl, p, _, 1, .int a, rfl, rfl, SqL.of hp, rfl, ?_⟩
      refine ⟨.int a, rfl, a, 1, rfl, rfl, .ref p, rfl, p, _, 1, 1, rfl, rfl, hp, rfl, ?_⟩
      have hp1 : (upd H p (.lst [.ref c, .int (a + 1), .int r])) p = some (.lst [.ref c, .int (a + 1), .int r]) := upd_same
      have hc1 : (upd H p (.lst [.ref c, .int (a + 1), .int r])) c = some (.lst (cells.map V.int)) := by
        rw [upd_ne ncp]
        exact hc
      -- cell = 8111 * at + 97
      refine ⟨.int a, rfl, 8111, a, rfl, rfl, .inl ⟨by decide, by decide⟩, _, 97, rfl, rfl, ?_⟩
      refine ⟨.ref p, rfl, p, _, 0, .ref c, rfl, rfl, SqL.of hp1, rfl, Nat.zero_le _, fun l hl => ?_⟩
      have nlp : l ≠ p := (ne_of_none hp1 hl).symm
      have nlc : l ≠ c := (ne_of_none hc1 hl).symm
      have hl0 : H l = none := by
        have h := hl
        rw [upd_ne nlp] at h
        exact h
      have hp2 : (upd (upd H p (.lst [.ref c, .int (a + 1), .int r])) l (.lst [])) p = some (.lst [.ref c, .int (a + 1), .int r]) := by
        rw [upd_ne nlp.symm]
        exact hp1
      have hc2 : (upd (upd H p (.lst [.ref c, .int (a + 1), .int r])) l (.lst [])) c = some (.lst (cells.map V.int)) := by
        rw [upd_ne nlc.symm]
        exact hc1
      have k2 : Kp p H (upd (upd H p (.lst [.ref c, .int (a + 1), .int r])) l (.lst [])) := Kp.at.put hl0
      refine ⟨.list (cells.map .int), .list [], .lst (SqL.of hc2) (dpInts cells), .lst (SqL.of upd_same) .nil, PySem.W.shaped_ints _, by decide, _, rfl, ite2 (fun e1 => ?_) (fun e1 => ?_)⟩
      have hne : 0 < cells.length := by
        cases cells with
        | nil => cases e1
        | cons x y => exact Nat.succ_pos _
      have hl1 : ((cells.map V.int).length : Int) = cells.length := by rw [List.length_map]
      obtain ⟨z, _, hat⟩ := atI_ints (ns := cells) (Int.emod_nonneg a (show ((cells.map V.int).length : Int) ≠ 0 by omega)) (by
        have := Int.emod_lt_of_pos a (show (0 : Int) < ((cells.map V.int).length : Int) by omega)
        omega)
      have hl2 : (0 : Int) < ((cells.map V.int).length : Int) := by omega
      refine ⟨.ref p, rfl, p, _, 0, .ref c, rfl, rfl, SqL.of hp2, rfl, .int a, rfl, .ref p, rfl, p, _, 0, .ref c, rfl, rfl, SqL.of hp2, rfl, c, _, rfl, .inl (SqL.of hc2), _, _, rfl, rfl, hl2, c, _, _, _, rfl, rfl, SqL.of hc2, hat, ?_⟩
      all_goals
        refine ⟨.int a, rfl, .ref p, rfl, p, _, 0, .ref c, rfl, rfl, SqL.of hp2, rfl, c, _, rfl, .inl (SqL.of hc2), _, _, rfl, rfl, _, rfl, ite2 (fun e2 => ?_) (fun e2 => ?_)⟩
        refine ⟨_, rfl, _, rfl, 10, 18, rfl, rfl, ⟨by decide, by decide, by decide⟩, _, _, rfl, rfl, _, rfl, ite2 (fun e3 => ?_) (fun e3 => ?_)⟩
        · refine ⟨_, rfl, _, rfl, .int m, rfl, _, m, rfl, rfl, ⟨m0, by omega⟩, .ref p, rfl, p, _, 2, 2, rfl, rfl, hp2, rfl, ?_⟩
          refine ⟨_, rfl, _, rfl, .int m, rfl, _, m, rfl, rfl, m0, q _ _ (Int.emod_nonneg _ (by omega)) (Int.emod_lt_of_pos _ m0) (k2.trans Kp.at) ⟨cells, a + 1, _, upd_same, ?_, by omega, by omega, Int.ediv_nonneg ?_ (by omega), cl⟩⟩
          · rw [upd_ne ncp]
            exact hc2
          · split <;> omega
        all_goals
          have ha2 : 52021 * a ≤ 52021 * 1000000 := by omega
          have ha3 : 0 ≤ 52021 * a := by omega
          refine ⟨_, rfl, _, 2147483579, rfl, rfl, (show (0 : Int) < 2147483579 by decide), .int a, rfl, 52021, a, rfl, rfl, .inl ⟨by decide, by decide⟩, .int a, rfl, _, a, rfl, rfl, .inl ⟨by omega, by omega⟩, _, _, rfl, rfl, .int a, rfl, 33013, a, rfl, rfl, .inl ⟨by decide, by decide⟩, _, _, rfl, rfl, _, 43, rfl, rfl, _, 5, rfl, rfl, ⟨by decide, by decide, draw_b1 a0 (by omega)⟩, _, 2147483629, rfl, rfl, (show (0 : Int) < 2147483629 by decide), ?_⟩
          refine ⟨_, rfl, .int a, rfl, 2, a, rfl, rfl, .inl ⟨by decide, by decide⟩, _, 5, rfl, rfl, _, _, rfl, rfl, .inl (draw_b2 _), _, 70001, rfl, rfl, _, 3, rfl, rfl, ⟨by decide, by decide, draw_b3 _ a0 (by omega)⟩, _, 2147483549, rfl, rfl, (show (0 : Int) < 2147483549 by decide), ?_⟩
          refine ⟨_, rfl, _, 32, rfl, rfl, ⟨by decide, by decide⟩, .int m, rfl, _, m, rfl, rfl, m0, q _ _ (Int.emod_nonneg _ (by omega)) (Int.emod_lt_of_pos _ m0) k2 ⟨cells, a + 1, r, hp2, hc2, by omega, by omega, r0, cl⟩⟩
abbrev CDraw (P : Program) (w : World) (K : PySem.W.Frag) (mg : Str → Option Value) (base : Heap) : Prop := Ca P w K mg base 1 "_law_take" ["_law_pen_here", "_law_many"] spDraw
/-! ### a small worth -/
abbrev s_law_small : Stmt := topS 32
theorem sc_law_small : FnScope ["_law_pen_here", "_law_way"] ["_law_pen_here"] (defScope s_law_small) :=
  ⟨rfl, rfl, rfl, by decide +kernel, rfl, by decide +kernel, by decide +kernel⟩
def spWorth : Sp := fun vs H Q _ => ∃ (p c : Addr) (n : Nat), vs = [.ref p] ∧ Pen H p c n ∧ n + 2 < 1000000 ∧
  ∀ (i : Int) H', -99 ≤ i → i ≤ 99 → Kp p H H' → Pen H' p c (n + 2) → Q (.int i) H'
theorem ok_worth {f : Addr} {fd : FuncData} (F : Fun K "_law_small" "_law_small" s_law_small f fd) (c_law_take : CDraw P w K mg base) : FnOk P w K mg base CX0 2 f fd ["_law_pen_here"] spWorth := by
  refine F.ok sc_law_small (fun vs H Q E h => ?_) (fun cdv A outer s H vs Q E hr h => ?_)
  · obtain ⟨p, c, n, rfl, _⟩ := h
    rfl
  · obtain ⟨p, c, n, rfl, hP, hn, q⟩ := h
    refine ⟨_, (pss_cons (ps_set (i := 1) sc_law_small.nd rfl (.inl rfl) (pe_ca c_law_take (hr.mono (by decide)) (by rfl) (pa_cons (pv 0) (pa_cons pe_int pa_nil))))
      (pss_cons (ps_if (pt_cmpR op_eq (pv 1) pe_int (nomark _)) (pss_one (ps_ret (pe_ix (ixL K) (pe_lst (pa_cons pe_int (pa_cons (pe_un un_neg pe_int) pa_nil))) (pe_ca c_law_take (hr.mono (by decide)) (by rfl) (pa_cons (pv 0) (pa_cons pe_int pa_nil))) (fun _ _ => rfl)))) pss_nil)
      (pss_one (ps_ret (pe_op op_sub (pe_ca c_law_take (hr.mono (by decide)) (by rfl) (pa_cons (pv 0) (pa_cons pe_int pa_nil))) (pe_ix (ixL K) (pe_lst (pa_cons pe_int (pa_cons pe_int (pa_cons pe_int (pa_cons pe_int pa_nil))))) (pe_op op_mod (pv 1) pe_int) (fun _ _ => rfl))))))), ?_⟩
    refine ⟨_, rfl, p, c, 12, n, rfl, hP, by omega, by decide, by decide, fun r1 H1 r1a r1b k1 hP1 => ?_⟩
    refine ⟨_, rfl, rfl, _, rfl, ite2 (fun e => ?_) (fun e => ?_)⟩
    · refine ⟨99, rfl, szL (show 2 ≤ 1000000 by decide), fun l hl => ?_⟩
      refine ⟨_, rfl, p, c, 2, n + 1, rfl, hP1.new hl, by omega, by decide, by decide, fun r2 H2 r2a r2b k2 hP2 => ?_⟩
      obtain ⟨z, hz, hat⟩ := atI_ints (ns := [99, -99]) r2a r2b
      have hz2 : -99 ≤ z ∧ z ≤ 99 := by
        simp only [List.mem_cons, List.not_mem_nil, or_false] at hz
        omega
      exact ⟨l, _, r2, _, rfl, rfl, SqL.of (k2 _ _ (hP1.ne hl).1 upd_same), hat, q z _ hz2.1 hz2.2 ((k1.trans (Kp.new hl)).trans k2) hP2⟩
    · refine ⟨_, rfl, p, c, 9, n + 1, rfl, hP1, by omega, by decide, by decide, fun r2 H2 r2a r2b k2 hP2 => ?_⟩
      refine ⟨szL (show 4 ≤ 1000000 by decide), fun l hl => ?_⟩
      have m0 := Int.emod_nonneg r1 (show (4 : Int) ≠ 0 by decide)
      have m1 := Int.emod_lt_of_pos r1 (show (0 : Int) < 4 by decide)
      obtain ⟨z, hz, hat⟩ := atI_ints (ns := [4, 4, 6, 1]) m0 m1
      have hz2 : 1 ≤ z ∧ z ≤ 6 := by
        simp only [List.mem_cons, List.not_mem_nil, or_false] at hz
        omega
      refine ⟨_, rfl, _, 4, rfl, rfl, (show (0 : Int) < 4 by decide), l, _, _, _, rfl, rfl, SqL.of upd_same, hat, _, _, rfl, rfl, ?_⟩
      exact q (r2 - z) _ (by omega) (by omega) ((k1.trans k2).trans (Kp.new hl)) (hP2.new hl)
abbrev CWorth (P : Program) (w : World) (K : PySem.W.Frag) (mg : Str → Option Value) (base : Heap) : Prop := Ca P w K mg base 2 "_law_small" ["_law_pen_here"] spWorth
end
end Pf


namespace Pf
open PySem PySem.Spec PyProof.Rows L2
/-! ### dict(zip(a, b)) of two tuples -/
section
variable {P : Program} {w : World} {A : Around} {E : Value → Shared → Prop} {s : Shared} {q U O G j1 j2 m1 m2 : Addr} {f : Bool} {og : Obj} {k1 k2 : Nat} {us vs : Array Value}
theorem zn_item {u v : Value} {R : Value → Shared → Prop} (D : ZipApart q U O j1 j2 m1 m2) (hq : IsZipHeld s.heap q U O G f) (hG : s.heap.get? G = some og) (hU : IsPair s.heap U (.ref j1) (.ref j2)) (t1 : s.heap.IsTupleIter j1 m1 k1) (t2 : s.heap.IsTupleIter j2 m2 k2) (b1 : s.heap.IsTuple m1 us) (b2 : s.heap.IsTuple m2 vs) (eu : us[k1]? = some u) (ev : vs[k2]? = some v)
    (next : ∀ h', IsZipHeld h' q U O G true → h'.IsTupleIter j1 m1 (k1 + 1) → h'.IsTupleIter j2 m2 (k2 + 1) → IsPair h' s.heap.objs.size u v → (∀ c o, c ≠ q → c ≠ j1 → c ≠ j2 → s.heap.get? c = some o → h'.get? c = some o) → R (.ref s.heap.objs.size) { s with heap := h' }) :
    wpAny (model P w) A (Builtin.«zip.__next__» ⟨[.ref q], []⟩) (fun fin s' => ∃ v, fin = .done (.ret v) ∧ R v s') E s := by
  show wpAny _ _ (field (.ref q) 2 >>= _) _ _ _
  refine wpAny_bind (wpAny_field hq rfl (x := .bool false) rfl ?_)
  show wpAny _ _ (field (.ref q) 3 >>= _) _ _ _
  refine wpAny_bind (wpAny_field hq rfl (x := .ref U) rfl (wpAny_bind (wpAny_seqItems hU rfl ?_)))
  show wpAny _ _ (Builtin.SmallTypes.ownedTupleIsFree (.ref q) >>= _) _ _ _
  refine wpAny_bind (wpAny_tupleHeld_zip hq hG fun g1 q1 e1 => ?_)
  simp only [Bool.false_eq_true, if_false]; refine wpAny_bind ?_; rw [← Array.forIn_toList]; simp only [List.forIn_cons, List.forIn_nil]
  refine wpAny_bind (wpAny_bind (wpAny_holding ?_))
  show wpAny _ _ (Builtin.SmallTypes.nextOf (.ref j1) >>= _) _ _ _
  refine wpAny_bind (RZ.nextOf_tuple_item (s := { s with heap := g1 }) (t1.extBut e1.extBut D.i1z) (b1.extBut e1.extBut D.l1z) eu fun g2 t1b e2 => wpAny_pure (wpAny_pure ?_))
  refine wpAny_bind (wpAny_bind (wpAny_holding ?_))
  show wpAny _ _ (Builtin.SmallTypes.nextOf (.ref j2) >>= _) _ _ _
  refine wpAny_bind (RZ.nextOf_tuple_item (s := { s with heap := g2 }) ((t2.extBut e1.extBut D.i2z).extBut e2.extBut D.i12.symm) ((b2.extBut e1.extBut D.l2z).extBut e2.extBut D.l2i1) ev fun g3 t2b e3 => wpAny_pure (wpAny_pure (wpAny_pure ?_)))
  show wpAny _ _ (newTuple [u, v] >>= _) _ _ _
  refine wpAny_bind (wpAny_newTuple (wpAny_pure ⟨_, rfl, ?_⟩))
  have sz : g3.objs.size = s.heap.objs.size := by rw [e3.1, e2.1, e1.1]
  have q3 : IsZipHeld g3 q U O G true := e3.extBut _ _ D.i2z.symm (e2.extBut _ _ D.i1z.symm q1)
  have pr : IsPair (g3.push { cls := .type "tuple", data := .seq #[u, v] }) g3.objs.size u v := Heap.get?_push_size _ rfl
  show R (.ref g3.objs.size) _
  rw [sz] at pr ⊢
  exact next _ (Heap.get?_push_of_some _ q3) ((t1b.extBut e3.extBut D.i12).at fun o e => Heap.get?_push_of_some _ e) (t2b.at fun o e => Heap.get?_push_of_some _ e) pr fun c o c1 c2 c3 e => Heap.get?_push_of_some _ (e3.extBut _ _ c3 (e2.extBut _ _ c2 (e1.extBut _ _ c1 e)))
theorem zn_end {R : Fin → Shared → Prop} (hh : A.handled = none) (D : ZipApart q U O j1 j2 m1 m2) (hq : IsZipHeld s.heap q U O G f) (hG : s.heap.get? G = some og) (hU : IsPair s.heap U (.ref j1) (.ref j2)) (t1 : s.heap.IsTupleIter j1 m1 k1) (b1 : s.heap.IsTuple m1 us) (eu : us[k1]? = none)
    (next : ∀ h' e, (∀ c o, c ≠ q → c ≠ j1 → s.heap.get? c = some o → h'.get? c = some o) → (∃ o, h'.get? e = some o ∧ o.cls = .type "StopIteration") → E (.ref e) { s with heap := h' }) :
    wpAny (model P w) A (Builtin.«zip.__next__» ⟨[.ref q], []⟩) R E s := by
  show wpAny _ _ (field (.ref q) 2 >>= _) _ _ _
  refine wpAny_bind (wpAny_field hq rfl (x := .bool false) rfl ?_)
  show wpAny _ _ (field (.ref q) 3 >>= _) _ _ _
  refine wpAny_bind (wpAny_field hq rfl (x := .ref U) rfl (wpAny_bind (wpAny_seqItems hU rfl ?_)))
  show wpAny _ _ (Builtin.SmallTypes.ownedTupleIsFree (.ref q) >>= _) _ _ _
  refine wpAny_bind (wpAny_tupleHeld_zip hq hG fun g1 q1 e1 => ?_)
  simp only [Bool.false_eq_true, if_false]; refine wpAny_bind ?_; rw [← Array.forIn_toList]; simp only [List.forIn_cons, List.forIn_nil]
  refine wpAny_bind (wpAny_bind (wpAny_holding ?_))
  show wpAny _ _ (Builtin.SmallTypes.nextOf (.ref j1) >>= _) _ _ _
  exact wpAny_bind (RZ.nextOf_tuple_end (s := { s with heap := g1 }) hh (t1.extBut e1.extBut D.i1z) (b1.extBut e1.extBut D.l1z) eu fun g2 e e2 he => next g2 e (fun c o c1 c2 x => e2 _ _ c2 (e1.extBut _ _ c1 x)) he)
theorem zp_item {u v : Value} {R : Option Value → Shared → Prop} (D : ZipApart q U O j1 j2 m1 m2) (hq : IsZipHeld s.heap q U O G f) (hG : s.heap.get? G = some og) (hU : IsPair s.heap U (.ref j1) (.ref j2)) (t1 : s.heap.IsTupleIter j1 m1 k1) (t2 : s.heap.IsTupleIter j2 m2 k2) (b1 : s.heap.IsTuple m1 us) (b2 : s.heap.IsTuple m2 vs) (eu : us[k1]? = some u) (ev : vs[k2]? = some v)
    (next : ∀ h', IsZipHeld h' q U O G true → h'.IsTupleIter j1 m1 (k1 + 1) → h'.IsTupleIter j2 m2 (k2 + 1) → IsPair h' s.heap.objs.size u v → (∀ c o, c ≠ q → c ≠ j1 → c ≠ j2 → s.heap.get? c = some o → h'.get? c = some o) → R (some (.ref s.heap.objs.size)) { s with heap := h' }) :
    wpAny (model P w) A (pyNext (.ref q)) R E s := by
  have ty : s.TypeIs (.ref q) "zip" := ⟨_, hq, rfl⟩
  unfold pyNext
  exact wpAny_bind (wpAny_attempt (wpAny_callSpecial?_slot (name := Str.ofString "__next__") ty F.slot_zip_next (wpAny_call_entry F.slot_zip_next ty F.entry_zip_next (zn_item D hq hG hU t1 t2 b1 b2 eu ev fun h' a1 a3 a4 a5 a7 => wpAny_pure (next h' a1 a3 a4 a5 a7)) (F.args_zip_next_1 _))))
theorem zp_end {R : Option Value → Shared → Prop} (hh : A.handled = none) (D : ZipApart q U O j1 j2 m1 m2) (hq : IsZipHeld s.heap q U O G f) (hG : s.heap.get? G = some og) (hU : IsPair s.heap U (.ref j1) (.ref j2)) (t1 : s.heap.IsTupleIter j1 m1 k1) (b1 : s.heap.IsTuple m1 us) (eu : us[k1]? = none)
    (next : ∀ h', (∀ c o, c ≠ q → c ≠ j1 → s.heap.get? c = some o → h'.get? c = some o) → R none { s with heap := h' }) : wpAny (model P w) A (pyNext (.ref q)) R E s := by
  have ty : s.TypeIs (.ref q) "zip" := ⟨_, hq, rfl⟩
  unfold pyNext
  refine wpAny_bind (wpAny_attempt (wpAny_callSpecial?_slot (name := Str.ofString "__next__") ty F.slot_zip_next (wpAny_call_entry F.slot_zip_next ty F.entry_zip_next (zn_end hh D hq hG hU t1 b1 eu fun h' e kp ⟨o, ho, hc⟩ => ?_) (F.args_zip_next_1 _))))
  exact wpAny_bind (wpAny_isInstance (T := "StopIteration") (b := true) ⟨o, ho, hc⟩ isSubtype_stop (wpAny_pure (next _ kp)))
end
theorem zipT_arg {P : Program} {w : World} (q U O j1 j2 m1 m2 : Addr) (D : ZipApart q U O j1 j2 m1 m2) (us vs : Array Value) (hl : us.size = vs.size) :
    PairArg P w "zip" q [q, U, O, j1, j2, m1, m2] [q, O, j1, j2] us.size (fun i k v => us[i]? = some k ∧ vs[i]? = some v)
      (fun h => IsZip h q U O .none ∧ IsPair h U (.ref j1) (.ref j2) ∧ (∃ a b, IsPair h O a b) ∧ h.IsTupleIter j1 m1 0 ∧ h.IsTupleIter j2 m2 0 ∧ h.IsTuple m1 us ∧ h.IsTuple m2 vs) where
  type := fun s ok => ⟨_, ok.1, rfl⟩
  notDict := by decide
  keep := fun h h' ⟨z0, z1, ⟨a, b, z2⟩, z3, z4, z5, z6⟩ k => ⟨k _ _ z0, k _ _ z1, ⟨a, b, k _ _ z2⟩, z3.at fun o e => k _ o e, z4.at fun o e => k _ o e, z5.at fun o e => k _ o e, z6.at fun o e => k _ o e⟩
  there := fun h ⟨z0, z1, ⟨a, b, z2⟩, ⟨_, z3, _⟩, ⟨_, z4, _⟩, ⟨_, z5, _⟩, ⟨_, z6, _⟩⟩ c hc => by
    simp only [List.mem_cons, List.not_mem_nil, or_false] at hc
    rcases hc with rfl | rfl | rfl | rfl | rfl | rfl | rfl
    · exact ⟨_, z0⟩
    · exact ⟨_, z1⟩
    · exact ⟨_, z2⟩
    · exact ⟨_, z3⟩
    · exact ⟨_, z4⟩
    · exact ⟨_, z5⟩
    · exact ⟨_, z6⟩
  sub := fun b hb => by simp only [List.mem_cons, List.not_mem_nil, or_false] at hb ⊢; rcases hb with rfl | rfl | rfl | rfl <;> simp
  noKeys := fun A s Q E hA ok h => getAttrOr_miss_zip ok.1 rfl rfl rfl zip_no_keys (by decide +kernel) hA h
  iter := fun A s d Q E hA ⟨z0, z1, ⟨a, b, z2⟩, z3, z4, z5, z6⟩ hd hdf h => by
    simp only [List.mem_cons, List.not_mem_nil, or_false, not_or] at hdf
    obtain ⟨d0, d1, d2, d3, d4, d5, d6⟩ := hdf
    refine wpAny_pyIter_zip z0 (h q [q, O, j1, j2] (fun i h => IsPair h U (.ref j1) (.ref j2) ∧ h.IsTupleIter j1 m1 i ∧ h.IsTupleIter j2 m2 i ∧ h.IsTuple m1 us ∧ h.IsTuple m2 vs ∧ ((IsZip h q U O .none ∧ ∃ a b, IsPair h O a b) ∨ ∃ G f og, IsZipHeld h q U O G f ∧ h.get? G = some og ∧ G ≠ q ∧ G ≠ j1 ∧ G ≠ j2 ∧ G ≠ d)) s.heap s.toks ?_ ⟨z1, z3, z4, z5, z6, .inl ⟨z0, a, b, z2⟩⟩ (fun _ _ e => e) fun b hb => .inl hb)
    refine { off := fun hm => ?_, frame := fun i g1 g2 st k => ?_, item := fun i s1 Q1 E1 hi st hds next => ?_, done := fun s1 Q1 E1 st next => ?_ }
    · simp only [List.mem_cons, List.not_mem_nil, or_false] at hm
      rcases hm with e | e | e | e
      · exact d0 e
      · exact d2 e
      · exact d3 e
      · exact d4 e
    · obtain ⟨y1, y3, y4, y5, y6, y⟩ := st
      refine ⟨k _ _ (Ne.symm d1) y1, y3.at fun o e => k _ o (Ne.symm d3) e, y4.at fun o e => k _ o (Ne.symm d4) e, y5.at fun o e => k _ o (Ne.symm d5) e, y6.at fun o e => k _ o (Ne.symm d6) e, ?_⟩
      rcases y with ⟨y0, a, b, y2⟩ | ⟨G, f, og, y0, yG, r1, r2, r3, r4⟩
      · exact .inl ⟨k _ _ (Ne.symm d0) y0, a, b, k _ _ (Ne.symm d2) y2⟩
      · exact .inr ⟨G, f, og, k _ _ (Ne.symm d0) y0, k _ _ r4 yG, r1, r2, r3, r4⟩
    · obtain ⟨y1, y3, y4, y5, y6, y⟩ := st
      have eu := Array.getElem?_eq_getElem hi
      have ev := Array.getElem?_eq_getElem (hl ▸ hi : i < vs.size)
      have lt : ∀ {c o}, s1.heap.get? c = some o → s1.heap.objs.size ≠ c := fun e => Nat.ne_of_gt (Heap.lt_size e)
      have n1 : s1.heap.objs.size ≠ j1 := let ⟨_, e, _⟩ := y3; lt e
      have n2 : s1.heap.objs.size ≠ j2 := let ⟨_, e, _⟩ := y4; lt e
      rcases y with ⟨y0, a, b, y2⟩ | ⟨G, f, og, y0, yG, r1, r2, r3, r4⟩
      · refine RZ.pyNext_zipT_item D y0 y1 y2 y3 y4 y5 y6 eu ev fun h' a1 a2 a3 a4 a5 a6 k => ?_
        refine next s1.heap.objs.size _ _ h' s1.toks ⟨eu, ev⟩ (.inl ⟨_, a5, rfl, _, rfl⟩) ⟨k _ _ D.TIz D.TITO D.TIi1 D.TIi2 y1, a3, a4, y5.at fun o e => k _ o D.l1z D.l1TO D.l1i1 D.l1i2 e, y6.at fun o e => k _ o D.l2z D.l2TO D.l2i1 D.l2i2 e, .inr ⟨s1.heap.objs.size, false, _, a1, a5, lt y0, n1, n2, Nat.ne_of_gt hds⟩⟩ fun c o hc e => ?_
        simp only [List.mem_cons, List.not_mem_nil, or_false, not_or] at hc
        exact k c o hc.1 hc.2.1 hc.2.2.1 hc.2.2.2 e
      · refine zp_item D y0 yG y1 y3 y4 y5 y6 eu ev fun h' a1 a3 a4 a5 k => ?_
        refine next s1.heap.objs.size _ _ h' s1.toks ⟨eu, ev⟩ (.inl ⟨_, a5, rfl, _, rfl⟩) ⟨k _ _ D.TIz D.TIi1 D.TIi2 y1, a3, a4, y5.at fun o e => k _ o D.l1z D.l1i1 D.l1i2 e, y6.at fun o e => k _ o D.l2z D.l2i1 D.l2i2 e, .inr ⟨G, true, og, a1, k _ _ r1 r2 r3 yG, r1, r2, r3, r4⟩⟩ fun c o hc e => ?_
        simp only [List.mem_cons, List.not_mem_nil, or_false, not_or] at hc
        exact k c o hc.1 hc.2.2.1 hc.2.2.2 e
    · obtain ⟨y1, y3, y4, y5, y6, y⟩ := st
      have eu : us[us.size]? = none := Array.getElem?_eq_none (Nat.le_refl _)
      rcases y with ⟨y0, a, b, y2⟩ | ⟨G, f, og, y0, yG, r1, r2, r3, r4⟩
      · refine RZ.pyNext_zipT_end hA D y0 y1 y2 y3 y4 y5 y6 (.inl eu) fun h' k => next h' s1.toks fun c o hc e => ?_
        simp only [List.mem_cons, List.not_mem_nil, or_false, not_or] at hc
        exact k c o hc.1 hc.2.1 hc.2.2.1 hc.2.2.2 e
      · refine zp_end hA D y0 yG y1 y3 y5 eu fun h' k => next h' s1.toks fun c o hc e => ?_
        simp only [List.mem_cons, List.not_mem_nil, or_false, not_or] at hc
        exact k c o hc.1 hc.2.2.1 e
theorem kv_zip {P : Program} {w : World} : ∀ {kvs : List (Key × V)} {its its2 : List Value}, Vals (kvs.map fun x => kV x.1) its → Vals (kvs.map (·.2)) its2 → ∃ prs : List (Key × Value), KV kvs prs ∧ prs.length = kvs.length ∧ ∀ (i : Nat) (key v : Value), its[i]? = some key → its2[i]? = some v → ∃ k, prs[i]? = some (k, v) ∧ (mixKind P w).is k key = true
  | [], _, _, r1, r2 => ⟨[], .nil, rfl, fun i key v e _ => by
      cases r1
      cases e⟩
  | (k, y) :: rest, _, _, r1, r2 => by
    rw [List.map_cons] at r1 r2
    cases r1 with
    | cons a1 t1 =>
      cases r2 with
      | cons a2 t2 =>
        obtain ⟨prs, r, hl, hp⟩ := kv_zip (P := P) (w := w) t1 t2
        refine ⟨(k, _) :: prs, .cons ⟨rfl, a2⟩ r, by rw [List.length_cons, List.length_cons, hl], fun i key v e e2 => ?_⟩
        cases i with
        | zero =>
          rw [List.getElem?_cons_zero] at e e2
          cases e
          cases e2
          exact ⟨k, rfl, kV_is a1⟩
        | succ i =>
          rw [List.getElem?_cons_succ] at e e2
          exact hp i key v e e2
def tDz (K : PySem.W.Frag) (ta : TA) : TE := fun σ H Q => ta σ H fun vs H1 => ∃ (a b : Addr) (kvs : List (Key × V)), vs = [.ref a, .ref b] ∧ SqT K H1 a (kvs.map fun x => kV x.1) ∧ SqT K H1 b (kvs.map (·.2)) ∧ ∀ p, H1 p = none → Q (.ref p) (upd H1 p (.dK (mergeK [] kvs)))
theorem pe_dictZip {X : Cx} {e e2 : Expr} {ta : TA} {p p2 pos pos2 : Pos} (hgd : Gl X "dict") (hmd : X.mg "dict" = none) (hg : Gl X "zip") (hm : X.mg "zip" = none) (hcalm : X.calm = true) (ha : PA X [e, e2] ta)
    (na : starEach [.Call (.Name "zip" p2) [e, e2] [] pos2] X.env = (false, eval (.Call (.Name "zip" p2) [e, e2] [] pos2) X.env) :: starEach [] X.env := by rfl)
    (hs : starEach [e, e2] X.env = (false, eval e X.env) :: starEach [e2] X.env := by rfl) (hpl : (backTo pos2 (starEach [e2] X.env)).any (·.1) = false := by rfl) :
    PE X (.Call (.Name "dict" p) [.Call (.Name "zip" p2) [e, e2] [] pos2] [] pos) (tDz X.K ta) := by
  refine ⟨fun pins s σ H Q I h => ?_⟩
  refine Call_ (ld_blt I hgd hmd PyProof.Rows.boot_dict (PyProof.Rows.callWith_type1 (args_cons (Call_ (ld_blt I hg hm PyProof.Rows.boot_zip (PyProof.Rows.callWith_type1 (thn (ha.run pos2 pins s σ H _ I h) fun us s1 ⟨vs, H1, I1, r1, q1⟩ => ?_) hs hpl))) na) na))
  obtain ⟨a, b, kvs, rfl, ha1, hb1, q⟩ := q1
  cases r1 with
  | cons ra rr =>
    cases rr with
    | cons rb rr =>
      cases rr
      cases ra
      cases rb
      obtain ⟨its, v1, p1, hz1⟩ := I1.tuple ha1
      obtain ⟨its2, v2, p2', hz2⟩ := I1.tuple hb1
      obtain ⟨o1, ho1, y1⟩ := id p1
      obtain ⟨o2, ho2, y2⟩ := id p2'
      obtain ⟨prs, rel, hl, hp⟩ := kv_zip (P := X.prog) (w := X.w) v1 v2
      have l1 : its.length = kvs.length := by
        have := v1.length
        rw [List.length_map] at this
        exact this.symm
      have l2 : its2.length = kvs.length := by
        have := v2.length
        rw [List.length_map] at this
        exact this.symm
      rw [List.length_map] at hz1
      refine RZ.call_zipT (show s1.heap.IsTuple a its.toArray from p1) (show s1.heap.IsTuple b its2.toArray from p2') fun h' hz hTI hTO t1 t2 hsz hk => args_nil ?_
      have D := PySem.W.ktu_apart s1.heap.objs.size a b (Heap.lt_size ho1) (Heap.lt_size ho2)
      refine PySem.call_dict_pairs (knd := mixKind X.prog X.w) (kvs := prs) (zipT_arg _ _ _ _ _ a b D its.toArray its2.toArray (by rw [List.size_toArray, List.size_toArray, l1, l2])) (I1.ok.hd hcalm) ⟨hz, hTI, ⟨_, _, hTO⟩, t1, t2, ⟨o1, hk _ _ ho1, y1⟩, ⟨o2, hk _ _ ho2, y2⟩⟩ ⟨?_, fun i key v e => ?_⟩ ?_ fun h2 tk hd hk2 => ?_
      · rw [hl, List.size_toArray, l1]
      · exact hp i key v (by simpa using e.1) (by simpa using e.2)
      · rw [List.size_toArray, l1]
        exact hz1
      · have keep : ∀ c o, s1.heap.get? c = some o → h2.get? c = some o := fun c o e => by
          have hlt := Heap.lt_size e
          refine hk2 c o (fun hm => ?_) (hk c o e)
          simp only [List.mem_cons, List.not_mem_nil, or_false] at hm
          rcases hm with z | z | z | z
          · exact Nat.not_lt.mpr (Nat.le_add_right _ _) (z ▸ hlt)
          · exact Nat.not_lt.mpr (Nat.le_add_right _ _) (z ▸ hlt)
          · exact Nat.not_lt.mpr (Nat.le_refl _) (z ▸ hlt)
          · exact Nat.not_lt.mpr (Nat.le_add_right _ _) (z ▸ hlt)
        have hle : s1.heap.objs.size ≤ h'.objs.size := by
          rw [hsz]
          exact Nat.le_add_right _ _
        have hm : (h'.objs.size == sysModules) = false := beq_eq_false_iff_ne.mpr (Nat.ne_of_gt (Nat.lt_of_lt_of_le I1.big hle))
        have hlen : (mergeK [] kvs).length ≤ sizeLine := by
          refine Nat.le_trans (length_mergeK kvs []) ?_
          rw [List.length_nil, Nat.zero_add]
          exact hz1
        exact ⟨.ref h'.objs.size, upd H1 h'.objs.size (.dK (mergeK [] kvs)), I1.laid (t' := tk) keep hle (show ObjOk X.prog X.w _ _ _ (.dK (mergeK [] kvs)) from ⟨hlen, hm, merged [] prs, KV.merge rel .nil, hd⟩), rfl, q _ (I1.hok.fresh hle)⟩
end Pf


namespace Pf
open PySem PySem.Spec PyProof.Rows L2
/-! ### sum(lists, start) -/
abbrev LiO (its : List Value) (n : Nat) : Obj := { cls := .type "list", dict := none, data := .seq its.toArray n, slots := #[] }
section
variable {P : Program} {w : World} {A : Around} {R : Result → Shared → Prop} {I l S : Addr} {items : Array Value}
theorem suml_loop (hh : A.in1.handled = none) (nIS : I ≠ S) (nIl : l ≠ I) (nSl : l ≠ S) : ∀ (rest : List (Addr × List Value)) (i : Nat) (s : Shared) (t : Addr) (acc : List Value) (c1 ct : Nat), items.size = i + rest.length → s.heap.IsListIter I l i → s.heap.IsList l items →
    (∀ (j : Nat) (x : Addr × List Value), rest[j]? = some x → items[i + j]? = some (.ref x.1) ∧ x.1 ≠ I ∧ x.1 ≠ S ∧ ∃ c, s.heap.get? x.1 = some (LiO x.2 c)) → s.heap.get? S = some (LiO [.ref t] c1) → s.heap.get? t = some (LiO acc ct) → t ≠ I → t ≠ S →
    acc.length + (rest.map (·.2)).flatten.length ≤ sizeLine →
    (∀ h' tk t' c', h'.get? t' = some (LiO (acc ++ (rest.map (·.2)).flatten) c') → (rest = [] → t' = t) → (rest ≠ [] → s.heap.objs.size ≤ t') → (∀ b o, b ≠ I → b ≠ S → s.heap.get? b = some o → h'.get? b = some o) → R (.ok (.ret (.ref t'))) { s with heap := h', toks := tk }) →
    codeAny (model P w) A (.builtin "sum.loop" ⟨[.ref I, .ref S, rawInt 2, rawInt 0], []⟩) R s
  | [], i, s, t, acc, c1, ct, hn, it, hl, _, hS, ht, _, _, _, hR => by
    refine codeAny_builtin F.entry_sum_loop ?_; rw [Around.under_plainId F.plain_sum_loop _]
    show wpAny _ A.in1 (seqItems? (.ref S) >>= _) _ _ _
    refine wpAny_bind (wpAny_seqItems hS rfl ?_)
    show wpAny _ A.in1 (tryCatch (pyNext (.ref I)) _ >>= _) _ _ _
    refine wpAny_bind (wpAny_tryCatch (wpAny_pyNext_list_end hh it hl (Array.getElem?_eq_none (by rw [hn]; exact Nat.le_refl _)) fun h' he => ?_))
    exact wpAny_pure (hR h' s.toks t ct (by rw [List.map_nil, List.flatten_nil, List.append_nil]; exact he t _ (by assumption) ht) (fun _ => rfl) (fun z => absurd rfl z) fun b o n1 _ e => he b o n1 e)
  | (b, ys) :: rest, i, s, t, acc, c1, ct, hn, it, hl, hx, hS, ht, ntI, ntS, hz, hR => by
    obtain ⟨e0, nbI, nbS, cb, hb⟩ := hx 0 (b, ys) rfl
    rw [List.map_cons, List.flatten_cons] at hR
    rw [List.map_cons, List.flatten_cons, List.length_append] at hz
    have hz : acc.length + (ys.length + (rest.map (·.2)).flatten.length) ≤ sizeLine := hz
    refine codeAny_builtin F.entry_sum_loop ?_; rw [Around.under_plainId F.plain_sum_loop _]
    show wpAny _ A.in1 (seqItems? (.ref S) >>= _) _ _ _
    refine wpAny_bind (wpAny_seqItems hS rfl ?_)
    show wpAny _ A.in1 (tryCatch (pyNext (.ref I)) _ >>= _) _ _ _
    refine wpAny_bind (wpAny_tryCatch (wpAny_pyNext_list_item it hl e0 fun h1 it1 s1 => ?_))
    have hS1 := s1.extBut _ _ nIS.symm hS
    have ht1 := s1.extBut _ _ ntI ht
    have hb1 := s1.extBut _ _ nbI hb
    show wpAny _ A.in1 ((holding [Value.ref b] (binaryOp .Add (.ref t) (.ref b))).attempt >>= _) _ _ _
    refine wpAny_bind (wpAny_attempt (wpAny_holding (PySem.P.add_list (n := ct) (n2 := cb) ht1 hb1 ?_ (by rw [List.size_toArray, List.size_toArray]; show acc.length + ys.length ≤ _; omega))))
    have ea : acc.toArray ++ ys.toArray = (acc ++ ys).toArray := by simp
    rw [ea]
    have sz1 : h1.objs.size = s.heap.objs.size := s1.1
    generalize hh2 : h1.push { cls := Value.type "list", data := Data.seq (acc ++ ys).toArray } = h2
    have up2 : ∀ c o, h1.get? c = some o → h2.get? c = some o := fun c o e => hh2 ▸ Heap.get?_push_of_some _ e
    have new2 : h2.get? h1.objs.size = some (LiO (acc ++ ys) 0) := hh2 ▸ Heap.get?_push_size _ rfl
    have sz2 : h2.objs.size = h1.objs.size + 1 := hh2 ▸ Heap.size_push ..
    have ltS : S < h1.objs.size := Heap.lt_size hS1
    have ltI : I < h1.objs.size := by
      obtain ⟨_, e, _⟩ := it1
      exact Heap.lt_size e
    show wpAny _ A.in1 (updateSeq S (fun _ => #[.ref h1.objs.size]) >>= _) _ _ _
    refine wpAny_bind (wpAny_updateSeq (up2 _ _ hS1) rfl ?_)
    have hS3 := Heap.get?_update_self (Obj.mapSeq fun _ => #[Value.ref h1.objs.size]) (up2 _ _ hS1) rfl
    refine wpAny_bind (wpAny_letGo ?_)
    refine wpAny_bind (wpAny_updateSeq hS3 rfl (wpAny_pure ⟨plainId_quiet F.plain_sum_loop _, ?_⟩))
    have hS4 := Heap.get?_update_self (Obj.mapSeq fun _ => #[Value.ref h1.objs.size]) hS3 rfl
    have up4 : ∀ c o, c ≠ S → h2.get? c = some o → ((h2.update S (Obj.mapSeq fun _ => #[Value.ref h1.objs.size])).update S (Obj.mapSeq fun _ => #[Value.ref h1.objs.size])).get? c = some o := fun c o n e => (Heap.get?_update_other _ _ n.symm).trans ((Heap.get?_update_other _ _ n.symm).trans e)
    have all : ∀ c o, c ≠ I → c ≠ S → s.heap.get? c = some o → ((h2.update S (Obj.mapSeq fun _ => #[Value.ref h1.objs.size])).update S (Obj.mapSeq fun _ => #[Value.ref h1.objs.size])).get? c = some o := fun c o n1 n2 e => up4 c o n2 (up2 _ _ (s1.extBut _ _ n1 e))
    refine suml_loop hh nIS nIl nSl rest (i + 1) { s with heap := (h2.update S (Obj.mapSeq fun _ => #[Value.ref h1.objs.size])).update S (Obj.mapSeq fun _ => #[Value.ref h1.objs.size]) } h1.objs.size (acc ++ ys) _ 0 ?_ ?_ ?_ (fun j x hj => ?_) hS4 (up4 _ _ (Nat.ne_of_gt ltS) new2) (Nat.ne_of_gt ltI) (Nat.ne_of_gt ltS) ?_ fun h' tk t' c' g1 g2 g3 g4 => ?_
    · rw [hn, List.length_cons]
      omega
    · exact it1.at fun o e => up4 _ _ nIS (up2 _ _ e)
    · exact hl.at fun o e => all _ _ nIl nSl e
    · obtain ⟨y1, y2, y3, c, y4⟩ := hx (j + 1) x hj
      exact ⟨by rw [show i + 1 + j = i + (j + 1) by omega]; exact y1, y2, y3, c, all _ _ y2 y3 y4⟩
    · rw [List.length_append]
      omega
    · refine hR h' tk t' c' (by rw [← List.append_assoc]; exact g1) (fun z => nomatch z) (fun _ => ?_) fun b o n1 n2 e => g4 b o n1 n2 (all _ _ n1 n2 e)
      cases hr : rest with
      | nil =>
        rw [g2 hr, sz1]
        exact Nat.le_refl _
      | cons y r =>
        have := g3 (by rw [hr]; intro z; cases z)
        have e4 : ((h2.update S (Obj.mapSeq fun _ => #[Value.ref h1.objs.size])).update S (Obj.mapSeq fun _ => #[Value.ref h1.objs.size])).objs.size = h2.objs.size := by
          rw [Heap.size_update, Heap.size_update]
        exact Nat.le_trans (by rw [← sz1, ← Nat.lt_succ_iff]; show h1.objs.size < _; rw [e4, sz2]; exact Nat.lt_succ_of_le (Nat.le_succ _)) this
end
theorem sub_ls : isSubtype (.type "list") (.type "str") = pure false := by rw [isSubtype_type]; kernel_rfl
theorem sub_lb : isSubtype (.type "list") (.type "bytes") = pure false := by rw [isSubtype_type]; kernel_rfl
theorem sub_la : isSubtype (.type "list") (.type "bytearray") = pure false := by rw [isSubtype_type]; kernel_rfl
theorem args_sum2 (a b : Value) : argsOk "sum" ⟨[a, b], []⟩ := by unfold argsOk; kernel_rfl
theorem lists_of {X : Cx} {pins : List (Addr × Obj)} {σ : L2.St} {H : Hp} {s : Shared} (I : Inv X pins σ H s) : ∀ {ls : List (Addr × List V)}, (∀ x ∈ ls, H x.1 = some (.lst x.2)) → ∃ rest : List (Addr × List Value), rest.map (·.1) = ls.map (·.1) ∧ Vals (ls.map (·.2)).flatten (rest.map (·.2)).flatten ∧ ∀ x ∈ rest, ∃ c, s.heap.get? x.1 = some (LiO x.2 c)
  | [], _ => ⟨[], rfl, .nil, fun x h => by cases h⟩
  | (a, ys) :: ls, h => by
    obtain ⟨rest, r1, r2, r3⟩ := lists_of I (ls := ls) fun x hx => h x (List.mem_cons_of_mem _ hx)
    obtain ⟨_, its, n, r, _, e⟩ := I.lstM (h (a, ys) (List.mem_cons_self ..))
    refine ⟨(a, its) :: rest, by rw [List.map_cons, List.map_cons, r1], ?_, fun x hx => ?_⟩
    · rw [List.map_cons, List.map_cons, List.flatten_cons, List.flatten_cons]
      exact r.append r2
    · rcases List.mem_cons.mp hx with rfl | hx
      · exact ⟨n, e⟩
      · exact r3 x hx
def rSumL (K : PySem.W.Frag) : List V → Hp → VK → Prop := fun vs H Q => ∃ (a b : Addr) (ls : List (Addr × List V)) (xs : List V), vs = [.ref a, .ref b] ∧ SqL K H a (ls.map fun x => .ref x.1) ∧ (∀ x ∈ ls, H x.1 = some (.lst x.2)) ∧ H b = some (.lst xs) ∧ xs.length + (ls.map (·.2)).flatten.length ≤ sizeLine ∧
  (ls = [] → Q (.ref b) H) ∧ (ls ≠ [] → ∀ p, H p = none → Q (.ref p) (upd H p (.lst (xs ++ (ls.map (·.2)).flatten))))
theorem cr_sumL (K : PySem.W.Frag) {X : Cx} (hcalm : X.calm = true) (hK : X.K = K := by rfl) : CallR X (.builtin "sum") (rSumL K) := by
  subst hK
  intro pins s σ H vs us Q I r h
  obtain ⟨a, b, ls, xs, rfl, ha, hls, hb, hz, q0, q1⟩ := h
  cases r with
  | cons ra rr =>
    cases rr with
    | cons rb rr =>
      cases rr
      cases ra
      cases rb
      obtain ⟨its, v1, pl, _⟩ := I.list ha
      obtain ⟨rest, r1, r2, r3⟩ := lists_of I hls
      obtain ⟨_, bs, nb, vb, _, eb⟩ := I.lstM hb
      have hl : s.heap.IsList a its.toArray := pl.isList
      have ei : its = rest.map fun x => Value.ref x.1 := by
        have e1 : (ls.map fun x => V.ref x.1) = (ls.map (·.1)).map V.ref := by rw [List.map_map]; rfl
        rw [e1] at v1
        rw [refs_at v1, ← r1, List.map_map]
        rfl
      refine call_function_tree F.kind_sum F.plain_sum F.entry_sum (args_sum2 _ _) ?_
      unfold Builtin.«sum»; simp only [List.length_cons, List.length_nil]; rw [if_neg (by decide)]
      refine wpAny_bind (wpAny_of_eq (show Builtin.Builtins.bindParams "sum" ["start"] 0 ⟨[.ref b], []⟩ = pure [some (.ref b)] from rfl) ?_)
      refine wpAny_bind (wpAny_pyIter_list hl ?_)
      have tb : ∀ tk, Shared.TypeIs { s with heap := s.heap.push { cls := .type "list_iterator", data := .fields #[.ref a, .int 0 0] }, toks := tk } (.ref b) "list" := fun _ => ⟨_, Heap.get?_push_of_some _ eb, rfl⟩
      refine wpAny_bind (wpAny_pure ?_)
      simp only [List.forIn_cons, List.forIn_nil]
      refine wpAny_bind (wpAny_bind (wpAny_bind (wpAny_isInstance (T := "list") (b := false) (tb _) sub_ls ?_))); simp only [Bool.false_eq_true, if_false]
      refine wpAny_pure (wpAny_bind (wpAny_bind (wpAny_isInstance (T := "list") (b := false) (tb _) sub_lb ?_))); simp only [Bool.false_eq_true, if_false]
      refine wpAny_pure (wpAny_bind (wpAny_bind (wpAny_isInstance (T := "list") (b := false) (tb _) sub_la ?_))); simp only [Bool.false_eq_true, if_false]
      refine wpAny_pure (wpAny_pure (wpAny_bind (wpAny_newObj_type (wpAny_pure ⟨plainId_quiet F.plain_sum_loop _, ?_⟩))))
      have lt : ∀ {c o}, s.heap.get? c = some o → c < s.heap.objs.size := fun e => Heap.lt_size e
      have la : a < s.heap.objs.size := pl.lt
      have lb : b < s.heap.objs.size := lt eb
      have sz : (s.heap.push { cls := .type "list_iterator", data := .fields #[.ref a, .int 0 0] }).objs.size = s.heap.objs.size + 1 := Heap.size_push ..
      have up : ∀ c o, s.heap.get? c = some o → ((s.heap.push { cls := .type "list_iterator", data := .fields #[.ref a, .int 0 0] }).push (LiO [.ref b] 0)).get? c = some o := fun c o e => Heap.get?_push_of_some _ (Heap.get?_push_of_some _ e)
      have off : ∀ {c}, c < s.heap.objs.size + 1 → c ≠ (s.heap.push { cls := .type "list_iterator", data := .fields #[.ref a, .int 0 0] }).objs.size := fun h => by
        rw [sz]
        exact Nat.ne_of_lt h
      refine suml_loop (P := X.prog) (w := X.w) (A := X.A) (I := s.heap.objs.size) (l := a) (S := (s.heap.push { cls := .type "list_iterator", data := .fields #[.ref a, .int 0 0] }).objs.size) (items := its.toArray) (I.ok.hd hcalm) (off (Nat.lt_succ_self _)) (Nat.ne_of_lt la) (off (Nat.lt_succ_of_lt la)) rest 0 { s with heap := (s.heap.push { cls := .type "list_iterator", data := .fields #[.ref a, .int 0 0] }).push (LiO [.ref b] 0) } b bs 0 nb ?_ ⟨_, Heap.get?_push_of_some _ (Heap.get?_push_size _ rfl), rfl, rfl⟩ (hl.at fun o e => up _ _ e) (fun j x hj => ?_) ?_ (up _ _ eb) (Nat.ne_of_lt lb) (off (Nat.lt_succ_of_lt lb)) ?_ fun h' tk t' c' g1 g2 g3 g4 => ?_
      · rw [List.size_toArray, ei, List.length_map, Nat.zero_add]
      · obtain ⟨c, hc⟩ := r3 x (List.mem_of_getElem? hj)
        have lx := lt hc
        refine ⟨?_, Nat.ne_of_lt lx, off (Nat.lt_succ_of_lt lx), c, up _ _ hc⟩
        rw [Nat.zero_add, List.getElem?_toArray, ei, List.getElem?_map, hj]
        rfl
      · exact Heap.get?_push_size _ rfl
      · have := r2.length
        have := vb.length
        omega
      · have keep : ∀ c o, s.heap.get? c = some o → h'.get? c = some o := fun c o e => g4 c o (Nat.ne_of_lt (lt e)) (off (Nat.lt_succ_of_lt (lt e))) (up c o e)
        cases hr : ls with
        | nil =>
          have hrest : rest = [] := by
            rw [hr] at r1
            cases rest with
            | nil => rfl
            | cons y z => cases r1
          rw [g2 hrest]
          exact ⟨.ref b, H, I.kept keep, rfl, q0 hr⟩
        | cons y z =>
          have hrest : rest ≠ [] := fun e => by
            rw [e, hr] at r1
            cases r1
          have hle : s.heap.objs.size ≤ t' := Nat.le_trans (by rw [Heap.size_push, Heap.size_push]; omega) (g3 hrest)
          refine ⟨.ref t', upd H t' (.lst (xs ++ (ls.map (·.2)).flatten)), I.laid keep hle (show ObjOk X.prog X.w _ _ _ (.lst (xs ++ (ls.map (·.2)).flatten)) from ⟨?_, bs ++ (rest.map (·.2)).flatten, c', vb.append r2, g1⟩), rfl, q1 (by rw [hr]; intro e; cases e) _ (I.hok.fresh hle)⟩
          rw [List.length_append]
          exact hz
/-! ### tuple(xs) of a list, its object known; dict(ps) of such a tuple of pairs -/
def rTupleFz (K : PySem.W.Frag) : List V → Hp → VK → Prop := fun xs H Q => ∃ p ys, xs = [.ref p] ∧ SqL K H p ys ∧ ∀ (l : Addr) (o : Obj), H l = none → o.dict = none → Q (.ref l) (upd H l (.frz o (.tup ys)))
theorem tupleFz (K : PySem.W.Frag) {X : Cx} (hK : X.K = K := by rfl) : CallR X (.type "tuple") (rTupleFz K) := by
  subst hK
  intro pins s σ H vs us Q I r h
  obtain ⟨p, ys, rfl, hs, q⟩ := h
  obtain ⟨u, rfl, rfl⟩ := vals1 r
  obtain ⟨its, rv, pl, hz⟩ := I.list hs
  refine call_tuple_list pl.isList (fun h' hk => ?_) (by rw [List.size_toArray, ← rv.length]; exact hz)
  have I1 : Inv X pins σ H { s with heap := h' } := I.kept (t' := s.toks) hk
  refine ⟨.ref h'.objs.size, _, I1.laid (t' := s.toks) (o := .frz { cls := .type "tuple", data := .seq its.toArray } (.tup ys)) (fun b o e => Heap.get?_push_of_some _ e) (Nat.le_refl _) ?_, rfl, q _ _ (I1.hok.fresh (Nat.le_refl _)) rfl⟩
  exact ⟨Heap.get?_push_size _ rfl, hz, its, rv, IsTup.new _ _⟩
theorem trips {X : Cx} {pins : List (Addr × Obj)} {σ : L2.St} {H : Hp} {s : Shared} (I : Inv X pins σ H s) : ∀ {ps : List Addr} {kvs : List (Key × V)}, Paired (fun p kv => SqT X.K H p [kV kv.1, kv.2]) ps kvs →
    ∃ tr : List (Key × Value × Value), tr.length = ps.length ∧ KV kvs (tr.map fun t => (t.1, t.2.2)) ∧ ∀ (j : Nat) (t : Key × Value × Value), tr[j]? = some t → ∃ b : Addr, ps[j]? = some b ∧ IsTup s.heap b #[t.2.1, t.2.2] ∧ (mixKind X.prog X.w).is t.1 t.2.1 = true
  | _, _, .nil => ⟨[], rfl, .nil, fun j t e => by simp at e⟩
  | _, _, .cons (a := p) (b := kv) h t => by
    obtain ⟨tr, hl, r, hp⟩ := trips I t
    obtain ⟨its, rv, ht, _⟩ := I.tuple h
    obtain ⟨u, y, ei, ru, ry⟩ := vals2 rv
    subst ei
    refine ⟨(kv.1, u, y) :: tr, by rw [List.length_cons, List.length_cons, hl], .cons ⟨rfl, ry⟩ r, fun j t e => ?_⟩
    cases j with
    | zero =>
      rw [List.getElem?_cons_zero] at e
      cases e
      exact ⟨p, rfl, ht, kV_is ru⟩
    | succ j =>
      rw [List.getElem?_cons_succ] at e
      obtain ⟨b, e1, e2⟩ := hp j t e
      exact ⟨b, by rw [List.getElem?_cons_succ]; exact e1, e2⟩
def rDictT (K : PySem.W.Frag) : List V → Hp → VK → Prop := fun xs H Q => ∃ (a : Addr) (o : Obj) (ps : List Addr) (kvs : List (Key × V)), xs = [.ref a] ∧ H a = some (.frz o (.tup (ps.map V.ref))) ∧ o.dict = none ∧ Paired (fun p kv => SqT K H p [kV kv.1, kv.2]) ps kvs ∧ ∀ p, H p = none → Q (.ref p) (upd H p (.dK (mergeK [] kvs)))
theorem dictT (K : PySem.W.Frag) {X : Cx} (hcalm : X.calm = true := by rfl) (hK : X.K = K := by rfl) : CallR X (.type "dict") (rDictT K) := by
  subst hK
  intro pins s σ H xs us Q I r h
  obtain ⟨a, o, ps, kvs, rfl, ha, hd, hp, q⟩ := h
  obtain ⟨u, rfl, rfl⟩ := vals1 r
  obtain ⟨e, hz, its, rv, o', e', hc, n, hdat⟩ := I.hok a _ ha
  have eo : o' = o := by
    rw [e] at e'
    exact (Option.some.inj e').symm
  subst eo
  obtain ⟨tr, hl, rel, htr⟩ := trips I hp
  have ei : its = ps.map Value.ref := refs_at rv
  rw [List.length_map] at hz
  refine PySem.call_dict_pairs (knd := mixKind X.prog X.w) (kvs := tr.map fun t => (t.1, t.2.2)) (PairArg.tuple a its.toArray (fun j => ps.getD j 0) (tr.map fun t => (t.2.1, t.2.2))) (I.ok.hd hcalm) ⟨⟨o', n, e, hc, hd, hdat⟩, ?_, fun j k v hj => ?_⟩ ⟨?_, fun i key v hi => ?_⟩ ?_ fun h' tk hd' k => ?_
  · rw [List.size_toArray, ei, List.length_map, List.length_map, hl]
  · rw [List.getElem?_map] at hj
    cases ht : tr[j]? with
    | none =>
      rw [ht] at hj
      cases hj
    | some t =>
      rw [ht] at hj
      cases hj
      obtain ⟨b, e1, e2, _⟩ := htr j t ht
      have eb : ps.getD j 0 = b := by
        rw [List.getD_eq_getElem?_getD, e1]
        rfl
      refine ⟨?_, .inl ?_⟩
      · rw [List.getElem?_toArray, ei, List.getElem?_map, e1]
        show some (Value.ref b) = some (Value.ref (ps.getD j 0))
        rw [eb]
      · show s.heap.IsTuple (ps.getD j 0) _
        rw [eb]
        exact e2
  · rw [List.length_map, List.length_map]
  · have hi : (tr.map fun t => (t.2.1, t.2.2))[i]? = some (key, v) := hi
    rw [List.getElem?_map] at hi
    cases ht : tr[i]? with
    | none =>
      rw [ht] at hi
      cases hi
    | some t =>
      rw [ht] at hi
      cases hi
      obtain ⟨b, _, _, e3⟩ := htr i t ht
      exact ⟨t.1, by rw [List.getElem?_map, ht]; rfl, e3⟩
  · rw [List.length_map, hl]
    exact hz
  · have hm : (s.heap.objs.size == sysModules) = false := beq_eq_false_iff_ne.mpr (Nat.ne_of_gt I.big)
    have hkl : kvs.length = ps.length := by
      have := rel.length
      rw [List.length_map, hl] at this
      exact this
    have hlen : (mergeK [] kvs).length ≤ sizeLine := by
      refine Nat.le_trans (length_mergeK kvs []) ?_
      rw [List.length_nil, Nat.zero_add, hkl]
      exact hz
    exact ⟨.ref s.heap.objs.size, upd H s.heap.objs.size (.dK (mergeK [] kvs)), I.laid (t' := tk) (fun b o e => k b o (fun z => nomatch z) e) (Nat.le_refl _) (show ObjOk X.prog X.w _ _ _ (.dK (mergeK [] kvs)) from ⟨hlen, hm, merged [] _, KV.merge rel .nil, hd'⟩), rfl, q _ (I.hok.fresh (Nat.le_refl _))⟩
end Pf


namespace Pf
open PySem PySem.Spec PyProof.Rows L2
theorem sum_len_le {m : Nat} : ∀ {ys : List Str}, (∀ y ∈ ys, y.length ≤ m) → (ys.map (·.length)).sum ≤ ys.length * m
  | [], _ => Nat.zero_le _
  | y :: r, h => by
    have h1 := h y (List.mem_cons_self ..)
    have h2 := sum_len_le (ys := r) fun x hx => h x (List.mem_cons_of_mem _ hx)
    rw [List.map_cons, List.sum_cons, List.length_cons, Nat.succ_mul]
    omega
theorem fits_join {ys : List Str} {k m : Nat} (hk : ys.length ≤ k) (h : ∀ y ∈ ys, y.length ≤ m) (hm : k * m ≤ 1000000) : (ys.map (·.length)).sum + ys.length * ("" : Str).length ≤ 16777216 := by
  have h1 := sum_len_le h
  have h2 : ys.length * m ≤ k * m := Nat.mul_le_mul_right m hk
  have h3 : ("" : Str).length = 0 := by decide +kernel
  rw [h3, Nat.mul_zero]
  omega
def Of (L x : Str) : Prop := ∀ c ∈ x.cps.toList, c ∈ L.cps.toList
theorem Of.small {L x : Str} (h : Of L x) (hs : Small L) : Small x := fun c hc => hs c (h c hc)
theorem Of.app {L a b : Str} (ha : Of L a) (hb : Of L b) : Of L (a ++ b) := fun c h => by
  rw [Str.cps_append, Array.toList_append, List.mem_append] at h
  exact h.elim (ha c) (hb c)
theorem of_nil (L : Str) : Of L "" := by
  have : ("" : Str).cps.toList = [] := by decide +kernel
  intro c hc
  rw [this] at hc
  cases hc
theorem sjoin_of {L : Str} : ∀ {ys : List Str}, (∀ y ∈ ys, Of L y) → Of L (Str.join "" ys)
  | [], _ => of_nil L
  | [y], h => h y (List.mem_cons_self ..)
  | y :: z :: r, h => ((h y (List.mem_cons_self ..)).app (of_nil L)).app (sjoin_of (ys := z :: r) fun x hx => h x (List.mem_cons_of_mem _ hx))
theorem cutS_of {L x : Str} (h : Of L x) (lo hi : Option Int) : Of L (cutS x lo hi) := fun c hc => by
  unfold cutS at hc
  exact h c (List.mem_of_mem_drop (List.mem_of_mem_take hc))
theorem cutS_one (x : Str) : (cutS x none (some 1)).length ≤ 1 := by
  show (((x.cps.toList.drop (HT.sIx x.length 0 none)).take (HT.sIx x.length x.length (some 1) - HT.sIx x.length 0 none)).toArray).size ≤ 1
  rw [List.size_toArray, List.length_take]
  have : HT.sIx x.length x.length (some ((1 : Nat) : Int)) = min 1 x.length := HT.sIx_nat _ _ _
  have h2 : HT.sIx x.length x.length (some (1 : Int)) = min 1 x.length := this
  rw [h2]
  omega
def evL (x : Str) (i : Nat) : List Str := (x.cps.toList.take i).flatMap fun a => x.cps.toList.map fun b => (⟨#[a]⟩ ++ ⟨#[b]⟩ : Str)
theorem none_of {p : Addr} {H H' : Hp} (k : Kp p H H') {b : Addr} (nb : b ≠ p) (h : H' b = none) : H b = none := by
  cases e : H b with
  | none => rfl
  | some o =>
    rw [k b o nb e] at h
    cases h
theorem sgn_at0 {x : Str} {i : Int} (h0 : 0 ≤ i) (h1 : i < x.length) : atI x.cps.toList i = some (x.cps.toList.getD i.toNat 0) := by
  have h2 : i < x.cps.toList.length := by
    rw [Array.length_toList]
    exact h1
  rw [atI_get h0 h2]
  congr 1
  rw [List.getD_eq_getElem?_getD, List.getElem?_eq_getElem (by omega)]
  rfl
def abc : Str := "abcdefghijklmnopqrstuvwxyz"
def letH (f h k : Nat) : Nat := abc.cps.toList.getD ((f + h * k) % 26) 0
theorem letH_nd : ∀ f < 26, ∀ h ∈ ([1, 3, 5, 7, 9, 11] : List Nat), ((List.range 6).map (letH f h)).Nodup := by decide +kernel
theorem letH_sm : ∀ f < 26, ∀ h < 12, ∀ k < 6, letH f h k ∈ abc.cps.toList := by decide +kernel
theorem abc_sm : Small abc := by unfold Small; decide +kernel
theorem join_cps : ∀ ys : List Str, (Str.join "" ys).cps.toList = ys.flatMap fun y => y.cps.toList
  | [] => by
    show ("" : Str).cps.toList = []
    decide +kernel
  | [y] => by
    show y.cps.toList = _
    simp
  | y :: z :: r => by
    have e : ("" : Str).cps.toList = [] := by decide +kernel
    have := join_cps (z :: r)
    show ((y ++ "") ++ Str.join "" (z :: r) : Str).cps.toList = _
    rw [Str.cps_append, Array.toList_append, this, Str.cps_append, Array.toList_append, e, List.append_nil]
    simp
theorem flat_one (xs : List Nat) : (xs.map fun k => (⟨#[k]⟩ : Str)).flatMap (fun y => y.cps.toList) = xs := by
  induction xs with
  | nil => rfl
  | cons x r ih => rw [List.map_cons, List.flatMap_cons, ih]; rfl
theorem pair_inj {a b c d : Nat} (h : (⟨#[a]⟩ ++ ⟨#[b]⟩ : Str) = ⟨#[c]⟩ ++ ⟨#[d]⟩) : a = c ∧ b = d := by
  have h := congrArg (fun z : Str => z.cps.toList) h
  simp only [Str.cps_append, Array.toList_append] at h
  simpa using h
def OfP (r : Rl) : Prop := (∀ y ∈ r.prs, Of r.letters y.1) ∧ ∀ y ∈ r.stk, Of r.letters y.1 ∧ Of r.letters y.2.1
theorem evL_of {x : Str} {i : Nat} {t : Str} (h : t ∈ evL x i) : Of x t := by
  unfold evL at h
  obtain ⟨a, ha, h⟩ := List.mem_flatMap.mp h
  obtain ⟨b, hb, rfl⟩ := List.mem_map.mp h
  have ha := List.mem_of_mem_take ha
  intro c hc
  rw [Str.cps_append, Array.toList_append, List.mem_append] at hc
  rcases hc with hc | hc
  · have : c = a := by simpa using hc
    rw [this]
    exact ha
  · have : c = b := by simpa using hc
    rw [this]
    exact hb
theorem evL_nd {x : Str} (h : x.cps.toList.Nodup) (n : Nat) : (evL x n).Nodup := by
  unfold evL
  have h' : (x.cps.toList.take n).Nodup := List.Sublist.nodup (List.take_sublist _ _) h
  refine List.pairwise_flatMap.mpr ⟨fun a _ => ?_, h'.imp fun {a c} hac y hy z hz => ?_⟩
  · rw [List.pairwise_map]
    exact h.imp fun {b d} hbd e => hbd (pair_inj e).2
  · obtain ⟨b, _, rfl⟩ := List.mem_map.mp hy
    obtain ⟨d, _, rfl⟩ := List.mem_map.mp hz
    exact fun e => hac (pair_inj e).1
/-! ### a dict by texts, of small numbers -/
def encT (y : Str × Int) : Key × V := (.inr y.1, .int y.2)
theorem put_encT (t : List (Str × Int)) (k : Str) (z : Int) (hn : (t.map (·.1)).Nodup) : ∃ t' : List (Str × Int), putK (t.map encT) (.inr k) (.int z) = t'.map encT ∧ (t'.map (·.1)).Nodup ∧ t'.length ≤ t.length + 1 ∧ ∀ y ∈ t', y ∈ t ∨ y = (k, z) := by
  unfold putK
  by_cases h : k ∈ t.map (·.1)
  · rw [if_pos (by
      rw [List.any_eq_true]
      obtain ⟨y, hy, e⟩ := List.mem_map.mp h
      exact ⟨encT y, List.mem_map.mpr ⟨y, hy, rfl⟩, decide_eq_true (by rw [← e]; rfl)⟩)]
    refine ⟨t.map fun y => if y.1 = k then (k, z) else y, ?_, ?_, by rw [List.length_map]; omega, fun y hy => ?_⟩
    · rw [List.map_map, List.map_map]
      refine List.map_congr_left fun y _ => ?_
      show (if (Sum.inr y.1 : Key) = Sum.inr k then (Sum.inr y.1, V.int z) else encT y) = encT (if y.1 = k then (k, z) else y)
      by_cases e : y.1 = k
      · rw [if_pos (by rw [e]), if_pos e, e]
        rfl
      · rw [if_neg (fun w => e (Sum.inr.inj w)), if_neg e]
    · rw [List.map_map]
      have e : ((fun y : Str × Int => y.1) ∘ fun y => if y.1 = k then (k, z) else y) = fun y => y.1 := by
        funext y
        show (if y.1 = k then (k, z) else y).1 = y.1
        split
        · rename_i e
          exact e.symm
        · rfl
      rw [e]
      exact hn
    · obtain ⟨y0, hy0, rfl⟩ := List.mem_map.mp hy
      split
      · exact .inr rfl
      · exact .inl hy0
  · rw [if_neg (by
      intro w
      obtain ⟨kv, hkv, e⟩ := List.any_eq_true.mp w
      obtain ⟨y, hy, rfl⟩ := List.mem_map.mp hkv
      have e : (Sum.inr y.1 : Key) = Sum.inr k := of_decide_eq_true e
      exact h (List.mem_map.mpr ⟨y, hy, Sum.inr.inj e⟩))]
    refine ⟨t ++ [(k, z)], by rw [List.map_append]; rfl, ?_, by rw [List.length_append]; exact Nat.le_refl _, fun y hy => ?_⟩
    · rw [List.map_append]
      refine List.nodup_append.mpr ⟨hn, List.pairwise_singleton _ _, fun a ha b hb => ?_⟩
      rw [List.mem_singleton.mp hb]
      intro e
      have e : a = k := e
      exact h (by rw [← e]; exact ha)
    · rcases List.mem_append.mp hy with hy | hy
      · exact .inl hy
      · exact .inr (List.mem_singleton.mp hy)
def lkS (t : List (Str × Int)) (k : Str) : Int := match t with
  | [] => 0
  | y :: r => if y.1 = k then y.2 else lkS r k
theorem val_encT : ∀ {t : List (Str × Int)} {k : Str}, k ∈ t.map (·.1) → valV (t.map encT) (.inr k) = some (.int (lkS t k)) ∧ (k, lkS t k) ∈ t
  | [], k, h => by cases h
  | y :: r, k, h => by
    rw [List.map_cons, lkS]
    by_cases e : y.1 = k
    · rw [valV_pos (show (encT y).1 = Sum.inr k by rw [← e]; rfl), if_pos e]
      refine ⟨rfl, ?_⟩
      rw [← e]
      exact List.mem_cons_self ..
    · rw [valV_neg (show ¬ (encT y).1 = Sum.inr k from fun z => e (Sum.inr.inj z)), if_neg e]
      rw [List.map_cons] at h
      rcases List.mem_cons.mp h with z | z
      · exact absurd z.symm e
      · have := val_encT z
        exact ⟨this.1, List.mem_cons_of_mem _ this.2⟩
section
variable {β : Type} {R : Hp → V → β → Prop} {D : Addr} {H H1 H4 : Hp} {bs : List β} {i n : Nat} {v : V} {b : β}
def GenP2 (R : Hp → V → β → Prop) (D : Addr) (H1 : Hp) (bs : List β) (i : Nat) (H : Hp) : Prop := ∃ vs, H D = some (.lst vs) ∧ Paired (R H) vs (bs.take i) ∧ Ext H1 H
theorem gen2_new (hD : H1 D = none) : GenP2 R D H1 bs 0 (upd H1 D (.lst [])) := ⟨[], upd_same, by rw [List.take_zero]; exact .nil, Ext.new hD⟩
theorem GenP2.ext (h : GenP2 R D H1 bs i H) : Ext H1 H := by
  obtain ⟨_, _, _, k⟩ := h
  exact k
theorem gen2_step (m : Mono R) (hD : H1 D = none) (h : GenP2 R D H1 bs i H) (k : Ext H H4) (hv : R H4 v b) (hb : bs[i]? = some b) (hn : bs.length ≤ 1000000) : ∃ acc, H4 D = some (.lst acc) ∧ acc.length < sizeLine ∧ GenP2 R D H1 bs (i + 1) (upd H4 D (.lst (acc ++ [v]))) := by
  obtain ⟨vs, hL, hP, k1⟩ := h
  have hl := paired_len hP
  rw [List.length_take] at hl
  have hi := (List.getElem?_eq_some_iff.mp hb).1
  have hL4 := k _ _ hL
  refine ⟨vs, hL4, szLt (by omega), vs ++ [v], upd_same, ?_, (k1.trans k).put hD⟩
  rw [List.take_add_one, hb]
  exact paired_app (paired_imp (fun _ _ => m _ _ _ _ ((TupK.ext k).trans (TupK.lst hL4))) hP) (.cons (m _ _ _ _ (TupK.lst hL4) hv) .nil)
theorem gen2_end (h : GenP2 R D H1 bs n H) (hn : bs.length ≤ n) : ∃ vs, H D = some (.lst vs) ∧ Paired (R H) vs bs ∧ Ext H1 H := by
  obtain ⟨vs, hL, hP, k⟩ := h
  rw [List.take_of_length_le hn] at hP
  exact ⟨vs, hL, hP, k⟩
end
theorem int_01 {b : Bool} : (if b = true then (1 : Int) else 0) = 0 ∨ (if b = true then (1 : Int) else 0) = 1 := by
  cases b
  · exact .inl rfl
  · exact .inr rfl
theorem goR_next {D : Ends} {σ : L2.St} {H : Hp} (h : D.nx σ H) : tNext D σ H := h
theorem goR_name {i : Nat} {v : V} {σ : L2.St} {H : Hp} {Q : L2.St → Hp → Prop} (h : Q (σ.set i (some v)) H) : gName i v σ H Q := h
def evU (ut : List Str) (i : Nat) : List Str := (ut.take i).flatMap fun a => ut.map fun b => (a ++ b : Str)
theorem evU_len {ut : List Str} {i : Nat} : (evU ut i).length ≤ i * ut.length := by
  unfold evU
  rw [List.length_flatMap]
  have : ((ut.take i).map fun a => (ut.map fun b => (a ++ b : Str)).length) = (ut.take i).map fun _ => ut.length := List.map_congr_left fun a _ => List.length_map ..
  rw [this, List.map_const', List.sum_replicate_nat]
  exact Nat.mul_le_mul_right _ (by rw [List.length_take]; omega)
theorem evU_pos {ut : List Str} (h : ut ≠ []) : evU ut ut.length ≠ [] := by
  unfold evU
  rw [List.take_length]
  cases ut with
  | nil => exact absurd rfl h
  | cons a r => simp
theorem evU_of {ut : List Str} {i : Nat} (h : ∀ y ∈ ut, y.length = 1 ∧ Small y) : ∀ t ∈ evU ut i, Two t ∧ Of (Str.join "" ut) t := fun t ht => by
  unfold evU at ht
  obtain ⟨a, ha, ht⟩ := List.mem_flatMap.mp ht
  obtain ⟨b, hb, rfl⟩ := List.mem_map.mp ht
  have ha := List.mem_of_mem_take ha
  have ho : ∀ y ∈ ut, Of (Str.join "" ut) y := fun y hy c hc => by
    rw [join_cps]
    exact List.mem_flatMap.mpr ⟨y, hy, hc⟩
  refine ⟨⟨?_, (h a ha).2.app (h b hb).2⟩, (ho a ha).app (ho b hb)⟩
  rw [Str.length_append, (h a ha).1, (h b hb).1]
theorem evU_step {ut : List Str} {i : Nat} {a : Str} (h : ut[i]? = some a) : evU ut (i + 1) = evU ut i ++ ut.map fun b => (a ++ b : Str) := by
  unfold evU
  rw [List.take_add_one, h, List.flatMap_append]
  simp
theorem int_map {t : List (Str × Int)} : ((t.map encT).map fun kv => kV kv.1) = (t.map (·.1)).map V.str := by
  rw [List.map_map, List.map_map]
  rfl
section
variable {P : Program} {w : World} {K : PySem.W.Frag} {mg : Str → Option Value} {base : Heap}
abbrev s_law_book : Stmt := topS 33
theorem sc_law_book : FnScope ["_law_pen_here", "_law_first", "_law_hop", "_law_many", "_law_k", "_law_letters", "_law_every", "_law_one", "_law_pairs", "_law_span", "_law_loops", "_law_both", "_law_stacks", "_law_rows", "_law_last", "_law_key", "_law_two"] ["_law_pen_here"] (defScope s_law_book) :=
  ⟨rfl, rfl, rfl, by decide +kernel, rfl, by decide +kernel, by decide +kernel⟩
def spRules : Sp := fun vs H Q _ => ∃ (p c : Addr) (n : Nat), vs = [.ref p] ∧ Pen H p c n ∧ n + 300 < 1000000 ∧
  ∀ v r H', RulesAt H' v r → RlOk r → OfP r → Kp p H H' → Pen H' p c (n + 300) → Q v H'
theorem ok_rules {f : Addr} {fd : FuncData} (F : Fun K "_law_book" "_law_book" s_law_book f fd) (c_law_take : CDraw P w K mg base) (c_law_small : CWorth P w K mg base)
    (mlen : mg "len" = none) (mint : mg "int" = none) (mtuple : mg "tuple" = none) (mlist : mg "list" = none) (mrange : mg "range" = none) (msorted : mg "sorted" = none) : FnOk P w K mg base CX0 3 f fd ["_law_pen_here"] spRules := by
  refine F.ok sc_law_book (fun vs H Q E h => ?_) (fun cdv A outer s H vs Q E hr h => ?_)
  · obtain ⟨p, c, n, rfl, _⟩ := h
    rfl
  · obtain ⟨p, c, n, rfl, hP, hn, q⟩ := h
    refine ⟨_, (pss_cons (ps_set (i := 1) sc_law_book.nd rfl (.inr rfl) (pe_ca c_law_take (hr.mono (by decide)) (by rfl) (pa_cons (pv 0) (pa_cons pe_int pa_nil))))
      (pss_cons (ps_set (i := 2) sc_law_book.nd rfl (.inr rfl) (pe_ix (ixL K) (pe_lst (pa_cons pe_int (pa_cons pe_int (pa_cons pe_int (pa_cons pe_int (pa_cons pe_int (pa_cons pe_int pa_nil))))))) (pe_ca c_law_take (hr.mono (by decide)) (by rfl) (pa_cons (pv 0) (pa_cons pe_int pa_nil))) (fun _ _ => rfl)))
      (pss_cons (ps_set (i := 3) sc_law_book.nd rfl (.inl rfl) (pe_ix (ixL K) (pe_lst (pa_cons pe_int (pa_cons pe_int (pa_cons pe_int (pa_cons pe_int (pa_cons pe_int (pa_cons pe_int pa_nil))))))) (pe_ca c_law_take (hr.mono (by decide)) (by rfl) (pa_cons (pv 0) (pa_cons pe_int pa_nil))) (fun _ _ => rfl)))
      (pss_cons (ps_set (i := 5) sc_law_book.nd rfl (.inl rfl) (pe_callB cr_sortedS (by rfl) msorted (by decide +kernel) (pa_cons (pe_lc (own := [("_law_k", 4)]) (g := gName 4) (by rfl) sc_law_book.nd (pi_range1 (by rfl) mrange (pa_cons (pv 3) pa_nil)) (blkOk_by (own := [("_law_k", 4)]) (N := ["_law_pen_here", "_law_first", "_law_hop", "_law_many", "_law_k", "_law_letters", "_law_every", "_law_one", "_law_pairs", "_law_span", "_law_loops", "_law_both", "_law_stacks", "_law_rows", "_law_last", "_law_key", "_law_two"]) (sc := defScope s_law_book) (by decide +kernel)) (fun _ _ _ _ _ => (pg_name (i := 4) sc_law_book.nd rfl (.inl rfl))) (fun _ _ _ _ _ => pts_nil) (fun _ _ _ _ _ => (pe_ix ix_str pe_str (pe_op op_mod (pe_op op_add (pv 1) (pe_op op_mul (pv 2) (pv 4))) pe_int) (fun _ _ => rfl)))) pa_nil)))
      (pss_cons (ps_set (i := 6) sc_law_book.nd rfl (.inl rfl) (pe_lst pa_nil))
      (pss_cons (ps_for PassesOwn.never rfl (pi_list (pv 5)) (pg_name (i := 7) sc_law_book.nd rfl (.inr rfl)) (pss_one (ps_expr (pe_bm PySem.F.plainAttrs_list PySem.F.slot_list_extend PySem.F.type_list_extend mt_extend (pv 6) (pa_cons (pe_lc (own := [("_law_two", 16)]) (g := gName 16) (by rfl) sc_law_book.nd (pi_list (pv 5)) (blkOk_by (own := [("_law_two", 16)]) (N := ["_law_pen_here", "_law_first", "_law_hop", "_law_many", "_law_k", "_law_letters", "_law_every", "_law_one", "_law_pairs", "_law_span", "_law_loops", "_law_both", "_law_stacks", "_law_rows", "_law_last", "_law_key", "_law_two"]) (sc := defScope s_law_book) (by decide +kernel)) (fun _ _ _ _ _ => (pg_name (i := 16) sc_law_book.nd rfl (.inl rfl))) (fun _ _ _ _ _ => pts_nil) (fun _ _ _ _ _ => (pe_op op_add_str (pv 7) (pv 16)))) pa_nil)))))
      (pss_cons (ps_set (i := 8) sc_law_book.nd rfl (.inr rfl) pe_dnewK)
      (pss_cons (ps_for PassesOwn.never rfl (pi_range1 (by rfl) mrange (pa_cons (pe_ix (ixL K) (pe_lst (pa_cons pe_int (pa_cons pe_int (pa_cons (pe_op op_mul pe_int (pv 3)) (pa_cons (pv 3) (pa_cons pe_int (pa_cons pe_int pa_nil))))))) (pe_ca c_law_take (hr.mono (by decide)) (by rfl) (pa_cons (pv 0) (pa_cons pe_int pa_nil))) (fun _ _ => rfl)) pa_nil)) (pg_name (i := 4) sc_law_book.nd rfl (.inl rfl)) (pss_one (ps_dput (hu_of hr) (pv 8) (pe_ix (ixL K) (pv 6) (pe_ca c_law_take (hr.mono (by decide)) (by rfl) (pa_cons (pv 0) (pa_cons (pe_callB (lenQ K) (by rfl) mlen (by decide +kernel) (pa_cons (pv 6) pa_nil)) pa_nil))) (fun _ _ => rfl)) (pe_ca c_law_small (hr.mono (by decide)) (by rfl) (pa_cons (pv 0) pa_nil)) rfl)))
      (pss_cons (ps_set (i := 9) sc_law_book.nd rfl (.inl rfl) (pe_ix (ixL K) (pe_lst (pa_cons pe_int (pa_cons pe_int (pa_cons pe_int (pa_cons pe_int (pa_cons pe_int (pa_cons pe_int pa_nil))))))) (pe_ca c_law_take (hr.mono (by decide)) (by rfl) (pa_cons (pv 0) (pa_cons pe_int pa_nil))) (fun _ _ => rfl)))
      (pss_cons (ps_set (i := 10) sc_law_book.nd rfl (.inl rfl) (pe_op (repT K) (pe_tup (pa_cons pe_int pa_nil)) pe_int))
      (pss_cons (ps_if (pt_cmpR op_gt (pe_ca c_law_take (hr.mono (by decide)) (by rfl) (pa_cons (pv 0) (pa_cons pe_int pa_nil))) pe_int (nomark _)) (pss_one (ps_set (i := 10) sc_law_book.nd rfl (.inl rfl) (pe_callTy (tupleOf K) (by rfl) mtuple (by decide +kernel) (pa_cons (pe_lc (own := [("_law_k", 4)]) (g := gName 4) (by rfl) sc_law_book.nd (pi_range1 (by rfl) mrange (pa_cons pe_int pa_nil)) (blkOk_by (own := [("_law_k", 4)]) (N := ["_law_pen_here", "_law_first", "_law_hop", "_law_many", "_law_k", "_law_letters", "_law_every", "_law_one", "_law_pairs", "_law_span", "_law_loops", "_law_both", "_law_stacks", "_law_rows", "_law_last", "_law_key", "_law_two"]) (sc := defScope s_law_book) (by decide +kernel)) (fun _ _ _ _ _ => (pg_name (i := 4) sc_law_book.nd rfl (.inl rfl))) (fun _ _ _ _ _ => pts_nil) (fun _ _ _ _ _ => (pe_ca c_law_small (hr.mono (by decide)) (by rfl) (pa_cons (pv 0) pa_nil)))) pa_nil)))) pss_nil)
      (pss_cons (ps_set (i := 11) sc_law_book.nd rfl (.inl rfl) (pe_callB cr_sortedS (by rfl) msorted (by decide +kernel) (pa_cons (pe_callTy (call_list_dK rfl) (by rfl) mlist (by decide +kernel) (pa_cons (pv 8) pa_nil)) pa_nil)))
      (pss_cons (ps_set (i := 12) sc_law_book.nd rfl (.inr rfl) pe_dnewT)
      (pss_cons (ps_for PassesOwn.never rfl (pi_range1 (by rfl) mrange (pa_cons (pe_op op_mul (pe_ca c_law_take (hr.mono (by decide)) (by rfl) (pa_cons (pv 0) (pa_cons pe_int pa_nil))) (pe_callTy call_int1 (by rfl) mint (by decide +kernel) (pa_cons (pe_cmpR (neD K hr.units) (pv 11) (pe_lst pa_nil) (nomark _)) pa_nil))) pa_nil)) (pg_name (i := 4) sc_law_book.nd rfl (.inl rfl)) (pss_one (ps_dput (hu_of hr) (pv 12) (pe_tup (pa_cons (pe_ix (ixL K) (pv 11) (pe_ca c_law_take (hr.mono (by decide)) (by rfl) (pa_cons (pv 0) (pa_cons (pe_callB (lenQ K) (by rfl) mlen (by decide +kernel) (pa_cons (pv 11) pa_nil)) pa_nil))) (fun _ _ => rfl)) (pa_cons (pe_ix (ixL K) (pv 11) (pe_ca c_law_take (hr.mono (by decide)) (by rfl) (pa_cons (pv 0) (pa_cons (pe_callB (lenQ K) (by rfl) mlen (by decide +kernel) (pa_cons (pv 11) pa_nil)) pa_nil))) (fun _ _ => rfl)) pa_nil))) (pe_ca c_law_small (hr.mono (by decide)) (by rfl) (pa_cons (pv 0) pa_nil)) rfl)))
      (pss_cons (ps_set (i := 13) sc_law_book.nd rfl (.inl rfl) (pe_callTy (tupleFz K) (by rfl) mtuple (by decide +kernel) (pa_cons (pe_lc (own := [("_law_one", 7)]) (g := gName 7) (by rfl) sc_law_book.nd (pi_list (pv 11)) (blkOk_by (own := [("_law_one", 7)]) (N := ["_law_pen_here", "_law_first", "_law_hop", "_law_many", "_law_k", "_law_letters", "_law_every", "_law_one", "_law_pairs", "_law_span", "_law_loops", "_law_both", "_law_stacks", "_law_rows", "_law_last", "_law_key", "_law_two"]) (sc := defScope s_law_book) (by decide +kernel)) (fun _ _ _ _ _ => (pg_name (i := 7) sc_law_book.nd rfl (.inl rfl))) (fun _ _ _ _ _ => pts_nil) (fun _ _ _ _ _ => (pe_tup (pa_cons (pv 7) (pa_cons (pe_dget (hu_of hr) (pv 8) (pv 7) (fun _ _ => rfl)) pa_nil))))) pa_nil)))
      (pss_cons (ps_set (i := 14) sc_law_book.nd rfl (.inl rfl) (pe_callTy (tupleOf K) (by rfl) mtuple (by decide +kernel) (pa_cons (pe_lc (own := [("_law_key", 15)]) (g := gName 15) (by rfl) sc_law_book.nd (pi_list (pe_callB (cr_sortD K hr.units) (by rfl) msorted (by decide +kernel) (pa_cons (pe_callTy (call_list_dT rfl) (by rfl) mlist (by decide +kernel) (pa_cons (pv 12) pa_nil)) pa_nil))) (blkOk_by (own := [("_law_key", 15)]) (N := ["_law_pen_here", "_law_first", "_law_hop", "_law_many", "_law_k", "_law_letters", "_law_every", "_law_one", "_law_pairs", "_law_span", "_law_loops", "_law_both", "_law_stacks", "_law_rows", "_law_last", "_law_key", "_law_two"]) (sc := defScope s_law_book) (by decide +kernel)) (fun _ _ _ _ _ => (pg_name (i := 15) sc_law_book.nd rfl (.inl rfl))) (fun _ _ _ _ _ => pts_nil) (fun _ _ _ _ _ => (pe_op (catT K) (pv 15) (pe_tup (pa_cons (pe_dget (hu_of hr) (pv 12) (pv 15) (fun _ _ => rfl)) pa_nil))))) pa_nil)))
      (pss_one (ps_ret (pe_tup (pa_cons (pe_join pe_str (pv 5)) (pa_cons (pv 13) (pa_cons (pv 9) (pa_cons (pv 10) (pa_cons (pv 14) pa_nil)))))))))))))))))))))))), ?_⟩
    refine ⟨_, rfl, p, c, 26, n, rfl, hP, by omega, by decide, by decide, fun r1 Ha r1a r1b ka hPa => ?_⟩
    refine ⟨szL (show 6 ≤ 1000000 by decide), fun l2 hl2 => ⟨_, rfl, p, c, 6, _, rfl, hPa.new hl2, by omega, by decide, by decide, fun r2 Hb r2a r2b kb hPb => ?_⟩⟩
    obtain ⟨hop, hhop, hat2⟩ := atI_ints (ns := [1, 3, 5, 7, 9, 11]) r2a r2b
    refine ⟨l2, _, r2, _, rfl, rfl, SqL.of (kb _ _ (hPa.ne hl2).1 upd_same), hat2, ?_⟩
    refine ⟨szL (show 6 ≤ 1000000 by decide), fun l3 hl3 => ⟨_, rfl, p, c, 6, _, rfl, hPb.new hl3, by omega, by decide, by decide, fun r3 Hc r3a r3b kc hPc => ?_⟩⟩
    obtain ⟨mn, hmn, hat3⟩ := atI_ints (ns := [1, 2, 2, 3, 4, 6]) r3a r3b
    refine ⟨l3, _, r3, _, rfl, rfl, SqL.of (kc _ _ (hPb.ne hl3).1 upd_same), hat3, ?_⟩
    have hmn2 : 1 ≤ mn ∧ mn ≤ 6 := by
      simp only [List.mem_cons, List.not_mem_nil, or_false] at hmn
      omega
    have hhop2 : 0 ≤ hop ∧ hop < 12 ∧ hop.toNat ∈ ([1, 3, 5, 7, 9, 11] : List Nat) := by
      simp only [List.mem_cons, List.not_mem_nil, or_false] at hhop ⊢
      omega
    obtain ⟨f0, rfl⟩ := Int.eq_ofNat_of_zero_le r1a
    obtain ⟨h0, rfl⟩ := Int.eq_ofNat_of_zero_le hhop2.1
    have hf26 : f0 < 26 := by omega
    have hh12 : h0 < 12 := by omega
    have hh6 : h0 ∈ ([1, 3, 5, 7, 9, 11] : List Nat) := hhop2.2.2
    have kpc : Kp p H Hc := (((ka.trans (Kp.new hl2)).trans kb).trans (Kp.new hl3)).trans kc
    have hPc := hPc.mono (show n + 1 + 1 + 1 ≤ n + 3 by omega)
    clear hhop hhop2 hat2 hat3 ka kb kc hPa hPb
    -- letters
    refine ⟨_, rfl, mn, rfl, by omega, by omega, fun D hD => lc_range (lo := 0) (n := mn.toNat) (fun i H4 => H4 D = some (.lst (((List.range i).map fun k => (⟨#[letH f0 h0 k]⟩ : Str)).map V.str)) ∧ Ext Hc H4) ⟨upd_same, Ext.new hD⟩ (fun i H4 hi hv => ?_) (fun H4 hv => ?_)⟩
    · obtain ⟨hL4, k4⟩ := hv
      have hix : ((f0 : Int) + (h0 : Int) * (0 + (i : Int))) % 26 = (((f0 + h0 * i) % 26 : Nat) : Int) := by
        push_cast
        rw [Int.zero_add]
      have hlt : ((f0 : Int) + (h0 : Int) * (0 + (i : Int))) % 26 < abc.length := by
        have e : abc.length = 26 := by decide +kernel
        rw [e]
        exact Int.emod_lt_of_pos _ (by decide)
      have hge : 0 ≤ ((f0 : Int) + (h0 : Int) * (0 + (i : Int))) % 26 := Int.emod_nonneg _ (by decide)
      have hat := sgn_at0 (x := abc) (i := ((f0 : Int) + (h0 : Int) * (0 + (i : Int))) % 26) hge hlt
      rw [show (((f0 : Int) + (h0 : Int) * (0 + (i : Int))) % 26).toNat = (f0 + h0 * i) % 26 by rw [hix]; rfl] at hat
      refine ⟨rfl, _, rfl, _, rfl, _, rfl, (h0 : Int), _, rfl, rfl, .inl ⟨by omega, by omega⟩, _, _, rfl, rfl, _, 26, rfl, rfl, (show (0 : Int) < 26 by decide), abc, _, _, rfl, rfl, szL (by decide +kernel), hat, _, hL4, szLt ?_, ?_, k4.put hD⟩
      · rw [List.length_map, List.length_map, List.length_range]
        omega
      · rw [upd_same, List.range_succ, List.map_append, List.map_append]
        rfl
    obtain ⟨hL4, k4⟩ := hv
    refine ⟨D, _, rfl, SqL.of hL4, ?_, fun ut ss perm _ hss => ?_⟩
    · rw [List.length_map, List.length_range]
      omega
    have hutl : ut.length = mn.toNat := by rw [perm.length_eq, List.length_map, List.length_range]
    have hsub6 : ((List.range mn.toNat).map (letH f0 h0)).Sublist ((List.range 6).map (letH f0 h0)) := (List.range_sublist.mpr (by omega)).map _
    have hut1 : ∀ y ∈ ut, y.length = 1 ∧ Small y := fun y hy => by
      obtain ⟨k, hk, rfl⟩ := List.mem_map.mp (perm.mem_iff.mp hy)
      have := List.mem_range.mp hk
      exact ⟨rfl, Small.one (abc_sm _ (letH_sm f0 hf26 h0 hh12 k (by omega)))⟩
    have hcp : (Str.join "" ut).cps.toList.Perm ((List.range mn.toNat).map (letH f0 h0)) := by
      rw [join_cps]
      have h1 := perm.flatMap_right (fun y : Str => y.cps.toList)
      have h2 : ((List.range mn.toNat).map fun k => (⟨#[letH f0 h0 k]⟩ : Str)) = ((List.range mn.toNat).map (letH f0 h0)).map fun k => (⟨#[k]⟩ : Str) := by rw [List.map_map]; rfl
      rw [h2, flat_one] at h1
      exact h1
    have hlen : (Str.join "" ut).length = mn.toNat := by
      have := hcp.length_eq
      rw [List.length_map, List.length_range, Array.length_toList] at this
      exact this
    have hsm : Small (Str.join "" ut) := sjoin_small fun y hy => (hut1 y hy).2
    have hevt := fun i => evU_of (ut := ut) (i := i) hut1
    have hut0 : ut ≠ [] := fun z => by rw [z] at hutl; simp at hutl; omega
    have x5 := k4.trans (Ext.new (o := .lst (ut.map V.str)) hss)
    have hP1 := hPc.ext x5
    have kp1 := kpc.trans (Kp.ext x5)
    have hS1 : (upd H4 ss (.lst (ut.map V.str))) ss = some (.lst (ut.map V.str)) := upd_same
    have nss : ss ≠ p := ((hPc.ext k4).ne hss).1
    generalize upd H4 ss (.lst (ut.map V.str)) = H1 at hP1 kp1 hS1 ⊢
    clear hcp hsub6 hL4 k4 kpc hPc hss x5 perm
    -- every
    refine ⟨Nat.zero_le _, fun e0 he0 => ?_⟩
    have hul : ut.length ≤ 6 := by omega
    refine ⟨_, rfl, ss, rfl, ⟨_, SqL.of (Ext.new (o := .lst []) he0 _ _ hS1)⟩, for_list (K := K) (xs := ut.map V.str) (fun i σ H2 => ∃ (y7 : Option V), σ = [some (.ref p), some (.int f0), some (.int h0), some (.int mn), none, some (.ref ss), some (.ref e0), y7, none, none, none, none, none, none, none, none, none] ∧ H2 e0 = some (.lst ((evU ut i).map V.str)) ∧ Ext H1 H2)
      ⟨none, rfl, upd_same, Ext.new he0⟩ (fun i σ H2 _ h => by obtain ⟨_, _, _, k⟩ := h; exact SqL.of (k _ _ hS1)) (fun i u σ H2 hi hv => ?_) (fun σ H2 hv => ?_)⟩
    · obtain ⟨y7, rfl, hE2, k2⟩ := hv
      rw [List.getElem?_map] at hi
      obtain ⟨a, ha, rfl⟩ := Option.map_eq_some_iff.mp hi
      have hil : i < ut.length := (List.getElem?_eq_some_iff.mp ha).1
      have ha1 := hut1 a (List.mem_of_getElem? ha)
      refine ⟨_, rfl, .inl ⟨rfl, _, SqL.of hE2⟩, _, rfl, ss, rfl, ⟨_, SqL.of (k2 _ _ hS1)⟩, fun D2 hD2 => lc_list (K := K) (xs := ut.map V.str) (fun j H3 => H3 D2 = some (.lst (((ut.take j).map fun b => (a ++ b : Str)).map V.str)) ∧ Ext H2 H3)
        ⟨upd_same, Ext.new hD2⟩ (fun j H3 _ h => SqL.of (h.2 _ _ (k2 _ _ hS1))) (fun j u H3 hj hv => ?_) (fun H3 hv => ?_)⟩
      · obtain ⟨hL3, k3⟩ := hv
        rw [List.getElem?_map] at hj
        obtain ⟨b, hb, rfl⟩ := Option.map_eq_some_iff.mp hj
        have hb1 := hut1 b (List.mem_of_getElem? hb)
        have hjl : j < ut.length := (List.getElem?_eq_some_iff.mp hb).1
        refine ⟨rfl, _, rfl, _, rfl, _, _, rfl, rfl, szL (by rw [ha1.1, hb1.1]; decide), _, hL3, szLt ?_, ?_, k3.put hD2⟩
        · rw [List.length_map, List.length_map, List.length_take]
          omega
        · rw [upd_same, List.take_add_one, hb, List.map_append, List.map_append]
          rfl
      obtain ⟨hL3, k3⟩ := hv
      rw [List.length_map, List.take_length] at hL3
      have hel := evU_len (ut := ut) (i := i)
      have hel2 : i * ut.length ≤ 6 * 6 := Nat.mul_le_mul (by omega) hul
      refine ⟨e0, D2, _, _, rfl, rfl, k3 _ _ hE2, hL3, szL ?_, ?_⟩
      · rw [List.length_map, List.length_map, List.length_map]
        omega
      · refine ⟨_, rfl, ?_, (k2.trans k3).put he0⟩
        rw [upd_same, evU_step ha, List.map_append]
    obtain ⟨y7, rfl, hE2, k2⟩ := hv
    rw [List.length_map] at hE2
    obtain ⟨ev, hev⟩ : ∃ ev, ev = evU ut ut.length := ⟨_, rfl⟩
    rw [← hev] at hE2
    have hevl : 0 < ev.length ∧ ev.length ≤ 36 := by
      refine ⟨List.length_pos_iff.mpr (hev ▸ evU_pos hut0), ?_⟩
      have h1 := evU_len (ut := ut) (i := ut.length)
      have h2 : ut.length * ut.length ≤ 6 * 6 := Nat.mul_le_mul hul hul
      rw [hev]
      omega
    have hevt : ∀ t ∈ ev, Two t ∧ Of (Str.join "" ut) t := hev ▸ hevt ut.length
    have hP2 := hP1.ext k2
    have kp2 := kp1.trans (Kp.ext k2)
    have hS2 := k2 _ _ hS1
    have ne0 : e0 ≠ p := (hP1.ne he0).1
    clear k2 hP1 kp1 hS1 he0
    -- pairs
    refine fun D7 hD7 => ?_
    have nD7 := hP2.ne hD7
    have hevl' : ((ev.map V.str).length : Int) = ev.length := by rw [List.length_map]
    refine ⟨_, rfl, 2, mn, rfl, rfl, .inl ⟨by decide, by decide⟩, _, rfl, szL (show 6 ≤ 1000000 by decide), fun l8 hl8 => ⟨_, rfl, p, c, 6, _, rfl, (hP2.new hD7).new hl8, by omega, by decide, by decide, fun r8 H8 r8a r8b k8 hP8 => ?_⟩⟩
    obtain ⟨cn, hcn, hat8⟩ := atI_ints (ns := [0, 12, 2 * mn, mn, 3, 8]) r8a r8b
    have hcn2 : 0 ≤ cn ∧ cn ≤ 12 := by
      simp only [List.mem_cons, List.not_mem_nil, or_false] at hcn
      omega
    have x28 : Kp p H2 H8 := ((Kp.new hD7).trans (Kp.new hl8)).trans k8
    refine ⟨l8, _, r8, _, rfl, rfl, SqL.of (k8 _ _ ((hP2.new hD7).ne hl8).1 upd_same), hat8, cn, rfl, by omega, by omega, for_range (lo := 0) (n := cn.toNat) (fun i σ H9 => ∃ (y4 y7 : Option V) (t : List (Str × Int)), σ = [some (.ref p), some (.int f0), some (.int h0), some (.int mn), y4, some (.ref ss), some (.ref e0), y7, some (.ref D7), none, none, none, none, none, none, none, none] ∧ H9 D7 = some (.dK (t.map encT)) ∧ t.length ≤ i ∧ (t.map (·.1)).Nodup ∧ (∀ y ∈ t, Two y.1 ∧ Of (Str.join "" ut) y.1 ∧ -99 ≤ y.2 ∧ y.2 ≤ 99) ∧ Kp p H2 H9 ∧ Pen H9 p c (n + 4 + 3 * i))
      ⟨none, y7, [], rfl, k8 _ _ nD7.1 (Ext.new hl8 _ _ upd_same), Nat.le_refl _, List.Pairwise.nil, (fun y hy => by cases hy), x28, hP8.mono (by omega)⟩ (fun i σ H9 hi hv => ?_) (fun σ H9 hv => ?_)⟩
    · obtain ⟨y4, y7, t, rfl, hD9, htl, htn, htb, k9, hP9⟩ := hv
      refine ⟨_, rfl, p, c, _, rfl, hP9, by omega, fun wv H10 w0 w1 k10 hP10 => ?_⟩
      have hE10 := k10 _ _ ne0 (k9 _ _ ne0 hE2)
      refine ⟨_, rfl, _, rfl, _, rfl, _, rfl, e0, _, rfl, .inl (SqL.of hE10), p, c, _, _, rfl, hP10, by omega, by omega, by omega, fun r11 H11 r11a r11b k11 hP11 => ?_⟩
      have hE11 := k11 _ _ ne0 hE10
      obtain ⟨vu, hvu, hat11⟩ := atI_mem (xs := ev.map V.str) r11a r11b
      obtain ⟨u, hu, rfl⟩ := List.mem_map.mp hvu
      have k911 := k10.trans k11
      have hD11 := k911 _ _ nD7.1 hD9
      obtain ⟨t', e', hn', hl', hb'⟩ := put_encT t u wv htn
      have hD7H2 : H2 D7 = none := hD7
      refine ⟨e0, _, r11, _, rfl, rfl, SqL.of hE11, hat11, D7, _, rfl, DPut.k (k := .inr u) hD11 (szLt (by rw [List.length_map]; omega)), ?_⟩
      refine ⟨_, _, t', rfl, by rw [upd_same, e'], by omega, hn', fun y hy => ?_, (k9.trans k911).put hD7H2, (hP11.put nD7.1 nD7.2).mono (by omega)⟩
      rcases hb' y hy with h | rfl
      · exact htb y h
      · have := hevt u hu
        exact ⟨this.1, this.2, w0, w1⟩
    obtain ⟨y4, y7, t, rfl, hD9, htl, htn, htb, k9, hP9⟩ := hv
    have ht12 : t.length ≤ 12 := by omega
    have hP9 := hP9.mono (show n + 4 + 3 * cn.toNat ≤ n + 40 by omega)
    have hS9 := k9 _ _ nss hS2
    have kp9 := kp2.trans k9
    clear k9 kp2 hP2 hS2 hE2 hP8 k8 hat8 hcn hD7 x28 hl8 hev
    -- span
    refine ⟨szL (show 6 ≤ 1000000 by decide), fun l9 hl9 => ⟨_, rfl, p, c, 6, _, rfl, hP9.new hl9, by omega, by decide, by decide, fun ra Ha9 ra0 ra1 ka9 hPa9 => ?_⟩⟩
    obtain ⟨sp, hsp, hat9⟩ := atI_ints (ns := [0, 0, 1, 2, 3, 1]) ra0 ra1
    have hsp2 : 0 ≤ sp ∧ sp ≤ 3 := by
      simp only [List.mem_cons, List.not_mem_nil, or_false] at hsp
      omega
    refine ⟨l9, _, ra, _, rfl, rfl, SqL.of (ka9 _ _ (hP9.ne hl9).1 upd_same), hat9, ?_⟩
    have k1 := (Kp.new (p := p) (o := .lst [.int 0, .int 0, .int 1, .int 2, .int 3, .int 1]) hl9).trans ka9
    -- loops
    refine ⟨szL (show 1 ≤ 1000000 by decide), fun t0 ht0 => ⟨t0, 9, _, rfl, rfl, SqT.of upd_same, (fun z => by cases z), by decide, by decide, (show 1 ≤ 1000 by decide), fun tl0 htl0 => ?_⟩⟩
    have exl : Ext Ha9 (upd (upd Ha9 t0 (.tup [.int 0])) tl0 (.tup [.int 0, .int 0, .int 0, .int 0, .int 0, .int 0, .int 0, .int 0, .int 0])) := (Ext.new ht0).trans (Ext.new htl0)
    have hV0 : TupOf IntAt (upd (upd Ha9 t0 (.tup [.int 0])) tl0 (.tup [.int 0, .int 0, .int 0, .int 0, .int 0, .int 0, .int 0, .int 0, .int 0])) (.ref tl0) [0, 0, 0, 0, 0, 0, 0, 0, 0] := ⟨tl0, _, rfl, upd_same, paired_ints [0, 0, 0, 0, 0, 0, 0, 0, 0]⟩
    have hPl := hPa9.ext exl
    have kl := (kp9.trans k1).trans (Kp.ext exl)
    have kl9 := k1.trans (Kp.ext (p := p) exl)
    have hDl := kl9 _ _ nD7.1 hD9
    have hSl := kl9 _ _ nss hS9
    refine ⟨_, rfl, p, c, 5, _, rfl, hPl, by omega, by decide, by decide, fun rb Hb9 rb0 rb1 kb9 hPb9 => ⟨_, _, rfl, rfl, _, rfl, ite2 (fun e => ?_) (fun e => ?_)⟩⟩
    focus
      have hDb := kb9 _ _ nD7.1 hDl
      have hSb := kb9 _ _ nss hSl
      refine ⟨9, rfl, by decide, by decide, fun Dq hDq => lc_range (lo := 0) (n := 9) (fun i H22 => ∃ ns : List Int, ns.length = i ∧ (∀ x ∈ ns, -99 ≤ x ∧ x ≤ 99) ∧ H22 Dq = some (.lst (ns.map V.int)) ∧ Kp p Hb9 H22 ∧ Pen H22 p c (n + 42 + 2 * i)) ⟨[], rfl, (fun x h => by cases h), upd_same, Kp.new hDq, (hPb9.new hDq).mono (by omega)⟩ (fun i H22 hi hv => ?_) (fun H22 hv => ?_)⟩
      · obtain ⟨ns, hns, hnb, hL22, k22, hP22⟩ := hv
        have nD := hPb9.ne hDq
        refine ⟨rfl, _, rfl, p, c, _, rfl, hP22, by omega, fun w H23 wa wb k23 hP23 => ?_⟩
        refine ⟨_, k23 _ _ nD.1 hL22, szLt ?_, ns ++ [w], ?_, fun x hx => ?_, ?_, (k22.trans k23).put hDq, (hP23.put nD.1 nD.2).mono (by omega)⟩
        · rw [List.length_map]
          omega
        · rw [List.length_append, List.length_singleton]
          omega
        · rcases List.mem_append.mp hx with hx | hx
          · exact hnb x hx
          · rw [List.mem_singleton.mp hx]
            exact ⟨wa, wb⟩
        · rw [upd_same, List.map_append]
          rfl
      obtain ⟨ns, hls, hlb, hL22, k22, hP22⟩ := hv
      refine ⟨Dq, _, rfl, .inl ⟨SqL.of hL22, fun tl htl2 => ?_⟩⟩
      have x23 := Ext.new (o := .tup (ns.map V.int)) htl2
      have hV : TupOf IntAt (upd H22 tl (.tup (ns.map V.int))) (.ref tl) ns := ⟨tl, _, rfl, upd_same, paired_ints ns⟩
      have hDx := x23 _ _ (k22 _ _ nD7.1 hDb)
      have hSx := x23 _ _ (k22 _ _ nss hSb)
      have hPx := (hP22.ext x23).mono (show n + 42 + 2 * 9 ≤ n + 60 by omega)
      have kpx := ((kl.trans kb9).trans k22).trans (Kp.ext x23)
      clear hL22 k22 hP22 hDb hSb e hPb9 kb9 hPl hDl hSl kl kl9 hV0 exl x23
      generalize upd H22 tl (.tup (ns.map V.int)) = Hx at hV hDx hSx hPx kpx ⊢
    rotate_left
    focus
      have hV := TupOf.mono IntAt.mono _ _ _ _ (TupK.of kb9 hPl) hV0
      have hDx := kb9 _ _ nD7.1 hDl
      have hSx := kb9 _ _ nss hSl
      have hPx := hPb9.mono (show _ ≤ n + 60 by omega)
      have kpx := kl.trans kb9
      have hls : [(0 : Int), 0, 0, 0, 0, 0, 0, 0, 0].length = 9 := rfl
      have hlb : ∀ x ∈ [(0 : Int), 0, 0, 0, 0, 0, 0, 0, 0], -99 ≤ x ∧ x ≤ 99 := by decide
      obtain ⟨tl, htl⟩ : ∃ tl, tl = tl0 := ⟨_, rfl⟩
      obtain ⟨ns, hns⟩ : ∃ ns, ns = [(0 : Int), 0, 0, 0, 0, 0, 0, 0, 0] := ⟨_, rfl⟩
      rw [← hns] at hV hls hlb
      rw [← htl] at hV ⊢
      clear hns htl hPb9 kb9 hPl hDl hSl kl kl9 hV0 exl e
      generalize Hb9 = Hx at hV hDx hSx hPx kpx ⊢
    all_goals
      have nsH : Kp p H Hx := kpx
      refine ⟨_, rfl, D7, _, rfl, hDx, fun lq hlq => ?_⟩
      rw [int_map]
      have xq := Ext.new (o := .lst ((t.map (·.1)).map V.str)) hlq
      have hq1 : (upd Hx lq (.lst ((t.map (·.1)).map V.str))) lq = some (.lst ((t.map (·.1)).map V.str)) := upd_same
      refine ⟨lq, t.map (·.1), rfl, SqL.of hq1, by rw [List.length_map]; omega, fun kz so kzp _ hso => ?_⟩
      have hkl : kz.length = t.length := by rw [kzp.length_eq, List.length_map]
      have hkm : ∀ k ∈ kz, k ∈ t.map (·.1) := fun k hk => kzp.mem_iff.mp hk
      have hk2 : ∀ k ∈ kz, Two k ∧ Of (Str.join "" ut) k := fun k hk => by
        obtain ⟨y, hy, rfl⟩ := List.mem_map.mp (hkm k hk)
        exact ⟨(htb y hy).1, (htb y hy).2.1⟩
      have x13 := xq.trans (Ext.new (o := .lst (kz.map V.str)) hso)
      have hO13 : (upd (upd Hx lq (.lst ((t.map (·.1)).map V.str))) so (.lst (kz.map V.str))) so = some (.lst (kz.map V.str)) := upd_same
      have hP13 := hPx.ext x13
      have nso : so ≠ p := ((hPx.ext xq).ne hso).1
      have kp13 := kpx.trans (Kp.ext x13)
      have hD13 := x13 _ _ hDx
      have hS13 := x13 _ _ hSx
      have hV13 := TupOf.mono IntAt.mono _ _ _ _ (TupK.ext x13) hV
      generalize upd (upd Hx lq (.lst ((t.map (·.1)).map V.str))) so (.lst (kz.map V.str)) = H13 at hO13 hP13 kp13 hD13 hS13 hV13 ⊢
      clear x13 xq hq1 hlq hso
      -- stacks
      refine fun st hst => ?_
      have nst := hP13.ne hst
      have hst0 : H st = none := none_of kp13 nst.1 hst
      refine ⟨_, rfl, p, c, 4, _, rfl, hP13.new hst, by omega, by decide, by decide, fun rs H14 rs0 rs1 k14 hP14 => ?_⟩
      have hO14 := k14 _ _ nso (Ext.new (o := .dT []) hst _ _ hO13)
      have hE14 : H14 st = some (.dT []) := k14 _ _ nst.1 upd_same
      refine ⟨_, rfl, Nat.zero_le _, fun d15 hd15 => ?_⟩
      have x15 := Ext.new (o := .lst []) hd15
      refine ⟨.list (kz.map PyData.str), .list [], .lst (SqL.of (x15 _ _ hO14)) (dpStrs kz), .lst (SqL.of upd_same) .nil, (sm_strs (n := 36) (m := 2) (by omega) (fun t ht => ⟨(hk2 t ht).1.2, Nat.le_of_eq (hk2 t ht).1.1⟩) (by decide)).shaped (by decide), by decide, .inr ⟨_, rfl, rs, _, rfl, rfl, .inl ⟨by omega, by omega⟩, ?_⟩⟩
      obtain ⟨cnt, hcnt, cnt0, cnt12, cntU⟩ : ∃ cnt : Int, cnt = rs * (if (!PyData.eqv (.list (kz.map PyData.str)) (.list [])) = true then 1 else 0) ∧ 0 ≤ cnt ∧ cnt ≤ 12 ∧ (0 < cnt → 0 < kz.length) := by
        refine ⟨_, rfl, ?_⟩
        cases kz with
        | nil =>
          have : (!PyData.eqv (.list (([] : List Str).map PyData.str)) (.list [])) = false := by simp [PyData.eqv, PyData.eqvAll]
          rw [this]
          simp
        | cons y z =>
          have : (!PyData.eqv (.list ((y :: z).map PyData.str)) (.list [])) = true := by simp [PyData.eqv, PyData.eqvAll]
          rw [this, if_pos rfl, Int.mul_one, List.length_cons]
          omega
      have k1315 : Kp p H13 (upd H14 d15 (.lst [])) := ((Kp.new hst).trans k14).trans (Kp.ext x15)
      refine ⟨cnt, congrArg (fun z => [V.int z]) hcnt.symm, by omega, by omega, for_range (lo := 0) (n := cnt.toNat) (fun i σ H16 => ∃ (y4 : Option V) (es : List (Str × Str × Int)), σ = [some (.ref p), some (.int f0), some (.int h0), some (.int mn), y4, some (.ref ss), some (.ref e0), y7, some (.ref D7), some (.int sp), some (.ref tl), some (.ref so), some (.ref st), none, none, none, none] ∧ H16 st = some (.dT (es.map encE)) ∧ es.length ≤ i ∧ (es.map fun x => (x.1, x.2.1)).Nodup ∧ (∀ x ∈ es, (Two x.1 ∧ Two x.2.1 ∧ -99 ≤ x.2.2 ∧ x.2.2 ≤ 99) ∧ Of (Str.join "" ut) x.1 ∧ Of (Str.join "" ut) x.2.1) ∧ Kp p H13 H16 ∧ TupK H13 H16 ∧ Pen H16 p c (n + 62 + 4 * i))
        ⟨_, [], rfl, x15 _ _ hE14, Nat.zero_le _, List.nodup_nil, (fun x h => by cases h), k1315, TupK.of k1315 hP13, (hP14.ext x15).mono (by omega)⟩ (fun i σ H16 hi hv => ?_) (fun σ H16 hv => ?_)⟩
      · obtain ⟨y4, es, rfl, hE16, hel, hnd, hok, k16, tk16, hP16⟩ := hv
        have hu0 : 0 < kz.length := cntU (by omega)
        have hzl : ((kz.map V.str).length : Int) = kz.length := by rw [List.length_map]
        refine ⟨_, rfl, p, c, _, rfl, hP16, by omega, fun w H18 wa wb k18 hP18 => ?_⟩
        have hO18 := k18 _ _ nso (k16 _ _ nso hO13)
        refine ⟨_, rfl, _, rfl, _, rfl, _, rfl, so, _, rfl, .inl (SqL.of hO18), p, c, _, _, rfl, hP18, by omega, by omega, by omega, fun r1 H19 r1a r1b k19 hP19 => ?_⟩
        have hO19 := k19 _ _ nso hO18
        obtain ⟨v1, hv1, hat1⟩ := atI_mem (xs := kz.map V.str) r1a r1b
        obtain ⟨t1, ht1, rfl⟩ := List.mem_map.mp hv1
        refine ⟨so, _, r1, _, rfl, rfl, SqL.of hO19, hat1, ?_⟩
        refine ⟨_, rfl, _, rfl, _, rfl, so, _, rfl, .inl (SqL.of hO19), p, c, _, _, rfl, hP19, by omega, by omega, by omega, fun r2 H20 r2a r2b k20 hP20 => ?_⟩
        obtain ⟨v2, hv2, hat2⟩ := atI_mem (xs := kz.map V.str) r2a r2b
        obtain ⟨t2, ht2', rfl⟩ := List.mem_map.mp hv2
        refine ⟨so, _, r2, _, rfl, rfl, SqL.of (k20 _ _ nso hO19), hat2, szL (show 2 ≤ 1000000 by decide), fun tk htk => ?_⟩
        have k1620 : Kp p H16 H20 := (k18.trans k19).trans k20
        have x21 := Ext.new (o := .tup [.str t1, .str t2]) htk
        have hT21 : (upd H20 tk (.tup [.str t1, .str t2])) tk = some (.tup [.str t1, .str t2]) := upd_same
        have hP21 := hP20.ext x21
        have hE21 := x21 _ _ (k1620 _ _ nst.1 hE16)
        refine ⟨st, _, rfl, DPut.t (k := [.inr t1, .inr t2]) hE21 hT21 (szLt ?_), ?_⟩
        · rw [List.length_map]
          omega
        · rw [put_enc]
          generalize upd H20 tk (.tup [.str t1, .str t2]) = H21 at hT21 hP21 hE21 x21 ⊢
          have tkd : TupK H21 (upd H21 st (.dT ((putE es t1 t2 w).map encE))) := ⟨fun b xs e => by rw [upd_ne (ne_of e hE21 (by intro z; cases z))]; exact e, fun b o u e => by rw [upd_ne (ne_of e hE21 (by intro z; cases z))]; exact e⟩
          refine ⟨_, putE es t1 t2 w, rfl, upd_same, ?_, putE_keys _ _ _ _ hnd, putE_all hok ⟨⟨(hk2 t1 ht1).1, (hk2 t2 ht2').1, wa, wb⟩, (hk2 t1 ht1).2, (hk2 t2 ht2').2⟩, ?_, ?_, ?_⟩
          · have := putE_len es t1 t2 w
            omega
          · exact ((k16.trans k1620).trans (Kp.ext x21)).put hst
          · exact ((tk16.trans (TupK.of k1620 hP16)).trans (TupK.ext x21)).trans tkd
          · exact (hP21.put nst.1 nst.2).mono (by omega)
      · obtain ⟨y4, es, rfl, hE16, hel, hnd, hok, k16, tk16, hP16⟩ := hv
        have hes12 : es.length ≤ 12 := by omega
        have hO16 := k16 _ _ nso hO13
        have hD16 := k16 _ _ nD7.1 hD13
        have hS16 := k16 _ _ nss hS13
        have hV16 := TupOf.mono IntAt.mono _ _ _ _ tk16 hV13
        have kp16 := kp13.trans k16
        have hP16 := hP16.mono (show n + 62 + 4 * cnt.toNat ≤ n + 120 by omega)
        clear k16 tk16 hV13 hO13 hD13 hS13 hP13 kp13 k1315 hP14 k14 hO14 hE14 x15 hd15 hst
        -- rows
        refine ⟨_, rfl, so, rfl, ⟨_, SqL.of hO16⟩, fun D hD => lc_list (K := K) (xs := kz.map V.str) (GenP2 PairAt D H16 (kz.map fun k => (k, lkS t k)))
          (gen2_new hD) (fun i H18 _ h => SqL.of (h.ext _ _ hO16)) (fun i u H18 hi hv => ?_) (fun H18 hv => ?_)⟩
        · rw [List.getElem?_map] at hi
          obtain ⟨k, hk, rfl⟩ : ∃ k, kz[i]? = some k ∧ u = V.str k := by
            cases e : kz[i]? with
            | none => rw [e] at hi; cases hi
            | some k => rw [e] at hi; exact ⟨k, rfl, (Option.some.inj hi).symm⟩
          have hval := val_encT (hkm k (List.mem_of_getElem? hk))
          have hD18 := hv.ext _ _ hD16
          refine ⟨rfl, _, rfl, _, rfl, _, rfl, D7, _, rfl, hval.1 ▸ DGet.k (k := .inr k) hD18, szL (show 2 ≤ 1000000 by decide), fun t7 ht7 => ?_⟩
          have x7 := Ext.new (o := .tup [.str k, .int (lkS t k)]) ht7
          refine gen2_step PairAt.mono hD hv x7 (b := (k, lkS t k)) ⟨t7, rfl, upd_same⟩ ?_ (by rw [List.length_map]; omega)
          rw [List.getElem?_map, hk]
          rfl
        obtain ⟨vs, hL18, hPr, k18⟩ := gen2_end hv (by rw [List.length_map, List.length_map]; exact Nat.le_refl _)
        clear hv
        refine ⟨D, _, rfl, SqL.of hL18, fun tp oz htp hoz => ?_⟩
        have hTp : FrzOf PairAt (upd H18 tp (.frz oz (.tup vs))) (.ref tp) (kz.map fun k => (k, lkS t k)) := ⟨tp, oz, vs, rfl, upd_same, hoz, paired_imp (fun _ _ => PairAt.mono _ _ _ _ (TupK.new htp)) hPr⟩
        have x19 := k18.trans (Ext.new (o := .frz oz (.tup vs)) htp)
        have hE19 := x19 _ _ hE16
        have hS19 := x19 _ _ hS16
        have hP19 := hP16.ext x19
        have kp19 := kp16.trans (Kp.ext x19)
        have hV19 := TupOf.mono IntAt.mono _ _ _ _ (TupK.ext x19) hV16
        generalize upd H18 tp (.frz oz (.tup vs)) = H19 at hTp hE19 hS19 hP19 kp19 hV19 ⊢
        clear x19 hL18 hPr k18 hP16 kp16 hV16 hD16 hO16 hS16 hE16 htp hD
        -- last
        refine ⟨_, rfl, st, _, rfl, .inl hE19, fun lk bs hlk hkeys => ?_⟩
        obtain ⟨bes, hb1, hb2, hb3⟩ := keys_zip hkeys
        have ek := Ext.new (o := .lst (bs.map V.ref)) hlk
        refine ⟨_, fun x => V.ref x.1, fun x => .tuple [.str x.2.1, .str x.2.2.1], lk, bes, rfl, SqL.of (by rw [upd_same, ← hb1, List.map_map]; rfl), fun x hx => ⟨.tup (SqT.of (ek _ _ (hb3 x hx))) (.cons (.str _) (.cons (.str _) .nil)), by simp [PyData.depth, PyData.depthAll]⟩, ?_, .inl ?_, fun ls hls2 => ?_⟩
        · intro d1 h1 d2 h2
          obtain ⟨x1, _, rfl⟩ := List.mem_map.mp h1
          obtain ⟨x2, _, rfl⟩ := List.mem_map.mp h2
          simp [PySem.W.alike, PySem.W.alikeAll]
        · intro d1 h1
          obtain ⟨x1, _, rfl⟩ := List.mem_map.mp h1
          exact ⟨_, _, rfl⟩
        · obtain ⟨S, hS⟩ : ∃ S, S = bes.mergeSort (PySem.W.dataLe false fun x => PyData.tuple [.str x.2.1, .str x.2.2.1]) := ⟨_, rfl⟩
          rw [← hS]
          have hperm : S.Perm bes := hS ▸ List.mergeSort_perm _ _
          have hSl : S.length ≤ 12 := by
            rw [hperm.length_eq]
            have := congrArg List.length hb2
            rw [List.length_map] at this
            omega
          have e17 := ek.trans (Ext.new (o := .lst (S.map fun x => V.ref x.1)) hls2)
          refine ⟨ls, rfl, ⟨_, SqL.of upd_same⟩, fun D hD => lc_list (K := K) (xs := S.map fun x => V.ref x.1) (fun i H18 => ∃ (vs : List V) (stk : List (Str × Str × Int)), H18 D = some (.lst vs) ∧ Paired (StackAt H18) vs stk ∧ stk = (S.take i).map (·.2) ∧ Ext (upd (upd H19 lk (.lst (bs.map V.ref))) ls (.lst (S.map fun x => V.ref x.1))) H18)
            ⟨[], [], upd_same, .nil, rfl, Ext.new hD⟩ (fun i H18 _ ⟨_, _, _, _, _, k⟩ => SqL.of (k _ _ upd_same)) (fun i u H18 hi hv => ?_) (fun H18 hv => ?_)⟩
          · obtain ⟨vs, stk, hL18, hPr18, hstk, k18⟩ := hv
            rw [List.getElem?_map] at hi
            obtain ⟨x, hx, rfl⟩ : ∃ x, S[i]? = some x ∧ u = V.ref x.1 := by
              cases e : S[i]? with
              | none => rw [e] at hi; cases hi
              | some x => rw [e] at hi; exact ⟨x, rfl, (Option.some.inj hi).symm⟩
            have hxm : x ∈ bes := hperm.mem_iff.mp (List.mem_of_getElem? hx)
            have hxe : x.2 ∈ es := hb2 ▸ List.mem_map.mpr ⟨x, hxm, rfl⟩
            have hb18 := k18 _ _ (e17 _ _ (hb3 x hxm))
            have hD18 := k18 _ _ (e17 _ _ hE19)
            have hdg : DGet H18 st (.ref x.1) (some (.int x.2.2.2)) := val_enc hnd hxe ▸ DGet.t (k := [.inr x.2.1, .inr x.2.2.1]) hD18 hb18
            refine ⟨rfl, _, rfl, _, rfl, _, rfl, st, _, rfl, hdg, szL (show 1 ≤ 1000000 by decide), fun t1 ht1 => ?_⟩
            have e19 := Ext.new (o := .tup [.int x.2.2.2]) ht1
            refine ⟨x.1, t1, _, _, rfl, rfl, SqT.of (e19 _ _ hb18), SqT.of upd_same, (fun z => by cases z), szL (show 2 + 1 ≤ 1000000 by decide), (fun z => by cases z), fun _ t2 ht2 => ?_⟩
            have e20 := e19.trans (Ext.new (o := .tup [.str x.2.1, .str x.2.2.1, .int x.2.2.2]) ht2)
            have hL20 := e20 _ _ hL18
            have nDt : t2 ≠ D := by
              intro z
              rw [← z] at hL20
              rw [upd_same] at hL20
              cases hL20
            have hvl : vs.length ≤ 12 := by
              rw [paired_len hPr18, hstk, List.length_map, List.length_take]
              omega
            refine ⟨vs, hL20, szLt (by omega), vs ++ [.ref t2], stk ++ [x.2], upd_same, ?_, ?_, (k18.trans e20).put hD⟩
            · refine (paired_imp (fun _ _ => StackAt.mono _ _ _ _ ((TupK.ext e20).trans (TupK.lst hL20))) hPr18).snoc ⟨t2, rfl, ?_⟩
              rw [upd_ne nDt, upd_same]
            · rw [List.take_add_one, hx, List.map_append, hstk]
              rfl
          · obtain ⟨vs, stk, hL18, hPr18, hstk, k18⟩ := hv
            rw [List.length_map, List.take_of_length_le (Nat.le_refl _)] at hstk
            have hkeys2 : (stk.map fun x => (x.1, x.2.1)).Nodup := by
              rw [hstk, List.map_map]
              have : (S.map ((fun x : Str × Str × Int => (x.1, x.2.1)) ∘ fun x : Addr × Str × Str × Int => x.2)).Perm (es.map fun x => (x.1, x.2.1)) := by
                rw [← hb2, List.map_map]
                exact hperm.map _
              exact this.nodup_iff.mpr hnd
            have hstE : ∀ x ∈ stk, x ∈ es := fun x hx => by
              rw [hstk] at hx
              obtain ⟨y, hy, rfl⟩ := List.mem_map.mp hx
              exact hb2 ▸ List.mem_map.mpr ⟨y, hperm.mem_iff.mp hy, rfl⟩
            have hst12 : stk.length ≤ 12 := by
              rw [hstk, List.length_map]
              exact hSl
            refine ⟨D, _, rfl, .inl ⟨SqL.of hL18, fun tr htr => ?_⟩⟩
            have e21 := (e17.trans k18).trans (Ext.new (o := .tup vs) htr)
            have hTr : TupOf StackAt (upd H18 tr (.tup vs)) (.ref tr) stk := ⟨tr, vs, rfl, upd_same, paired_imp (fun _ _ => StackAt.mono _ _ _ _ (TupK.new htr)) hPr18⟩
            have hP21 := hP19.ext e21
            have hS21 := e21 _ _ hS19
            generalize upd H18 tr (.tup vs) = H21 at hTr hP21 hS21 e21 ⊢
            refine ⟨⟨_, rfl⟩, _, rfl, "", ss, ut, rfl, rfl, .inl (SqL.of hS21), fits_join (k := 20) (m := 1) (by omega) (fun y hy => Nat.le_of_eq (hut1 y hy).1) (by decide), ?_⟩
            rw [join_str]
            refine ⟨_, rfl, _, rfl, _, rfl, _, rfl, szL (show 5 ≤ 1000000 by decide), fun tR htR => ?_⟩
            have xR := e21.trans (Ext.new (o := .tup [.str (Str.join "" ut), .ref tp, .int sp, .ref tl, .ref tr]) htR)
            have xR1 := Ext.new (o := .tup [.str (Str.join "" ut), .ref tp, .int sp, .ref tl, .ref tr]) htR
            refine q _ ⟨Str.join "" ut, kz.map fun k => (k, lkS t k), sp, ns, stk⟩ _ ⟨tR, .ref tp, .ref tl, .ref tr, rfl, upd_same, FrzOf.mono PairAt.mono _ _ _ _ (TupK.ext xR) hTp, TupOf.mono IntAt.mono _ _ _ _ (TupK.ext xR) hV19, TupOf.mono StackAt.mono _ _ _ _ (TupK.ext xR1) hTr⟩
              ⟨by show (Str.join "" ut).length ≤ 6; omega, by show 1 ≤ (Str.join "" ut).length; omega, hsm, ?_, ?_, hsp2.1, hsp2.2, hls, hlb, hst12, fun x hx => (hok x (hstE x hx)).1, hkeys2, ?_⟩ ⟨?_, fun x hx => (hok x (hstE x hx)).2⟩ (kp19.trans (Kp.ext xR)) ((hP21.ext xR1).mono (by omega))
            · show (kz.map _).length ≤ 12
              rw [List.length_map]
              omega
            · intro x hx
              obtain ⟨k, hk, rfl⟩ := List.mem_map.mp hx
              have := htb _ (val_encT (hkm k hk)).2
              exact ⟨this.1, this.2.2⟩
            · show ((kz.map fun k => (k, lkS t k)).map (·.1)).Nodup
              rw [List.map_map]
              have : ((fun x : Str × Int => x.1) ∘ fun k => (k, lkS t k)) = id := rfl
              rw [this, List.map_id]
              exact kzp.nodup_iff.mpr htn
            · intro x hx
              obtain ⟨k, hk, rfl⟩ := List.mem_map.mp hx
              exact (hk2 k hk).2
abbrev CRules (P : Program) (w : World) (K : PySem.W.Frag) (mg : Str → Option Value) (base : Heap) : Prop := Ca P w K mg base 3 "_law_book" ["_law_pen_here"] spRules
end
end Pf


namespace Pf
open PySem PySem.Spec PyProof.Rows L2
/-! ### rules as data -/
theorem dpIntsAt {K : PySem.W.Frag} {H : Hp} : ∀ {vs : List V} {ns : List Int}, Paired (IntAt H) vs ns → DpAll K H vs (ns.map PyData.int)
  | _, _, .nil => .nil
  | _, _, .cons e t => .cons ((show _ = V.int _ from e) ▸ .int _) (dpIntsAt t)
def dPr (x : Str × Int) : PyData := .tuple [.str x.1, .int x.2]
theorem dpPairs {K : PySem.W.Frag} {H : Hp} : ∀ {vs : List V} {prs : List (Str × Int)}, Paired (PairAt H) vs prs → DpAll K H vs (prs.map dPr)
  | _, _, .nil => .nil
  | _, _, .cons ⟨_, e, h⟩ t => .cons (e ▸ .tup (SqT.of h) (.cons (.str _) (.cons (.int _) .nil))) (dpPairs t)
theorem sm_prs {prs : List (Str × Int)} (hn : prs.length ≤ 12) (h : ∀ x ∈ prs, Two x.1 ∧ -99 ≤ x.2 ∧ x.2 ≤ 99) : Sm 2000 2 (.tuple (prs.map dPr)) := by
  refine Sm.tup (n := 12) (m := 130) (k := 1) (by rw [List.length_map]; exact hn) (fun d hd => ?_) (by decide)
  obtain ⟨x, hx, rfl⟩ := List.mem_map.mp hd
  have h1 := h x hx
  refine Sm.tup (n := 2) (m := 64) (k := 0) (Nat.le_refl _) (fun d hd => ?_) (by decide)
  simp only [List.mem_cons, List.not_mem_nil, or_false] at hd
  rcases hd with rfl | rfl
  · exact (Sm.str h1.1.2.ok (Nat.le_refl _)).le (by rw [h1.1.1]; decide) (Nat.le_refl _)
  · exact Sm.int (by omega) (by omega)
def dSt (x : Str × Str × Int) : PyData := .tuple [.str x.1, .str x.2.1, .int x.2.2]
theorem dpStacks {K : PySem.W.Frag} {H : Hp} : ∀ {vs : List V} {ps : List (Str × Str × Int)}, Paired (StackAt H) vs ps → DpAll K H vs (ps.map dSt)
  | _, _, .nil => .nil
  | _, _, .cons ⟨_, e, h⟩ t => .cons (e ▸ .tup (SqT.of h) (.cons (.str _) (.cons (.str _) (.cons (.int _) .nil)))) (dpStacks t)
def dRl (r : Rl) : PyData := .tuple [.str r.letters, .tuple (r.prs.map dPr), .int r.span, .tuple (r.loops.map PyData.int), .tuple (r.stk.map dSt)]
theorem dp_rules {K : PySem.W.Frag} {H : Hp} {v : V} {r : Rl} (h : RulesAt H v r) : Dp K H v (dRl r) := by
  obtain ⟨a, vp, vl, vs, rfl, hA, ⟨ap, oz, us, rfl, hp, _, hP⟩, ⟨al, ls, rfl, hl, hL⟩, ⟨as, ss, rfl, hs, hS⟩⟩ := h
  exact .tup (SqT.of hA) (.cons (.str _) (.cons (.tup (SqT.fz hp) (dpPairs hP)) (.cons (.int _) (.cons (.tup (SqT.of hl) (dpIntsAt hL)) (.cons (.tup (SqT.of hs) (dpStacks hS)) .nil)))))
theorem sm_rules {r : Rl} (ok : RlOk r) : Sm 50000 3 (dRl r) := by
  refine Sm.tup (n := 5) (m := 5000) (k := 2) (Nat.le_refl _) (fun d hd => ?_) (by decide)
  simp only [List.mem_cons, List.not_mem_nil, or_false] at hd
  have h3 := ok.sp0
  have h4 := ok.sp3
  rcases hd with rfl | rfl | rfl | rfl | rfl
  · exact (Sm.str ok.small.ok ok.let6).le (by decide) (by decide)
  · exact (sm_prs ok.prs ok.pr).le (by decide) (by decide)
  · exact (Sm.int (by omega) (by omega)).le (by decide) (by decide)
  · refine (Sm.tup (n := 9) (m := 64) (k := 0) (by rw [List.length_map, ok.lo9]; exact Nat.le_refl _) (fun d hd => ?_) (Nat.le_refl _)).le (by decide) (by decide)
    obtain ⟨z, hz, rfl⟩ := List.mem_map.mp hd
    have := ok.lo z hz
    exact Sm.int (by omega) (by omega)
  · refine (Sm.tup (n := 12) (m := 200) (k := 1) (by rw [List.length_map]; exact ok.stk) (fun d hd => ?_) (Nat.le_refl _)).le (by decide) (by decide)
    obtain ⟨z, hz, rfl⟩ := List.mem_map.mp hd
    have hk := ok.st z hz
    refine Sm.tup (n := 3) (m := 64) (k := 0) (Nat.le_refl _) (fun d hd => ?_) (by decide)
    simp only [List.mem_cons, List.not_mem_nil, or_false] at hd
    rcases hd with rfl | rfl | rfl
    · exact (Sm.str hk.1.2.ok (Nat.le_of_eq hk.1.1)).le (by decide) (by decide)
    · exact (Sm.str hk.2.1.2.ok (Nat.le_of_eq hk.2.1.1)).le (by decide) (by decide)
    · exact Sm.int (by omega) (by omega)
end Pf


namespace Pf
open PySem PySem.Spec PyProof.Rows L2
theorem ixN_at {n : Nat} {i : Int} (h0 : 0 ≤ i) (h1 : i < n) : ixN n i = some i.toNat := by
  unfold ixN
  rw [if_pos h0, if_pos h1]
theorem paired_mem {α β : Type} {R : α → β → Prop} : ∀ {xs : List α} {ys : List β} {x : α}, Paired R xs ys → x ∈ xs → ∃ y, y ∈ ys ∧ R x y
  | _, _, _, .nil, h => by cases h
  | _, _, _, .cons r t, h => by
    rcases List.mem_cons.mp h with rfl | h
    · exact ⟨_, List.mem_cons_self .., r⟩
    · obtain ⟨y, hy, q⟩ := paired_mem t h
      exact ⟨y, List.mem_cons_of_mem _ hy, q⟩
def OneO (L t : Str) : Prop := t.length = 1 ∧ Of L t
theorem oneO_of {L : Str} {c : Nat} (h : c ∈ L.cps.toList) : OneO L ⟨#[c]⟩ := ⟨rfl, fun d hd => by
  have e : d = c := by simpa using hd
  rw [e]
  exact h⟩
theorem set_oneO {L : Str} {ys : List Str} {j : Nat} {t : Str} (h : ∀ y ∈ ys, OneO L y) (ht : OneO L t) : ∀ y ∈ ys.set j t, OneO L y := fun y hy => by
  rcases List.mem_or_eq_of_mem_set hy with h1 | rfl
  · exact h y h1
  · exact ht
theorem join_one {L : Str} {zs : List Str} (h : ∀ y ∈ zs, OneO L y) : (Str.join "" zs).length = zs.length ∧ Of L (Str.join "" zs) := by
  refine ⟨?_, sjoin_of fun y hy => (h y hy).2⟩
  rw [← show (Str.join "" zs).cps.toList.length = (Str.join "" zs).length from Array.length_toList, join_cps]
  induction zs with
  | nil => rfl
  | cons y r ih =>
    rw [List.flatMap_cons, List.length_append, ih fun z hz => h z (List.mem_cons_of_mem _ hz), List.length_cons]
    have : y.cps.toList.length = y.length := Array.length_toList
    rw [this, (h y (List.mem_cons_self ..)).1]
    omega
section
variable {P : Program} {w : World} {K : PySem.W.Frag} {mg : Str → Option Value} {base : Heap}
abbrev s_law_line : Stmt := topS 34
theorem sc_law_line : FnScope ["_law_pen_here", "_law_book_here", "_law_least_size", "_law_upto", "_law_letters", "_law_size", "_law_k", "_law_some", "_law_both"] ["_law_pen_here", "_law_book_here", "_law_least_size", "_law_upto"] (defScope s_law_line) :=
  ⟨rfl, rfl, rfl, by decide +kernel, rfl, by decide +kernel, by decide +kernel⟩
def spLine : Sp := fun vs H Q _ => ∃ (p c : Addr) (v : V) (r : Rl) (m1 m : Int) (n : Nat), vs = [.ref p, v, .int m1, .int m] ∧ RulesAt H v r ∧ RlOk r ∧ OfP r ∧ 0 ≤ m1 ∧ m1 ≤ m ∧ m ≤ 12 ∧ Pen H p c n ∧ n + 40 < 1000000 ∧
  ∀ (x : Str) H', m1 ≤ x.length → (x.length : Int) ≤ m → Of r.letters x → Kp p H H' → Pen H' p c (n + 40) → Q (.str x) H'
theorem ok_line {f : Addr} {fd : FuncData} (F : Fun K "_law_line" "_law_line" s_law_line f fd) (c_law_take : CDraw P w K mg base) (mrange : mg "range" = none) (mlen : mg "len" = none) : FnOk P w K mg base CX0 3 f fd ["_law_pen_here", "_law_book_here", "_law_least_size", "_law_upto"] spLine := by
  refine F.ok sc_law_line (fun vs H Q E h => ?_) (fun cdv A outer s H vs Q E hr h => ?_)
  · obtain ⟨p, c, v, r, m1, m, n, rfl, _⟩ := h
    rfl
  · obtain ⟨p, c, v, r, m1, m, n, rfl, hRR, ok, ofp, m0, m01, mm, hP, hn, q⟩ := h
    obtain ⟨a, vp, vl, vs, rfl, hA, ⟨ap, oz, us, rfl, hp, hoz, hR⟩, hl, hs⟩ := id hRR
    refine ⟨_, (pss_cons (ps_set (i := 4) sc_law_line.nd rfl (.inr rfl) (pe_ix (ixT K) (pv 1) pe_int (fun _ _ => rfl)))
      (pss_cons (ps_set (i := 5) sc_law_line.nd rfl (.inl rfl) (pe_op op_add (pv 2) (pe_ca c_law_take (hr.mono (by decide)) (by rfl) (pa_cons (pv 0) (pa_cons (pe_op op_sub (pe_op op_add (pv 3) pe_int) (pv 2)) pa_nil)))))
      (pss_cons (ps_setLc (i := 7) (own := [("_law_k", 6)]) (g := gName 6) (by rfl) sc_law_line.nd rfl rfl (sw_true rfl rfl rfl (by decide +kernel)) (pi_range1 (by rfl) mrange (pa_cons (pv 5) pa_nil)) (blkOk_by (own := [("_law_k", 6)]) (N := ["_law_pen_here", "_law_book_here", "_law_least_size", "_law_upto", "_law_letters", "_law_size", "_law_k", "_law_some", "_law_both"]) (sc := defScope s_law_line) (by decide +kernel)) (fun _ _ _ _ _ => (pg_name (i := 6) sc_law_line.nd rfl (.inl rfl))) (fun _ _ _ _ _ => pts_nil) (fun _ _ _ _ _ => (pe_ix ix_str (pv 4) (pe_ca c_law_take (hr.mono (by decide)) (by rfl) (pa_cons (pv 0) (pa_cons (pe_callB call_len_str (by rfl) mlen (by decide +kernel) (pa_cons (pv 4) pa_nil)) pa_nil))) (fun _ _ => rfl))))
      (pss_cons (ps_if (PW.pt (pw_and (pt_cmpR (neD K hr.units) (pe_ix (ixT K) (pv 1) pe_int (fun _ _ => rfl)) (pe_tup pa_nil) (nomark _)) (pw_and1 (pt_cmpR op_gt (pe_ca c_law_take (hr.mono (by decide)) (by rfl) (pa_cons (pv 0) (pa_cons pe_int pa_nil))) pe_int (nomark _))))) (pss_one (ps_for PassesOwn.never rfl (pi_range1 (by rfl) mrange (pa_cons (pe_op op_fdiv (pv 5) pe_int) pa_nil)) (pg_name (i := 6) sc_law_line.nd rfl (.inl rfl)) (pss_cons (ps_set (i := 8) sc_law_line.nd rfl (.inl rfl) (pe_ix (ixT K) (pe_ix (ixT K) (pe_ix (ixT K) (pv 1) pe_int (fun _ _ => rfl)) (pe_ca c_law_take (hr.mono (by decide)) (by rfl) (pa_cons (pv 0) (pa_cons (pe_callB (lenQ K) (by rfl) mlen (by decide +kernel) (pa_cons (pe_ix (ixT K) (pv 1) pe_int (fun _ _ => rfl)) pa_nil)) pa_nil))) (fun _ _ => rfl)) pe_int (fun _ _ => rfl)))
      (pss_cons (ps_asg (pe_ix ix_str (pv 8) pe_int (fun _ _ => rfl)) (pg_sub (pv 7) (pv 6) set_list))
      (pss_one (ps_asg (pe_ix ix_str (pv 8) pe_int (fun _ _ => rfl)) (pg_sub (pv 7) (pe_op op_sub (pe_op op_sub (pv 5) pe_int) (pv 6)) set_list))))))) pss_nil)
      (pss_one (ps_ret (pe_join pe_str (pv 7)))))))), ?_⟩
    have hlen := paired_len hR
    have hpl := ok.prs
    have hl6 := ok.let6
    have hl1 := ok.let1
    refine ⟨_, rfl, a, _, 0, _, rfl, rfl, SqT.of hA, rfl, ?_⟩
    refine ⟨_, rfl, _, rfl, _, rfl, m, 1, rfl, rfl, _, rfl, _, _, rfl, rfl, p, c, m + 1 - m1, n, rfl, hP, by omega, by omega, by omega, fun r1 H1 r1a r1b k1 hP1 => ⟨m1, r1, rfl, rfl, ?_⟩⟩
    have hA1 := k1 _ _ (hP.tup hA) hA
    have hp1 := k1 _ _ (hP.frz hp) hp
    have hR1 := paired_imp (fun _ _ => PairAt.mono _ _ _ _ (TupK.of k1 hP)) hR
    -- some
    refine ⟨_, rfl, m1 + r1, rfl, by omega, by omega, fun D hD => lc_range (lo := 0) (n := (m1 + r1).toNat) (fun i H4 => ∃ ys : List Str, ys.length = i ∧ (∀ y ∈ ys, OneO r.letters y) ∧ H4 D = some (.lst (ys.map V.str)) ∧ Kp p H1 H4 ∧ Pen H4 p c (n + 1 + i)) ⟨[], rfl, (fun y h => by cases h), upd_same, Kp.new hD, hP1.new hD⟩ (fun i H4 hi hv => ?_) (fun H4 hv => ?_)⟩
    · obtain ⟨ys, hyl, hyo, hL4, k4, hP4⟩ := hv
      refine ⟨rfl, _, rfl, _, rfl, _, rfl, r.letters, rfl, szL (by omega), p, c, (r.letters.length : Int), _, rfl, hP4, by omega, by omega, by omega, fun r5 H5 r5a r5b k5 hP5 => ?_⟩
      obtain ⟨ch, hch, hat5⟩ := atI_mem (xs := r.letters.cps.toList) r5a (by rw [Array.length_toList]; exact r5b)
      have nD := hP1.ne hD
      refine ⟨r.letters, r5, ch, rfl, rfl, szL (by omega), hat5, _, k5 _ _ nD.1 hL4, szLt ?_, ys ++ [⟨#[ch]⟩], ?_, fun y hy => ?_, ?_, (k4.trans k5).put hD, (hP5.put nD.1 nD.2)⟩
      · rw [List.length_map]
        omega
      · rw [List.length_append, List.length_singleton]
        omega
      · rcases List.mem_append.mp hy with hy | hy
        · exact hyo y hy
        · rw [List.mem_singleton.mp hy]
          exact oneO_of hch
      · rw [upd_same, List.map_append]
        rfl
    obtain ⟨ys, hyl, hyo, hL4, k4, hP4⟩ := hv
    have nD := hP1.ne hD
    have hA4 := k4 _ _ (hP1.tup hA1) hA1
    have hp4 := k4 _ _ (hP1.frz hp1) hp1
    have hR4 := paired_imp (fun _ _ => PairAt.mono _ _ _ _ (TupK.of k4 hP1)) hR1
    have hDn : H1 D = none := hD
    have fin : ∀ (zs : List Str) (H9 : Hp), zs.length = (m1 + r1).toNat → (∀ y ∈ zs, OneO r.letters y) → Kp p H1 H9 → Pen H9 p c (n + 40) → Q (.str (Txt.join "" zs)) H9 := fun zs H9 hzl hzo k9 hP9 => by
      rw [join_str]
      have hj := join_one hzo
      exact q _ _ (by omega) (by omega) hj.2 (k1.trans k9) hP9
    refine ⟨_, rfl, a, _, 1, _, rfl, rfl, SqT.of hA4, rfl, Nat.zero_le _, fun t0 ht0 => ?_⟩
    have e5 := Ext.new (o := .tup []) ht0
    refine ⟨.tuple (r.prs.map dPr), .tuple [], .tup (SqT.fz (e5 _ _ hp4)) (dpPairs (paired_imp (fun _ _ => PairAt.mono _ _ _ _ (TupK.ext e5)) hR4)), .tup (SqT.of upd_same) .nil, (sm_prs ok.prs ok.pr).shaped (by decide), by decide, _, rfl, ite2 (fun e => ?_) (fun e => ?_)⟩
    · have hp0 : 0 < us.length := by
        rw [hlen]
        cases hh : r.prs with
        | nil =>
          rw [hh] at e
          simp [PyData.eqv, PyData.eqvAll] at e
        | cons y z =>
          rw [List.length_cons]
          omega
      have hP5 := hP4.ext e5
      refine ⟨_, rfl, p, c, 3, _, rfl, hP5, by omega, by decide, by decide, fun r6 H6 r6a r6b k6 hP6 => ⟨_, _, rfl, rfl, _, rfl, ite2 (fun e2 => ?_) (fun e2 => ?_)⟩⟩
      · have k46 := (Kp.ext (p := p) e5).trans k6
        have hL6 := k46 _ _ nD.1 hL4
        have hA6 := k46 _ _ (hP4.tup hA4) hA4
        have hp6 := k46 _ _ (hP4.frz hp4) hp4
        have hR6 := paired_imp (fun _ _ => PairAt.mono _ _ _ _ (TupK.of k46 hP4)) hR4
        refine ⟨_, rfl, m1 + r1, 2, rfl, rfl, ⟨by decide, by decide⟩, (m1 + r1) / 2, rfl, by omega, by omega, for_range (lo := 0) (n := ((m1 + r1) / 2).toNat) (fun i σ H7 => ∃ (y6 y8 : Option V) (zs : List Str), σ = [some (.ref p), some (.ref a), some (.int m1), some (.int m), some (.str r.letters), some (.int (m1 + r1)), y6, some (.ref D), y8] ∧ zs.length = (m1 + r1).toNat ∧ (∀ y ∈ zs, OneO r.letters y) ∧ H7 D = some (.lst (zs.map V.str)) ∧ TupK H6 H7 ∧ Kp p H1 H7 ∧ Pen H7 p c (n + 20 + i))
          ⟨_, _, ys, rfl, hyl, hyo, hL6, TupK.refl, k4.trans k46, hP6.mono (by omega)⟩ (fun i σ H7 hi hv => ?_) (fun σ H7 hv => ?_)⟩
        · obtain ⟨y6, y8, zs, rfl, hzl, hzo, hL7, k7, k37, hP7⟩ := hv
          have hA7 := k7 _ _ hA6
          have hp7 := k7.frz _ _ _ hp6
          have hul : (0 : Int) < (us.length : Int) := by omega
          refine ⟨_, rfl, a, _, 1, _, rfl, rfl, SqT.of hA7, rfl, _, rfl, _, rfl, a, _, 1, _, rfl, rfl, SqT.of hA7, rfl, ap, us, rfl, .inr (SqT.fz hp7), p, c, (us.length : Int), _, rfl, hP7, by omega, by omega, by omega, fun rx H8 rxa rxb k8 hP8 => ?_⟩
          obtain ⟨vx, hvx, hatx⟩ := atI_mem (xs := us) rxa rxb
          obtain ⟨⟨t, w1⟩, hy, a1, rfl, ha1⟩ := paired_mem hR6 hvx
          have ha8 := k8 _ _ (hP7.tup (k7 _ _ ha1)) (k7 _ _ ha1)
          have hp8 := k8 _ _ (hP7.frz hp7) hp7
          have ht := (ok.pr _ hy).1
          have hto := ofp.1 _ hy
          have htl : t.length = 2 := ht.1
          have hL8 := k8 _ _ nD.1 hL7
          obtain ⟨c0, hc0, hat0⟩ := atI_mem (xs := t.cps.toList) (i := 0) (by decide) (by rw [Array.length_toList]; show (0 : Int) < (t.length : Int); omega)
          obtain ⟨c1, hc1, hat1⟩ := atI_mem (xs := t.cps.toList) (i := 1) (by decide) (by rw [Array.length_toList]; show (1 : Int) < (t.length : Int); omega)
          have o0 : OneO r.letters ⟨#[c0]⟩ := oneO_of (hto c0 hc0)
          have o1 : OneO r.letters ⟨#[c1]⟩ := oneO_of (hto c1 hc1)
          have hzl2 : (zs.map V.str).length = zs.length := List.length_map ..
          refine ⟨ap, us, rx, _, rfl, rfl, SqT.fz hp8, hatx, a1, _, 0, _, rfl, rfl, SqT.of ha8, rfl, ?_⟩
          refine ⟨_, rfl, t, 0, c0, rfl, rfl, szL (by omega), hat0, _, rfl, _, rfl, D, _, _, _, rfl, rfl, hL8, ixN_at (by omega) (by omega), ?_⟩
          refine ⟨_, rfl, t, 1, c1, rfl, rfl, szL (by omega), hat1, _, rfl, _, rfl, _, 1, rfl, rfl, _, rfl, _, _, rfl, rfl, D, _, _, _, rfl, rfl, upd_same, ixN_at (by omega) (by rw [List.length_set]; omega), ?_⟩
          refine ⟨_, _, (zs.set ((0 : Int) + i).toNat ⟨#[c0]⟩).set (m1 + r1 - 1 - (0 + (i : Int))).toNat ⟨#[c1]⟩, rfl, ?_, set_oneO (set_oneO hzo o0) o1, ?_, ?_, ?_, ?_⟩
          · rw [List.length_set, List.length_set]
            exact hzl
          · rw [upd_same, List.map_set, List.map_set]
          · exact ((k7.trans (TupK.of k8 hP7)).trans (TupK.lst hL8)).trans (TupK.lst upd_same)
          · exact ((k37.trans k8).put hDn).put hDn
          · exact ((hP8.put nD.1 nD.2).put nD.1 nD.2).mono (by omega)
        · obtain ⟨y6, y8, zs, rfl, hzl, hzo, hL7, k7, k37, hP7⟩ := hv
          exact ⟨⟨_, rfl⟩, _, rfl, "", D, zs, rfl, rfl, .inl (SqL.of hL7), fits_join (k := 20) (m := 1) (by omega) (fun y hy => Nat.le_of_eq (hzo y hy).1) (by decide), fin zs _ hzl hzo k37 (hP7.mono (by omega))⟩
      · have k46 := (Kp.ext (p := p) e5).trans k6
        exact ⟨⟨_, rfl⟩, _, rfl, "", D, ys, rfl, rfl, .inl (SqL.of (k46 _ _ nD.1 hL4)), fits_join (k := 20) (m := 1) (by omega) (fun y hy => Nat.le_of_eq (hyo y hy).1) (by decide), fin ys _ hyl hyo (k4.trans k46) (hP6.mono (by omega))⟩
    · exact ⟨⟨_, rfl⟩, _, rfl, "", D, ys, rfl, rfl, .inl (SqL.of (e5 _ _ hL4)), fits_join (k := 20) (m := 1) (by omega) (fun y hy => Nat.le_of_eq (hyo y hy).1) (by decide), fin ys _ hyl hyo (k4.trans (Kp.ext e5)) ((hP4.ext e5).mono (by omega))⟩
abbrev CLine (P : Program) (w : World) (K : PySem.W.Frag) (mg : Str → Option Value) (base : Heap) : Prop := Ca P w K mg base 3 "_law_line" ["_law_pen_here", "_law_book_here", "_law_least_size", "_law_upto"] spLine
end
end Pf


namespace Pf
open PySem PySem.Spec PyProof.Rows L2
def sgn (x : Str) (i : Int) : Str := ⟨#[x.cps.toList.getD i.toNat 0]⟩
theorem sgn_at {x : Str} {i : Int} (h0 : 0 ≤ i) (h1 : i < x.length) : atI x.cps.toList i = some (x.cps.toList.getD i.toNat 0) := by
  have h2 : i < x.cps.toList.length := by
    rw [Array.length_toList]
    exact h1
  rw [atI_get h0 h2, List.getD_eq_getElem?_getD, List.getElem?_eq_getElem (by omega)]
  rfl
def tx2 (x : Str) (p : Int × Int) : Str := sgn x p.1 ++ sgn x p.2
def pwV : List (Str × Int) → Str → V
  | [], _ => .non
  | (t, x) :: r, b => if t = b then .int x else pwV r b
theorem pwV_at {prs : List (Str × Int)} {i : Nat} {t : Str} {x : Int} (h : prs[i]? = some (t, x)) (b : Str) : pwV (prs.drop i) b = if t = b then .int x else pwV (prs.drop (i + 1)) b := by
  obtain ⟨hi, e⟩ := List.getElem?_eq_some_iff.mp h
  rw [List.drop_eq_getElem_cons hi, e, pwV]
theorem pwV_end {prs : List (Str × Int)} {i : Nat} (h : prs.length ≤ i) (b : Str) : pwV (prs.drop i) b = .non := by
  rw [List.drop_eq_nil_of_le h, pwV]
theorem pwV_is : ∀ (prs : List (Str × Int)) (b : Str), (!decide (pwV prs b = .non)) = decide (b ∈ prs.map (·.1))
  | [], _ => rfl
  | (t, x) :: r, b => by
    rw [pwV, List.map_cons]
    by_cases e : t = b
    · rw [if_pos e, decide_eq_false (fun z => by cases z), decide_eq_true (by rw [e]; exact List.mem_cons_self ..)]
      rfl
    · rw [if_neg e, pwV_is r b]
      refine decide_eq_decide.mpr ⟨fun h => List.mem_cons_of_mem _ h, fun h => ?_⟩
      rcases List.mem_cons.mp h with h | h
      · exact absurd h.symm e
      · exact h
def mayC (r : Rl) (x : Str) (i j : Int) : Bool := decide (r.span < j - i) && decide (tx2 x (i, j) ∈ r.prs.map (·.1))
def encP (x : Str × Int) : Key × V := (.inr x.1, .int x.2)
theorem val_isSome : ∀ (prs : List (Str × Int)) (b : Str), (valV (prs.map encP) (.inr b)).isSome = decide (b ∈ prs.map (·.1))
  | [], _ => rfl
  | (t, x) :: r, b => by
    rw [List.map_cons, List.map_cons]
    by_cases e : t = b
    · rw [valV_pos (show (encP (t, x)).1 = Sum.inr b by rw [e]; rfl), decide_eq_true (by rw [e]; exact List.mem_cons_self ..)]
      rfl
    · rw [valV_neg (show ¬ (encP (t, x)).1 = Sum.inr b from fun z => e (Sum.inr.inj z)), val_isSome r b]
      refine decide_eq_decide.mpr ⟨fun h => List.mem_cons_of_mem _ h, fun h => ?_⟩
      rcases List.mem_cons.mp h with h | h
      · exact absurd h.symm e
      · exact h
theorem merge_nd : ∀ (kvs acc : List (Key × V)), ((acc ++ kvs).map (·.1)).Nodup → mergeK acc kvs = acc ++ kvs
  | [], acc, _ => by rw [List.append_nil]; rfl
  | (k, v) :: r, acc, h => by
    have hno : (acc.any fun kv => decide (kv.1 = k)) = false := by
      rw [List.any_eq_false]
      intro kv hkv e
      have e := of_decide_eq_true e
      rw [List.map_append, List.map_cons] at h
      have := (List.nodup_append.mp h).2.2 kv.1 (List.mem_map.mpr ⟨kv, hkv, rfl⟩) k (List.mem_cons_self ..)
      exact this e
    have e1 : putK acc k v = acc ++ [(k, v)] := by
      unfold putK
      rw [hno, if_neg Bool.false_ne_true]
    show mergeK (putK acc k v) r = _
    rw [e1, merge_nd r (acc ++ [(k, v)]) (by rw [List.append_assoc]; exact h), List.append_assoc]
    rfl
theorem merge_prs {prs : List (Str × Int)} (h : (prs.map (·.1)).Nodup) : mergeK [] (prs.map encP) = prs.map encP := by
  rw [merge_nd, List.nil_append]
  rw [List.nil_append, List.map_map]
  have e : ((fun x : Key × V => x.1) ∘ encP) = (fun x : Str × Int => (Sum.inr x.1 : Key)) := rfl
  rw [e]
  have e2 : (prs.map fun x : Str × Int => (Sum.inr x.1 : Key)) = (prs.map (·.1)).map Sum.inr := by
    rw [List.map_map]
    rfl
  rw [e2]
  exact List.Pairwise.map _ (fun a b z y => z (Sum.inr.inj y)) h
section
variable {P : Program} {w : World} {K : PySem.W.Frag} {mg : Str → Option Value} {base : Heap}
abbrev s_pair_worth : Stmt := topS 5
theorem sc_pair_worth : FnScope ["rules", "both", "text", "worth"] ["rules", "both"] (defScope s_pair_worth) :=
  ⟨rfl, rfl, rfl, by decide +kernel, rfl, by decide +kernel, by decide +kernel⟩
def spPW : Sp := fun vs H Q _ => ∃ (v : V) (r : Rl) (b : Str), vs = [v, .str b] ∧ RulesW H v r ∧ Q (pwV r.prs b) H
theorem ok_pw {f : Addr} {fd : FuncData} {k : Nat} (F : Fun K "pair_worth" "pair_worth" s_pair_worth f fd) : FnOk P w K mg base CX0 (k + 1) f fd ["rules", "both"] spPW := by
  refine F.ok sc_pair_worth (fun vs H Q E h => ?_) (fun cdv A outer s H vs Q E hr h => ?_)
  · obtain ⟨v, r, b, rfl, _⟩ := h
    rfl
  · obtain ⟨v, r, b, rfl, ⟨a, vp, vl, vs, rfl, hA, ⟨ap, us, rfl, hp, hR⟩, _, _⟩, q⟩ := h
    refine ⟨_, (pss_cons (ps_for PassesOwn.never rfl (pi_tup (pe_ix (ixT K) (pv 0) pe_int (fun _ _ => rfl))) (pg_tup rfl (pgs_cons (pg_name (i := 2) sc_pair_worth.nd rfl (.inl rfl)) (pgs_cons (pg_name (i := 3) sc_pair_worth.nd rfl (.inl rfl)) pgs_nil))) (pss_one (ps_if (pt_cmpR op_eq (pv 2) (pv 1) (nomark _)) (pss_one (ps_ret (pv 3))) pss_nil)))
      (pss_one (ps_ret pe_non))), ?_⟩
    have hlen := paired_len hR
    refine ⟨_, rfl, a, _, 1, _, rfl, rfl, SqT.of hA, rfl, ap, rfl, ⟨_, SqT.w hp⟩, for_tup (xs := us) (fun i σ H2 => ∃ (y2 y3 : Option V), σ = [some (.ref a), some (.str b), y2, y3] ∧ H2 = H ∧ pwV (r.prs.drop i) b = pwV r.prs b)
      ⟨none, none, rfl, rfl, rfl⟩ (fun i σ H2 _ ⟨y2, y3, _, e, _⟩ => SqT.w (by rw [e]; exact hp)) (fun i u σ H2 hi hv => ?_) (fun σ H2 hv => ?_)⟩
    · obtain ⟨y2, y3, rfl, rfl, hd⟩ := hv
      obtain ⟨⟨t, x⟩, hx, a1, rfl, ha1⟩ := paired_get hR hi
      rw [pwV_at hx] at hd
      refine ⟨a1, _, rfl, SqT.of ha1, rfl, _, _, rfl, _, _, rfl, rfl, ?_⟩
      refine ⟨_, rfl, _, rfl, rfl, _, rfl, ite2 (fun e => ?_) (fun e => ?_)⟩
      · have e2 : t = b := V.str.inj (of_decide_eq_true e)
        rw [if_pos e2] at hd
        refine ⟨_, rfl, ?_⟩
        show Q (.int x) _
        rw [hd]
        exact q
      · have e2 : ¬ t = b := fun z => e (decide_eq_true (congrArg V.str z))
        rw [if_neg e2] at hd
        exact ⟨_, _, rfl, rfl, hd⟩
    · obtain ⟨y2, y3, rfl, rfl, hd⟩ := hv
      rw [pwV_end (by omega)] at hd
      show Q .non _
      rw [hd]
      exact q
abbrev CPW (P : Program) (w : World) (K : PySem.W.Frag) (mg : Str → Option Value) (base : Heap) : Prop := Ca P w K mg base 1 "pair_worth" ["rules", "both"] spPW
abbrev s_text_of : Stmt := topS 8
theorem sc_text_of : FnScope ["string", "pair"] ["string", "pair"] (defScope s_text_of) :=
  ⟨rfl, rfl, rfl, by decide +kernel, rfl, by decide +kernel, by decide +kernel⟩
def spTextOf : Sp := fun vs H Q _ => ∃ (x : Str) (t : Addr) (y : Int × Int), vs = [.str x, .ref t] ∧ H t = some (.tup [.int y.1, .int y.2]) ∧ x.length ≤ 1000 ∧ 0 ≤ y.1 ∧ y.1 < x.length ∧ 0 ≤ y.2 ∧ y.2 < x.length ∧ Q (.str (tx2 x y)) H
theorem ok_text_of {f : Addr} {fd : FuncData} {k : Nat} (F : Fun K "text_of" "text_of" s_text_of f fd) : FnOk P w K mg base CX0 (k + 1) f fd ["string", "pair"] spTextOf := by
  refine F.ok sc_text_of (fun vs H Q E h => ?_) (fun cdv A outer s H vs Q E hr h => ?_)
  · obtain ⟨x, t, y, rfl, _⟩ := h
    rfl
  · obtain ⟨x, t, y, rfl, hT, hx, i0, i1, j0, j1, q⟩ := h
    refine ⟨_, (pss_one (ps_ret (pe_op op_add_str (pe_ix ix_str (pv 0) (pe_ix (ixT K) (pv 1) pe_int (fun _ _ => rfl)) (fun _ _ => rfl)) (pe_ix ix_str (pv 0) (pe_ix (ixT K) (pv 1) pe_int (fun _ _ => rfl)) (fun _ _ => rfl))))), ?_⟩
    refine ⟨_, rfl, _, rfl, t, _, 0, _, rfl, rfl, SqT.of hT, rfl, x, y.1, _, rfl, rfl, szL (by omega), sgn_at i0 i1, ?_⟩
    refine ⟨_, rfl, _, rfl, t, _, 1, _, rfl, rfl, SqT.of hT, rfl, x, y.2, _, rfl, rfl, szL (by omega), sgn_at j0 j1, ?_⟩
    exact ⟨_, _, rfl, rfl, szL (show 1 + 1 ≤ 1000000 by decide), q⟩
abbrev CTx (P : Program) (w : World) (K : PySem.W.Frag) (mg : Str → Option Value) (base : Heap) : Prop := Ca P w K mg base 1 "text_of" ["string", "pair"] spTextOf
abbrev s_may_pair : Stmt := topS 9
theorem sc_may_pair : FnScope ["rules", "string", "i", "j"] ["rules", "string", "i", "j"] (defScope s_may_pair) :=
  ⟨rfl, rfl, rfl, by decide +kernel, rfl, by decide +kernel, by decide +kernel⟩
def spMP : Sp := fun vs H Q _ => ∃ (v : V) (r : Rl) (x : Str) (i j : Int), vs = [v, .str x, .int i, .int j] ∧ RulesW H v r ∧ x.length ≤ 1000 ∧ 0 ≤ i ∧ i < j ∧ j < x.length ∧ ∀ H', Ext H H' → Q (.bl (mayC r x i j)) H'
theorem ok_mp {f : Addr} {fd : FuncData} (F : Fun K "may_pair" "may_pair" s_may_pair f fd) (ctext_of : CTx P w K mg base) (cpair_worth : CPW P w K mg base) (mlen : mg "len" = none) : FnOk P w K mg base CX0 2 f fd ["rules", "string", "i", "j"] spMP := by
  refine F.ok sc_may_pair (fun vs H Q E h => ?_) (fun cdv A outer s H vs Q E hr h => ?_)
  · obtain ⟨v, r, x, i, j, rfl, _⟩ := h
    rfl
  · obtain ⟨v, r, x, i, j, rfl, hR, hx, e1, e2, e3, q⟩ := h
    obtain ⟨a, vp, vl, vs, rfl, hA, hp, hl, hs⟩ := id hR
    refine ⟨_, (pss_cons (ps_if (pt_not (pt_chain3 op_le op_lt op_lt pe_int (pv 2) (pv 3) (pe_callB call_len_str (by rfl) mlen (by decide +kernel) (pa_cons (pv 1) pa_nil)))) (pss_one (ps_ret pe_bl)) pss_nil)
      (pss_cons (ps_if (pt_cmpR op_lt (pe_op op_sub (pe_op op_sub (pv 3) (pv 2)) pe_int) (pe_ix (ixT K) (pv 0) pe_int (fun _ _ => rfl)) (nomark _)) (pss_one (ps_ret pe_bl)) pss_nil)
      (pss_one (ps_ret (pe_cmpR op_notN (pe_ca cpair_worth (hr.mono (by decide)) (by rfl) (pa_cons (pv 0) (pa_cons (pe_ca ctext_of (hr.mono (by decide)) (by rfl) (pa_cons (pv 1) (pa_cons (pe_tup (pa_cons (pv 2) (pa_cons (pv 3) pa_nil))) pa_nil))) pa_nil))) pe_non (nomark _)))))), ?_⟩
    refine ⟨_, rfl, 0, i, rfl, rfl, _, rfl, ?_⟩
    rw [decide_eq_true e1]
    refine iteT ⟨_, rfl, i, j, rfl, rfl, _, rfl, ?_⟩
    rw [decide_eq_true e2]
    refine iteT ⟨_, rfl, x, rfl, szL (by omega), _, _, rfl, rfl, _, rfl, ?_⟩
    rw [decide_eq_true e3]
    refine iteF ⟨_, rfl, _, rfl, _, _, rfl, rfl, _, 1, rfl, rfl, _, rfl, a, _, 2, _, rfl, rfl, SqT.of hA, rfl, _, _, rfl, rfl, _, rfl, ite2 (fun e4 => ?_) (fun e4 => ?_)⟩
    · have e4 : j - i - 1 < r.span := of_decide_eq_true e4
      have e : mayC r x i j = false := by
        unfold mayC
        rw [decide_eq_false (show ¬ r.span < j - i by omega), Bool.false_and]
      have := q H Ext.refl
      rw [e] at this
      exact this
    · have e4 : ¬ j - i - 1 < r.span := fun z => e4 (decide_eq_true z)
      refine ⟨_, rfl, _, rfl, _, rfl, _, rfl, szL (show 2 ≤ 1000000 by decide), fun t ht => ?_⟩
      refine ⟨x, t, (i, j), rfl, upd_same, hx, e1, (show i < x.length by omega), (show 0 ≤ j by omega), e3, ?_⟩
      refine ⟨_, r, _, rfl, RulesW.mono _ _ _ _ (TupK.new ht) hR, rfl, ?_⟩
      have e : mayC r x i j = !decide (pwV r.prs (tx2 x (i, j)) = .non) := by
        unfold mayC
        rw [decide_eq_true (show r.span < j - i by omega), Bool.true_and, pwV_is]
      have := q _ (Ext.new (o := .tup [.int i, .int j]) ht)
      rw [e] at this
      exact this
abbrev CMP (P : Program) (w : World) (K : PySem.W.Frag) (mg : Str → Option Value) (base : Heap) : Prop := Ca P w K mg base 2 "may_pair" ["rules", "string", "i", "j"] spMP
end
end Pf


namespace Pf
open PySem PySem.Spec PyProof.Rows L2
abbrev Fo : Type := List (Int × Int)
/-! ### all foldings of a stretch, one behind another -/
def seg (r : Rl) (x : Str) (W : Nat → Int → List Fo) (n : Nat) (a : Int) (t : Nat) : List Fo :=
  if mayC r x a (a + 1 + t) = true then (W t (a + 1)).flatMap fun one => (W (n - 1 - t) (a + 2 + t)).map fun other => (a, a + 1 + t) :: (one ++ other) else []
def ws (r : Rl) (x : Str) : Nat → Nat → Int → List Fo
  | 0, _, _ => [[]]
  | _ + 1, 0, _ => [[]]
  | f + 1, n + 1, a => ws r x f n (a + 1) ++ (List.range n).flatMap fun t => seg r x (ws r x f) n a t
theorem seg_congr {r : Rl} {x : Str} {W W' : Nat → Int → List Fo} {n : Nat} {a : Int} {t : Nat} (ht : t < n) (h : ∀ m b, m < n → W m b = W' m b) : seg r x W n a t = seg r x W' n a t := by
  unfold seg
  rw [h t _ ht, h (n - 1 - t) _ (by omega)]
theorem flat_congr {α β : Type} {f g : α → List β} {l : List α} (h : ∀ y ∈ l, f y = g y) : l.flatMap f = l.flatMap g := by
  rw [List.flatMap_def, List.flatMap_def, List.map_congr_left h]
theorem ws_fuel (r : Rl) (x : Str) : ∀ (n f g : Nat) (a : Int), n ≤ f → n ≤ g → ws r x f n a = ws r x g n a := by
  intro n
  induction n using Nat.strongRecOn with
  | ind n ih =>
    intro f g a hf hg
    match n, f, g, hf, hg, ih with
    | 0, 0, 0, _, _, _ => rfl
    | 0, 0, g + 1, _, _, _ => rfl
    | 0, f + 1, 0, _, _, _ => rfl
    | 0, f + 1, g + 1, _, _, _ => rfl
    | n + 1, f + 1, g + 1, hf, hg, ih =>
      rw [ws, ws, ih n (by omega) f g (a + 1) (by omega) (by omega)]
      congr 1
      refine flat_congr fun t ht => ?_
      have ht := List.mem_range.mp ht
      exact seg_congr ht fun m b hm => ih m (by omega) f g b (by omega) (by omega)
def WA (r : Rl) (x : Str) (n : Nat) (a : Int) : List Fo := ws r x n n a
theorem WA_zero (r : Rl) (x : Str) (a : Int) : WA r x 0 a = [[]] := rfl
theorem WA_succ (r : Rl) (x : Str) (n : Nat) (a : Int) : WA r x (n + 1) a = WA r x n (a + 1) ++ (List.range n).flatMap fun t => seg r x (WA r x) n a t := by
  unfold WA
  rw [ws]
  congr 1
  refine flat_congr fun t ht => ?_
  have ht := List.mem_range.mp ht
  exact seg_congr ht fun m b hm => ws_fuel r x m n m b (by omega) (Nat.le_refl _)
theorem WA_one (r : Rl) (x : Str) (a : Int) : WA r x 1 a = [[]] := by
  rw [WA_succ, WA_zero]
  rfl
theorem WA_head (r : Rl) (x : Str) : ∀ (n : Nat) (a : Int), ∃ t, WA r x n a = [] :: t
  | 0, _ => ⟨[], rfl⟩
  | n + 1, a => by
    obtain ⟨t, e⟩ := WA_head r x n (a + 1)
    rw [WA_succ, e]
    exact ⟨_, rfl⟩
/-! ### how many, how long -/
def mz : Nat → Nat → Nat
  | 0, _ => 1
  | _ + 1, 0 => 1
  | f + 1, n + 1 => mz f n + ((List.range n).map fun t => mz f t * mz f (n - 1 - t)).sum
theorem sum_le {f g : Nat → Nat} : ∀ {l : List Nat}, (∀ t ∈ l, f t ≤ g t) → (l.map f).sum ≤ (l.map g).sum
  | [], _ => Nat.le_refl _
  | t :: r, h => by
    have h1 := h t (List.mem_cons_self ..)
    have h2 := sum_le (l := r) fun y hy => h y (List.mem_cons_of_mem _ hy)
    rw [List.map_cons, List.sum_cons, List.map_cons, List.sum_cons]
    omega
theorem flat_len {α β : Type} (f : α → List β) : ∀ l : List α, (l.flatMap f).length = (l.map fun y => (f y).length).sum
  | [] => rfl
  | y :: r => by
    rw [List.flatMap_cons, List.length_append, flat_len f r, List.map_cons, List.sum_cons]
theorem flat_const {α β : Type} {f : α → List β} {c : Nat} : ∀ {l : List α}, (∀ y ∈ l, (f y).length = c) → (l.flatMap f).length = l.length * c
  | [], _ => by rw [List.length_nil, Nat.zero_mul]; rfl
  | y :: r, h => by
    rw [List.flatMap_cons, List.length_append, h y (List.mem_cons_self ..), flat_const fun z hz => h z (List.mem_cons_of_mem _ hz), List.length_cons, Nat.succ_mul]
    omega
theorem seg_len {r : Rl} {x : Str} {W : Nat → Int → List Fo} {n : Nat} {a : Int} {t : Nat} : (seg r x W n a t).length ≤ (W t (a + 1)).length * (W (n - 1 - t) (a + 2 + t)).length := by
  unfold seg
  split
  · rw [flat_const (c := (W (n - 1 - t) (a + 2 + t)).length) fun y _ => List.length_map ..]
    exact Nat.le_refl _
  · exact Nat.zero_le _
theorem ws_len (r : Rl) (x : Str) : ∀ (f n : Nat) (a : Int), (ws r x f n a).length ≤ mz f n
  | 0, _, _ => Nat.le_refl _
  | _ + 1, 0, _ => Nat.le_refl _
  | f + 1, n + 1, a => by
    rw [ws, mz, List.length_append, flat_len]
    refine Nat.add_le_add (ws_len r x f n (a + 1)) (sum_le fun t _ => ?_)
    exact Nat.le_trans seg_len (Nat.mul_le_mul (ws_len r x f t _) (ws_len r x f _ _))
theorem WA_len (r : Rl) (x : Str) {n : Nat} (hn : n ≤ 12) (a : Int) : (WA r x n a).length ≤ 15511 := by
  have h1 := ws_len r x n n a
  have h2 : ∀ m : Nat, m < 13 → mz m m ≤ 15511 := by decide +kernel
  exact Nat.le_trans h1 (h2 n (by omega))
theorem WA_len10 (r : Rl) (x : Str) {n : Nat} (hn : n ≤ 10) (a : Int) : (WA r x n a).length ≤ 2188 := by
  have h1 := ws_len r x n n a
  have h2 : ∀ m : Nat, m < 11 → mz m m ≤ 2188 := by decide +kernel
  exact Nat.le_trans h1 (h2 n (by omega))
/-- each folding of a stretch: places within it, at most half as many pairs -/
theorem WA_in (r : Rl) (x : Str) : ∀ (n : Nat) (a : Int), ∀ q ∈ WA r x n a, (∀ y ∈ q, a ≤ y.1 ∧ y.1 < y.2 ∧ y.2 < a + n) ∧ 2 * q.length ≤ n := by
  intro n
  induction n using Nat.strongRecOn with
  | ind n ih =>
    intro a q hq
    match n, ih, hq with
    | 0, _, hq =>
      rw [WA_zero, List.mem_singleton] at hq
      subst hq
      exact ⟨(fun y hy => by cases hy), Nat.zero_le _⟩
    | n + 1, ih, hq =>
      rw [WA_succ] at hq
      rcases List.mem_append.mp hq with hq | hq
      · have := ih n (by omega) (a + 1) q hq
        exact ⟨fun y hy => by have := this.1 y hy; omega, by omega⟩
      · obtain ⟨t, ht, hq⟩ := List.mem_flatMap.mp hq
        have ht := List.mem_range.mp ht
        unfold seg at hq
        split at hq
        · obtain ⟨one, h1, hq⟩ := List.mem_flatMap.mp hq
          obtain ⟨other, h2, rfl⟩ := List.mem_map.mp hq
          have i1 := ih t (by omega) (a + 1) one h1
          have i2 := ih (n - 1 - t) (by omega) (a + 2 + t) other h2
          refine ⟨fun y hy => ?_, ?_⟩
          · rcases List.mem_cons.mp hy with rfl | hy
            · show a ≤ a ∧ a < a + 1 + t ∧ a + 1 + t < a + (n + 1 : Nat)
              omega
            · rcases List.mem_append.mp hy with hy | hy
              · have := i1.1 y hy
                omega
              · have := i2.1 y hy
                omega
          · rw [List.length_cons, List.length_append]
            omega
        · cases hq
/-! ### foldings in the heap, in a list -/
abbrev FoAt : Hp → V → Fo → Prop := TupOf TwoAt
theorem FoAt.mono : Mono FoAt := TupOf.mono TwoAt.mono
theorem paired_get2 {α β : Type} {R : α → β → Prop} {xs : List α} {ys : List β} {i : Nat} {x : α} (h : Paired R xs ys) (e : xs[i]? = some x) : ∃ y, ys[i]? = some y ∧ R x y := paired_get h e
section
variable {β : Type} {R : Hp → V → β → Prop} {D : Addr} {H H1 H4 : Hp} {bs : List β} {i n : Nat} {v : V} {b : β}
def GenP (R : Hp → V → β → Prop) (D : Addr) (H1 : Hp) (bs : List β) (i : Nat) (H : Hp) : Prop := ∃ vs, H D = some (.lst vs) ∧ Paired (R H) vs (bs.take i) ∧ Ext H1 H
theorem gen_new (hD : H1 D = none) : GenP R D H1 bs 0 (upd H1 D (.lst [])) := ⟨[], upd_same, by rw [List.take_zero]; exact .nil, Ext.new hD⟩
theorem GenP.ext (h : GenP R D H1 bs i H) : Ext H1 H := by
  obtain ⟨_, _, _, k⟩ := h
  exact k
theorem gen_step (m : Mono R) (hD : H1 D = none) (h : GenP R D H1 bs i H) (k : Ext H H4) (hv : R H4 v b) (hb : bs[i]? = some b) (hn : bs.length ≤ 1000000) : ∃ acc, H4 D = some (.lst acc) ∧ acc.length < sizeLine ∧ GenP R D H1 bs (i + 1) (upd H4 D (.lst (acc ++ [v]))) := by
  obtain ⟨vs, hL, hP, k1⟩ := h
  have hl := paired_len hP
  rw [List.length_take] at hl
  have hi := (List.getElem?_eq_some_iff.mp hb).1
  have hL4 := k _ _ hL
  refine ⟨vs, hL4, szLt (by omega), vs ++ [v], upd_same, ?_, (k1.trans k).put hD⟩
  rw [List.take_add_one, hb]
  exact paired_app (paired_imp (fun _ _ => m _ _ _ _ ((TupK.ext k).trans (TupK.lst hL4))) hP) (.cons (m _ _ _ _ (TupK.lst hL4) hv) .nil)
theorem gen_end (h : GenP R D H1 bs n H) (hn : bs.length ≤ n) : ∃ vs, H D = some (.lst vs) ∧ Paired (R H) vs bs ∧ Ext H1 H := by
  obtain ⟨vs, hL, hP, k⟩ := h
  rw [List.take_of_length_le hn] at hP
  exact ⟨vs, hL, hP, k⟩
end
section
variable {P : Program} {w : World} {K : PySem.W.Frag} {mg : Str → Option Value} {base : Heap}
/-! ### sorted -/
def dTwo (x : Int × Int) : PyData := .tuple [.int x.1, .int x.2]
def dFo (q : Fo) : PyData := .tuple (q.map dTwo)
theorem dpTwos {K : PySem.W.Frag} {H : Hp} : ∀ {vs : List V} {ps : List (Int × Int)}, Paired (TwoAt H) vs ps → DpAll K H vs (ps.map dTwo)
  | _, _, .nil => .nil
  | _, _, .cons ⟨_, e, h⟩ t => .cons (e ▸ .tup (SqT.of h) (.cons (.int _) (.cons (.int _) .nil))) (dpTwos t)
theorem dp_fo {K : PySem.W.Frag} {H : Hp} {v : V} {q : Fo} (h : FoAt H v q) : Dp K H v (dFo q) := by
  obtain ⟨a, vs, rfl, h1, h2⟩ := h
  exact .tup (SqT.of h1) (dpTwos h2)
theorem dpFos {K : PySem.W.Frag} {H : Hp} : ∀ {vs : List V} {L : List Fo}, Paired (FoAt H) vs L → DpAll K H vs (L.map dFo)
  | _, _, .nil => .nil
  | _, _, .cons h t => .cons (dp_fo h) (dpFos t)
theorem dep_twos : ∀ q : List (Int × Int), PyData.depthAll (q.map dTwo) ≤ 1
  | [] => by simp [PyData.depthAll]
  | y :: r => by
    rw [List.map_cons, PyData.depthAll]
    have := dep_twos r
    have h1 : (dTwo y).depth = 1 := by simp [dTwo, PyData.depth, PyData.depthAll]
    rw [h1]
    omega
theorem dep_fo (q : Fo) : (dFo q).depth ≤ 2 := by
  unfold dFo
  rw [PyData.depth]
  have := dep_twos q
  omega
theorem alike_twos : ∀ q s : List (Int × Int), PySem.W.alikeAll (q.map dTwo) (s.map dTwo) = true
  | [], _ => by simp [PySem.W.alikeAll]
  | _ :: _, [] => by simp [PySem.W.alikeAll]
  | y :: q, z :: s => by
    rw [List.map_cons, List.map_cons, PySem.W.alikeAll, alike_twos q s]
    simp [dTwo, PySem.W.alike, PySem.W.alikeAll]
def SF (L : List Fo) : List Fo := L.mergeSort (PySem.W.dataLe false dFo)
theorem sort_fos {K : PySem.W.Frag} {H : Hp} {l : Addr} {us : List V} {L : List Fo} {t : List Fo} {Q : VK} (hL : H l = some (.lst us)) (hP : Paired (FoAt H) us L) (h0 : L = [] :: t) (q : ∀ (p : Addr) (ws : List V) (H' : Hp), H p = none → H' p = some (.lst ws) → Paired (FoAt H') ws (SF L) → Ext H H' → Q (.ref p) H') : rSortE K [.ref l] H Q := by
  have hz := paired_len hP
  have e1 : (us.zip L).map (·.1) = us := List.map_fst_zip (by omega)
  have e2 : (us.zip L).map (·.2) = L := List.map_snd_zip (by omega)
  have hall : ∀ b ∈ us.zip L, FoAt H b.1 b.2 := by
    clear e1 e2 hz h0 q hL
    induction hP with
    | nil => intro b hb; cases hb
    | cons r _ ih =>
      intro b hb
      rw [List.zip_cons_cons] at hb
      rcases List.mem_cons.mp hb with rfl | hb
      · exact r
      · exact ih b hb
  have ed : (us.zip L).map (fun b => dFo b.2) = L.map dFo := by
    have := congrArg (List.map dFo) e2
    rw [List.map_map] at this
    exact this
  refine ⟨V × Fo, fun b => b.1, fun b => dFo b.2, l, us.zip L, t.map dFo, rfl, SqL.of (by rw [e1]; exact hL), fun b hb => ⟨dp_fo (hall b hb), Nat.le_trans (dep_fo _) (by decide)⟩, ?_, ?_, ?_, fun p hp => ?_⟩
  · intro d1 h1 d2 h2
    obtain ⟨b1, _, rfl⟩ := List.mem_map.mp h1
    obtain ⟨b2, _, rfl⟩ := List.mem_map.mp h2
    show PySem.W.alike (.tuple _) (.tuple _) = true
    rw [PySem.W.alike]
    exact alike_twos _ _
  · rw [ed, h0]
    rfl
  · intro e he
    obtain ⟨b1, _, rfl⟩ := List.mem_map.mp he
    exact ⟨_, rfl⟩
  · have x1 := Ext.new (o := .lst (((us.zip L).mergeSort (PySem.W.dataLe false fun b => dFo b.2)).map fun b => b.1)) hp
    refine q p _ _ hp upd_same ?_ x1
    have es : ((us.zip L).mergeSort (PySem.W.dataLe false fun b => dFo b.2)).map (·.2) = SF L := by
      have hm := List.map_mergeSort (r := PySem.W.dataLe false fun b : V × Fo => dFo b.2) (s := PySem.W.dataLe false dFo) (f := fun b : V × Fo => b.2) (l := us.zip L) (fun a _ b _ => rfl)
      rw [e2] at hm
      exact hm
    rw [← es]
    have hm : ∀ b ∈ (us.zip L).mergeSort (PySem.W.dataLe false fun b => dFo b.2), FoAt H b.1 b.2 := fun b hb => hall b ((List.mergeSort_perm _ _).mem_iff.mp hb)
    generalize (us.zip L).mergeSort (PySem.W.dataLe false fun b => dFo b.2) = S at hm x1
    have : ∀ {T : List (V × Fo)} {H2 : Hp}, (∀ b ∈ T, FoAt H b.1 b.2) → Ext H H2 → Paired (FoAt H2) (T.map (·.1)) (T.map (·.2)) := by
      intro T H2 hT hx
      induction T with
      | nil => exact .nil
      | cons b T ih => exact .cons (FoAt.mono _ _ _ _ (TupK.ext hx) (hT b (List.mem_cons_self ..))) (ih fun c hc => hT c (List.mem_cons_of_mem _ hc))
    exact this hm x1
end
end Pf


namespace Pf
open PySem PySem.Spec PyProof.Rows L2
/-! ### loops: what is asked -/
def swI : List (Str × Str × Int) → Str → Str → Int
  | [], _, _ => 0
  | (t, u, x) :: r, o, n => if t = o ∧ u = n then x else swI r o n
theorem swI_at {stk : List (Str × Str × Int)} {i : Nat} {t u : Str} {x : Int} (h : stk[i]? = some (t, u, x)) (o n : Str) : swI (stk.drop i) o n = if t = o ∧ u = n then x else swI (stk.drop (i + 1)) o n := by
  obtain ⟨hi, e⟩ := List.getElem?_eq_some_iff.mp h
  rw [List.drop_eq_getElem_cons hi, e, swI]
theorem swI_end {stk : List (Str × Str × Int)} {i : Nat} (h : stk.length ≤ i) (o n : Str) : swI (stk.drop i) o n = 0 := by
  rw [List.drop_eq_nil_of_le h, swI]
theorem swI_bound {stk : List (Str × Str × Int)} (h : ∀ y ∈ stk, -99 ≤ y.2.2 ∧ y.2.2 ≤ 99) (o n : Str) : -99 ≤ swI stk o n ∧ swI stk o n ≤ 99 := by
  induction stk with
  | nil => exact ⟨by show -99 ≤ (0 : Int); decide, by show (0 : Int) ≤ 99; decide⟩
  | cons y r ih =>
    rw [swI]
    by_cases e : y.1 = o ∧ y.2.1 = n
    · rw [if_pos e]
      exact h y (List.mem_cons_self ..)
    · rw [if_neg e]
      exact ih fun z hz => h z (List.mem_cons_of_mem _ hz)
inductive Sep2 : Int → Int → List (Int × Int) → Prop
  | nil {lo hi : Int} : lo ≤ hi → Sep2 lo hi []
  | cons {lo hi p q : Int} {ks : List (Int × Int)} : lo ≤ p → p ≤ q → Sep2 (q + 1) hi ks → Sep2 lo hi ((p, q) :: ks)
def wid (ks : List (Int × Int)) : Int := (ks.map fun y => y.2 - y.1 + 1).sum
theorem Sep2.wid {lo hi : Int} {ks : List (Int × Int)} (h : Sep2 lo hi ks) : 0 ≤ wid ks ∧ wid ks ≤ hi - lo := by
  induction h with
  | nil h => exact ⟨Int.le_refl _, by show (0 : Int) ≤ _; omega⟩
  | @cons lo hi p q ks h1 h2 _ ih =>
    have e : Pf.wid ((p, q) :: ks) = (q - p + 1) + Pf.wid ks := by
      unfold Pf.wid
      rw [List.map_cons, List.sum_cons]
    rw [e]
    omega
def freeI (one : Int × Int) (ks : List (Int × Int)) : Int := one.2 - one.1 - 1 - wid ks
theorem free_sep {one : Int × Int} {ks : List (Int × Int)} (h : Sep2 (one.1 + 1) one.2 ks) : 0 ≤ freeI one ks ∧ freeI one ks ≤ one.2 - one.1 - 1 := by
  have := h.wid
  unfold freeI
  omega
def lo (r : Rl) (i : Nat) : Int := r.loops.getD i 0
def kindN (free : Int) (n : Nat) : Str := if n = 0 then "lone" else if 1 < n then "forked" else if 0 < free then "inner" else "stacked"
def lpW (r : Rl) (x : Str) (one : Int × Int) (ks : List (Int × Int)) : Int :=
  if ks.length = 0 then lo r 6 + freeI one ks * lo r 7 else if 1 < ks.length then lo r 3 + (ks.length * lo r 4 + freeI one ks * lo r 5) else if 0 < freeI one ks then lo r 1 + freeI one ks * lo r 2 else lo r 0 + swI r.stk (tx2 x one) (tx2 x (ks.headD (0, 0)))
def LN : List Str := ["stacked", "inner", "inner free", "forked", "branch", "fork free", "lone", "lone free", "open"]
theorem LN_nd : LN.Nodup := by decide +kernel
def dLo (cs : List Int) : List (Key × V) := (LN.zip cs).map fun x => (.inr x.1, .int x.2)
theorem val_zip : ∀ {ns : List Str} {cs : List Int} {i : Nat} {n : Str} {c : Int}, ns.Nodup → ns[i]? = some n → cs[i]? = some c → valV ((ns.zip cs).map fun x => ((.inr x.1 : Key), V.int x.2)) (.inr n) = some (.int c)
  | [], _, i, _, _, _, h, _ => by simp at h
  | _ :: _, [], i, _, _, _, _, h => by simp at h
  | a :: ns, b :: cs, 0, n, c, _, h, h2 => by
    rw [List.getElem?_cons_zero] at h h2
    cases h
    cases h2
    rw [List.zip_cons_cons, List.map_cons, valV_pos rfl]
  | a :: ns, b :: cs, i + 1, n, c, hn, h, h2 => by
    rw [List.getElem?_cons_succ] at h h2
    have hne : ¬ (Sum.inr a : Key) = Sum.inr n := fun z => by
      have z := Sum.inr.inj z
      rw [z] at hn
      exact (List.nodup_cons.mp hn).1 (List.mem_of_getElem? h)
    rw [List.zip_cons_cons, List.map_cons, valV_neg hne]
    exact val_zip (List.nodup_cons.mp hn).2 h h2
theorem dLo_keys : ∀ {ns : List Str} {cs : List Int}, ns.length = cs.length → ((ns.zip cs).map fun x => ((.inr x.1 : Key), V.int x.2)).map (·.1) = ns.map Sum.inr
  | [], _, _ => rfl
  | _ :: _, [], h => by cases h
  | a :: ns, b :: cs, h => by
    rw [List.zip_cons_cons, List.map_cons, List.map_cons, List.map_cons, dLo_keys (Nat.succ.inj h)]
theorem dLo_merge {cs : List Int} (h : cs.length = 9) : mergeK [] (dLo cs) = dLo cs := by
  rw [merge_nd, List.nil_append]
  rw [List.nil_append]
  unfold dLo
  rw [dLo_keys (by rw [h]; rfl)]
  show (LN.map (Sum.inr : Str → Key)).Nodup
  decide +kernel
theorem get_lo {H : Hp} {d : Addr} {cs : List Int} (h : H d = some (.dK (dLo cs))) (hc : cs.length = 9) {i : Nat} {n : Str} (hn : LN[i]? = some n) : DGet H d (.str n) (some (.int (cs.getD i 0))) := by
  have hi : i < 9 := (List.getElem?_eq_some_iff.mp hn).1
  have e : cs[i]? = some (cs.getD i 0) := by
    rw [List.getD_eq_getElem?_getD, List.getElem?_eq_getElem (by omega)]
    rfl
  have := val_zip (cs := cs) LN_nd hn e
  exact this ▸ DGet.k (k := .inr n) h
theorem dLo_vals : ∀ {ns : List Str} {cs : List Int}, ns.length = cs.length → ((ns.zip cs).map fun x => ((.inr x.1 : Key), V.int x.2)).map (·.2) = cs.map V.int
  | [], [], _ => rfl
  | [], _ :: _, h => by cases h
  | _ :: _, [], h => by cases h
  | a :: ns, b :: cs, h => by
    rw [List.zip_cons_cons, List.map_cons, List.map_cons, List.map_cons, dLo_vals (Nat.succ.inj h)]
theorem dLo_kV : ∀ {ns : List Str} {cs : List Int}, ns.length = cs.length → (((ns.zip cs).map fun x => ((.inr x.1 : Key), V.int x.2)).map fun x => kV x.1) = ns.map V.str
  | [], _, _ => rfl
  | _ :: _, [], h => by cases h
  | a :: ns, b :: cs, h => by
    rw [List.zip_cons_cons, List.map_cons, List.map_cons, List.map_cons, dLo_kV (Nat.succ.inj h)]
    rfl
theorem ints_of {H : Hp} : ∀ {vs : List V} {ns : List Int}, Paired (IntAt H) vs ns → vs = ns.map V.int
  | _, _, .nil => rfl
  | _, _, .cons h t => by
    have h : _ = V.int _ := h
    rw [List.map_cons, ← ints_of t, h]
theorem lo_bound {r : Rl} (ok : RlOk r) {i : Nat} (hi : i < 9) : -99 ≤ lo r i ∧ lo r i ≤ 99 := by
  have h : i < r.loops.length := by
    rw [ok.lo9]
    exact hi
  have e : lo r i = r.loops[i] := by
    unfold lo
    rw [List.getD_eq_getElem?_getD, List.getElem?_eq_getElem h]
    rfl
  rw [e]
  exact ok.lo _ (List.getElem_mem h)
section
variable {P : Program} {w : World} {K : PySem.W.Frag} {mg : Str → Option Value} {base : Heap}
theorem sumI (K : PySem.W.Frag) {X : Cx} (hc : X.calm = true := by rfl) (h : X.K = K := by rfl) : CallR X (.builtin "sum") (rSum K) := h ▸ cr_sum hc
abbrev s_stack_worth : Stmt := topS 6
theorem sc_stack_worth : FnScope ["rules", "outer", "within", "text", "inner", "worth"] ["rules", "outer", "within"] (defScope s_stack_worth) :=
  ⟨rfl, rfl, rfl, by decide +kernel, rfl, by decide +kernel, by decide +kernel⟩
def spSW : Sp := fun vs H Q _ => ∃ (v : V) (r : Rl) (o n : Str), vs = [v, .str o, .str n] ∧ RulesW H v r ∧ Q (.int (swI r.stk o n)) H
theorem ok_sw {f : Addr} {fd : FuncData} {k : Nat} (F : Fun K "stack_worth" "stack_worth" s_stack_worth f fd) : FnOk P w K mg base CX0 (k + 1) f fd ["rules", "outer", "within"] spSW := by
  refine F.ok sc_stack_worth (fun vs H Q E h => ?_) (fun cdv A outer s H vs Q E hr h => ?_)
  · obtain ⟨v, r, o, n, rfl, _⟩ := h
    rfl
  · obtain ⟨v, r, o, n, rfl, ⟨a, vp, vl, vs, rfl, hA, _, _, ⟨as, us, rfl, hp, hR⟩⟩, q⟩ := h
    refine ⟨_, (pss_cons (ps_for PassesOwn.never rfl (pi_tup (pe_ix (ixT K) (pv 0) pe_int (fun _ _ => rfl))) (pg_tup rfl (pgs_cons (pg_name (i := 3) sc_stack_worth.nd rfl (.inl rfl)) (pgs_cons (pg_name (i := 4) sc_stack_worth.nd rfl (.inl rfl)) (pgs_cons (pg_name (i := 5) sc_stack_worth.nd rfl (.inl rfl)) pgs_nil)))) (pss_one (ps_if (PW.pt (pw_and (pt_cmpR op_eq (pv 3) (pv 1) (nomark _)) (pw_and1 (pt_cmpR op_eq (pv 4) (pv 2) (nomark _))))) (pss_one (ps_ret (pv 5))) pss_nil)))
      (pss_one (ps_ret pe_int))), ?_⟩
    have hlen := paired_len hR
    refine ⟨_, rfl, a, _, 4, _, rfl, rfl, SqT.of hA, rfl, as, rfl, ⟨_, SqT.of hp⟩, for_tup (xs := us) (fun i σ H2 => ∃ (y2 y3 y4 : Option V), σ = [some (.ref a), some (.str o), some (.str n), y2, y3, y4] ∧ H2 = H ∧ swI (r.stk.drop i) o n = swI r.stk o n)
      ⟨none, none, none, rfl, rfl, rfl⟩ (fun i σ H2 _ ⟨y2, y3, y4, _, e, _⟩ => SqT.of (by rw [e]; exact hp)) (fun i u σ H2 hi hv => ?_) (fun σ H2 hv => ?_)⟩
    · obtain ⟨y2, y3, y4, rfl, rfl, hd⟩ := hv
      obtain ⟨⟨t, t2, x⟩, hx, a1, rfl, ha1⟩ := paired_get hR hi
      rw [swI_at hx] at hd
      refine ⟨a1, _, rfl, SqT.of ha1, rfl, _, _, rfl, _, _, rfl, _, _, rfl, rfl, ?_⟩
      refine ⟨_, rfl, _, rfl, rfl, _, rfl, ite2 (fun e => ?_) (fun e => ?_)⟩
      · have e2 : t = o := V.str.inj (of_decide_eq_true e)
        refine ⟨_, rfl, _, rfl, rfl, _, rfl, ite2 (fun e3 => ?_) (fun e3 => ?_)⟩
        · have e4 : t2 = n := V.str.inj (of_decide_eq_true e3)
          rw [if_pos ⟨e2, e4⟩] at hd
          refine ⟨_, rfl, ?_⟩
          show Q (.int x) _
          rw [hd]
          exact q
        · have e4 : ¬ (t = o ∧ t2 = n) := fun z => e3 (decide_eq_true (congrArg V.str z.2))
          rw [if_neg e4] at hd
          exact ⟨_, _, _, rfl, rfl, hd⟩
      · have e4 : ¬ (t = o ∧ t2 = n) := fun z => e (decide_eq_true (congrArg V.str z.1))
        rw [if_neg e4] at hd
        exact ⟨_, _, _, rfl, rfl, hd⟩
    · obtain ⟨y2, y3, y4, rfl, rfl, hd⟩ := hv
      rw [swI_end (by omega)] at hd
      show Q (.int 0) _
      rw [hd]
      exact q
abbrev s_loop_worths : Stmt := topS 16
theorem sc_loop_worths : FnScope ["rules"] ["rules"] (defScope s_loop_worths) :=
  ⟨rfl, rfl, rfl, by decide +kernel, rfl, by decide +kernel, by decide +kernel⟩
def spLW : Sp := fun vs H Q _ => ∃ (v : V) (r : Rl), vs = [v] ∧ RulesW H v r ∧ r.loops.length = 9 ∧ ∀ d, H d = none → Q (.ref d) (upd H d (.dK (dLo r.loops)))
theorem ok_lw {f : Addr} {fd : FuncData} {k : Nat} {aLOOPS : Addr} (F : Fun K "loop_worths" "loop_worths" s_loop_worths f fd) (gLOOPS : mg "LOOPS" = some (.ref aLOOPS)) (hL : ∀ H : Hp, SqT K H aLOOPS (LN.map V.str)) (mdict : mg "dict" = none) (mzip : mg "zip" = none) : FnOk P w K mg base CX0 (k + 1) f fd ["rules"] spLW := by
  refine F.ok sc_loop_worths (fun vs H Q E h => ?_) (fun cdv A outer s H vs Q E hr h => ?_)
  · obtain ⟨v, r, rfl, _⟩ := h
    rfl
  · obtain ⟨v, r, rfl, ⟨a, vp, vl, vs, rfl, hA, _, ⟨al, us, rfl, hl, hR⟩, _⟩, h9, q⟩ := h
    refine ⟨_, (pss_one (ps_ret (pe_dictZip (by rfl) mdict (by rfl) mzip rfl (pa_cons (pe_glob (v := .ref aLOOPS) (by rfl) gLOOPS rfl) (pa_cons (pe_ix (ixT K) (pv 0) pe_int (fun _ _ => rfl)) pa_nil))))), ?_⟩
    have e9 : LN.length = r.loops.length := by
      rw [h9]
      rfl
    refine ⟨_, rfl, a, _, 3, _, rfl, rfl, SqT.of hA, rfl, aLOOPS, al, dLo r.loops, rfl, ?_, ?_, fun d hd => ?_⟩
    · unfold dLo
      rw [dLo_kV e9]
      exact hL H
    · unfold dLo
      rw [dLo_vals e9, ← ints_of hR]
      exact SqT.of hl
    · rw [dLo_merge h9]
      exact q d hd
abbrev s_kind_of : Stmt := topS 17
theorem sc_kind_of : FnScope ["free", "branches"] ["free", "branches"] (defScope s_kind_of) :=
  ⟨rfl, rfl, rfl, by decide +kernel, rfl, by decide +kernel, by decide +kernel⟩
def spKO : Sp := fun vs H Q _ => ∃ (fr : Int) (n : Nat), vs = [.int fr, .int (n : Nat)] ∧ Q (.str (kindN fr n)) H
theorem ok_ko {f : Addr} {fd : FuncData} {k : Nat} (F : Fun K "kind_of" "kind_of" s_kind_of f fd) : FnOk P w K mg base CX0 (k + 1) f fd ["free", "branches"] spKO := by
  refine F.ok sc_kind_of (fun vs H Q E h => ?_) (fun cdv A outer s H vs Q E hr h => ?_)
  · obtain ⟨fr, n, rfl, _⟩ := h
    rfl
  · obtain ⟨fr, n, rfl, q⟩ := h
    refine ⟨_, (pss_cons (ps_if (pt_cmpR op_eq (pv 1) pe_int (nomark _)) (pss_one (ps_ret pe_str)) pss_nil)
      (pss_cons (ps_if (pt_cmpR op_gt (pv 1) pe_int (nomark _)) (pss_one (ps_ret pe_str)) pss_nil)
      (pss_one (ps_ret (pe_ifExp (pt_cmpR op_gt (pv 0) pe_int (nomark _)) pe_str pe_str))))), ?_⟩
    unfold kindN at q
    refine ⟨_, rfl, rfl, _, rfl, ite2 (fun e => ?_) (fun e => ?_)⟩
    · have e : n = 0 := by
        have := V.int.inj (of_decide_eq_true e)
        omega
      rw [if_pos e] at q
      exact q
    · have e : ¬ n = 0 := fun z => e (decide_eq_true (by rw [z]; rfl))
      rw [if_neg e] at q
      refine ⟨_, rfl, _, _, rfl, rfl, _, rfl, ite2 (fun e1 => ?_) (fun e1 => ?_)⟩
      · have e1 : (1 : Int) < n := of_decide_eq_true e1
        rw [if_pos (by omega)] at q
        exact q
      · have e1 : ¬ (1 : Int) < n := fun z => e1 (decide_eq_true z)
        rw [if_neg (by omega)] at q
        refine ⟨_, rfl, _, _, rfl, rfl, _, rfl, ite2 (fun e2 => ?_) (fun e2 => ?_)⟩
        · have e2 : 0 < fr := of_decide_eq_true e2
          rw [if_pos e2] at q
          exact q
        · have e2 : ¬ 0 < fr := fun z => e2 (decide_eq_true z)
          rw [if_neg e2] at q
          exact q
end
def InX (x : Str) (qs : List (Int × Int)) : Prop := ∀ y ∈ qs, 0 ≤ y.1 ∧ y.1 < x.length ∧ 0 ≤ y.2 ∧ y.2 < x.length
theorem dget_ne {H H' : Hp} {d : Addr} {cs : List Int} (k : Ext H H') (h : H d = some (.dK (dLo cs))) : H' d = some (.dK (dLo cs)) := k _ _ h
theorem k_ne {a b : Str} (h : (a == b) = false) : (decide ((V.str a : V) = V.str b)) = false := decide_eq_false fun z => by
  have z := V.str.inj z
  rw [z] at h
  simp at h
section
variable {P : Program} {w : World} {K : PySem.W.Frag} {mg : Str → Option Value} {base : Heap}
abbrev CSW (P : Program) (w : World) (K : PySem.W.Frag) (mg : Str → Option Value) (base : Heap) : Prop := Ca P w K mg base 1 "stack_worth" ["rules", "outer", "within"] spSW
abbrev CLW (P : Program) (w : World) (K : PySem.W.Frag) (mg : Str → Option Value) (base : Heap) : Prop := Ca P w K mg base 1 "loop_worths" ["rules"] spLW
abbrev CKO (P : Program) (w : World) (K : PySem.W.Frag) (mg : Str → Option Value) (base : Heap) : Prop := Ca P w K mg base 1 "kind_of" ["free", "branches"] spKO
abbrev s_loop_within : Stmt := topS 18
theorem sc_loop_within : FnScope ["rules", "string", "pair", "within", "free", "kind", "told", "worth", "p", "q"] ["rules", "string", "pair", "within"] (defScope s_loop_within) :=
  ⟨rfl, rfl, rfl, by decide +kernel, rfl, by decide +kernel, by decide +kernel⟩
def spLoopW : Sp := fun vs H Q _ => ∃ (v : V) (r : Rl) (x : Str) (t l : Addr) (one : Int × Int) (us : List V) (ks : List (Int × Int)), vs = [v, .str x, .ref t, .ref l] ∧ RulesW H v r ∧ RlOk r ∧ x.length ≤ 1000 ∧ H t = some (.tup [.int one.1, .int one.2]) ∧ H l = some (.lst us) ∧ Paired (TwoAt H) us ks ∧ ks.length ≤ 1000 ∧ InX x [one] ∧ InX x ks ∧ 0 ≤ freeI one ks ∧ freeI one ks ≤ 1000 ∧
  ∀ (a : Addr) (H' : Hp), H' a = some (.tup [.str (kindN (freeI one ks) ks.length), .int (freeI one ks), .int (lpW r x one ks)]) → Ext H H' → Q (.ref a) H'
theorem ok_loopw {f : Addr} {fd : FuncData} (F : Fun K "loop_within" "loop_within" s_loop_within f fd) (cstack_worth : CSW P w K mg base) (ctext_of : CTx P w K mg base) (cloop_worths : CLW P w K mg base) (ckind_of : CKO P w K mg base) (msum : mg "sum" = none) (mlen : mg "len" = none) : FnOk P w K mg base CX0 2 f fd ["rules", "string", "pair", "within"] spLoopW := by
  refine F.ok sc_loop_within (fun vs H Q E h => ?_) (fun cdv A outer s H vs Q E hr h => ?_)
  · obtain ⟨v, r, x, t, l, one, us, ks, rfl, _⟩ := h
    rfl
  · obtain ⟨v, r, x, t, l, one, us, ks, rfl, hRu, ok, hx, hT, hL, hPk, hkl, hin1, hink, hf0, hf1, q⟩ := h
    refine ⟨_, (pss_cons (ps_set (i := 4) sc_loop_within.nd rfl (.inl rfl) (pe_op op_sub (pe_op op_sub (pe_op op_sub (pe_ix (ixT K) (pv 2) pe_int (fun _ _ => rfl)) (pe_ix (ixT K) (pv 2) pe_int (fun _ _ => rfl))) pe_int) (pe_callB (sumI K) (by rfl) msum (by decide +kernel) (pa_cons (pe_lc (own := [("p", 8), ("q", 9)]) (g := gTup K 2 (gCons (gName 8) (gCons (gName 9) gNil))) (by rfl) sc_loop_within.nd (pi_list (pv 3)) (blkOk_by (own := [("p", 8), ("q", 9)]) (N := ["rules", "string", "pair", "within", "free", "kind", "told", "worth", "p", "q"]) (sc := defScope s_loop_within) (by decide +kernel)) (fun _ _ _ _ _ => (pgT K rfl (pgs_cons (pg_name (i := 8) sc_loop_within.nd rfl (.inl rfl)) (pgs_cons (pg_name (i := 9) sc_loop_within.nd rfl (.inl rfl)) pgs_nil)))) (fun _ _ _ _ _ => pts_nil) (fun _ _ _ _ _ => (pe_op op_add (pe_op op_sub (pv 9) (pv 8)) pe_int))) pa_nil))))
      (pss_cons (ps_set (i := 5) sc_loop_within.nd rfl (.inl rfl) (pe_ca ckind_of (hr.mono (by decide)) (by rfl) (pa_cons (pv 4) (pa_cons (pe_callB (lenQ K) (by rfl) mlen (by decide +kernel) (pa_cons (pv 3) pa_nil)) pa_nil))))
      (pss_cons (ps_set (i := 6) sc_loop_within.nd rfl (.inl rfl) (pe_ca cloop_worths (hr.mono (by decide)) (by rfl) (pa_cons (pv 0) pa_nil)))
      (pss_cons (ps_set (i := 7) sc_loop_within.nd rfl (.inl rfl) (pe_dget (hu_of hr) (pv 6) (pv 5) (fun _ _ => rfl)))
      (pss_cons (ps_if (pt_cmpR op_eq (pv 5) pe_str (nomark _)) (pss_one (ps_aug (i := 7) sc_loop_within.nd rfl (.inl rfl) (pe_op op_mul (pv 4) (pe_dget (hu_of hr) (pv 6) pe_str (fun _ _ => rfl))) ip_add)) (pss_one (ps_if (pt_cmpR op_eq (pv 5) pe_str (nomark _)) (pss_one (ps_aug (i := 7) sc_loop_within.nd rfl (.inl rfl) (pe_op op_mul (pv 4) (pe_dget (hu_of hr) (pv 6) pe_str (fun _ _ => rfl))) ip_add)) (pss_one (ps_if (pt_cmpR op_eq (pv 5) pe_str (nomark _)) (pss_one (ps_aug (i := 7) sc_loop_within.nd rfl (.inl rfl) (pe_ca cstack_worth (hr.mono (by decide)) (by rfl) (pa_cons (pv 0) (pa_cons (pe_ca ctext_of (hr.mono (by decide)) (by rfl) (pa_cons (pv 1) (pa_cons (pv 2) pa_nil))) (pa_cons (pe_ca ctext_of (hr.mono (by decide)) (by rfl) (pa_cons (pv 1) (pa_cons (pe_ix (ixL K) (pv 3) pe_int (fun _ _ => rfl)) pa_nil))) pa_nil)))) ip_add)) (pss_one (ps_aug (i := 7) sc_loop_within.nd rfl (.inl rfl) (pe_op op_add (pe_op op_mul (pe_callB (lenQ K) (by rfl) mlen (by decide +kernel) (pa_cons (pv 3) pa_nil)) (pe_dget (hu_of hr) (pv 6) pe_str (fun _ _ => rfl))) (pe_op op_mul (pv 4) (pe_dget (hu_of hr) (pv 6) pe_str (fun _ _ => rfl)))) ip_add)))))))
      (pss_one (ps_ret (pe_tup (pa_cons (pv 5) (pa_cons (pv 4) (pa_cons (pv 7) pa_nil))))))))))), ?_⟩
    have hul := paired_len hPk
    have in1 := hin1 one (List.mem_singleton.mpr rfl)
    -- free
    refine ⟨_, rfl, t, _, 1, _, rfl, rfl, SqT.of hT, rfl, _, rfl, t, _, 0, _, rfl, rfl, SqT.of hT, rfl, _, _, rfl, rfl, _, 1, rfl, rfl, _, rfl, l, rfl, ⟨_, SqL.of hL⟩, fun D hD => lc_list (K := K) (xs := us) (fun i H2 => H2 D = some (.lst (((ks.take i).map fun y => y.2 - y.1 + 1).map V.int)) ∧ Ext H H2)
      ⟨upd_same, Ext.new hD⟩ (fun i H2 _ ⟨_, k⟩ => SqL.of (k _ _ hL)) (fun i u H2 hi hv => ?_) (fun H2 hv => ?_)⟩
    · obtain ⟨hL2, k2⟩ := hv
      obtain ⟨y, hy, a1, rfl, ha1⟩ := paired_get hPk hi
      have hil : i < us.length := (List.getElem?_eq_some_iff.mp hi).1
      refine ⟨a1, _, rfl, SqT.of (k2 _ _ ha1), rfl, _, _, rfl, _, _, rfl, rfl, rfl, _, rfl, _, rfl, _, _, rfl, rfl, _, 1, rfl, rfl, _, hL2, szLt ?_, ?_, k2.put hD⟩
      · rw [List.length_map, List.length_map, List.length_take]
        omega
      · rw [upd_same, List.take_add_one, hy, List.map_append, List.map_append]
        rfl
    · obtain ⟨hL2, k2⟩ := hv
      rw [List.take_of_length_le (by omega)] at hL2
      refine ⟨D, _, rfl, SqL.of hL2, _, _, rfl, rfl, ?_⟩
      have hf0' : 0 ≤ one.2 - one.1 - 1 - (ks.map fun y => y.2 - y.1 + 1).sum := hf0
      have hf1' : one.2 - one.1 - 1 - (ks.map fun y => y.2 - y.1 + 1).sum ≤ 1000 := hf1
      -- kind
      refine ⟨_, rfl, _, rfl, l, us, rfl, .inl (SqL.of (k2 _ _ hL)), freeI one ks, us.length, rfl, ?_⟩
      rw [hul]
      -- told
      refine ⟨_, rfl, v, r, rfl, RulesW.mono _ _ _ _ (TupK.ext k2) hRu, ok.lo9, fun d hd => ?_⟩
      have e3 := Ext.new (o := .dK (dLo r.loops)) hd
      have hd3 : (upd H2 d (.dK (dLo r.loops))) d = some (.dK (dLo r.loops)) := upd_same
      have k3 := k2.trans e3
      have fin : ∀ (wo : Int) (H9 : Hp), wo = lpW r x one ks → Ext (upd H2 d (.dK (dLo r.loops))) H9 → ∀ p, H9 p = none → Q (.ref p) (upd H9 p (.tup [.str (kindN (freeI one ks) ks.length), .int (freeI one ks), .int wo])) := fun wo H9 e k9 p hp => by
        rw [e]
        exact q p _ upd_same ((k3.trans k9).trans (Ext.new hp))
      have l0 := lo_bound ok (show 0 < 9 by decide)
      have l1 := lo_bound ok (show 1 < 9 by decide)
      have l2 := lo_bound ok (show 2 < 9 by decide)
      have l4 := lo_bound ok (show 4 < 9 by decide)
      have l5 := lo_bound ok (show 5 < 9 by decide)
      have l7 := lo_bound ok (show 7 < 9 by decide)
      by_cases c0 : ks.length = 0
      · have ek : kindN (freeI one ks) ks.length = "lone" := by
          unfold kindN
          rw [if_pos c0]
        rw [ek] at fin ⊢
        refine ⟨_, rfl, _, rfl, d, _, rfl, get_lo hd3 ok.lo9 (i := 6) (by decide +kernel), ?_⟩
        refine ⟨_, rfl, rfl, _, rfl, iteT ?_⟩
        refine ⟨_, rfl, _, rfl, _, rfl, d, _, rfl, get_lo hd3 ok.lo9 (i := 7) (by decide +kernel), _, _, rfl, rfl, .inl ⟨by omega, by omega⟩, _, _, rfl, rfl, ?_⟩
        refine ⟨_, rfl, _, rfl, _, rfl, szL (show 3 ≤ 1000000 by decide), fun p hp => fin _ _ ?_ Ext.refl p hp⟩
        unfold lpW
        rw [if_pos c0]
        rfl
      · by_cases c1 : 1 < ks.length
        · have ek : kindN (freeI one ks) ks.length = "forked" := by
            unfold kindN
            rw [if_neg c0, if_pos c1]
          rw [ek] at fin ⊢
          refine ⟨_, rfl, _, rfl, d, _, rfl, get_lo hd3 ok.lo9 (i := 3) (by decide +kernel), ?_⟩
          refine ⟨_, rfl, rfl, _, rfl, ?_⟩
          rw [k_ne (by decide +kernel)]
          refine iteF ⟨_, rfl, rfl, _, rfl, ?_⟩
          rw [k_ne (by decide +kernel)]
          refine iteF ⟨_, rfl, rfl, _, rfl, ?_⟩
          rw [k_ne (by decide +kernel)]
          refine iteF ⟨_, rfl, _, rfl, l, us, rfl, .inl (SqL.of (k3 _ _ hL)), _, rfl, d, _, rfl, get_lo hd3 ok.lo9 (i := 4) (by decide +kernel), _, _, rfl, rfl, .inl ⟨by omega, by omega⟩, ?_⟩
          refine ⟨_, rfl, _, rfl, d, _, rfl, get_lo hd3 ok.lo9 (i := 5) (by decide +kernel), _, _, rfl, rfl, .inl ⟨by omega, by omega⟩, _, _, rfl, rfl, _, _, rfl, rfl, ?_⟩
          refine ⟨_, rfl, _, rfl, _, rfl, szL (show 3 ≤ 1000000 by decide), fun p hp => fin _ _ ?_ Ext.refl p hp⟩
          unfold lpW
          rw [if_neg c0, if_pos c1, hul]
          rfl
        · by_cases c2 : 0 < freeI one ks
          · have ek : kindN (freeI one ks) ks.length = "inner" := by
              unfold kindN
              rw [if_neg c0, if_neg c1, if_pos c2]
            rw [ek] at fin ⊢
            refine ⟨_, rfl, _, rfl, d, _, rfl, get_lo hd3 ok.lo9 (i := 1) (by decide +kernel), ?_⟩
            refine ⟨_, rfl, rfl, _, rfl, ?_⟩
            rw [k_ne (by decide +kernel)]
            refine iteF ⟨_, rfl, rfl, _, rfl, iteT ?_⟩
            refine ⟨_, rfl, _, rfl, _, rfl, d, _, rfl, get_lo hd3 ok.lo9 (i := 2) (by decide +kernel), _, _, rfl, rfl, .inl ⟨by omega, by omega⟩, _, _, rfl, rfl, ?_⟩
            refine ⟨_, rfl, _, rfl, _, rfl, szL (show 3 ≤ 1000000 by decide), fun p hp => fin _ _ ?_ Ext.refl p hp⟩
            unfold lpW
            rw [if_neg c0, if_neg c1, if_pos c2]
            rfl
          · have ek : kindN (freeI one ks) ks.length = "stacked" := by
              unfold kindN
              rw [if_neg c0, if_neg c1, if_neg c2]
            rw [ek] at fin ⊢
            refine ⟨_, rfl, _, rfl, d, _, rfl, get_lo hd3 ok.lo9 (i := 0) (by decide +kernel), ?_⟩
            refine ⟨_, rfl, rfl, _, rfl, ?_⟩
            rw [k_ne (by decide +kernel)]
            refine iteF ⟨_, rfl, rfl, _, rfl, ?_⟩
            rw [k_ne (by decide +kernel)]
            refine iteF ⟨_, rfl, rfl, _, rfl, iteT ?_⟩
            have c3 : 0 < us.length := by omega
            obtain ⟨y, hy, a1, ev, ha1⟩ := paired_get hPk (List.getElem?_eq_getElem c3)
            have iny := hink y (List.mem_of_getElem? hy)
            have hat : atI us 0 = some (.ref a1) := by
              rw [atI_get (by decide) (by omega), ← ev]
              rfl
            refine ⟨_, rfl, _, rfl, _, rfl, _, rfl, x, t, one, rfl, k3 _ _ hT, hx, in1.1, in1.2.1, in1.2.2.1, in1.2.2.2, ?_⟩
            refine ⟨_, rfl, _, rfl, l, us, _, _, rfl, rfl, SqL.of (k3 _ _ hL), hat, x, a1, y, rfl, k3 _ _ ha1, hx, iny.1, iny.2.1, iny.2.2.1, iny.2.2.2, ?_⟩
            refine ⟨v, r, _, _, rfl, RulesW.mono _ _ _ _ (TupK.ext k3) hRu, _, _, rfl, rfl, ?_⟩
            refine ⟨_, rfl, _, rfl, _, rfl, szL (show 3 ≤ 1000000 by decide), fun p hp => fin _ _ ?_ Ext.refl p hp⟩
            have eh : ks.headD (0, 0) = y := by
              cases ks with
              | nil => cases hy
              | cons z zs =>
                rw [List.getElem?_cons_zero] at hy
                cases hy
                rfl
            unfold lpW
            rw [if_neg c0, if_neg c1, if_neg c2, eh]
            rfl
abbrev CLoopW (P : Program) (w : World) (K : PySem.W.Frag) (mg : Str → Option Value) (base : Heap) : Prop := Ca P w K mg base 2 "loop_within" ["rules", "string", "pair", "within"] spLoopW
end
end Pf


namespace Pf
open PySem PySem.Spec PyProof.Rows L2
/-! ### the sum of a dict's values -/
theorem preSum_is (is : List Int) : ∀ n, n ≤ is.length → preSum (fun i => is.getD i 0) n = (is.take n).sum
  | 0, _ => by rw [List.take_zero]; rfl
  | n + 1, h => by
    have ih := preSum_is is n (by omega)
    have e : is[n]? = some (is.getD n 0) := by
      rw [List.getD_eq_getElem?_getD, List.getElem?_eq_getElem (by omega)]
      rfl
    rw [List.take_add_one, e, List.sum_append, ← ih]
    simp [preSum]
def tSumV (td : TE) : TE := fun σ H Q => td σ H fun x H1 => ∃ (a : Addr) (kvs : List (Key × V)) (is : List Int), x = V.ref a ∧ H1 a = some (.dK kvs) ∧ kvs.map (·.2) = is.map V.int ∧ Q (.int is.sum) H1
theorem pe_sumV {X : Cx} {o : Expr} {p pos apos mpos : Pos} {td : TE} (calm : X.calm = true) (gl : Gl X "sum") (free : X.mg "sum" = none) (ho : PE X o td) (b0 : attributeBase o "values" X.env (eval o X.env) = eval o X.env := by rfl) (l0 : (apos.endLine == mpos.line) = true := by rfl)
    (st : starEach [Expr.Call (.Attribute o "values" apos) [] [] mpos] X.env = [(false, eval (Expr.Call (.Attribute o "values" apos) [] [] mpos) X.env)] := by rfl) : PE X (.Call (.Name "sum" p) [.Call (.Attribute o "values" apos) [] [] mpos] [] pos) (tSumV td) := by
  refine ⟨fun pins s σ H Q I h => wpAny_Call_Name_kw (ld_blt I gl free (u := .builtin "sum") (by decide +kernel) ?_ (by decide) (by decide))⟩
  rw [st]
  refine PySem.callWith_builtin1 (wpAny_Call_method0_late b0 l0 (thn (ho.run pins s σ H _ I h) fun v s1 ⟨x, H1, I1, r1, a, kvs, is, ex, ha, hv, q⟩ => ?_))
  subst ex
  obtain rfl : v = Value.ref a := r1
  obtain ⟨_, nsys, vs, rel, dof⟩ := dk_of I1.hok ha
  obtain ⟨ep, dat⟩ := dof.dictAt
  obtain ⟨ob, es, hob, ex, _⟩ := id dat
  have low : a < s1.heap.objs.size := Heap.lt_size hob
  refine ⟨"dict", "dict.values", F.plainAttrs_dict, F.slot_dict_values, F.type_dict_values, ⟨ob, hob, ex.1⟩, fun b e => by cases e; exact ⟨ob, hob, ex.2.1⟩, Calls.callWith_builtin rfl (PySem.evalArgs_none ?_)⟩
  refine call_meetsIn F.slot_dict_values ⟨ob, hob, ex.1⟩ F.entry_dict_values (F.args_dict_values_1 _) (meets_dict_values (mixKind X.prog X.w) a nsys) ⟨⟨vs, dof⟩, ?_⟩
  have len : vs.length = is.length := by
    have e1 := congrArg List.length hv
    rw [List.length_map, List.length_map] at e1
    exact (KV.length rel).symm.trans e1
  have each : ∀ (i : Nat) (v : Value), (∃ k, vs[i]? = some (k, v)) → ∃ t, v = Value.int (is.getD i 0) t := fun i v ⟨k, hk⟩ => by
    obtain ⟨y, h1, h2⟩ := KV.at' rel hk
    have e1 : (kvs.map (·.2))[i]? = some y := by
      rw [List.getElem?_map, h1]
      rfl
    rw [hv, List.getElem?_map] at e1
    obtain ⟨j, hj, rfl⟩ := Option.map_eq_some_iff.mp e1
    obtain ⟨t, h3⟩ := h2
    refine ⟨t, ?_⟩
    rw [h3, List.getD_eq_getElem?_getD, hj]
    rfl
  have stay : ∀ b u, s1.heap.get? b = some u → (s1.heap.push { cls := .type "dict_values", data := .fields #[.ref a] }).get? b = some u := fun b u e => Heap.get?_push_of_some _ e
  have dat1 : (s1.heap.push { cls := .type "dict_values", data := .fields #[.ref a] }).DictAt (mixKind X.prog X.w) a vs ep := dat.keep stay
  have grown : (s1.heap.push { cls := .type "dict_values", data := .fields #[.ref a] }).objs.size = s1.heap.objs.size + 1 := Heap.size_push _ _
  refine call_sum_walkG (wpAny_pyIter_values (v := s1.heap.objs.size) (d := a) ⟨_, Heap.get?_push_size _ rfl, rfl, rfl⟩ dat1 ?_)
  refine ⟨_, _, _, _, _, _, fun i => is.getD i 0, rfl, Walks.dictValues (knd := mixKind X.prog X.w) (A := X.A.in1) (I.ok.hd calm) (s1.heap.push { cls := .type "dict_values", data := .fields #[.ref a] }).objs.size a (by rw [grown]; exact Nat.ne_of_lt (Nat.lt_succ_of_lt low)) vs ep,
    ⟨⟨_, Heap.get?_push_size _ rfl, rfl, rfl⟩, dat1.keep fun b u e => Heap.get?_push_of_some _ e⟩, fun b hb => ?_, each, fun h' tk t' hk => ?_⟩
  · show b < ((s1.heap.push _).push _).objs.size
    rw [Heap.size_push, Heap.size_push]
    rw [grown] at hb
    simp only [List.mem_cons, List.not_mem_nil, or_false] at hb
    rcases hb with rfl | rfl
    · exact Nat.lt_succ_self _
    · exact Nat.lt_succ_of_lt (Nat.lt_succ_of_lt low)
  · have e0 := preSum_is is vs.length (by omega)
    rw [len, List.take_length] at e0
    refine ⟨.int is.sum, H1, I1.kept (t' := tk) fun b u e => hk b u (fun hmem => ?_) (Heap.get?_push_of_some _ (stay b u e)), ⟨t', ?_⟩, q⟩
    · have e1 := List.mem_singleton.mp hmem
      have e2 := Heap.lt_size e
      rw [grown] at e1
      rw [e1] at e2
      exact absurd e2 (Nat.not_lt.mpr (Nat.le_succ _))
    · rw [len, e0]
end Pf


namespace Pf
open PySem PySem.Spec PyProof.Rows L2
/-! ### what is sorted once it is gathered -/
theorem sort_tail {X : Cx} {pins : List (Addr × Obj)} {σ : L2.St} {H : Hp} {s : Shared} {Q : VK} (I : Inv X pins σ H s) (hu : X.A.units + 64 < cLine) {β : Type} {v : β → V} {dd : β → PyData} {ys : List β} {acc : List Value} (rv : Vals (ys.map v) acc) (hy : ∀ y ∈ ys, Dp X.K H (v y) (dd y) ∧ (dd y).depth ≤ 50)
    (al : PySem.W.AllAlike (ys.map dd)) (so : PySem.W.Sortable (ys.map dd)) (hn : ys.length ≤ sizeLine) (qq : ∀ p, H p = none → Q (.ref p) (upd H p (.lst ((ys.mergeSort (PySem.W.dataLe false dd)).map v)))) {R : PySem.Fin → Shared → Prop} {E : Value → Shared → Prop}
    (hR : ∀ l s', EP X pins σ Q l s' → R (.done (.ret l)) s') :
    wpAny (model X.prog X.w) X.A.in1 (do let l ← newList acc; let _ ← holding [l] (call (.builtin "list.sort") [l] []); ret l) R E s := by
  have hz2 : acc.length ≤ sizeLine := by
    rw [← rv.length, List.length_map]
    exact hn
  refine wpAny_bind (wpAny_newList ?_ hz2)
  have hat : (s.heap.push (seqObj "list" acc.toArray 0)).get? s.heap.objs.size = some (seqObj "list" acc.toArray 0) := Heap.get?_push_size _ rfl
  have hlt : ∀ b ob, s.heap.get? b = some ob → b ≠ s.heap.objs.size := fun b ob e => Nat.ne_of_lt (Heap.lt_size e)
  have old : ∀ b ob, s.heap.get? b = some ob → (s.heap.push (seqObj "list" acc.toArray 0)).get? b = some ob := fun b ob e => Heap.get?_push_of_some _ e
  have rel : PySem.W.EachIs (fun (u : Value) (y : β) => RelV (v y) u) acc ys := each_vals (v := v) rv
  have rd : PySem.W.EachIs (fun (u : Value) (y : β) => ∃ as, Reads (PySem.W.sortingHeap (s.heap.push (seqObj "list" acc.toArray 0)) s.heap.objs.size acc) u (dd y) as) acc ys := (each_reads (v := v) I rv fun y hy' => (hy y hy').1).mono fun _ _ ⟨as, w⟩ => ⟨as, PyProof.Rows.Reads.keeps (fun b ob e => PySem.W.sortingHeap_old (hlt b ob e) (old b ob e)) w⟩
  have hub : ∀ y ∈ ys, X.A.in1.in1.units + (dd y).depth < cLine := fun y hy' => by
    have := (hy y hy').2
    show X.A.units + 2 + (dd y).depth < cLine
    omega
  have S := PySem.W.SortsAt.data (prog := X.prog) (w := X.w) (A := X.A.in1.in1) (s := { s with heap := PySem.W.sortingHeap (s.heap.push (seqObj "list" acc.toArray 0)) s.heap.objs.size acc }) (PySem.W.each_map (R := fun v d => ∃ as, Reads (PySem.W.sortingHeap (s.heap.push (seqObj "list" acc.toArray 0)) s.heap.objs.size acc) v d as) dd rd) al so (PySem.W.bound_map hub)
  refine wpAny_bind (wpAny_holding (wpAny_call_entry slot_list_sort ⟨_, hat, rfl⟩ entry_list_sort ?body (args_list_sort _)))
  case body =>
    refine PySem.W.list_sort_vals (s := { s with heap := s.heap.push (seqObj "list" acc.toArray 0) }) hat S hz2 ⟨_, rfl, wpAny_pure (hR _ _ ?_)⟩
    have each := PySem.W.sortVals_data false rel rd al
    generalize PySem.W.sortVals (PySem.W.dataKind (PySem.W.sortingHeap (s.heap.push (seqObj "list" acc.toArray 0)) s.heap.objs.size acc) (ys.map dd)) false acc acc = out at each ⊢
    obtain ⟨ee, he'⟩ := PyProof.Rows.sortedHeap_at (vs := acc) (out := out.toArray) hat
    have hl2 : ((ys.mergeSort (PySem.W.dataLe false dd)).map v).length ≤ sizeLine := by
      rw [List.length_map, List.length_mergeSort]
      omega
    have free : H s.heap.objs.size = none := I.hok.fresh (Nat.le_refl _)
    have gone : s.heap.get? s.heap.objs.size = none := by
      cases e : s.heap.get? s.heap.objs.size with
      | none => rfl
      | some ob => exact absurd rfl (hlt _ ob e)
    exact ⟨.ref s.heap.objs.size, upd H s.heap.objs.size (.lst ((ys.mergeSort (PySem.W.dataLe false dd)).map v)), I.laidN (t' := s.toks) (fun b ob e => by rw [PyProof.Rows.sortedHeap_old (hlt b ob e) (Heap.lt_size (old b ob e))]; exact old b ob e) gone free ⟨hl2, out, ee, vals_each (v := v) each, by simpa using he'⟩, rfl, qq _ free⟩
/-! ### sorted(d): a dict by numbers -/
def rSortKI (K : PySem.W.Frag) : List V → Hp → VK → Prop := fun vs H Q => ∃ (a : Addr) (kvs : List (Key × V)) (ks : List Int), vs = [.ref a] ∧ Rd H a (.dK kvs) ∧ kvs.map (·.1) = ks.map Sum.inl ∧ ∀ p, H p = none → Q (.ref p) (upd H p (.lst ((ks.mergeSort (PySem.W.dataLe false PyData.int)).map V.int)))
theorem cr_sortKI (K : PySem.W.Frag) {X : Cx} (calm : X.calm = true) (hu : X.A.units + 64 < cLine) (hK : X.K = K := by rfl) : CallR X (.builtin "sorted") (rSortKI K) := by
  subst hK
  intro pins s σ H xs us Q I r q
  obtain ⟨a, kvs, ks, ex, hd, hks, q⟩ := q
  subst ex
  obtain ⟨u, eu, rx⟩ := vals1 r
  subst eu
  cases rx
  obtain ⟨z, lo, vs, rel, dd⟩ := dk_rd I.hok hd
  obtain ⟨ep, hat⟩ := dd.dictAt
  have hkeys : vs.map (·.1) = ks.map Sum.inl := rel.keys.symm.trans hks
  have hl : vs.length = ks.length := by
    have e := congrArg List.length hkeys
    rw [List.length_map, List.length_map] at e
    exact e
  have hkl : kvs.length = ks.length := by
    have e := congrArg List.length hks
    rw [List.length_map, List.length_map] at e
    exact e
  have h16 : vs.length ≤ sizeLine := by omega
  refine Calls.call_function_entry PyProof.Rows.kind_sorted PyProof.Rows.plain_sorted PyProof.Rows.entry_sorted (PyProof.Rows.args_sorted1 _) ?_
  unfold Builtin.«sorted»
  refine wpAny_bind (m := checkCount "sorted" 1 1 _) (wpAny_pure ?_)
  refine wpAny_bind (PySem.W.kdu_collect (A := X.A.in1) (PySem.W.kdl_dict (knd := mixKind X.prog X.w) (kvs := vs) (ep := ep) lo) (I.ok.hd calm) hat h16 fun h' tk acc hk hacc => ?_)
  have hal : acc.toList.length = ks.length := by rw [Array.length_toList, hacc.1, hl]
  have hS : IntsAre acc.toList ks := ints_each hal fun j v e => by
    obtain ⟨k, x, e1, e2⟩ := hacc.2 j v (by rw [← Array.getElem?_toList]; exact e)
    have e3 : (vs.map (·.1))[j]? = some k := by rw [List.getElem?_map, e1]; rfl
    rw [hkeys, List.getElem?_map] at e3
    cases e4 : ks[j]? with
    | none => rw [e4] at e3; cases e3
    | some y =>
      rw [e4] at e3
      have e5 : Sum.inl y = k := Option.some.inj e3
      subst e5
      rcases keyIs_shape (show keyIs (Sum.inl y) v = true from e2) with ⟨i, t, ek, ev⟩ | ⟨z, t, ek, ev⟩
      · cases ek
        exact ⟨y, t, rfl, ev⟩
      · cases ek
  have I1 : Inv X pins σ H { s with heap := h', toks := tk } := I.kept hk
  refine sort_tail I1 hu (v := V.int) (dd := PyData.int) (ys := ks) (vals_of_ints hS) (fun y _ => ⟨.int _, by simp [PyData.depth]⟩) (PySem.W.AllAlike.of fun b b' => by simp [PySem.W.alike]) (PySem.W.Sortable.others fun b => ⟨(fun z => by cases z), fun xs z => by cases z⟩) (by omega) q fun l s' h => ⟨_, rfl, h⟩
/-! ### sorted(d.items()): a dict by numbers, of numbers -/
theorem laid_tuples {X : Cx} {pins : List (Addr × Obj)} {σ : L2.St} {H : Hp} {s : Shared} {h' : Heap} {tk : Nat} {kvs : List (Key × V)} {vs : List (Key × Value)} {as : List Addr} (I : Inv X pins σ H s) (kv : KV kvs vs)
    (hk : ∀ b o, s.heap.get? b = some o → h'.get? b = some o) (hl : as.length = vs.length) (hG : PySem.W.KdxG (mixKind X.prog X.w) vs s.heap.objs.size h' as) :
    ∃ H' : Hp, Ext H H' ∧ Paired (fun (t : Addr) (q : Key × V) => H' t = some (.tup [kV q.1, q.2])) as kvs ∧ Inv X pins σ H' { s with heap := h', toks := tk } := by
  have lk : kvs.length = vs.length := Paired.length kv
  have nd : as.Nodup := List.Pairwise.imp (fun {a b} (h : a < b) => Nat.ne_of_lt h) hG.rise
  have new : ∀ t ∈ as, H t = none := fun t ht => I.hok.fresh (Nat.le_of_lt (hG.above t ht))
  have atP := LiI.putT_at as kvs H (by omega) nd
  have off : ∀ b, b ∉ as → LiI.putT H as kvs b = H b := fun b h1 => LiI.putT_off as kvs _ h1
  have low : ∀ b o, s.heap.get? b = some o → b ∉ as := fun b o e z => absurd (Heap.lt_size e) (Nat.not_lt.mpr (Nat.le_of_lt (hG.above b z)))
  have kp : ∀ b u, H b = some u → (LiI.putT H as kvs) b = some u := fun b u e => by
    rw [off b (fun z => by rw [new b z] at e; cases e)]
    exact e
  refine ⟨LiI.putT H as kvs, kp, atP, ?_⟩
  refine I.call' (ch := []) rfl ⟨fun b o q _ _ _ => hk b o q, fun b o q _ _ _ => ⟨o.slots, hk b o q⟩, fun b o q n _ => ?_, fun b o q _ => ⟨o, hk b o q⟩, fun b xs q => kp b _ q, fun b o u q => kp b _ q, fun b ps q => ⟨#[], by rw [kp b _ q]; simp⟩⟩ (fun b u q => ?_) I.bare fun b z => by simp at z
  · rw [off b (low b o q)]
    exact n
  · by_cases hb : b ∈ as
    · obtain ⟨j, pk, e1, e2, e3⟩ := LiI.paired_ix atP hb
      rw [e3] at q
      cases q
      obtain ⟨key, k, x, f1, f2, f3⟩ := hG.pairs j b e1
      obtain ⟨qv, g1, g2, g3⟩ := LiI.paired_get kv e2
      rw [f1] at g1
      cases g1
      have rk : RelV (kV pk.1) key := by
        rw [g2]
        exact relV_key (show keyIs k key = true from f2)
      exact ⟨by show 2 ≤ sizeLine; decide, [key, x], .cons rk (.cons g3 .nil), ⟨_, f3, rfl, _, rfl⟩⟩
    · rw [off b hb] at q
      exact (I.hok b u q).stay (fun d v _ y => hk d v y) (fun d y => kp d _ y) fun d xs y => kp d _ y
def d2 (y : Addr × Int × Int) : PyData := .tuple [.int y.2.1, .int y.2.2]
def tSortItems (te : TE) : TE := fun σ H Q => te σ H fun x H1 => ∃ (d : Addr) (t : List (Int × Int)), x = .ref d ∧ H1 d = some (.dK (t.map fun y => (.inl y.1, .int y.2))) ∧
  ∀ (p : Addr) (ys : List (Addr × Int × Int)) (H' : Hp), H1 p = none → Ext H1 H' → H' p = some (.lst (ys.map fun y => .ref y.1)) → (∀ y ∈ ys, H' y.1 = some (.tup [.int y.2.1, .int y.2.2])) → ys.map (·.2) = t.mergeSort (PySem.W.dataLe false fun z : Int × Int => PyData.tuple [.int z.1, .int z.2]) → Q (.ref p) H'
theorem pe_sortItems {X : Cx} {o : Expr} {p pos apos mpos : Pos} {td : TE} (calm : X.calm = true) (hu : X.A.units + 64 < cLine) (gl : Gl X "sorted") (free : X.mg "sorted" = none) (ho : PE X o td) (b0 : attributeBase o "items" X.env (eval o X.env) = eval o X.env := by rfl) (l0 : (apos.endLine == mpos.line) = true := by rfl)
    (st : starEach [Expr.Call (.Attribute o "items" apos) [] [] mpos] X.env = [(false, eval (Expr.Call (.Attribute o "items" apos) [] [] mpos) X.env)] := by rfl) : PE X (.Call (.Name "sorted" p) [.Call (.Attribute o "items" apos) [] [] mpos] [] pos) (tSortItems td) := by
  refine ⟨fun pins s σ H Q I h => wpAny_Call_Name_kw (ld_blt I gl free (u := .builtin "sorted") (by decide +kernel) ?_ (by decide) (by decide))⟩
  rw [st]
  refine PySem.callWith_builtin1 (wpAny_Call_method0_late b0 l0 (thn (ho.run pins s σ H _ I h) fun v s1 ⟨x, H1, I1, r1, a, t, ex, ha, q⟩ => ?_))
  subst ex
  obtain rfl : v = Value.ref a := r1
  obtain ⟨hz, nsys, vs, rel, dof⟩ := dk_of I1.hok ha
  obtain ⟨ep, dat⟩ := dof.dictAt
  obtain ⟨ob, es, hob, ex, _⟩ := id dat
  have low : a < s1.heap.objs.size := Heap.lt_size hob
  refine ⟨"dict", "dict.items", F.plainAttrs_dict, F.slot_dict_items, F.type_dict_items, ⟨ob, hob, ex.1⟩, fun b e => by cases e; exact ⟨ob, hob, ex.2.1⟩, Calls.callWith_builtin rfl (PySem.evalArgs_none ?_)⟩
  refine call_meetsIn F.slot_dict_items ⟨ob, hob, ex.1⟩ F.entry_dict_items (F.args_dict_items_1 _) (meets_dict_items (mixKind X.prog X.w) a nsys) ⟨⟨vs, dof⟩, ?_⟩
  have len : vs.length = t.length := by
    have e1 := KV.length rel
    rw [List.length_map] at e1
    exact e1.symm
  have hz' : t.length ≤ sizeLine := by
    rw [List.length_map] at hz
    exact hz
  have I2 : Inv X pins σ H1 { s1 with heap := s1.heap.push { cls := .type "dict_items", data := .fields #[.ref a] } } := I1.kept (t' := s1.toks) fun b ob q => Heap.get?_push_of_some _ q
  refine Calls.call_function_entry PyProof.Rows.kind_sorted PyProof.Rows.plain_sorted PyProof.Rows.entry_sorted (PyProof.Rows.args_sorted1 _) ?_
  unfold Builtin.«sorted»
  refine wpAny_bind (m := checkCount "sorted" 1 1 _) (wpAny_pure ?_)
  refine wpAny_bind (PySem.W.kdx_collect (A := X.A.in1) (knd := mixKind X.prog X.w) (kvs := vs) (ep := ep) (I.ok.hd calm) ⟨_, Heap.get?_push_size _ rfl, rfl, rfl⟩ (dat.push _) (by omega) fun h' tk as hk hl hG => ?_)
  obtain ⟨H', k1, k6, J⟩ := laid_tuples (tk := tk) I2 rel hk hl hG
  have hal : as.length = t.length := by omega
  have e1 : (as.zip t).map (·.1) = as := List.map_fst_zip (by omega)
  have e2 : (as.zip t).map (·.2) = t := List.map_snd_zip (by omega)
  have hat : ∀ y ∈ as.zip t, H' y.1 = some (.tup [.int y.2.1, .int y.2.2]) := by
    have : ∀ {as : List Addr} {t : List (Int × Int)}, Paired (fun (b : Addr) (q : Key × V) => H' b = some (.tup [kV q.1, q.2])) as (t.map fun y => ((.inl y.1 : Key), V.int y.2)) → ∀ y ∈ as.zip t, H' y.1 = some (.tup [.int y.2.1, .int y.2.2]) := by
      intro as
      induction as with
      | nil => intro t _ y hy; cases hy
      | cons b as ih =>
        intro t hp y hy
        cases t with
        | nil => cases hy
        | cons z t =>
          rw [List.map_cons] at hp
          cases hp with
          | cons r tl =>
            rcases List.mem_cons.mp hy with rfl | hy
            · exact r
            · exact ih tl y hy
    exact this k6
  have rv : Vals ((as.zip t).map fun y => V.ref y.1) (as.map Value.ref) := by
    have e3 : ((as.zip t).map fun y => V.ref y.1) = as.map V.ref := by
      have := congrArg (List.map V.ref) e1
      rw [List.map_map] at this
      exact this
    rw [e3]
    exact LiI.vals_refs as
  refine sort_tail J hu (v := fun y : Addr × Int × Int => V.ref y.1) (dd := d2) (ys := as.zip t) rv (fun y hy => ⟨.tup (SqT.of (hat y hy)) (.cons (.int _) (.cons (.int _) .nil)), by simp [d2, PyData.depth, PyData.depthAll]⟩) (PySem.W.AllAlike.of fun b b' => by simp [d2, PySem.W.alike, PySem.W.alikeAll]) (PySem.W.Sortable.tuples fun b => ⟨_, _, rfl⟩) (by rw [List.length_zip]; omega) (fun p hp => ?_) fun l s' h => ⟨_, rfl, h⟩
  have xp := Ext.new (o := .lst (((as.zip t).mergeSort (PySem.W.dataLe false d2)).map fun y => V.ref y.1)) hp
  refine q p _ _ (k1.none hp) (k1.trans xp) upd_same (fun y hy => xp _ _ (hat y ((List.mergeSort_perm _ _).mem_iff.mp hy))) ?_
  have hm := List.map_mergeSort (r := PySem.W.dataLe false d2) (s := PySem.W.dataLe false fun z : Int × Int => PyData.tuple [.int z.1, .int z.2]) (f := fun b : Addr × Int × Int => b.2) (l := as.zip t) (fun a _ b _ => rfl)
  rw [e2] at hm
  exact hm
end Pf


namespace Pf
open PySem PySem.Spec PyProof.Rows L2
/-! ### dict(list of pairs) by tuples -/
abbrev TKV : Type := List Key × Addr × V
def TkR (kv : TKV) (x : List Key × Addr × Value) : Prop := kv.1 = x.1 ∧ kv.2.1 = x.2.1 ∧ RelV kv.2.2 x.2.2
def TkP (K : PySem.W.Frag) (H : Hp) (p : Addr) (kv : TKV) : Prop := SqT K H p [.ref kv.2.1, kv.2.2] ∧ H kv.2.1 = some (.tup (kv.1.map kV))
theorem tkeys_of {X : Cx} {pins : List (Addr × Obj)} {σ : L2.St} {H : Hp} {s : Shared} (I : Inv X pins σ H s) : ∀ {ps : List Addr} {kvs : List TKV}, Paired (TkP X.K H) ps kvs →
    ∃ xs : List (List Key × Addr × Value), Paired TkR kvs xs ∧ xs.length = ps.length ∧ ∀ (j : Nat) (x : List Key × Addr × Value), xs[j]? = some x → H x.2.1 = some (.tup (x.1.map kV)) ∧ ∃ b, ps[j]? = some b ∧ IsTup s.heap b #[.ref x.2.1, x.2.2]
  | _, _, .nil => ⟨[], .nil, rfl, fun j q e => by simp at e⟩
  | _, _, .cons (a := p) (b := kv) h t => by
    obtain ⟨xs, r, hl, hp⟩ := tkeys_of I t
    obtain ⟨its, rv, ht, _⟩ := I.tuple h.1
    obtain ⟨u, y, ei, ru, ry⟩ := vals2 rv
    subst ei
    obtain rfl : u = Value.ref kv.2.1 := ru
    refine ⟨(kv.1, kv.2.1, y) :: xs, .cons ⟨rfl, rfl, ry⟩ r, by rw [List.length_cons, List.length_cons, hl], fun j q e => ?_⟩
    cases j with
    | zero =>
      have e' : (kv.1, kv.2.1, y) = q := Option.some.inj e
      subst e'
      exact ⟨h.2, p, rfl, ht⟩
    | succ j =>
      obtain ⟨e0, b, e1, e2⟩ := hp j q (by simpa using e)
      exact ⟨e0, b, by simpa using e1, e2⟩
def mergeT (acc : List (List Key × V)) (kvs : List TKV) : List (List Key × V) := kvs.foldl (fun acc x => putK acc x.1 x.2.2) acc
theorem mergeT_len : ∀ (kvs : List TKV) (acc : List (List Key × V)), (mergeT acc kvs).length ≤ acc.length + kvs.length
  | [], acc => Nat.le_refl _
  | x :: kvs, acc => by
    have h1 := mergeT_len kvs (putK acc x.1 x.2.2)
    have h2 := length_putK acc x.1 x.2.2
    rw [List.length_cons]
    show (mergeT (putK acc x.1 x.2.2) kvs).length ≤ _
    omega
theorem kt_merge {H : Hp} : ∀ {kvs : List TKV} {xs : List (List Key × Addr × Value)} {acc : List (List Key × V)} {ys : List (List Key × Addr × Value)}, Paired TkR kvs xs → (∀ x ∈ xs, H x.2.1 = some (.tup (x.1.map kV))) → KT H acc ys → KT H (mergeT acc kvs) (storedAllH ys xs)
  | _, _, _, _, .nil, _, r => r
  | _, _, acc, ys, .cons (a := kv) (b := x) h t, hH, r => by
    have hb := hH x (List.mem_cons_self ..)
    have r1 := r.put x.1 hb h.2.2
    have := kt_merge t (fun z hz => hH z (List.mem_cons_of_mem _ hz)) r1
    rw [← h.1] at this
    show KT H (mergeT (putK acc kv.1 kv.2.2) _) (storedAllH (storedH ys x.1 x.2.1 x.2.2) _)
    rw [← h.1]
    exact this
def rDictLT (K : PySem.W.Frag) : List V → Hp → VK → Prop := fun xs H Q => ∃ (a : Addr) (ps : List Addr) (kvs : List TKV), xs = [.ref a] ∧ SqL K H a (ps.map V.ref) ∧ Paired (TkP K H) ps kvs ∧ ∀ p, H p = none → Q (.ref p) (upd H p (.dT (mergeT [] kvs)))
theorem dictLT (K : PySem.W.Frag) {X : Cx} (hu : X.A.units + 64 < cLine) (calm : X.calm = true := by rfl) (hK : X.K = K := by rfl) : CallR X (.type "dict") (rDictLT K) := by
  subst hK
  intro pins s σ H xs us Q I r q
  obtain ⟨a, ps, kvs, ex, hq, hp, q⟩ := q
  subst ex
  obtain ⟨u, eu, rx⟩ := vals1 r
  subst eu
  cases rx
  obtain ⟨its, rv, pl, hz⟩ := I.list hq
  have ei := refs_at rv
  subst ei
  rw [List.length_map] at hz
  obtain ⟨xs, rel, hl, hpr⟩ := tkeys_of I hp
  obtain ⟨o, n, ho, hc, hd, hdat⟩ := pl
  have hH : ∀ x ∈ xs, H x.2.1 = some (.tup (x.1.map kV)) := fun x hx => by
    obtain ⟨j, hj⟩ := List.mem_iff_getElem?.mp hx
    exact (hpr j x hj).1
  have lkv : kvs.length = ps.length := (Paired.length rel).trans hl
  refine call_dict_pairsH (knd := tupleKind (mixKind X.prog X.w)) (ps := xs) (PairArg.list a (ps.map Value.ref).toArray (fun j => ps.getD j 0) (xs.map fun x => (Value.ref x.2.1, x.2.2))) (I.ok.hd calm) (show X.A.units + 2 < cLine by omega) ⟨⟨o, n, ho, hc, hd, hdat⟩, by simp [hl], fun j k v e => ?_⟩ ⟨by simp, fun i key v e => ?_⟩ (fun h' hk x hx => ?_) (by rw [List.length_map, hl]; exact hz) (fun h' tk hd' hk => ?_)
  · rw [List.getElem?_map] at e
    cases ex : xs[j]? with
    | none => rw [ex] at e; cases e
    | some x =>
      rw [ex] at e
      cases e
      obtain ⟨_, b, e1, e2⟩ := hpr j x ex
      refine ⟨by simp [e1], .inl ?_⟩
      have : ps.getD j 0 = b := by
        rw [List.getD_eq_getElem?_getD, e1]
        rfl
      show s.heap.IsTuple (ps.getD j 0) _
      rw [this]
      exact e2
  · rw [show PairRel (xs.map fun x => (Value.ref x.2.1, x.2.2)) i key v ↔ _ from Iff.rfl] at e
    have e : (xs.map fun x => (Value.ref x.2.1, x.2.2))[i]? = some (key, v) := e
    rw [List.getElem?_map] at e
    cases ex : xs[i]? with
    | none => rw [ex] at e; cases e
    | some x =>
      rw [ex] at e
      cases e
      exact ⟨x.1, x.2.1, rfl, rfl⟩
  · obtain ⟨o1, its1, n1, h1, h2, h3, h4⟩ := key_of I.hok (hH x hx)
    exact ⟨o1, its1, n1, hk _ _ (Nat.ne_of_lt (Heap.lt_size h1)) (by simp) h1, h2, h3, h4⟩
  · have hm : (s.heap.objs.size == sysModules) = false := beq_eq_false_iff_ne.mpr (Nat.ne_of_gt I.big)
    have fresh := I.hok.fresh (Nat.le_refl s.heap.objs.size)
    have hlen : (mergeT [] kvs).length ≤ sizeLine := by
      refine Nat.le_trans (mergeT_len kvs []) ?_
      rw [List.length_nil, Nat.zero_add, lkv]
      exact hz
    have kt : KT H (mergeT [] kvs) (storedAllH [] xs) := kt_merge rel hH .nil
    obtain ⟨ob, es, ep, e1, e2, e3, e4, _, e5⟩ := hd'
    exact ⟨.ref s.heap.objs.size, upd H s.heap.objs.size (.dT (mergeT [] kvs)), I.laid (t' := tk) (fun b o e => hk b o (by simp) e) (Nat.le_refl _) (show ObjOk X.prog X.w _ _ _ (.dT (mergeT [] kvs)) from ⟨hlen, hm, _, kt.keeps fun b ys e => by rw [upd_ne (ne_of_none e fresh)]; exact e, ob, es, ep, e1, e2, e3, e4, e5⟩), rfl, q _ fresh⟩
end Pf


namespace Pf
open PySem PySem.Spec PyProof.Rows L2
def pwI : List (Str × Int) → Str → Int
  | [], _ => 0
  | (t, x) :: r, b => if t = b then x else pwI r b
theorem pwV_int : ∀ {prs : List (Str × Int)} {b : Str}, b ∈ prs.map (·.1) → pwV prs b = .int (pwI prs b)
  | [], _, h => by cases h
  | (t, x) :: r, b, h => by
    rw [pwV, pwI]
    by_cases e : t = b
    · rw [if_pos e, if_pos e]
    · rw [if_neg e, if_neg e]
      rcases List.mem_cons.mp h with z | z
      · exact absurd z.symm e
      · exact pwV_int z
/-! ### outermost pairs, pairs straight within -/
def topF (z : Int) : Fo → Fo
  | [] => []
  | p :: r => if z ≤ p.1 then p :: topF (p.2 + 1) r else topF z r
def tops : Fo → Fo
  | [] => []
  | p :: r => p :: topF (p.2 + 1) r
theorem topF_skip {z : Int} : ∀ {u w : Fo}, (∀ p ∈ u, p.1 < z) → topF z (u ++ w) = topF z w
  | [], _, _ => rfl
  | p :: u, w, h => by
    have := h p (List.mem_cons_self ..)
    rw [List.cons_append, topF, if_neg (by omega)]
    exact topF_skip fun q hq => h q (List.mem_cons_of_mem _ hq)
theorem topF_tops {z : Int} : ∀ {w : Fo}, (∀ p ∈ w, z ≤ p.1) → topF z w = tops w
  | [], _ => rfl
  | p :: w, h => by
    rw [topF, if_pos (h p (List.mem_cons_self ..))]
    rfl
theorem tops_pair {a k : Int} {u w : Fo} (hu : ∀ p ∈ u, p.1 < k + 1) (hw : ∀ p ∈ w, k + 1 ≤ p.1) : tops ((a, k) :: (u ++ w)) = (a, k) :: tops w := by
  rw [tops, topF_skip hu, topF_tops hw]
theorem tops_nil {w : Fo} : tops w = [] ↔ w = [] := by
  cases w with
  | nil => exact ⟨fun _ => rfl, fun _ => rfl⟩
  | cons p r => exact ⟨(fun h => by cases h), (fun h => by cases h)⟩
def nestB (one two : Int × Int) : Bool := decide (two.1 < one.1) && decide (one.2 < two.2)
def nn (u : Fo) : Fo := u.filter fun one => (u.filter (nestB one)).isEmpty
def withinC (w : Fo) (i j : Int) : Fo := w.filter fun p => decide (i < p.1) && decide (p.2 < j)
def strC (w : Fo) (i j : Int) : Fo := nn (withinC w i j)
theorem WA_cases {r : Rl} {x : Str} {n : Nat} {a : Int} {q : Fo} (h : q ∈ WA r x (n + 1) a) : q ∈ WA r x n (a + 1) ∨ ∃ t one other, t < n ∧ mayC r x a (a + 1 + (t : Nat)) = true ∧ one ∈ WA r x t (a + 1) ∧ other ∈ WA r x (n - 1 - t) (a + 2 + (t : Nat)) ∧ q = (a, a + 1 + (t : Nat)) :: (one ++ other) := by
  rw [WA_succ] at h
  rcases List.mem_append.mp h with h | h
  · exact .inl h
  · obtain ⟨t, ht, hq⟩ := List.mem_flatMap.mp h
    have ht := List.mem_range.mp ht
    unfold seg at hq
    split at hq
    · rename_i hm
      obtain ⟨one, h1, hq⟩ := List.mem_flatMap.mp hq
      obtain ⟨other, h2, rfl⟩ := List.mem_map.mp hq
      exact .inr ⟨t, one, other, ht, hm, h1, h2, rfl⟩
    · cases hq
theorem filter_none {α : Type} {f : α → Bool} {l : List α} (h : ∀ y ∈ l, f y = false) : l.filter f = [] := by
  rw [List.filter_eq_nil_iff]
  intro y hy
  rw [h y hy]
  exact Bool.false_ne_true
theorem filter_all {α : Type} {f : α → Bool} {l : List α} (h : ∀ y ∈ l, f y = true) : l.filter f = l := List.filter_eq_self.mpr h
/-- where a folding is a pair around one, and one behind -/
structure Cut (a k : Int) (u w : Fo) : Prop where
  ak : a < k
  ui : ∀ p ∈ u, a < p.1 ∧ p.1 < p.2 ∧ p.2 < k
  wi : ∀ p ∈ w, k < p.1 ∧ p.1 < p.2
theorem Cut.of {r : Rl} {x : Str} {n t : Nat} {a : Int} {one other : Fo} (h1 : one ∈ WA r x t (a + 1)) (h2 : other ∈ WA r x n (a + 2 + (t : Nat))) : Cut a (a + 1 + (t : Nat)) one other :=
  ⟨by omega, fun p hp => by have := (WA_in r x t (a + 1) one h1).1 p hp; omega, fun p hp => by have := (WA_in r x n (a + 2 + (t : Nat)) other h2).1 p hp; omega⟩
theorem Cut.tops {a k : Int} {u w : Fo} (c : Cut a k u w) : tops ((a, k) :: (u ++ w)) = (a, k) :: tops w :=
  tops_pair (fun p hp => by have := c.ui p hp; omega) (fun p hp => by have := c.wi p hp; omega)
theorem dand {p q : Prop} [Decidable p] [Decidable q] (h : p ∧ q) : (decide p && decide q) = true := by
  rw [decide_eq_true h.1, decide_eq_true h.2]
  rfl
theorem dnot {p q : Prop} [Decidable p] [Decidable q] (h : ¬ (p ∧ q)) : (decide p && decide q) = false := by
  by_cases hp : p
  · have hq : ¬ q := fun z => h ⟨hp, z⟩
    rw [decide_eq_false hq, Bool.and_false]
  · rw [decide_eq_false hp, Bool.false_and]
theorem Cut.nn {a k : Int} {u w : Fo} (c : Cut a k u w) : nn ((a, k) :: (u ++ w)) = (a, k) :: nn w := by
  have hak := c.ak
  have n0 : nestB (a, k) (a, k) = false := dnot (by simp)
  have n1 : u.filter (nestB (a, k)) = [] := filter_none fun p hp => dnot (by have := c.ui p hp; simp; omega)
  have n2 : w.filter (nestB (a, k)) = [] := filter_none fun p hp => dnot (by have := c.wi p hp; simp; omega)
  unfold Pf.nn
  rw [List.filter_cons_of_pos (by rw [List.filter_cons_of_neg (by rw [n0]; exact Bool.false_ne_true), List.filter_append, n1, n2]; rfl), List.filter_append]
  congr 1
  have e1 : u.filter (fun one => (((a, k) :: (u ++ w)).filter (nestB one)).isEmpty) = [] := filter_none fun p hp => by
    have h := c.ui p hp
    have m0 : nestB p (a, k) = true := dand (show a < p.1 ∧ p.2 < k by omega)
    rw [List.filter_cons_of_pos m0]
    rfl
  have e2 : w.filter (fun one => (((a, k) :: (u ++ w)).filter (nestB one)).isEmpty) = w.filter (fun one => (w.filter (nestB one)).isEmpty) := List.filter_congr fun p hp => by
    have h := c.wi p hp
    have m0 : nestB p (a, k) = false := dnot (show ¬ (a < p.1 ∧ p.2 < k) by omega)
    have m1 : u.filter (nestB p) = [] := filter_none fun q hq => dnot (by have := c.ui q hq; omega)
    rw [List.filter_cons_of_neg (by rw [m0]; exact Bool.false_ne_true), List.filter_append, m1, List.nil_append]
  rw [e1, e2, List.nil_append]
theorem nn_tops (r : Rl) (x : Str) : ∀ (n : Nat) (a : Int), ∀ q ∈ WA r x n a, nn q = tops q := by
  intro n
  induction n using Nat.strongRecOn with
  | ind n ih =>
    intro a q hq
    match n, ih, hq with
    | 0, _, hq =>
      rw [WA_zero, List.mem_singleton] at hq
      subst hq
      rfl
    | n + 1, ih, hq =>
      rcases WA_cases hq with h | ⟨t, one, other, ht, hm, h1, h2, rfl⟩
      · exact ih n (by omega) _ _ h
      · have c := Cut.of h1 h2
        rw [c.nn, c.tops, ih (n - 1 - t) (by omega) _ _ h2]
theorem Cut.str0 {a k : Int} {u w : Fo} (c : Cut a k u w) : withinC ((a, k) :: (u ++ w)) a k = u := by
  unfold withinC
  rw [List.filter_cons_of_neg (by rw [dnot (by simp)]; exact Bool.false_ne_true), List.filter_append, filter_all (fun p hp => dand (by have := c.ui p hp; omega)), filter_none (fun p hp => dnot (by have := c.wi p hp; omega)), List.append_nil]
theorem Cut.str1 {a k : Int} {u w : Fo} (c : Cut a k u w) {p : Int × Int} (hp : p ∈ u) : withinC ((a, k) :: (u ++ w)) p.1 p.2 = withinC u p.1 p.2 := by
  have h := c.ui p hp
  unfold withinC
  rw [List.filter_cons_of_neg (by rw [dnot (show ¬ (p.1 < a ∧ k < p.2) by omega)]; exact Bool.false_ne_true), List.filter_append, filter_none (l := w) (fun q hq => dnot (by have := c.wi q hq; omega)), List.append_nil]
theorem Cut.str2 {a k : Int} {u w : Fo} (c : Cut a k u w) {p : Int × Int} (hp : p ∈ w) : withinC ((a, k) :: (u ++ w)) p.1 p.2 = withinC w p.1 p.2 := by
  have h := c.wi p hp
  have hak := c.ak
  unfold withinC
  rw [List.filter_cons_of_neg (by rw [dnot (show ¬ (p.1 < a ∧ k < p.2) by omega)]; exact Bool.false_ne_true), List.filter_append, filter_none (l := u) (fun q hq => dnot (by have := c.ui q hq; omega)), List.nil_append]
/-! ### worths -/
theorem wid_cons (p : Int × Int) (ks : Fo) : wid (p :: ks) = (p.2 - p.1 + 1) + wid ks := by
  unfold wid
  rw [List.map_cons, List.sum_cons]
/-! ### what rows stand for -/
theorem str_in (r : Rl) (x : Str) : ∀ (n : Nat) (a : Int), ∀ q ∈ WA r x n a, ∀ y ∈ q, ∃ (t : Nat) (u : Fo), u ∈ WA r x t (y.1 + 1) ∧ y.2 = y.1 + 1 + (t : Nat) ∧ strC q y.1 y.2 = tops u := by
  intro n
  induction n using Nat.strongRecOn with
  | ind n ih =>
    intro a q hq
    match n, ih, hq with
    | 0, _, hq =>
      rw [WA_zero, List.mem_singleton] at hq
      subst hq
      intro y hy
      cases hy
    | n + 1, ih, hq =>
      rcases WA_cases hq with h | ⟨t, one, other, ht, hm, h1, h2, rfl⟩
      · exact ih n (by omega) _ _ h
      · have c := Cut.of h1 h2
        intro y hy
        rcases List.mem_cons.mp hy with rfl | hy
        · refine ⟨t, one, h1, rfl, ?_⟩
          unfold strC
          rw [show withinC ((a, a + 1 + (t : Nat)) :: (one ++ other)) (a, a + 1 + (t : Nat)).1 (a, a + 1 + (t : Nat)).2 = one from c.str0, nn_tops r x t (a + 1) one h1]
        · rcases List.mem_append.mp hy with hy | hy
          · obtain ⟨t', u, h3, h4, h5⟩ := ih t (by omega) _ _ h1 y hy
            refine ⟨t', u, h3, h4, ?_⟩
            unfold strC at h5 ⊢
            rw [c.str1 hy]
            exact h5
          · obtain ⟨t', u, h3, h4, h5⟩ := ih (n - 1 - t) (by omega) _ _ h2 y hy
            refine ⟨t', u, h3, h4, ?_⟩
            unfold strC at h5 ⊢
            rw [c.str2 hy]
            exact h5
theorem wid_tops (r : Rl) (x : Str) : ∀ (n : Nat) (a : Int), ∀ q ∈ WA r x n a, wid (tops q) ≤ n := by
  intro n
  induction n using Nat.strongRecOn with
  | ind n ih =>
    intro a q hq
    match n, ih, hq with
    | 0, _, hq =>
      rw [WA_zero, List.mem_singleton] at hq
      subst hq
      exact (show (0 : Int) ≤ 0 by decide)
    | n + 1, ih, hq =>
      rcases WA_cases hq with h | ⟨t, one, other, ht, hm, h1, h2, rfl⟩
      · have := ih n (by omega) _ _ h
        omega
      · have := ih (n - 1 - t) (by omega) _ _ h2
        rw [(Cut.of h1 h2).tops, wid_cons]
        show a + 1 + (t : Nat) - a + 1 + wid (tops other) ≤ _
        omega
theorem free_nn {r : Rl} {x : Str} {n : Nat} {a : Int} {q : Fo} (hq : q ∈ WA r x n a) {y : Int × Int} (hy : y ∈ q) : 0 ≤ freeI y (strC q y.1 y.2) := by
  obtain ⟨t, u, h1, h2, h3⟩ := str_in r x n a q hq y hy
  have := wid_tops r x t (y.1 + 1) u h1
  unfold freeI
  rw [h3]
  omega
end Pf


namespace Pf
open PySem PySem.Spec PyProof.Rows L2
/-! ### all foldings of a stretch, told by what they are -/
structure Fo4 (r : Rl) (x : Str) (a b : Int) (q : Fo) : Prop where
  srt : q.Pairwise fun y z => y.1 < z.1
  inn : ∀ y ∈ q, a ≤ y.1 ∧ y.1 < y.2 ∧ y.2 < b
  may : ∀ y ∈ q, mayC r x y.1 y.2 = true
  sep : ∀ y ∈ q, ∀ z ∈ q, y.1 < z.1 → z.2 < y.2 ∨ y.2 < z.1
theorem fo4_of (r : Rl) (x : Str) : ∀ (n : Nat) (a : Int), ∀ q ∈ WA r x n a, Fo4 r x a (a + n) q := by
  intro n
  induction n using Nat.strongRecOn with
  | ind n ih =>
    intro a q hq
    match n, ih, hq with
    | 0, _, hq =>
      rw [WA_zero, List.mem_singleton] at hq
      subst hq
      exact ⟨.nil, (fun y hy => by cases hy), (fun y hy => by cases hy), (fun y hy => by cases hy)⟩
    | n + 1, ih, hq =>
      rcases WA_cases hq with h | ⟨t, one, other, ht, hm, h1, h2, rfl⟩
      · have := ih n (by omega) _ _ h
        exact ⟨this.srt, fun y hy => by have := this.inn y hy; omega, this.may, this.sep⟩
      · have f1 := ih t (by omega) _ _ h1
        have f2 := ih (n - 1 - t) (by omega) _ _ h2
        refine ⟨?_, fun y hy => ?_, fun y hy => ?_, fun y hy z hz hlt => ?_⟩
        · refine List.pairwise_cons.mpr ⟨fun z hz => ?_, List.pairwise_append.mpr ⟨f1.srt, f2.srt, fun y hy z hz => ?_⟩⟩
          · rcases List.mem_append.mp hz with hz | hz
            · have := f1.inn z hz
              show a < z.1
              omega
            · have := f2.inn z hz
              show a < z.1
              omega
          · have := f1.inn y hy
            have := f2.inn z hz
            omega
        · rcases List.mem_cons.mp hy with rfl | hy
          · show a ≤ a ∧ a < a + 1 + (t : Nat) ∧ a + 1 + (t : Nat) < a + (n + 1 : Nat)
            omega
          · rcases List.mem_append.mp hy with hy | hy
            · have := f1.inn y hy
              omega
            · have := f2.inn y hy
              omega
        · rcases List.mem_cons.mp hy with rfl | hy
          · exact hm
          · rcases List.mem_append.mp hy with hy | hy
            · exact f1.may y hy
            · exact f2.may y hy
        · rcases List.mem_cons.mp hy with rfl | hy
          · rcases List.mem_cons.mp hz with rfl | hz
            · omega
            · rcases List.mem_append.mp hz with hz | hz
              · have := f1.inn z hz
                left
                show z.2 < a + 1 + (t : Nat)
                omega
              · have := f2.inn z hz
                right
                show a + 1 + (t : Nat) < z.1
                omega
          · rcases List.mem_cons.mp hz with rfl | hz
            · have hlt : y.1 < a := hlt
              rcases List.mem_append.mp hy with hy | hy
              · have := f1.inn y hy
                omega
              · have := f2.inn y hy
                omega
            · rcases List.mem_append.mp hy with hy | hy
              · rcases List.mem_append.mp hz with hz | hz
                · exact f1.sep y hy z hz hlt
                · have := f1.inn y hy
                  have := f2.inn z hz
                  right
                  omega
              · rcases List.mem_append.mp hz with hz | hz
                · have := f1.inn z hz
                  have := f2.inn y hy
                  omega
                · exact f2.sep y hy z hz hlt
theorem split_at (k : Int) : ∀ {t : Fo}, t.Pairwise (fun y z => y.1 < z.1) → t = t.filter (fun z => decide (z.1 < k)) ++ t.filter fun z => decide (¬ z.1 < k)
  | [], _ => rfl
  | y :: t, h => by
    have hp := List.pairwise_cons.mp h
    by_cases c : y.1 < k
    · rw [List.filter_cons_of_pos (by simpa using c), List.filter_cons_of_neg (by simpa using c), List.cons_append, ← split_at k hp.2]
    · rw [List.filter_cons_of_neg (by simpa using c), List.filter_cons_of_pos (by simpa using c)]
      have e1 : t.filter (fun z => decide (z.1 < k)) = [] := filter_none fun z hz => decide_eq_false (by have := hp.1 z hz; omega)
      have e2 : t.filter (fun z => decide (¬ z.1 < k)) = t := filter_all fun z hz => decide_eq_true (by have := hp.1 z hz; omega)
      rw [e1, e2]
      rfl
theorem Fo4.sub {r : Rl} {x : Str} {a b a' b' : Int} {q q' : Fo} (h : Fo4 r x a b q) (hs : q'.Sublist q) (hin : ∀ y ∈ q', a' ≤ y.1 ∧ y.1 < y.2 ∧ y.2 < b') : Fo4 r x a' b' q' :=
  ⟨h.srt.sublist hs, hin, fun y hy => h.may y (hs.subset hy), fun y hy z hz => h.sep y (hs.subset hy) z (hs.subset hz)⟩
theorem of_fo4 (r : Rl) (x : Str) : ∀ (n : Nat) (a : Int) (q : Fo), Fo4 r x a (a + n) q → q ∈ WA r x n a := by
  intro n
  induction n using Nat.strongRecOn with
  | ind n ih =>
    intro a q hq
    match n, ih, hq with
    | 0, _, hq =>
      cases q with
      | nil => exact List.mem_cons_self ..
      | cons y t =>
        have := hq.inn y (List.mem_cons_self ..)
        omega
    | n + 1, ih, hq =>
      rw [WA_succ]
      cases q with
      | nil =>
        refine List.mem_append_left _ ?_
        obtain ⟨t, e⟩ := WA_head r x n (a + 1)
        rw [e]
        exact List.mem_cons_self ..
      | cons y t =>
        have hp := List.pairwise_cons.mp hq.srt
        have hy := hq.inn y (List.mem_cons_self ..)
        by_cases c : y.1 = a
        · obtain ⟨i, k⟩ := y
          have c : i = a := c
          subst c
          have hy : i ≤ i ∧ i < k ∧ k < i + ((n + 1 : Nat) : Int) := hy
          obtain ⟨m, hm⟩ : ∃ m : Nat, k = i + 1 + (m : Nat) := ⟨(k - i - 1).toNat, by omega⟩
          have s1 : (t.filter fun z => decide (z.1 < k)).Sublist t := List.filter_sublist
          have s2 : (t.filter fun z => decide (¬ z.1 < k)).Sublist t := List.filter_sublist
          have o1 := ih m (by omega) (i + 1) (t.filter fun z => decide (z.1 < k)) (hq.sub (s1.trans (List.sublist_cons_self ..)) fun z hz => by
            have hzt := s1.subset hz
            have hzk : z.1 < k := of_decide_eq_true (List.mem_filter.mp hz).2
            have h1 := hq.inn z (List.mem_cons_of_mem _ hzt)
            have h2 : i < z.1 := hp.1 z hzt
            have h3 : z.2 < k ∨ k < z.1 := hq.sep (i, k) (List.mem_cons_self ..) z (List.mem_cons_of_mem _ hzt) h2
            omega)
          have o2 := ih (n - 1 - m) (by omega) (i + 2 + (m : Nat)) (t.filter fun z => decide (¬ z.1 < k)) (hq.sub (s2.trans (List.sublist_cons_self ..)) fun z hz => by
            have hzt := s2.subset hz
            have hzk : ¬ z.1 < k := of_decide_eq_true (List.mem_filter.mp hz).2
            have h1 := hq.inn z (List.mem_cons_of_mem _ hzt)
            have h2 : i < z.1 := hp.1 z hzt
            have h3 : z.2 < k ∨ k < z.1 := hq.sep (i, k) (List.mem_cons_self ..) z (List.mem_cons_of_mem _ hzt) h2
            omega)
          refine List.mem_append_right _ (List.mem_flatMap.mpr ⟨m, List.mem_range.mpr (by omega), ?_⟩)
          have hmay : mayC r x i (i + 1 + (m : Nat)) = true := by
            rw [← hm]
            exact hq.may (i, k) (List.mem_cons_self ..)
          unfold seg
          rw [if_pos hmay]
          refine List.mem_flatMap.mpr ⟨_, o1, List.mem_map.mpr ⟨_, o2, ?_⟩⟩
          rw [← split_at k hp.2, hm]
        · refine List.mem_append_left _ (ih n (by omega) (a + 1) _ ⟨hq.srt, fun z hz => ?_, hq.may, hq.sep⟩)
          have h1 := hq.inn z hz
          rcases List.mem_cons.mp hz with rfl | hz
          · omega
          · have h2 := hp.1 z hz
            omega
theorem WA_iff (r : Rl) (x : Str) (n : Nat) (a : Int) (q : Fo) : q ∈ WA r x n a ↔ Fo4 r x a (a + n) q := ⟨fo4_of r x n a q, of_fo4 r x n a q⟩
/-- none stands twice -/
theorem WA_nd (r : Rl) (x : Str) : ∀ (n : Nat) (a : Int), (WA r x n a).Nodup := by
  intro n
  induction n using Nat.strongRecOn with
  | ind n ih =>
    intro a
    match n, ih with
    | 0, _ => exact List.pairwise_singleton _ _
    | n + 1, ih =>
      rw [WA_succ]
      refine List.pairwise_append.mpr ⟨ih n (by omega) (a + 1), List.pairwise_flatMap.mpr ⟨fun t ht => ?_, ?_⟩, fun q hq q' hq' => ?_⟩
      · have ht := List.mem_range.mp ht
        unfold seg
        split
        · refine List.pairwise_flatMap.mpr ⟨fun one h1 => List.pairwise_map.mpr ?_, ?_⟩
          · refine (ih (n - 1 - t) (by omega) (a + 2 + t)).imp fun hne e => hne ?_
            injection e with _ e
            exact List.append_cancel_left e
          · refine List.Pairwise.imp_of_mem (R := (· ≠ ·)) (fun {o1 o2} m1 m2 hne => ?_) (ih t (by omega) (a + 1))
            rintro u hu u' hu' rfl
            obtain ⟨w1, hw1, e1⟩ := List.mem_map.mp hu
            obtain ⟨w2, hw2, e2⟩ := List.mem_map.mp hu'
            rw [← e2] at e1
            injection e1 with _ e1
            refine hne ?_
            have g1 := fo4_of r x t (a + 1) o1 m1
            have g2 := fo4_of r x t (a + 1) o2 m2
            have v1 := fo4_of r x (n - 1 - t) (a + 2 + t) w1 hw1
            have v2 := fo4_of r x (n - 1 - t) (a + 2 + t) w2 hw2
            have c1 : (o1 ++ w1).filter (fun z => decide (z.1 < a + 1 + (t : Nat))) = o1 := by
              rw [List.filter_append, filter_all (fun z hz => decide_eq_true (by have := g1.inn z hz; omega)), filter_none (fun z hz => decide_eq_false (by have := v1.inn z hz; omega)), List.append_nil]
            have c2 : (o2 ++ w2).filter (fun z => decide (z.1 < a + 1 + (t : Nat))) = o2 := by
              rw [List.filter_append, filter_all (fun z hz => decide_eq_true (by have := g2.inn z hz; omega)), filter_none (fun z hz => decide_eq_false (by have := v2.inn z hz; omega)), List.append_nil]
            rw [← c1, ← c2, e1]
        · exact .nil
      · refine List.Pairwise.imp_of_mem (R := (· < ·)) (fun {t1 t2} _ _ hlt => ?_) List.pairwise_lt_range
        rintro u hu u' hu' rfl
        unfold seg at hu hu'
        split at hu
        · split at hu'
          · obtain ⟨o1, _, hu⟩ := List.mem_flatMap.mp hu
            obtain ⟨w1, _, e1⟩ := List.mem_map.mp hu
            obtain ⟨o2, _, hu'⟩ := List.mem_flatMap.mp hu'
            obtain ⟨w2, _, e2⟩ := List.mem_map.mp hu'
            rw [← e2] at e1
            injection e1 with e1 _
            have := congrArg Prod.snd e1
            have : a + 1 + (t1 : Int) = a + 1 + (t2 : Int) := this
            omega
          · cases hu'
        · cases hu
      · rintro rfl
        have h1 := fo4_of r x n (a + 1) q hq
        obtain ⟨t, _, hs⟩ := List.mem_flatMap.mp hq'
        unfold seg at hs
        split at hs
        · obtain ⟨o1, _, hs⟩ := List.mem_flatMap.mp hs
          obtain ⟨w1, _, rfl⟩ := List.mem_map.mp hs
          have := h1.inn (a, a + 1 + (t : Nat)) (List.mem_cons_self ..)
          have : a + 1 ≤ a := this.1
          omega
        · cases hs
/-! ### lists without one twice -/
theorem nd_count {α : Type} [DecidableEq α] {y : α} : ∀ {l : List α}, l.Nodup → y ∈ l → l.count y = 1
  | [], _, h => by cases h
  | z :: l, hl, h => by
    have hp := List.nodup_cons.mp hl
    by_cases e : z = y
    · subst e
      rw [List.count_cons_self, List.count_eq_zero.mpr hp.1]
    · rw [List.count_cons_of_ne (by simpa using e)]
      rcases List.mem_cons.mp h with h | h
      · exact absurd h.symm e
      · exact nd_count hp.2 h
theorem perm_nd {α : Type} [DecidableEq α] {l m : List α} (hl : l.Nodup) (hm : m.Nodup) (h : ∀ y, y ∈ l ↔ y ∈ m) : l.Perm m := List.perm_iff_count.mpr fun y => by
  by_cases c : y ∈ l
  · rw [nd_count hl c, nd_count hm ((h y).mp c)]
  · rw [List.count_eq_zero.mpr c, List.count_eq_zero.mpr fun z => c ((h y).mpr z)]
theorem len_nd {α : Type} [DecidableEq α] : ∀ {l m : List α}, l.Nodup → (∀ y ∈ l, y ∈ m) → l.length ≤ m.length
  | [], _, _, _ => Nat.zero_le _
  | y :: l, m, hl, h => by
    have hp := List.nodup_cons.mp hl
    have hy := h y (List.mem_cons_self ..)
    have := len_nd (l := l) (m := m.erase y) hp.2 fun z hz => (List.mem_erase_of_ne (fun e : z = y => hp.1 (by rw [← e]; exact hz))).mpr (h z (List.mem_cons_of_mem _ hz))
    rw [List.length_erase_of_mem hy] at this
    have : 0 < m.length := List.length_pos_of_mem hy
    rw [List.length_cons]
    omega
end Pf


namespace Pf
open PySem PySem.Spec PyProof.Rows L2
/-! ### foldings as data -/
theorem sm_i32 {i : Int} (h0 : 0 ≤ i) (h1 : i < 32) : Sm 5 0 (.int i) := by
  have h := Sm.int (i := i) (by omega) (by omega)
  refine ⟨h.lay, h.sho, h.ish, ?_, h.dep⟩
  have hl : i.natAbs.log2 < 5 := by
    by_cases z : i.natAbs = 0
    · rw [z]
      decide
    · exact (Nat.log2_lt z).mpr (by omega)
  simp only [PyData.weight]
  split <;> omega
theorem sm_fo {q : Fo} (hn : q.length ≤ 6) (h : ∀ y ∈ q, 0 ≤ y.1 ∧ y.1 < 32 ∧ 0 ≤ y.2 ∧ y.2 < 32) : Sm 78 2 (dFo q) := by
  refine Sm.tup (n := 6) (m := 12) (k := 1) (by rw [List.length_map]; exact hn) (fun d hd => ?_) (by decide)
  obtain ⟨y, hy, rfl⟩ := List.mem_map.mp hd
  have := h y hy
  refine Sm.tup (n := 2) (m := 5) (k := 0) (Nat.le_refl _) (fun d hd => ?_) (by decide)
  simp only [List.mem_cons, List.not_mem_nil, or_false] at hd
  rcases hd with rfl | rfl
  · exact sm_i32 (by omega) (by omega)
  · exact sm_i32 (by omega) (by omega)
theorem sm_fos {r : Rl} {x : Str} {n : Nat} (hn : n ≤ 10) {L : List Fo} (hp : L.Perm (WA r x n 0)) : Sm 1000000 3 (.list (L.map dFo)) := by
  have hl := WA_len10 r x hn 0
  refine Sm.lst (n := 2188) (m := 78) (k := 2) (by rw [List.length_map, hp.length_eq]; exact hl) (fun d hd => ?_) (by decide)
  obtain ⟨q, hq, rfl⟩ := List.mem_map.mp hd
  have hi := WA_in r x n 0 q (hp.mem_iff.mp hq)
  refine sm_fo (by omega) fun y hy => ?_
  have := hi.1 y hy
  omega
theorem SF_perm (L : List Fo) : (SF L).Perm L := List.mergeSort_perm _ _
/-! ### pairs as data -/
theorem lay_twos : ∀ L : Fo, PyData.canLayAll0 (L.map dTwo) = true
  | [] => by simp [PyData.canLayAll0]
  | y :: L => by
    rw [List.map_cons]
    simp [PyData.canLayAll0, PyData.canLay0, dTwo, lay_twos L]
theorem shaped_twos (L : Fo) : SeqAt.shaped (.list (L.map dTwo)) = true := by
  show (PyData.canLay0 (.list (L.map dTwo)) && decide (PyData.depth (.list (L.map dTwo)) ≤ 64)) = true
  have h1 : PyData.canLay0 (.list (L.map dTwo)) = true := by
    rw [PyData.canLay0]
    exact lay_twos L
  have h2 : PyData.depth (.list (L.map dTwo)) ≤ 64 := by
    rw [PyData.depth]
    have := dep_twos L
    omega
  rw [h1, decide_eq_true h2]
  rfl
theorem eqv_nil (L : Fo) : PyData.eqv (.list (L.map dTwo)) (.list []) = L.isEmpty := by
  cases L with
  | nil => simp [PyData.eqv, PyData.eqvAll]
  | cons y L => simp [PyData.eqv, PyData.eqvAll]
/-- what a comprehension keeps of pairs -/
def KeepL (E1 : Addr) (H : Hp) (L : Fo) (n : Nat) (H2 : Hp) : Prop := ∃ vs, H2 E1 = some (.lst vs) ∧ Paired (TwoAt H2) vs L ∧ L.length ≤ n ∧ Ext H H2
theorem KeepL.new {E1 : Addr} {H : Hp} (h : H E1 = none) : KeepL E1 H [] 0 (upd H E1 (.lst [])) := ⟨[], upd_same, .nil, Nat.le_refl _, Ext.new h⟩
theorem KeepL.add {E1 a1 : Addr} {H H2 H3 : Hp} {L : Fo} {n : Nat} {y : Int × Int} (hE : H E1 = none) (h : KeepL E1 H L n H2) (k : Ext H2 H3) (ha : H3 a1 = some (.tup [.int y.1, .int y.2])) (hn : n ≤ 1000) : ∃ acc, H3 E1 = some (.lst acc) ∧ acc.length < sizeLine ∧ KeepL E1 H (L ++ [y]) (n + 1) (upd H3 E1 (.lst (acc ++ [.ref a1]))) := by
  obtain ⟨vs, hL, hP, hl, k2⟩ := h
  have hL3 := k _ _ hL
  have := paired_len hP
  refine ⟨vs, hL3, szLt (by omega), _, upd_same, paired_app (paired_imp (fun _ _ => TwoAt.mono _ _ _ _ ((TupK.ext k).trans (TupK.lst hL3))) hP) (.cons (TwoAt.mono _ _ _ _ (TupK.lst hL3) ⟨a1, rfl, ha⟩) .nil), by rw [List.length_append, List.length_singleton]; omega, (k2.trans k).put hE⟩
theorem KeepL.skip {E1 : Addr} {H H2 H3 : Hp} {L : Fo} {n : Nat} (h : KeepL E1 H L n H2) (k : Ext H2 H3) : KeepL E1 H L (n + 1) H3 := by
  obtain ⟨vs, hL, hP, hl, k2⟩ := h
  exact ⟨vs, k _ _ hL, paired_imp (fun _ _ => TwoAt.mono _ _ _ _ (TupK.ext k)) hP, by omega, k2.trans k⟩
theorem KeepL.ext {E1 : Addr} {H H2 : Hp} {L : Fo} {n : Nat} (h : KeepL E1 H L n H2) : Ext H H2 := by
  obtain ⟨vs, hL, hP, hl, k2⟩ := h
  exact k2
theorem take_filt {w : Fo} {c : Nat} {y : Int × Int} {p : Int × Int → Bool} (h : w[c]? = some y) : (w.take (c + 1)).filter p = (w.take c).filter p ++ (if p y = true then [y] else []) := by
  rw [List.take_add_one, h, List.filter_append]
  congr 1
  by_cases e : p y = true
  · rw [if_pos e]
    exact List.filter_cons_of_pos e
  · rw [if_neg e]
    exact List.filter_cons_of_neg e
theorem str_sub (q0 : Fo) (i j : Int) : ∀ y ∈ strC q0 i j, y ∈ q0 := fun y hy => by
  unfold strC nn withinC at hy
  exact (List.mem_filter.mp (List.mem_filter.mp hy).1).1
theorem str_len (q0 : Fo) (i j : Int) : (strC q0 i j).length ≤ q0.length := by
  unfold strC nn withinC
  exact Nat.le_trans (List.length_filter_le _ _) (List.length_filter_le _ _)
theorem val_prs : ∀ (prs : List (Str × Int)) (b : Str), b ∈ prs.map (·.1) → valV (prs.map encP) (.inr b) = some (.int (pwI prs b))
  | [], _, h => by cases h
  | (t, x) :: r, b, h => by
    rw [List.map_cons, pwI]
    by_cases e : t = b
    · rw [valV_pos (show (encP (t, x)).1 = .inr b by rw [e]; rfl), if_pos e]
      rfl
    · rw [valV_neg (show ¬ (encP (t, x)).1 = .inr b from fun z => e (Sum.inr.inj z)), if_neg e]
      refine val_prs r b ?_
      rcases List.mem_cons.mp h with h | h
      · exact absurd h.symm e
      · exact h
end Pf


namespace Pf
open PySem PySem.Spec PyProof.Rows L2
/-! ### tuples of tuples as keys of a dict -/
structure NKind (prog : Program) (w : World) (α : Type) [DecidableEq α] where
  is : Heap → α → Addr → Prop
  hash : α → Int
  draws : α → Nat
  lev : Nat
  inj : ∀ {h : Heap} {a : Addr} {x y : α}, is h x a → is h y a → x = y
  keeps : ∀ {h h' : Heap} {k : α} {a d : Addr} {o : Obj} {es ep}, is h k a → h.get? d = some o → o.data = .dict es ep → Heap.SameBut d h h' → is h' k a
  pyHash : ∀ {A : Around} {E : Value → Shared → Prop} {s : Shared} {k : α} {a : Addr} {Q : Int → Shared → Prop}, A.units + lev < cLine → is s.heap k a → Q (hash k) { s with toks := s.toks + draws k } → wpAny (model prog w) A (PySem.pyHash (.ref a)) Q E s
  eqBool : ∀ {A : Around} {E : Value → Shared → Prop} {s : Shared} {x y : α} {a b : Addr} {Q : Bool → Shared → Prop}, A.units + lev < cLine → is s.heap x a → is s.heap y b → Q (decide (x = y)) s → wpAny (model prog w) A (PySem.eqBool (.ref a) (.ref b)) Q E s
  quiet : ∀ {A : Around} {E : Value → Shared → Prop} {s : Shared} {n : Nat} {k : α} {a : Addr} {Q : Bool → Shared → Prop}, lev < n → is s.heap k a → Q true s → wpAny (model prog w) A (eqIsQuiet n (.ref a)) Q E s
def NKind.kind {prog : Program} {w : World} {α : Type} [DecidableEq α] (N : NKind prog w α) (h8 : N.lev < 8) : HeapKind prog w α where
  is := N.is
  hash := N.hash
  draws := N.draws
  room := fun A => A.units + N.lev < cLine
  inj := N.inj
  keeps := N.keeps
  pyHash := N.pyHash
  eqBool := N.eqBool
  quiet := fun hk h => N.quiet h8 hk h
section
variable {prog : Program} {w : World} {α : Type} [DecidableEq α]
theorem quiet_flat {knd : KeyKind prog w α} {A : Around} {E : Value → Shared → Prop} {s : Shared} {n : Nat} {ks : List α} {a : Addr} {Q : Bool → Shared → Prop} (hn : 0 < n) (hk : IsTupleKey knd s.heap ks a) (h : Q true s) : wpAny (model prog w) A (eqIsQuiet n (.ref a)) Q E s := by
  obtain ⟨m, rfl⟩ : ∃ m, n = m + 1 := ⟨n - 1, by omega⟩
  have T := hk.typeIs
  obtain ⟨o, items, k, ho, _, hd, hi⟩ := hk
  unfold eqIsQuiet
  refine wpAny_bind (wpAny_specialOf T F.slot_tuple_eq.lookup ?_)
  show wpAny _ _ (isInstance (.ref a) (.type "tuple") >>= _) _ _ s
  refine wpAny_bind (wpAny_isInstance T isSubtype_tuple_tuple ?_)
  simp only [Bool.not_true, Bool.false_eq_true, if_false]
  refine wpAny_bind (wpAny_seqItems ho hd ?_)
  refine wpAny_bind ?_
  show wpAny _ _ (forIn items _ _) _ _ s
  rw [← Array.forIn_toList]
  refine wpAny_forIn_list _ (fun rest r t => r.1 = none ∧ t = s ∧ ∀ v ∈ rest, carriedByValue v = true) _ ?_ ?_ _ _ ⟨rfl, rfl, hi.byValue⟩
  · rintro v rest r t ⟨hr, rfl, all⟩
    rw [eqIsQuiet_byValue _ (all v List.mem_cons_self)]
    refine wpAny_bind (wpAny_pure ?_)
    simp only [Bool.not_true, Bool.false_eq_true, if_false]
    exact wpAny_pure ⟨rfl, rfl, fun u hu => all u (List.mem_cons_of_mem _ hu)⟩
  · rintro ⟨r1, r2⟩ t ⟨hr, rfl, _⟩
    simp only at hr
    subst hr
    exact wpAny_pure h
/-- flat tuples -/
def flatN (knd : KeyKind prog w α) : NKind prog w (List α) where
  is := IsTupleKey knd
  hash := tupleKeyHash knd
  draws := fun ks => ks.length + 1
  lev := 0
  inj := fun hx hy => hx.inj hy
  keeps := fun x ho hd hs => x.keeps ho hd hs
  pyHash := fun hu hk h => wpAny_pyHash_tuple hu hk h
  eqBool := fun hu hx hy h => wpAny_eqBool_tuple hu hx hy h
  quiet := fun hn hk h => quiet_flat hn hk h
variable (N : NKind prog w α)
inductive RefsAre (h : Heap) : List α → List Value → Prop
  | nil : RefsAre h [] []
  | cons {k : α} {b : Addr} {ks : List α} {vs : List Value} : N.is h k b → RefsAre h ks vs → RefsAre h (k :: ks) (.ref b :: vs)
def IsTupN (h : Heap) (ks : List α) (a : Addr) : Prop := ∃ o items n, h.get? a = some o ∧ o.cls = .type "tuple" ∧ o.data = .seq items n ∧ RefsAre N h ks items.toList
variable {N}
theorem RefsAre.inj {h : Heap} {x y : List α} {vs : List Value} (hx : RefsAre N h x vs) (hy : RefsAre N h y vs) : x = y := by
  induction hx generalizing y with
  | nil => cases hy; rfl
  | cons h1 _ ih =>
    cases hy with
    | cons h2 t2 => rw [N.inj h1 h2, ih t2]
theorem RefsAre.length {h : Heap} {x : List α} {vs : List Value} (hx : RefsAre N h x vs) : x.length = vs.length := by
  induction hx with
  | nil => rfl
  | cons _ _ ih => rw [List.length_cons, List.length_cons, ih]
theorem RefsAre.keeps {h h' : Heap} {d : Addr} {o : Obj} {es ep} (ho : h.get? d = some o) (hd : o.data = .dict es ep) (hs : Heap.SameBut d h h') {x : List α} {vs : List Value} (hx : RefsAre N h x vs) : RefsAre N h' x vs := by
  induction hx with
  | nil => exact .nil
  | cons h1 _ ih => exact .cons (N.keeps h1 ho hd hs) ih
theorem IsTupN.typeIs {s : Shared} {ks : List α} {a : Addr} (x : IsTupN N s.heap ks a) : s.TypeIs (.ref a) "tuple" := let ⟨o, _, _, ho, hc, _⟩ := x; ⟨o, ho, hc⟩
theorem IsTupN.inj {h : Heap} {a : Addr} {x y : List α} (hx : IsTupN N h x a) (hy : IsTupN N h y a) : x = y := by
  obtain ⟨o, items, n, ho, _, hd, hi⟩ := hx
  obtain ⟨o', items', n', ho', _, hd', hi'⟩ := hy
  obtain rfl : o = o' := Option.some.inj (ho.symm.trans ho')
  rw [hd] at hd'
  injection hd' with h1 _
  subst h1
  exact hi.inj hi'
theorem IsTupN.keeps {h h' : Heap} {ks : List α} {a d : Addr} {o : Obj} {es ep} (x : IsTupN N h ks a) (ho : h.get? d = some o) (hd : o.data = .dict es ep) (hs : Heap.SameBut d h h') : IsTupN N h' ks a := by
  obtain ⟨o', items, n, ho', hc, hd', hi⟩ := x
  have ne : a ≠ d := by
    rintro rfl
    obtain rfl : o' = o := Option.some.inj (ho'.symm.trans ho)
    rw [hd] at hd'
    exact nomatch hd'
  exact ⟨o', items, n, (hs.2 a ne).trans ho', hc, hd', hi.keeps ho hd hs⟩
def nHash (N : NKind prog w α) (ks : List α) : Int := reduceHash (Builtin.Tuple.tupleHashOf (ks.map N.hash))
def nDraws (N : NKind prog w α) (ks : List α) : Nat := (ks.map N.draws).sum + 1
theorem pyHash_n {A : Around} {E : Value → Shared → Prop} {s : Shared} {ks : List α} {a : Addr} {Q : Int → Shared → Prop} (hu : A.units + (N.lev + 1) < cLine) (hk : IsTupN N s.heap ks a) (h : Q (nHash N ks) { s with toks := s.toks + nDraws N ks }) : wpAny (model prog w) A (pyHash (.ref a)) Q E s := by
  have T := hk.typeIs
  obtain ⟨o, items, n, ho, _, hd, hi⟩ := hk
  unfold pyHash
  first | unfold pyHashByItsType | skip
  first | refine wpAny_bind (wpAny_cRoomFor_or (.inr (by omega)) ?_) | skip
  refine wpAny_bind (wpAny_specialOf T F.slot_tuple_hash.lookup ?_)
  show wpAny _ _ (if (some (Value.builtin "tuple.__hash__") == some Value.none) = true then _ else _) Q E s
  rw [if_neg (by rw [beq_builtin_none]; exact Bool.false_ne_true)]
  refine wpAny_bind (wpAny_specialOf T F.slot_tuple_hash.lookup ?_)
  show wpAny _ _ (callSpecialIfBoundUnlessNone? (.ref a) "__hash__" _ >>= _) Q E s
  refine wpAny_bind (wpAny_callSpecialIfBoundUnlessNone?_slot T F.slot_tuple_hash (wpAny_call_entry F.slot_tuple_hash T F.entry_tuple_hash ?_ (F.args_tuple_hash_1 _)))
  show wpAny _ _ (Builtin.Tuple.tupleItemsOf (.ref a) >>= _) _ _ s
  refine wpAny_bind (wpAny_tupleItemsOf ho hd ?_)
  refine wpAny_bind ?_
  rw [← Array.forIn_toList]
  refine wpAny_forIn_list _ (fun rest (b : Array Int) t => ∃ done left, ks = done ++ left ∧ RefsAre N s.heap left rest ∧ b.toList = done.map N.hash ∧ t = { s with toks := s.toks + (done.map N.draws).sum }) _ ?_ ?_ _ _ ⟨[], ks, rfl, hi, rfl, rfl⟩
  · rintro x rest b t ⟨done, left, rfl, hl, hb, rfl⟩
    cases hl with
    | @cons k c ks' _ h1 hl' =>
      refine wpAny_bind (N.pyHash (by show A.units + 1 + N.lev < cLine; omega) h1 ?_)
      have e : (({ s with toks := s.toks + (done.map N.draws).sum + N.draws k } : Shared)) = { s with toks := s.toks + ((done ++ [k]).map N.draws).sum } := by
        simp [Nat.add_assoc]
      first
        | exact wpAny_pure ⟨done ++ [k], ks', by simp, hl', by simp [hb], e⟩
        | exact wpAny_bind (wpAny_pure (wpAny_pure ⟨done ++ [k], ks', by simp, hl', by simp [hb], e⟩))
  · rintro b t ⟨done, left, rfl, hl, hb, rfl⟩
    cases hl
    rw [List.append_nil] at h
    show wpAny _ _ (retInt (Builtin.Tuple.tupleHashOf b.toList)) _ _ _
    rw [hb]
    refine wpAny_ret_mkInt ?_
    show wpAny _ _ (if (decide (-(2 : Int) ^ 63 ≤ Builtin.Tuple.tupleHashOf (done.map N.hash)) && decide (Builtin.Tuple.tupleHashOf (done.map N.hash) < 2 ^ 63)) = true then _ else _) Q E _
    unfold nHash nDraws reduceHash at h
    by_cases hr : (decide (-(2 : Int) ^ 63 ≤ Builtin.Tuple.tupleHashOf (done.map N.hash)) && decide (Builtin.Tuple.tupleHashOf (done.map N.hash) < 2 ^ 63)) = true
    · rw [if_pos hr]
      rw [if_pos hr] at h
      exact wpAny_pure (by simpa [Nat.add_assoc] using h)
    · rw [if_neg hr]
      rw [if_neg hr] at h
      exact wpAny_bind (wpAny_rule (wpAny_pure (by simpa [Nat.add_assoc] using h)))
theorem eq_tree_n {A : Around} {E : Value → Shared → Prop} {s : Shared} {x y : List α} {a b : Addr} {P : Fin → Shared → Prop} (hu : A.units + N.lev < cLine) (hx : IsTupN N s.heap x a) (hy : IsTupN N s.heap y b) (h : P (.done (.ret (.bool (decide (x = y))))) s) : wpAny (model prog w) A (Builtin.«tuple.__eq__» ⟨[.ref a, .ref b], []⟩) P E s := by
  have Tb := hy.typeIs
  obtain ⟨oa, xs, na, hoa, _, hda, hia⟩ := hx
  obtain ⟨ob, ys, nb, hob, _, hdb, hib⟩ := hy
  show wpAny _ _ (isInstance (.ref b) (.type "tuple") >>= _) _ _ s
  refine wpAny_bind (wpAny_isInstance Tb isSubtype_tuple_tuple ?_)
  simp only [Bool.not_true, Bool.false_eq_true, if_false]
  refine wpAny_bind (wpAny_tupleItemsOf hoa hda ?_)
  refine wpAny_bind (wpAny_tupleItemsOf hob hdb ?_)
  refine wpAny_bind ?_
  refine wpAny_forIn_list _ (fun rest r t => r.1 = none ∧ t = s ∧ ∃ x' y' xs' ys', rest = List.zip xs' ys' ∧ RefsAre N s.heap x' xs' ∧ RefsAre N s.heap y' ys' ∧ decide (x' = y') = decide (x = y) ∧ (xs'.length == ys'.length) = (xs.size == ys.size)) _ ?_ ?_ _ _ ⟨rfl, rfl, x, y, xs.toList, ys.toList, rfl, hia, hib, rfl, by simp⟩
  · rintro ⟨u, v⟩ rest r t ⟨hr, rfl, x', y', xs', ys', hz, hx', hy', hdec, hlen⟩
    cases hx' with
    | nil => simp at hz
    | @cons k1 c1 x'' xs'' h1 hx'' =>
      cases hy' with
      | nil => simp at hz
      | @cons k2 c2 y'' ys'' h2 hy'' =>
        simp only [List.zip_cons_cons, List.cons.injEq, Prod.mk.injEq] at hz
        obtain ⟨⟨rfl, rfl⟩, rfl⟩ := hz
        refine wpAny_bind (N.eqBool hu h1 h2 ?_)
        by_cases hk : k1 = k2
        · subst hk
          rw [decide_eq_true rfl]
          simp only [Bool.not_true, Bool.false_eq_true, if_false]
          refine wpAny_pure ⟨rfl, rfl, x'', y'', xs'', ys'', rfl, hx'', hy'', ?_, by simpa using hlen⟩
          rw [← hdec]
          by_cases hxy : x'' = y''
          · simp [hxy]
          · simp [hxy]
        · rw [decide_eq_false hk]
          simp only [Bool.not_false, if_true]
          have hf : decide (x = y) = false := by rw [← hdec]; simp [hk]
          rw [hf] at h
          exact wpAny_bind (wpAny_pure (wpAny_pure (wpAny_pure h)))
  · rintro ⟨r1, r2⟩ t ⟨hr, rfl, x', y', xs', ys', hz, hx', hy', hdec, hlen⟩
    simp only at hr
    subst hr
    refine wpAny_pure ?_
    have fin : (xs.size == ys.size) = decide (x = y) := by
      rw [← hdec, ← hlen]
      cases hx' with
      | nil =>
        cases hy' with
        | nil => simp
        | cons _ _ => simp
      | cons _ _ =>
        cases hy' with
        | nil => simp
        | cons _ _ => simp at hz
    show P (.done (.ret (.bool (xs.size == ys.size)))) t
    rw [fin]
    exact h
theorem eqBool_n {A : Around} {E : Value → Shared → Prop} {s : Shared} {x y : List α} {a b : Addr} {Q : Bool → Shared → Prop} (hu : A.units + (N.lev + 1) < cLine) (hx : IsTupN N s.heap x a) (hy : IsTupN N s.heap y b) (h : Q (decide (x = y)) s) : wpAny (model prog w) A (eqBool (.ref a) (.ref b)) Q E s := by
  unfold eqBool
  try with_reducible refine wpAny_holding ?_
  show wpAny _ _ (if (Value.ref a == Value.ref b) = true then _ else _) Q E s
  by_cases hab : (Value.ref a == Value.ref b) = true
  · rw [if_pos hab]
    have e : a = b := by have := eq_of_beq hab; injection this
    subst e
    obtain rfl := hx.inj hy
    exact wpAny_bind (wpAny_rule (wpAny_pure (by simpa using h)))
  · rw [if_neg hab]
    exact wpAny_bind (wpAny_richCompare_same_room (op := .Eq) hx.typeIs hy.typeIs F.slot_tuple_eq
      (wpAny_call_entry F.slot_tuple_eq hx.typeIs F.entry_tuple_eq (eq_tree_n (by show A.units + 1 + N.lev < cLine; omega) hx hy ⟨_, rfl, (fun e => nomatch e), wpAny_truthy_bool h⟩) (F.args_tuple_eq_2 _ _)) (by omega))
theorem quiet_n {A : Around} {E : Value → Shared → Prop} {s : Shared} {n : Nat} {ks : List α} {a : Addr} {Q : Bool → Shared → Prop} (hn : N.lev + 1 < n) (hk : IsTupN N s.heap ks a) (h : Q true s) : wpAny (model prog w) A (eqIsQuiet n (.ref a)) Q E s := by
  obtain ⟨m, rfl⟩ : ∃ m, n = m + 1 := ⟨n - 1, by omega⟩
  have T := hk.typeIs
  obtain ⟨o, items, k, ho, _, hd, hi⟩ := hk
  unfold eqIsQuiet
  refine wpAny_bind (wpAny_specialOf T F.slot_tuple_eq.lookup ?_)
  show wpAny _ _ (isInstance (.ref a) (.type "tuple") >>= _) _ _ s
  refine wpAny_bind (wpAny_isInstance T isSubtype_tuple_tuple ?_)
  simp only [Bool.not_true, Bool.false_eq_true, if_false]
  refine wpAny_bind (wpAny_seqItems ho hd ?_)
  refine wpAny_bind ?_
  show wpAny _ _ (forIn items _ _) _ _ s
  rw [← Array.forIn_toList]
  refine wpAny_forIn_list _ (fun rest r t => r.1 = none ∧ t = s ∧ ∃ left, RefsAre N s.heap left rest) _ ?_ ?_ _ _ ⟨rfl, rfl, ks, hi⟩
  · rintro v rest r t ⟨hr, rfl, left, all⟩
    cases all with
    | @cons k1 c1 l1 _ h1 hl =>
      refine wpAny_bind (N.quiet (by omega) h1 ?_)
      simp only [Bool.not_true, Bool.false_eq_true, if_false]
      exact wpAny_pure ⟨rfl, rfl, l1, hl⟩
  · rintro ⟨r1, r2⟩ t ⟨hr, rfl, _⟩
    simp only at hr
    subst hr
    exact wpAny_pure h
/-- tuples of such -/
def upN (N : NKind prog w α) : NKind prog w (List α) where
  is := IsTupN N
  hash := nHash N
  draws := nDraws N
  lev := N.lev + 1
  inj := fun hx hy => hx.inj hy
  keeps := fun x ho hd hs => x.keeps ho hd hs
  pyHash := fun hu hk h => pyHash_n hu hk h
  eqBool := fun hu hx hy h => eqBool_n hu hx hy h
  quiet := fun hn hk h => quiet_n hn hk h
end
end Pf


namespace Pf
open PySem PySem.Spec PyProof.Rows L2
/-! ### tables of any size up to eight thousand places: every place is met -/
def seen (m : Nat) : Nat → Nat → Nat → Nat
  | 0, _, acc => acc
  | n + 1, x, acc => bif Nat.beq (Nat.land acc (Nat.pow 2 x)) 0 then seen m n ((x * 5 + 1) % (m + 1)) (acc ||| 2 ^ x) else 0
def goes (m : Nat) : Nat → Nat → Nat
  | 0, x => x
  | n + 1, x => bif Nat.beq x (m + 1) then 0 else goes m n ((x * 5 + 1) % (m + 1))
theorem lcg_front (m x : Nat) : ∀ k, lcgI m ((x * 5 + 1) % (m + 1)) k = lcgI m x (k + 1)
  | 0 => rfl
  | k + 1 => by
    show (lcgI m ((x * 5 + 1) % (m + 1)) k * 5 + 1) % (m + 1) = (lcgI m x (k + 1) * 5 + 1) % (m + 1)
    rw [lcg_front m x k]
theorem lcg_more (m x a : Nat) : ∀ k, lcgI m (lcgI m x a) k = lcgI m x (a + k)
  | 0 => rfl
  | k + 1 => by
    show (lcgI m (lcgI m x a) k * 5 + 1) % (m + 1) = (lcgI m x (a + k) * 5 + 1) % (m + 1)
    rw [lcg_more m x a k]
theorem seen_bit (m : Nat) : ∀ (n x acc j : Nat), (seen m n x acc).testBit j = true → acc.testBit j = true ∨ ∃ k, k < n ∧ lcgI m x k = j
  | 0, _, _, _, h => .inl h
  | n + 1, x, acc, j, h => by
    unfold seen at h
    cases c : Nat.beq (Nat.land acc (Nat.pow 2 x)) 0 with
    | false =>
      rw [c] at h
      simp at h
    | true =>
      rw [c] at h
      rcases seen_bit m n _ _ j h with h | ⟨k, hk, e⟩
      · rw [Nat.testBit_or, Bool.or_eq_true, Nat.testBit_two_pow] at h
        rcases h with h | h
        · exact .inl h
        · exact .inr ⟨0, Nat.succ_pos _, of_decide_eq_true h⟩
      · exact .inr ⟨k + 1, Nat.succ_lt_succ hk, by rw [← lcg_front]; exact e⟩
theorem goes_eq (m : Nat) : ∀ (n x : Nat), x ≤ m → goes m n x = lcgI m x n
  | 0, _, _ => rfl
  | n + 1, x, h => by
    unfold goes
    have c : Nat.beq x (m + 1) = false := by
      rw [Bool.eq_false_iff]
      intro z
      have := Nat.eq_of_beq_eq_true z
      omega
    rw [c, cond_false, goes_eq m n _ (Nat.le_of_lt_succ (Nat.mod_lt _ (Nat.succ_pos _))), lcg_front]
def Mk (m : Nat) : Prop := m = 7 ∨ m = 31 ∨ m = 127 ∨ m = 511 ∨ m = 2047 ∨ m = 8191
theorem mk_full {m : Nat} (h : Mk m) : seen m (m + 1) 0 0 = 2 ^ (m + 1) - 1 ∧ goes m (m + 1) 0 = 0 := by
  rcases h with rfl | rfl | rfl | rfl | rfl | rfl <;> constructor <;> decide +kernel
theorem from_zero {m j : Nat} (h : Mk m) (hj : j ≤ m) : ∃ k, k ≤ m ∧ lcgI m 0 k = j := by
  have e : (seen m (m + 1) 0 0).testBit j = true := by
    rw [(mk_full h).1, Nat.testBit_two_pow_sub_one]
    exact decide_eq_true (by omega)
  rcases seen_bit m _ _ _ j e with z | ⟨k, hk, e⟩
  · simp at z
  · exact ⟨k, by omega, e⟩
theorem all_met {m i j : Nat} (h : Mk m) (hi : i ≤ m) (hj : j ≤ m) : ∃ k, k ≤ m ∧ lcgI m i k = j := by
  obtain ⟨a, ha, ea⟩ := from_zero h hi
  obtain ⟨b, hb, eb⟩ := from_zero h hj
  have rnd : lcgI m 0 (m + 1) = 0 := by rw [← goes_eq m _ 0 (Nat.zero_le _), (mk_full h).2]
  by_cases c : a ≤ b
  · exact ⟨b - a, by omega, by rw [← ea, lcg_more, show a + (b - a) = b by omega, eb]⟩
  · refine ⟨m + 1 - a + b, by omega, ?_⟩
    rw [← ea, lcg_more, show a + (m + 1 - a + b) = (m + 1) + b by omega, ← lcg_more, rnd, eb]
theorem run_at {m j : Nat} (hm : Mk m) (h : Int) (hj : j ≤ m) : ∃ n, n ≤ m + 12 ∧ runI m (SetTable.bits h) n = j := by
  obtain ⟨k, hk, e⟩ := all_met hm (runI_le m (SetTable.bits h) 12) hj
  exact ⟨12 + k, by omega, (runI_tail (bits_lt h) k).trans e⟩
theorem way_at {m j : Nat} (hm : Mk m) (h : Int) (hj : j ≤ m) : ∃ k, k < 10 * SetTable.turns m ∧ way m h k = j := by
  obtain ⟨n, hn, e⟩ := run_at hm h hj
  obtain ⟨k, hk, e2⟩ := run_nth m (SetTable.bits h) n
  exact ⟨k, by unfold SetTable.turns; omega, (congrArg SetTable.Probe.j e2).trans e⟩
theorem way_in (m : Nat) (h : Int) (k : Nat) : way m h k ≤ m := by
  have hi : SetTable.bits h % (m + 1) ≤ m := Nat.le_of_lt_succ (Nat.mod_lt _ (Nat.succ_pos _))
  have b := runEnd_bd hi
  have z := nth_in (m := m) k (runAt m (SetTable.bits h % (m + 1)) (SetTable.bits h)) (show SetTable.bits h % (m + 1) + (SetTable.runEnd m (SetTable.bits h % (m + 1)) - SetTable.bits h % (m + 1)) ≤ m by omega)
  exact Nat.le_trans (Nat.le_add_right _ _) z
/-! ### a table without gaps left by what was taken out -/
structure Tb (t : SetTable) (n : Nat) : Prop where
  ris : Ris t.place.toList
  dm : t.dummies = #[]
  sz : t.place.size = n
  mok : Mk t.mask
  bd : ∀ x ∈ t.place.toList, x ≤ t.mask
theorem Tb.hole {t : SetTable} {n : Nat} (T : Tb t n) (hn : n ≤ t.mask) (h : Int) : ∃ K, K < 10 * SetTable.turns t.mask ∧ way t.mask h K ∉ t.place.toList ∧ ∀ k, k < K → way t.mask h k ∈ t.place.toList := by
  obtain ⟨j, hj, out⟩ := st_missing t.place.toList (t.mask + 1) (by rw [Array.length_toList, T.sz]; omega)
  obtain ⟨k, hk, e⟩ := way_at T.mok h (j := j) (by omega)
  obtain ⟨K, a, b, c⟩ := st_least (p := fun k => way t.mask h k ∉ t.place.toList) k (show way t.mask h k ∉ _ by rw [e]; exact out)
  exact ⟨K, by omega, b, fun k hk => Classical.byContradiction fun z => c k hk z⟩
theorem Tb.put {t : SetTable} {n j : Nat} (T : Tb t n) (hj : j ≤ t.mask) (out : j ∉ t.place.toList) :
    SetTable.below t.place j ≤ n ∧ (t.put j).2 = SetTable.below t.place j ∧ Tb (t.put j).1 (n + 1) ∧ (t.put j).1.mask = t.mask ∧ (t.put j).1.led = t.led ∧ (t.put j).1.plain = t.plain ∧ (t.put j).1.fill = n + 1 := by
  obtain ⟨c1, _, _⟩ := below_cut T.ris j
  have hb : SetTable.below t.place j ≤ n := by rw [← T.sz]; exact c1
  have hbl : SetTable.below t.place j ≤ t.place.toList.length := by rw [Array.length_toList]; exact c1
  have no : t.place[SetTable.below t.place j]? ≠ some j := fun e => out (List.mem_of_getElem? (by rw [Array.getElem?_toList]; exact e))
  have pp := put_place t j
  have sz : (t.put j).1.place.size = n + 1 := by rw [← Array.length_toList, pp, len_ins _ hbl, Array.length_toList, T.sz]
  have dd := put_dm T.dm j
  refine ⟨hb, rfl, ⟨ris_insert T.ris no, dd, sz, T.mok, fun x hx => ?_⟩, rfl, rfl, rfl, ?_⟩
  · rw [pp] at hx
    rcases mem_ins.1 hx with rfl | hx
    · exact hj
    · exact T.bd x hx
  · unfold SetTable.fill
    rw [sz, dd]
    rfl
/-! ### all laid anew in a larger table -/
theorem free_n {m j : Nat} (hm : Mk m) (owner : Array (Option Nat)) (h : Int) (hj : j ≤ m) (hf : oAt owner j = none) :
    ∃ J, SetTable.layClean.free m owner (SetTable.turns m) (SetTable.bits h % (m + 1)) (SetTable.bits h) = some J ∧ J ≤ m ∧ oAt owner J = none := by
  obtain ⟨n, hn, e⟩ := run_at hm h hj
  have e2 : way m h (off m (SetTable.bits h % (m + 1)) (SetTable.bits h) n) = j := by
    have e3 := nth_off m n (SetTable.bits h % (m + 1)) (SetTable.bits h)
    rw [itL_run] at e3
    exact (congrArg SetTable.Probe.j e3).trans e
  obtain ⟨K, k1, k2, k3⟩ := st_least (p := fun k => oAt owner (way m h k) = none) _ (show oAt owner (way m h (off m (SetTable.bits h % (m + 1)) (SetTable.bits h) n)) = none by rw [e2]; exact hf)
  have k2' : oAt owner (way m h K) = none := k2
  refine ⟨way m h K, free_spec m owner (SetTable.turns m) n _ _ K (by unfold SetTable.turns; omega) k1 (fun k hk => ?_) ?_, way_in m h K, k2⟩
  · have z := k3 k hk
    have z' : oAt owner (way m h k) ≠ none := z
    cases c : oAt owner (way m h k) with
    | none => exact absurd c z'
    | some x => rfl
  · exact congrArg Option.isNone k2'
structure Ow (m n : Nat) (owner : Array (Option Nat)) : Prop where
  sz : owner.size = m + 1
  all : ∀ k, k < n → ∃ j, j ≤ m ∧ oAt owner j = some k
  ps : ∃ ps : List Nat, ps.length = n ∧ ∀ j, j ≤ m → oAt owner j ≠ none → j ∈ ps
theorem Ow.step {m n : Nat} (hm : Mk m) {owner : Array (Option Nat)} (W : Ow m n owner) (hn : n ≤ m) (h : Int) :
    ∃ j, SetTable.layClean.free m owner (SetTable.turns m) (SetTable.bits h % (m + 1)) (SetTable.bits h) = some j ∧ Ow m (n + 1) (owner.setIfInBounds j (some n)) := by
  obtain ⟨ps, hps, hin⟩ := W.ps
  obtain ⟨i, hi, out⟩ := st_missing ps (m + 1) (by omega)
  have hfree : oAt owner i = none := Classical.byContradiction fun z => out (hin i (by omega) z)
  obtain ⟨J, e, hJ, eJ⟩ := free_n hm owner h (by omega : i ≤ m) hfree
  have hb : J < owner.size := by rw [W.sz]; omega
  refine ⟨J, e, ⟨by rw [Array.size_setIfInBounds]; exact W.sz, fun k hk => ?_, J :: ps, by rw [List.length_cons, hps], fun j hj ne => ?_⟩⟩
  · by_cases c : k = n
    · exact ⟨J, hJ, by rw [c]; exact oAt_set_self _ hb⟩
    · obtain ⟨j, hj, ej⟩ := W.all k (by omega)
      exact ⟨j, hj, (oAt_set_ne _ (fun z => by rw [z, eJ] at ej; cases ej)).trans ej⟩
  · by_cases c : j = J
    · exact c ▸ List.mem_cons_self
    · exact List.mem_cons_of_mem _ (hin j hj fun z => ne ((oAt_set_ne _ c).trans z))
theorem lay_fold {m : Nat} (hm : Mk m) : ∀ (hs : List Int) (n : Nat) (owner : Array (Option Nat)), Ow m n owner → n + hs.length ≤ m → ∃ o2, hs.foldl (stepF m) (some (owner, n)) = some (o2, n + hs.length) ∧ Ow m (n + hs.length) o2
  | [], n, owner, W, _ => ⟨owner, rfl, W⟩
  | h :: r, n, owner, W, hl => by
    rw [List.length_cons] at hl ⊢
    obtain ⟨j, e, W2⟩ := W.step hm (by omega) h
    obtain ⟨o2, f, W3⟩ := lay_fold hm r (n + 1) _ W2 (by omega)
    rw [show n + 1 + r.length = n + (r.length + 1) by omega] at f W3
    exact ⟨o2, by rw [List.foldl_cons, stepF_some e]; exact f, W3⟩
theorem lay_all {m : Nat} (hm : Mk m) {hs : Array Int} (hn : hs.size ≤ m) : ∃ owner, SetTable.layClean m hs = some owner ∧ Ow m hs.size owner := by
  have W0 : Ow m 0 (Array.replicate (m + 1) none) := ⟨by simp, fun k hk => absurd hk (Nat.not_lt_zero _), [], rfl, fun j hj e => absurd (oAt_init hj) e⟩
  obtain ⟨o2, f, W⟩ := lay_fold hm hs.toList 0 _ W0 (by rw [Array.length_toList]; omega)
  rw [Nat.zero_add, Array.length_toList] at f W
  exact ⟨o2, by rw [layClean_eq, f]; rfl, W⟩
theorem laid_anew (t : SetTable) {hs : Array Int} {wanted M : Nat} (hw : SetTable.sizeAbove wanted - 1 = M) (hM : Mk M) (hn : hs.size ≤ M) :
    ∃ t2 order, t.relaid hs wanted = some (t2, order) ∧ order.toList.Perm (List.range hs.size) ∧ Tb t2 hs.size ∧ t2.mask = M ∧ t2.led = t.led ∧ t2.plain = t.plain := by
  obtain ⟨owner, e, W⟩ := lay_all hM hn
  have rr := ris_live (fun j => owner.getD j none) (List.range (M + 1)) (by unfold Ris; exact List.pairwise_lt_range)
  have r1 : Ris ((liveOf M owner).map (·.1)) := rr.1
  have r2 : ∀ x ∈ (liveOf M owner).map (·.1), x ∈ List.range (M + 1) := rr.2
  have nd1 : ((liveOf M owner).map (·.1)).Nodup := List.Pairwise.imp (fun h => Nat.ne_of_lt h) r1
  have all2 : ∀ k, k < hs.size → k ∈ (liveOf M owner).map (·.2) := fun k hk => by
    obtain ⟨j, b1, b2⟩ := W.all k hk
    exact List.mem_map.mpr ⟨(j, k), (mem_live W.sz).2 ⟨b1, b2⟩, rfl⟩
  have len : (liveOf M owner).length = hs.size := by
    obtain ⟨ps, p1, p2⟩ := W.ps
    have u := nat_nodup_len _ ps nd1 fun x hx => by
      obtain ⟨⟨y, k⟩, hq, rfl⟩ := List.mem_map.mp hx
      obtain ⟨b1, b2⟩ := (mem_live W.sz).1 hq
      exact p2 y b1 (by rw [b2]; exact Option.some_ne_none k)
    have d := nat_nodup_len (List.range hs.size) _ List.nodup_range fun k hk => all2 k (List.mem_range.mp hk)
    rw [List.length_map, p1] at u
    rw [List.length_map, List.length_range] at d
    omega
  refine ⟨tabOf t M owner, ((liveOf M owner).map (·.2)).toArray, by rw [relaid_eq, hw, e]; rfl, ?_, ⟨r1, rfl, ?_, hM, fun x hx => ?_⟩, rfl, rfl, rfl⟩
  · exact perm_range hs.size _ (by show ((liveOf M owner).map (·.2)).length = _; rw [List.length_map, len]) all2
  · show ((liveOf M owner).map (·.1)).toArray.size = _
    rw [List.size_toArray, List.length_map, len]
  · exact Nat.le_of_lt_succ (List.mem_range.mp (r2 x hx))
theorem pick_perm {α β : Type} (g : α → β) {L : List α} {es : Array β} {order : Array Nat} (hr : es.toList = L.map g) (hp : order.toList.Perm (List.range L.length)) :
    ∃ Ls : List α, (order.filterMap (es[·]?)).toList = Ls.map g ∧ Ls.Perm L := by
  have all : ∀ l : List α, (List.range l.length).filterMap (fun i => l[i]?) = l := by
    intro l
    induction l with
    | nil => rfl
    | cons x r ih =>
      rw [List.length_cons, List.range_succ_eq_map, List.filterMap_cons_some (b := x) (f := fun i => (x :: r)[i]?) rfl, List.filterMap_map]
      exact congrArg (x :: ·) ih
  refine ⟨order.toList.filterMap (fun i => L[i]?), ?_, ?_⟩
  · have e : (order.filterMap (es[·]?)).toList = order.toList.filterMap (fun i => es[i]?) := by simp
    rw [e, List.map_filterMap]
    refine congrFun (congrArg _ (funext fun i => ?_)) _
    rw [← Array.getElem?_toList, hr, List.getElem?_map]
  · have z := hp.filterMap (fun i => L[i]?)
    rw [all L] at z
    exact z
end Pf


namespace Pf
open PySem PySem.Spec PyProof.Rows L2
/-! ### what may be put into a set -/
section
variable {P : Program} {w : World} {α : Type} [DecidableEq α]
structure SKind (N : NKind P w α) : Prop where
  ofc : ∀ {A : Around} {E : Value → Shared → Prop} {s : Shared} {n : Nat} {k : α} {a : Addr} {Q : Bool → Shared → Prop}, N.lev < n → N.is s.heap k a → Q false s → wpAny (model P w) A (ofAClassStatement n (.ref a)) Q E s
  hby : ∀ {A : Around} {E : Value → Shared → Prop} {s : Shared} {n : Nat} {k : α} {a : Addr} {Q : Bool → Shared → Prop}, N.lev < n → N.is s.heap k a → Q true s → wpAny (model P w) A (hashByValue n (.ref a)) Q E s
  stay : ∀ {h h' : Heap} {k : α} {a b : Addr} {o : Obj} {es : Array (Int × Value)} {ep : Nat} {t : SetTable}, N.is h k b → h.get? a = some o → o.data = .set es ep t → Heap.SameBut a h h' → N.is h' k b
  keep : ∀ {h h' : Heap} {k : α} {b : Addr}, N.is h k b → (∀ c o, h.get? c = some o → h'.get? c = some o) → N.is h' k b
variable {A : Around} {E : Value → Shared → Prop} {s : Shared}
theorem ofc_tup {n : Nat} {a : Addr} {o : Obj} {items : Array Value} {m : Nat} {Q : Bool → Shared → Prop} (ho : s.heap.get? a = some o) (hc : o.cls = .type "tuple") (hd : o.data = .seq items m)
    (hv : ∀ v ∈ items.toList, ∀ {Q' : Bool → Shared → Prop}, Q' false s → wpAny (model P w) A (ofAClassStatement n v) Q' E s) (h : Q false s) : wpAny (model P w) A (ofAClassStatement (n + 1) (.ref a)) Q E s := by
  unfold ofAClassStatement
  refine wpAny_bind (wpAny_typeOf (T := "tuple") ⟨o, ho, hc⟩ ?_)
  dsimp only
  simp only [show (("tuple" : String) == "tuple") = true by decide, if_true, Bool.not_true, Bool.false_eq_true, if_false]
  try refine wpAny_bind (wpAny_pure ?_)
  try simp only [Bool.not_true, Bool.false_eq_true, if_false]
  show wpAny _ _ (seqItems? (.ref a) >>= _) _ _ s
  refine wpAny_bind (wpAny_seqItems ho hd ?_)
  dsimp only
  refine wpAny_bind ?_
  show wpAny _ _ (forIn items _ _) _ _ s
  rw [← Array.forIn_toList]
  refine wpAny_forIn_list _ (fun rest z u => (z.1 = none ∧ u = s) ∧ ∀ v ∈ rest, v ∈ items.toList) _ ?_ ?_ _ _ ⟨⟨rfl, rfl⟩, fun _ q => q⟩
  · rintro v rest z u ⟨⟨_, rfl⟩, al⟩
    refine wpAny_bind (hv v (al v List.mem_cons_self) ?_)
    simp only [Bool.false_eq_true, if_false]
    exact wpAny_pure ⟨⟨rfl, rfl⟩, fun x q => al x (List.mem_cons_of_mem _ q)⟩
  · rintro ⟨z1, z2⟩ u ⟨⟨e1, rfl⟩, _⟩
    simp only at e1
    subst e1
    exact wpAny_pure h
theorem hby_tup {n : Nat} {a : Addr} {o : Obj} {items : Array Value} {m : Nat} {Q : Bool → Shared → Prop} (ho : s.heap.get? a = some o) (hc : o.cls = .type "tuple") (hd : o.data = .seq items m)
    (hv : ∀ v ∈ items.toList, ∀ {Q' : Bool → Shared → Prop}, Q' true s → wpAny (model P w) A (hashByValue n v) Q' E s) (h : Q true s) : wpAny (model P w) A (hashByValue (n + 1) (.ref a)) Q E s := by
  unfold hashByValue
  refine wpAny_bind (wpAny_specialOf (T := "tuple") ⟨o, ho, hc⟩ F.slot_tuple_hash.lookup ?_)
  show wpAny _ _ (seqItems? (.ref a) >>= _) _ _ s
  refine wpAny_bind (wpAny_seqItems ho hd ?_)
  refine wpAny_bind ?_
  show wpAny _ _ (forIn items _ _) _ _ s
  rw [← Array.forIn_toList]
  refine wpAny_forIn_list _ (fun rest z u => (z.1 = none ∧ u = s) ∧ ∀ v ∈ rest, v ∈ items.toList) _ ?_ ?_ _ _ ⟨⟨rfl, rfl⟩, fun _ q => q⟩
  · rintro v rest z u ⟨⟨_, rfl⟩, al⟩
    refine wpAny_bind (hv v (al v List.mem_cons_self) ?_)
    simp only [Bool.not_true, Bool.false_eq_true, if_false]
    exact wpAny_pure ⟨⟨rfl, rfl⟩, fun x q => al x (List.mem_cons_of_mem _ q)⟩
  · rintro ⟨z1, z2⟩ u ⟨⟨e1, rfl⟩, _⟩
    simp only at e1
    subst e1
    exact wpAny_pure h
theorem tup_no_set {h : Heap} {a b : Addr} {o o' : Obj} {es : Array (Int × Value)} {ep n : Nat} {t : SetTable} {items : Array Value} (hb : h.get? b = some o') (hd' : o'.data = .seq items n) (ho : h.get? a = some o) (hd : o.data = .set es ep t) : b ≠ a := fun e => by
  subst e
  rw [hb] at ho
  cases ho
  rw [hd] at hd'
  cases hd'
/-- flat tuples of numbers -/
theorem sk_flat : SKind (flatN (intKind P w)) where
  ofc := fun {A E s n k a Q} hn hk h => by
    obtain ⟨o, items, m, ho, hc, hd, hi⟩ := (show IsTupleKey (intKind P w) s.heap k a from hk)
    obtain ⟨j, rfl⟩ : ∃ j, n = j + 1 := ⟨n - 1, by omega⟩
    refine ofc_tup ho hc hd (fun v hv Q' q => ?_) h
    obtain ⟨i, t, rfl⟩ := items_int hi v hv
    rw [ofAClass_int]
    exact wpAny_pure q
  hby := fun {A E s n k a Q} hn hk h => by
    obtain ⟨o, items, m, ho, hc, hd, hi⟩ := (show IsTupleKey (intKind P w) s.heap k a from hk)
    obtain ⟨j, rfl⟩ : ∃ j, n = j + 1 := ⟨n - 1, by omega⟩
    refine hby_tup ho hc hd (fun v hv Q' q => ?_) h
    obtain ⟨i, t, rfl⟩ := items_int hi v hv
    rw [hashBy_int]
    exact wpAny_pure q
  stay := fun {h h' k a b o es ep t} hk ho hd hs => by
    obtain ⟨o', items, n, ho', hc, hd', hi⟩ := (show IsTupleKey (intKind P w) h k b from hk)
    exact (show IsTupleKey (intKind P w) h' k b from ⟨o', items, n, (hs.2 b (tup_no_set ho' hd' ho hd)).trans ho', hc, hd', hi⟩)
  keep := fun {h h' k b} hk q => by
    obtain ⟨o', items, n, ho', z⟩ := (show IsTupleKey (intKind P w) h k b from hk)
    exact (show IsTupleKey (intKind P w) h' k b from ⟨o', items, n, q _ _ ho', z⟩)
theorem refs_all {N : NKind P w α} {h : Heap} {ks : List α} {vs : List Value} (p : RefsAre N h ks vs) : ∀ v ∈ vs, ∃ k b, v = .ref b ∧ N.is h k b := by
  induction p with
  | nil => intro v hv; cases hv
  | cons h1 _ ih =>
    intro v hv
    rcases List.mem_cons.mp hv with rfl | hv
    · exact ⟨_, _, rfl, h1⟩
    · exact ih v hv
theorem refs_imp {N : NKind P w α} {h h' : Heap} (f : ∀ k b, N.is h k b → N.is h' k b) {ks : List α} {vs : List Value} (p : RefsAre N h ks vs) : RefsAre N h' ks vs := by
  induction p with
  | nil => exact .nil
  | cons h1 _ ih => exact .cons (f _ _ h1) ih
/-- tuples of such -/
theorem sk_up {N : NKind P w α} (S : SKind N) : SKind (upN N) where
  ofc := fun {A E s n k a Q} hn hk h => by
    obtain ⟨o, items, m, ho, hc, hd, hi⟩ := (show IsTupN N s.heap k a from hk)
    obtain ⟨j, rfl⟩ : ∃ j, n = j + 1 := ⟨n - 1, by omega⟩
    refine ofc_tup ho hc hd (fun v hv Q' q => ?_) h
    obtain ⟨k, b, rfl, hb⟩ := refs_all hi v hv
    exact S.ofc (show N.lev < j by have : N.lev + 1 < j + 1 := hn; omega) hb q
  hby := fun {A E s n k a Q} hn hk h => by
    obtain ⟨o, items, m, ho, hc, hd, hi⟩ := (show IsTupN N s.heap k a from hk)
    obtain ⟨j, rfl⟩ : ∃ j, n = j + 1 := ⟨n - 1, by omega⟩
    refine hby_tup ho hc hd (fun v hv Q' q => ?_) h
    obtain ⟨k, b, rfl, hb⟩ := refs_all hi v hv
    exact S.hby (show N.lev < j by have : N.lev + 1 < j + 1 := hn; omega) hb q
  stay := fun {h h' k a b o es ep t} hk ho hd hs => by
    obtain ⟨o', items, n, ho', hc, hd', hi⟩ := (show IsTupN N h k b from hk)
    exact (show IsTupN N h' k b from ⟨o', items, n, (hs.2 b (tup_no_set ho' hd' ho hd)).trans ho', hc, hd', refs_imp (fun _ _ z => S.stay z ho hd hs) hi⟩)
  keep := fun {h h' k b} hk q => by
    obtain ⟨o', items, n, ho', hc, hd', hi⟩ := (show IsTupN N h k b from hk)
    exact (show IsTupN N h' k b from ⟨o', items, n, q _ _ ho', hc, hd', refs_imp (fun _ _ z => S.keep z q) hi⟩)
/-! ### a set of unlike things -/
def rowsN (N : NKind P w α) (L : List (Addr × α)) : List (Int × Value) := L.map fun p => (N.hash p.2, Value.ref p.1)
structure SetN (N : NKind P w α) (h : Heap) (a : Addr) (L : List (Addr × α)) (es : Array (Int × Value)) (ep : Nat) (t : SetTable) : Prop where
  ob : ∃ o, h.get? a = some o ∧ o.ExactSet ∧ o.data = .set es ep t
  rows : es.toList = rowsN N L
  tb : Tb t L.length
  nd : (L.map (·.2)).Nodup
  is : ∀ p ∈ L, N.is h p.2 p.1
  plain : t.plain = true
  led : w.params.followText "set-order" = true ∨ t.led = true
  room : L.length * 5 < t.mask * 3
  few : L.length < 4000
variable {N : NKind P w α} {a : Addr} {L : List (Addr × α)} {es : Array (Int × Value)} {ep : Nat} {t : SetTable}
theorem rows_size (h : es.toList = rowsN N L) : es.size = L.length := by
  have e := congrArg List.length h
  unfold rowsN at e
  rw [Array.length_toList, List.length_map] at e
  exact e
theorem fits_of (h1 : t.place.size = es.size) (h2 : t.dummies = #[]) (h3 : es.size ≤ t.mask) : t.fits es.size = true := by
  unfold SetTable.fits SetTable.fill
  rw [h2, h1, beq_self_eq_true, Bool.true_and]
  exact decide_eq_true (show es.size + 0 ≤ t.mask by omega)
theorem SetN.fits {h : Heap} (R : SetN N h a L es ep t) : t.fits es.size = true := by
  have h1 := rows_size R.rows
  have h2 := R.tb.sz
  have h3 := R.room
  exact fits_of (by omega) R.tb.dm (by omega)
theorem SetN.entry {h : Heap} (R : SetN N h a L es ep t) {i : Nat} {p : Addr × α} (q : L[i]? = some p) : es[i]? = some (N.hash p.2, Value.ref p.1) := by
  rw [← Array.getElem?_toList, R.rows]
  unfold rowsN
  rw [List.getElem?_map, q]
  rfl
theorem Tb.odd {n : Nat} (T : Tb t n) : ¬ t.gaveWay = true := by
  unfold SetTable.gaveWay
  rcases T.mok with e | e | e | e | e | e <;> rw [e] <;> decide
theorem nth_dm (m : Nat) : ∀ (n : Nat) (p : SetTable.Probe), p.dummy = none → (nth m p n).dummy = none
  | 0, _, h => h
  | n + 1, p, h => nth_dm m n (adv m p) (by unfold adv; split <;> exact h)
abbrev beg (m : Nat) (h : Int) : SetTable.Probe := runAt m (SetTable.bits h % (m + 1)) (SetTable.bits h)
/-- nothing is seen of a search among such things -/
theorem unseen (S : SKind N) (h8 : N.lev < 8) {k : α} {b : Addr} {Q : Bool → Shared → Prop} (hk : N.is s.heap k b) {ys : List Value} (hy : ∀ y ∈ ys, ∃ k' c, y = Value.ref c ∧ N.is s.heap k' c) (h : Q false s) : wpAny (model P w) A (searchCouldBeSeen (.ref b) ys) Q E s := by
  unfold searchCouldBeSeen
  refine wpAny_bind ?_
  refine wpAny_forIn_list _ (fun rest z u => (z.1 = none ∧ u = s) ∧ ∀ y ∈ rest, ∃ k' c, y = Value.ref c ∧ N.is s.heap k' c) _ ?_ ?_ _ _ ⟨⟨rfl, rfl⟩, hy⟩
  · rintro v rest z u ⟨⟨_, rfl⟩, al⟩
    obtain ⟨k', c, rfl, hc⟩ := al v List.mem_cons_self
    have al2 : ∀ y ∈ rest, ∃ k' c, y = Value.ref c ∧ N.is u.heap k' c := fun x q => al x (List.mem_cons_of_mem _ q)
    dsimp only
    by_cases hv : (b == c || (carriedByValue (.ref b) && carriedByValue (.ref c))) = true
    · exact wp_if_pos hv (wpAny_pure ⟨⟨rfl, rfl⟩, al2⟩)
    · refine wp_if_neg hv ?_
      refine wpAny_bind (N.quiet h8 hk ?_)
      simp only [Bool.not_true, Bool.false_eq_true, if_false]
      refine wpAny_bind (N.quiet h8 hc ?_)
      simp only [Bool.not_true, Bool.false_eq_true, if_false]
      refine wpAny_bind (S.ofc h8 hk ?_)
      simp only [Bool.false_eq_true, if_false]
      refine wpAny_bind (S.ofc h8 hc ?_)
      simp only [Bool.false_eq_true, if_false]
      exact wpAny_pure ⟨⟨rfl, rfl⟩, al2⟩
  · rintro ⟨z1, z2⟩ u ⟨⟨e1, rfl⟩, _⟩
    simp only at e1
    subst e1
    exact wpAny_pure h
/-- what isn't in the set is searched for up to an empty place -/
theorem search_none (S : SKind N) (h8 : N.lev < 8) (R : SetN N s.heap a L es ep t) {x : Addr} {k : α} (hx : N.is s.heap k x) (hu : A.units + N.lev < cLine) (hno : k ∉ L.map (·.2)) {K : Nat} (hKf : K < 10 * SetTable.turns t.mask)
    (hK : way t.mask (N.hash k) K ∉ t.place.toList) (hKb : ∀ c, c < K → way t.mask (N.hash k) c ∈ t.place.toList) {Q : SetFound → Shared → Prop} (q : Q (.free (way t.mask (N.hash k) K) false) s) :
    ∀ (f c : Nat) (stand : Option SetTable.Probe), stand.getD (t.probeStart (N.hash k)) = nth t.mask (beg t.mask (N.hash k)) c → c ≤ K → K - c < f → wpAny (model P w) A (setSearchFrom a (.ref x) (N.hash k) true f stand) Q E s
  | 0, c, stand, _, _, hf => absurd hf (Nat.not_lt_zero _)
  | f + 1, c, stand, hst, hc, hf => by
    obtain ⟨o, ho, hex, hd⟩ := R.ob
    rw [setSearchFrom_succ]
    refine wpAny_bind (wpAny_setState_of ho hd R.fits ?_)
    dsimp only
    refine wp_if_neg R.tb.odd ?_
    try refine wpAny_bind (wpAny_pure ?_)
    have hnd := nth_dm t.mask c (beg t.mask (N.hash k)) rfl
    have sh : ∀ z, nth t.mask (nth t.mask (beg t.mask (N.hash k)) c) z = nth t.mask (beg t.mask (N.hash k)) (c + z) := fun z => (nth_add t.mask c _ z).symm
    have e1 : ∀ z, (nth t.mask (nth t.mask (beg t.mask (N.hash k)) c) z).j = way t.mask (N.hash k) (c + z) := fun z => congrArg SetTable.Probe.j (sh z)
    rcases go_spec t R.tb.ris R.tb.dm (fun i => (es[i]?.map (·.1)).getD 0) (N.hash k) (10 * SetTable.turns t.mask) (K - c) _ hnd (by omega) (fun z hz => by rw [e1]; exact hKb (c + z) (by omega)) (by rw [e1, show c + (K - c) = K by omega]; exact hK) with ⟨z, i, hz, hi, hh, hb, hpr⟩ | ⟨hb, hpr⟩
    · have hpr2 : t.probe (fun i => (es[i]?.map (·.1)).getD 0) (N.hash k) (stand.getD (t.probeStart (N.hash k))) = some (.candidate (way t.mask (N.hash k) (c + z)) i (nth t.mask (beg t.mask (N.hash k)) (c + (z + 1)))) := by
        rw [hst, ← e1, ← sh]
        exact hpr
      rw [hpr2]
      dsimp only
      rw [e1] at hi
      have hil : i < L.length := by
        have h1 := (List.getElem?_eq_some_iff.mp hi).1
        have h2 := R.tb.sz
        rw [Array.length_toList] at h1
        omega
      obtain ⟨p, hp⟩ : ∃ p, L[i]? = some p := ⟨_, List.getElem?_eq_getElem hil⟩
      have hm : p ∈ L := List.mem_of_getElem? hp
      have hne : p.2 ≠ k := fun e => hno (List.mem_map.mpr ⟨p, hm, e⟩)
      have hsl : t.slot (way t.mask (N.hash k) (c + z)) = .live i := slot_live R.tb.ris hi
      have rest : wpAny (model P w) A (searchRest a (.ref x) (N.hash k) true f es t (way t.mask (N.hash k) (c + z)) i (nth t.mask (beg t.mask (N.hash k)) (c + (z + 1)))) Q E s := by
        unfold searchRest
        rw [R.entry hp]
        dsimp only
        refine wpAny_bind (wpAny_holding (N.eqBool hu (R.is p hm) hx ?_))
        refine wpAny_bind (wpAny_setState_of ho hd R.fits ?_)
        dsimp only
        refine wp_if_neg (by simp [hne]) ?_
        try refine wpAny_bind (wpAny_pure ?_)
        rw [sameMem]
        dsimp only
        simp only [if_true, hsl, R.entry hp]
        refine wpAny_bind (wpAny_isSame_ref_self (wpAny_bind (wpAny_pure ?_)))
        simp only [if_true]
        refine wp_if_neg (by simp [hne]) ?_
        exact search_none S h8 R hx hu hno hKf hK hKb q f (c + (z + 1)) _ rfl (by omega) (by omega)
      by_cases hl : t.led = true
      · refine wp_if_neg (by simp [hl]) ?_
        try refine wpAny_bind (wpAny_pure ?_)
        exact rest
      · refine wp_if_pos (by simp [hl]) ?_
        refine wpAny_bind (unseen S h8 hx (fun y hy => ?_) ?_)
        · obtain ⟨e, he, rfl⟩ := List.mem_map.mp hy
          have he2 : e ∈ es.toList := by
            have : e ∈ es ∧ e.1 = N.hash k := by simpa using he
            simpa using this.1
          rw [R.rows] at he2
          obtain ⟨p2, hp2, rfl⟩ := List.mem_map.mp he2
          exact ⟨p2.2, p2.1, rfl, R.is p2 hp2⟩
        · refine wp_if_neg (by decide) ?_
          try refine wpAny_bind (wpAny_pure ?_)
          exact rest
    · have hpr2 : t.probe (fun i => (es[i]?.map (·.1)).getD 0) (N.hash k) (stand.getD (t.probeStart (N.hash k))) = some (.empty (way t.mask (N.hash k) K) none) := by
        have e2 := e1 (K - c)
        rw [show c + (K - c) = K by omega] at e2
        rw [hst, ← e2]
        exact hpr
      rw [hpr2]
      dsimp only
      exact wpAny_pure q
end
end Pf


namespace Pf
open PySem PySem.Spec PyProof.Rows L2
section
variable {P : Program} {w : World} {α : Type} [DecidableEq α] {A : Around} {E : Value → Shared → Prop} {s : Shared} {N : NKind P w α} {a : Addr} {L : List (Addr × α)} {es : Array (Int × Value)} {ep : Nat} {t : SetTable}
/-! ### more room -/
theorem relay_n (S : SKind N) {o : Obj} (ho : s.heap.get? a = some o) (hex : o.ExactSet) (hd : o.data = .set es ep t) (hr : es.toList = rowsN N L) (T : Tb t L.length) (hfl : L.length ≤ t.mask) (nd : (L.map (·.2)).Nodup) (is : ∀ p ∈ L, N.is s.heap p.2 p.1) (pl : t.plain = true)
    (ld : w.params.followText "set-order" = true ∨ t.led = true) (few : L.length < 4000) {wanted M : Nat} (hw : SetTable.sizeAbove wanted - 1 = M) (hM : Mk M) (hw2 : SetTable.sizeAbove wanted ≤ 8192) (hn : L.length * 5 < M * 3) {Q : Unit → Shared → Prop}
    (q : ∀ h' L' es' ep' t', Heap.SameBut a s.heap h' → SetN N h' a L' es' ep' t' → L'.Perm L → Q () { s with heap := h' }) : wpAny (model P w) A (setRelay a wanted) Q E s := by
  have hz := rows_size hr
  obtain ⟨t2, order, e, pm, T2, em, el, epl⟩ := laid_anew t (hs := es.map (·.1)) (wanted := wanted) hw hM (by rw [Array.size_map, hz]; omega)
  rw [Array.size_map, hz] at pm T2
  obtain ⟨Ls, r1, r2⟩ := pick_perm (fun p : Addr × α => (N.hash p.2, Value.ref p.1)) hr pm
  have hs2 : (order.filterMap (es[·]?)).size = es.size := by rw [rows_size (N := N) (L := Ls) r1, r2.length_eq, hz]
  rw [setRelay_eq]
  refine wpAny_bind (wpAny_setState_of ho hd (fits_of (T.sz.trans hz.symm) T.dm (by omega)) ?_)
  dsimp only
  refine wp_if_neg (by rw [sizeLine_eq]; omega) ?_
  try refine wpAny_bind (wpAny_pure ?_)
  rw [e]
  dsimp only
  refine wpAny_bind ?_
  refine wp_if_neg (by rw [hs2]; simp) ?_
  try refine wpAny_bind (wpAny_pure ?_)
  refine wpAny_pure ?_
  dsimp only
  refine wpAny_storeSet_of ho hd ?_ (by rw [hs2, hz, sizeLine_eq]; omega)
  have sb : Heap.SameBut a s.heap (s.heap.update a (Obj.putSet (order.filterMap (es[·]?)) t2)) := Heap.SameBut.update ..
  refine q _ Ls (order.filterMap (es[·]?)) (ep + 1) t2 sb ⟨⟨_, store_at ho hd, ⟨hex.1, hex.2.1, hex.2.2⟩, rfl⟩, r1, by rw [r2.length_eq]; exact T2, (r2.map (·.2)).nodup_iff.mpr nd, fun p hp => S.stay (is p (r2.mem_iff.mp hp)) ho hd sb, epl.trans pl, by rw [el]; exact ld, ?_, by rw [r2.length_eq]; exact few⟩ r2
  rw [r2.length_eq, em]
  exact hn
theorem grow_case {m n : Nat} (hm : Mk m) (h1 : n * 5 < m * 3) (h2 : (n + 1) * 5 ≥ m * 3) (hn : n + 1 < 4000) : ∃ M, SetTable.sizeAbove (SetTable.grown (n + 1)) - 1 = M ∧ Mk M ∧ SetTable.sizeAbove (SetTable.grown (n + 1)) ≤ 8192 ∧ (n + 1) * 5 < M * 3 := by
  rcases hm with rfl | rfl | rfl | rfl | rfl | rfl
  · obtain rfl : n = 4 := by omega
    exact ⟨31, by decide +kernel, .inr (.inl rfl), by decide +kernel, by decide⟩
  · obtain rfl : n = 18 := by omega
    exact ⟨127, by decide +kernel, .inr (.inr (.inl rfl)), by decide +kernel, by decide⟩
  · obtain rfl : n = 76 := by omega
    exact ⟨511, by decide +kernel, .inr (.inr (.inr (.inl rfl))), by decide +kernel, by decide⟩
  · obtain rfl : n = 306 := by omega
    exact ⟨2047, by decide +kernel, .inr (.inr (.inr (.inr (.inl rfl)))), by decide +kernel, by decide⟩
  · obtain rfl : n = 1228 := by omega
    exact ⟨8191, by decide +kernel, .inr (.inr (.inr (.inr (.inr rfl)))), by decide +kernel, by decide⟩
  · omega
/-! ### one more -/
theorem add_n (S : SKind N) (h8 : N.lev < 8) (R : SetN N s.heap a L es ep t) {x : Addr} {k : α} (hx : N.is s.heap k x) (hu : A.units + N.lev < cLine) (hno : k ∉ L.map (·.2)) (hfew : L.length + 1 < 4000) {Q : Bool → Shared → Prop}
    (q : ∀ h' L' es' ep' t', Heap.SameBut a s.heap h' → SetN N h' a L' es' ep' t' → L'.Perm ((x, k) :: L) → Q true { s with heap := h' }) : wpAny (model P w) A (setAddHashed a (.ref x) (N.hash k)) Q E s := by
  obtain ⟨o, ho, hex, hd⟩ := R.ob
  have hz := rows_size R.rows
  have room := R.room
  obtain ⟨K, hKf, hK, hKb⟩ := R.tb.hole (by omega) (N.hash k)
  have big : K < 100000 := by
    have : 10 * SetTable.turns t.mask ≤ 82060 := by
      unfold SetTable.turns
      rcases R.tb.mok with e | e | e | e | e | e <;> omega
    omega
  unfold setAddHashed
  refine wpAny_holding ?_
  rw [show (100000 : Nat) = 99999 + 1 from rfl, setAddHashedIn_succ]
  refine wpAny_bind (wpAny_setState_of ho hd R.fits ?_)
  dsimp only
  refine wp_if_neg (by simp [byScan, Value.scannable]) ?_
  try refine wpAny_bind (wpAny_pure ?_)
  refine wpAny_bind ?_
  unfold setSearch
  refine search_none S h8 R hx hu hno hKf hK hKb ?_ 100000 0 none rfl (Nat.zero_le _) (by omega)
  dsimp only
  refine wpAny_bind (wpAny_setState_of ho hd R.fits ?_)
  dsimp only
  obtain ⟨q2, q1, q3, q4, q5, q6, q9⟩ := R.tb.put (way_in t.mask (N.hash k) K) hK
  have hp1 : (t.put (way t.mask (N.hash k) K)).1.plain = true := q6.trans R.plain
  generalize hpt : t.put (way t.mask (N.hash k) K) = pt at q1 q3 q4 q5 q6 q9 hp1 ⊢
  obtain ⟨t1, p⟩ := pt
  dsimp only at q1 q3 q4 q5 q6 q9 hp1 ⊢
  subst q1
  first
    | (refine wpAny_bind ?_; refine wp_if_pos hp1 ?_; refine S.hby h8 hx ?_)
    | refine wp_if_pos hp1 (wpAny_bind (S.hby h8 hx ?_))
  simp only [if_true]
  have hin : (SetTable.insertAt es (SetTable.below t.place (way t.mask (N.hash k) K)) (N.hash k, Value.ref x)).toList = rowsN N (L.take (SetTable.below t.place (way t.mask (N.hash k) K)) ++ (x, k) :: L.drop (SetTable.below t.place (way t.mask (N.hash k) K))) := by
    rw [SetTable.toList_insertAt, R.rows]
    unfold rowsN
    rw [List.map_append, List.map_cons, List.map_take, List.map_drop]
  generalize SetTable.below t.place (way t.mask (N.hash k) K) = p at q2 hin ⊢
  have pm := put_perm L p (x, k)
  have hlen : (L.take p ++ (x, k) :: L.drop p).length = L.length + 1 := pm.length_eq
  have nd1 : ((L.take p ++ (x, k) :: L.drop p).map (·.2)).Nodup := (pm.map (·.2)).nodup_iff.mpr (by rw [List.map_cons]; exact List.nodup_cons.mpr ⟨hno, R.nd⟩)
  have hes := rows_size (N := N) hin
  rw [hlen] at hes
  generalize SetTable.insertAt es p (N.hash k, Value.ref x) = es1 at hin hes ⊢
  generalize L.take p ++ (x, k) :: L.drop p = L1 at pm hlen nd1 hin
  refine wpAny_bind (wpAny_storeSet_of ho hd ?_ (by rw [hes, sizeLine_eq]; omega))
  have sb : Heap.SameBut a s.heap (s.heap.update a (Obj.putSet es1 t1)) := Heap.SameBut.update ..
  have ho1 := store_at (es' := es1) (t' := t1) ho hd
  generalize s.heap.update a (Obj.putSet es1 t1) = h1 at sb ho1 ⊢
  have is1 : ∀ p ∈ L1, N.is h1 p.2 p.1 := fun p hp => by
    rcases List.mem_cons.mp (pm.mem_iff.mp hp) with rfl | hp
    · exact S.stay hx ho hd sb
    · exact S.stay (R.is p hp) ho hd sb
  have ld1 : w.params.followText "set-order" = true ∨ t1.led = true := by rw [q5]; exact R.led
  have tf : t1.tooFull = decide ((L.length + 1) * 5 ≥ t.mask * 3) := by
    unfold SetTable.tooFull
    rw [q9, q4]
  by_cases hf : (L.length + 1) * 5 ≥ t.mask * 3
  · have hf2 : t1.tooFull = true := tf.trans (decide_eq_true hf)
    obtain ⟨M, m1, m2, m3, m4⟩ := grow_case R.tb.mok room hf hfew
    first
      | (refine wpAny_bind ?_; refine wp_if_pos (by simp [hf2]) ?_)
      | (refine wp_if_pos (by simp [hf2]) ?_; refine wpAny_bind ?_)
    rw [hz]
    refine relay_n (s := { s with heap := h1 }) (L := L1) S ho1 ⟨hex.1, hex.2.1, hex.2.2⟩ rfl hin (by rw [hlen]; exact q3) (by rw [hlen, q4]; omega) nd1 is1 hp1 ld1 (by rw [hlen]; exact hfew) m1 m2 m3 (by rw [hlen]; exact m4) fun h2 L2 es2 ep2 t2 sb2 R2 pm2 => ?_
    exact wpAny_pure (q h2 L2 es2 ep2 t2 (sb.trans sb2) R2 (pm2.trans pm))
  · have hf2 : t1.tooFull = false := tf.trans (decide_eq_false hf)
    first
      | refine wp_if_neg (by simp [hf2]) ?_
      | (refine wpAny_bind ?_; refine wp_if_neg (by simp [hf2]) ?_; refine wpAny_pure ?_)
    refine wpAny_pure (q h1 L1 es1 (ep + 1) t1 sb ⟨⟨_, ho1, ⟨hex.1, hex.2.1, hex.2.2⟩, rfl⟩, hin, by rw [hlen]; exact q3, nd1, is1, hp1, ld1, by rw [hlen, q4]; omega, by rw [hlen]; exact hfew⟩ pm)
theorem SetN.keep (S : SKind N) {h h' : Heap} (R : SetN N h a L es ep t) (ha : ∀ o, h.get? a = some o → h'.get? a = some o) (hk : ∀ p ∈ L, N.is h' p.2 p.1) : SetN N h' a L es ep t := by
  obtain ⟨o, ho, r⟩ := R.ob
  exact ⟨⟨o, ha o ho, r⟩, R.rows, R.tb, R.nd, hk, R.plain, R.led, R.room, R.few⟩
theorem setN_new {h : Heap} (ho : h.get? a = some { cls := .type "set", dict := none, data := .set #[] 0 (.fresh 0 0 (!w.params.followText "set-order")) }) : SetN N h a [] #[] 0 (.fresh 0 0 (!w.params.followText "set-order")) where
  ob := ⟨_, ho, ⟨rfl, rfl, rfl⟩, rfl⟩
  rows := rfl
  tb := ⟨List.Pairwise.nil, rfl, rfl, .inl rfl, fun x hx => (by cases hx)⟩
  nd := List.nodup_nil
  is := fun p hp => (by cases hp)
  plain := rfl
  led := by
    show _ ∨ (!w.params.followText "set-order") = true
    cases w.params.followText "set-order"
    · exact .inr rfl
    · exact .inl rfl
  room := show 0 * 5 < 7 * 3 by decide
  few := show 0 < 4000 by decide
/-! ### all of a list -/
theorem fill_n (S : SKind N) (h8 : N.lev < 8) {I : Addr} {fp wr : List Addr} {G : Array GenState → Array GenState → Prop} {n : Nat} {Pv : Nat → Value → Prop} {St : Nat → Shared → Prop} {R : Result → Shared → Prop} (W : WalksS P w A.in1 I fp wr G n Pv St) (D : Addr) (hDf : D ∉ fp) (ks : List (Addr × α)) (hn : n = ks.length) (hfew : ks.length < 4000) (nd : (ks.map (·.2)).Nodup)
    (hval : ∀ i v, Pv i v → ∃ p, ks[i]? = some p ∧ v = .ref p.1) (h0 : Heap) (hk : ∀ p ∈ ks, N.is h0 p.2 p.1) (hD0 : h0.get? D = none) (hw0 : ∀ b ∈ wr, h0.get? b = none) (hu : A.in1.units + N.lev < cLine) :
    ∀ (k i : Nat) (s : Shared), n - i = k → i ≤ n → St i s → (∀ b o, h0.get? b = some o → s.heap.get? b = some o) → (∃ L es ep t, SetN N s.heap D L es ep t ∧ L.Perm (ks.take i)) →
      (∀ s' L es ep t, Moved (D :: wr) G s s' → SetN N s'.heap D L es ep t → L.Perm ks → (∀ b o, h0.get? b = some o → s'.heap.get? b = some o) → R (.ok (.ret .none)) s') →
      codeAny (model P w) A (.builtin "set.update.loop" ⟨[.ref D, .ref I], []⟩) R s := by
  have hDw : D ∉ wr := fun h => hDf (W.sub _ h)
  have sub : ∀ b ∈ wr, b ∈ D :: wr := fun b hb => List.mem_cons_of_mem _ hb
  have kp : ∀ {s s' : Shared}, Moved wr G s s' → (∀ b o, h0.get? b = some o → s.heap.get? b = some o) → ∀ b o, h0.get? b = some o → s'.heap.get? b = some o := fun hm z b o e => hm.heap b o (fun hb => by rw [hw0 b hb] at e; cases e) (z b o e)
  intro k
  induction k with
  | zero =>
    intro i s hk' hi hst z ⟨L, es, ep, t, hS, g⟩ hR
    obtain rfl : i = n := by omega
    refine codeAny_builtin F.entry_set_update_loop ?_
    rw [Around.under_plainId F.plain_set_update_loop _]
    show wpAny _ A.in1 (pyNext (.ref I) >>= _) _ _ s
    refine wpAny_bind (W.done s _ _ hst fun s' hm => ?_)
    show wpAny _ A.in1 (ret Value.none) _ _ s'
    have z' := kp hm z
    rw [hn, List.take_length] at g
    exact wpAny_pure (hR s' L es ep t (hm.mono sub) (hS.keep S (fun o e => hm.heap D o hDw e) fun p hp => S.keep (hk p (g.mem_iff.mp hp)) z') g z')
  | succ k ih =>
    intro i s hk' hi hst z ⟨L, es, ep, t, hS, g⟩ hR
    have hlt : i < n := by omega
    refine codeAny_builtin F.entry_set_update_loop ?_
    rw [Around.under_plainId F.plain_set_update_loop _]
    show wpAny _ A.in1 (pyNext (.ref I) >>= _) _ _ s
    refine wpAny_bind (W.item i s _ _ hlt hst fun v s' hP hst' hm => ?_)
    obtain ⟨p, hp, rfl⟩ := hval i v hP
    have z' := kp hm z
    have hS' : SetN N s'.heap D L es ep t := hS.keep S (fun o e => hm.heap D o hDw e) fun q hq => S.keep (hk q (List.mem_of_mem_take (g.mem_iff.mp hq))) z'
    have hx : N.is s'.heap p.2 p.1 := S.keep (hk p (List.mem_of_getElem? hp)) z'
    have nx : (ks.take (i + 1)) = ks.take i ++ [p] := take_next hp
    have hno : p.2 ∉ L.map (·.2) := fun hm => by
      have h1 : p.2 ∈ (ks.take i).map (·.2) := (g.map (·.2)).mem_iff.mp hm
      have h2 : ((ks.take (i + 1)).map (·.2)).Nodup := nd.sublist ((List.take_sublist _ _).map _)
      rw [nx, List.map_append] at h2
      exact (List.nodup_append.mp h2).2.2 _ h1 _ (List.mem_singleton.mpr rfl) rfl
    have gl : L.length = i := by
      rw [g.length_eq, List.length_take]
      omega
    show wpAny _ A.in1 (holding [Value.ref p.1] (setAdd D (.ref p.1)) >>= _) _ _ s'
    refine wpAny_bind (wpAny_holding ?_)
    unfold setAdd
    refine wpAny_holding (wpAny_bind (N.pyHash hu hx ?_))
    refine add_n (s := { s' with toks := s'.toks + N.draws p.2 }) S h8 hS' hx hu hno (by omega) fun h' L' es' ep' t' hsb hS2 pm => ?_
    have g' : L'.Perm (ks.take (i + 1)) := by
      rw [nx]
      exact pm.trans ((g.cons p).trans (List.perm_append_singleton p _).symm)
    have z2 : ∀ b o, h0.get? b = some o → h'.get? b = some o := fun b o e => (hsb.2 b (fun y => by rw [y, hD0] at e; cases e)).trans (z' b o e)
    refine wpAny_pure ⟨plainId_quiet F.plain_set_update_loop _, ih (i + 1) _ (by omega) hlt (W.frame _ s' _ _ hst' (Nat.le_add_right _ _) fun b hb o e => ?_) z2 ⟨L', es', ep', t', hS2, g'⟩ fun s'' L2 es2 ep2 t2 hm'' hS'' g'' z3 => ?_⟩
    · rw [hsb.2 b (fun y : b = D => hDf (by rw [← y]; exact hb))]
      exact e
    · refine hR s'' L2 es2 ep2 t2 (Moved.trans W.gtrans ((hm.mono sub).then_heap (Nat.le_add_right _ _) fun b o hb e => ?_) hm'') hS'' g'' z3
      rw [hsb.2 b (fun y : b = D => hb (by rw [y]; exact List.mem_cons_self))]
      exact e
end
end Pf


namespace Pf
open PySem PySem.Spec PyProof.Rows L2
section
variable {P : Program} {w : World} {α : Type} [DecidableEq α] {A : Around} {E : Value → Shared → Prop} {s : Shared} {N : NKind P w α}
abbrev freshSet (w : World) : Obj := { cls := .type "set", dict := none, data := .set #[] 0 (.fresh 0 0 (!w.params.followText "set-order")) }
/-- set(xs) of unlike things -/
theorem call_set_n (S : SKind N) (h8 : N.lev < 8) {l : Addr} {items : Array Value} (ks : List (Addr × α)) {Q : Value → Shared → Prop} (hh : A.handled = none) (hl : s.heap.IsList l items) (hit : items.toList = ks.map fun p => Value.ref p.1) (hk : ∀ p ∈ ks, N.is s.heap p.2 p.1) (hfew : ks.length < 4000) (nd : (ks.map (·.2)).Nodup) (hu : A.units + 20 < cLine)
    (h : ∀ (h' : Heap) (tk : Nat) L es ep t, SetN N h' s.heap.objs.size L es ep t → L.Perm ks → (∀ b o, s.heap.get? b = some o → h'.get? b = some o) → Q (.ref s.heap.objs.size) { s with heap := h', toks := tk }) : wpAny (model P w) A (call (.type "set") [.ref l]) Q E s := by
  have hisz : items.size = ks.length := by rw [← Array.length_toList, hit, List.length_map]
  obtain ⟨c, tl, hmro⟩ := F.called_set.mro
  have hmade := F.called_set.made
  have hsub := F.called_set.sub
  refine wpAny_call (codeAny_of_tree ?_)
  show wpAny _ _ (callAny (.type "set") _) _ _ _
  refine wpAny_pure ⟨Code.quiet_builtin _ (by decide +kernel), codeAny_builtin F.entry_type_call ?_⟩
  rw [Around.under_plain (weight_type_call_type "set" [.ref l] []) rfl]
  have h1 := F.called_set.notType
  have h2 := F.called_set.canCreate
  have hct := F.typeCall_set_1 (.ref l)
  repeat (any_goals (first | assumption | wp_step))
  refine codeAny_mono (code_set_led1 (.ref l) (E := E) (Q₁ := fun obj s₁ => obj = .ref s.heap.objs.size ∧ s₁ = { s with heap := s.heap.push (freshSet w) }) ⟨rfl, rfl⟩) fun r s₁ hr => ?_
  cases r with
  | error e => exact hr
  | ok fl =>
    cases fl with
    | ret obj =>
      obtain ⟨rfl, rfl⟩ := hr
      have hS : (s.heap.push (freshSet w)).get? s.heap.objs.size = some (freshSet w) := Heap.get?_push_size _ rfl
      have hT : Shared.TypeIs { s with heap := s.heap.push (freshSet w) } (.ref s.heap.objs.size) "set" := ⟨_, hS, rfl⟩
      have hli := F.called_set.init.lookup
      have hbi := F.called_set.init.bind (.ref s.heap.objs.size)
      repeat (any_goals (first | assumption | wp_step))
      refine codeAny_mono (codeAny_call_builtin (R := wants (fun r s₂ => r = .none ∧ ∃ h' tk L es ep t, s₂ = { s with heap := h', toks := tk } ∧ SetN N h' s.heap.objs.size L es ep t ∧ L.Perm ks ∧ (∀ b o, s.heap.get? b = some o → h'.get? b = some o)) E) F.called_set.init.plain F.entry_set_init (check_set_init_1 hT ?_)) fun r₂ s₂ hr₂ => ?_
      · obtain ⟨ol, hol, hcl, nl, hdl⟩ := hl
        obtain ⟨ocls, odict, odata, oslots⟩ := ol
        simp only at hcl hdl
        subst hcl; subst hdl
        have hol' : (s.heap.push (freshSet w)).get? l = some { cls := .type "list", dict := odict, data := .seq items nl, slots := oslots } := Heap.get?_push_of_some _ hol
        have hsls := F.sub_list_set
        have hslf := F.sub_list_frozenset
        have hne : (Value.type "list" == Value.type "dict") = false := by decide
        have hl1 : (s.heap.push (freshSet w)).IsList l items := ⟨_, hol', rfl, nl, rfl⟩
        unfold Builtin.«set.__init__» noKeywords Builtin.Frozenset.updateFrom
        generalize hPI : pyIter = PI
        wp_walk
        subst hPI
        refine wpAny_pyIter_list hl1 ?_
        refine wpAny_bind (wpAny_runValue ?_)
        have hlS : l < s.heap.objs.size := Heap.lt_size hol
        have hh3 : A.in1.in1.in1.handled = none := by simp [hh]
        have psz : (s.heap.push (freshSet w)).objs.size = s.heap.objs.size + 1 := Heap.size_push ..
        have none_of : ∀ b, s.heap.objs.size ≤ b → s.heap.get? b = none := fun b hb => by
          cases q : s.heap.get? b with
          | none => rfl
          | some o => exact absurd (Heap.lt_size q) (Nat.not_lt.mpr hb)
        refine fill_n S h8 ((Walks.list hh3 (s.heap.push (freshSet w)).objs.size l (by rw [psz]; exact Nat.ne_of_lt (Nat.lt_succ_of_lt hlS)) items).toS) s.heap.objs.size (by rw [psz]; simp only [List.mem_cons, List.not_mem_nil, or_false, not_or]; exact ⟨Nat.ne_of_lt (Nat.lt_succ_self _), Nat.ne_of_gt hlS⟩) ks hisz hfew nd (fun i v hv => ?_) s.heap hk (none_of _ (Nat.le_refl _))
          (fun b hb => none_of b (by rw [List.mem_singleton.mp hb, psz]; exact Nat.le_succ _)) (by show A.units + 1 + 1 + 1 + N.lev < cLine; omega) (items.size - 0) 0 _ (by omega) (Nat.zero_le _) ⟨⟨_, Heap.get?_push_size _ rfl, rfl, rfl⟩, (hl1.push _)⟩ (fun b o e => Heap.get?_push_of_some _ (Heap.get?_push_of_some _ e)) ⟨[], #[], 0, _, setN_new (Heap.get?_push_of_some _ hS), List.Perm.refl _⟩ ?hR
        · have q : items.toList[i]? = some v := (Array.getElem?_toList ..).trans hv
          rw [hit, List.getElem?_map] at q
          cases hq : ks[i]? with
          | none => rw [hq] at q; cases q
          | some p => rw [hq] at q; exact ⟨p, rfl, (Option.some.inj q).symm⟩
        case hR =>
          intro s' L es ep t hm hS' g' hkp
          obtain ⟨h', g2, d', tk', os'⟩ := s'
          have eg : g2 = s.gens := hm.gens
          have ed : d' = s.drawn := hm.drawn
          have eo : os' = s.os := hm.os
          subst eg; subst ed; subst eo
          show wpAny _ _ _ _ _ _
          refine wpAny_pure ?_
          show wpAny _ _ (ret Value.none) _ _ _
          exact wpAny_pure ⟨rfl, h', tk', L, es, ep, t, rfl, hS', g', hkp⟩
      · cases r₂ with
        | error e => exact hr₂
        | ok fl₂ =>
          cases fl₂ with
          | ret r =>
            obtain ⟨rfl, h', tk, L, es, ep, t, rfl, hS', g', hk'⟩ := hr₂
            repeat (any_goals (first | assumption | wp_step))
            exact h _ _ _ _ _ _ hS' g' hk'
          | _ => exact hr₂.elim
    | _ => exact hr.elim
end
theorem perm_unmap {β γ : Type} {f : β → γ} {o r : List γ} (p : o.Perm r) : ∀ L : List β, r = L.map f → ∃ Ls : List β, Ls.Perm L ∧ o = Ls.map f := by
  induction p with
  | nil =>
    intro L e
    cases L with
    | nil => exact ⟨[], List.Perm.refl _, rfl⟩
    | cons x y => cases e
  | cons x _ ih =>
    intro L e
    cases L with
    | nil => cases e
    | cons y L =>
      injection e with e1 e2
      obtain ⟨Ls, h1, h2⟩ := ih L e2
      exact ⟨y :: Ls, h1.cons y, by rw [List.map_cons, ← h2, e1]⟩
  | swap x y l =>
    intro L e
    cases L with
    | nil => cases e
    | cons a L =>
      cases L with
      | nil => injection e with e1 e2; cases e2
      | cons b L =>
        injection e with e1 e2
        injection e2 with e2 e3
        exact ⟨b :: a :: L, List.Perm.swap a b L, by rw [List.map_cons, List.map_cons, ← e1, ← e2, ← e3]⟩
  | trans _ _ ih1 ih2 =>
    intro L e
    obtain ⟨L1, h1, e1⟩ := ih2 L e
    obtain ⟨L2, h2, e2⟩ := ih1 L1 e1
    exact ⟨L2, h2.trans h1, e2⟩
theorem vals_refsA {β : Type} {g : β → Addr} : ∀ {ks : List β} {us : List Value}, Vals (ks.map fun p => V.ref (g p)) us → us = ks.map fun p => Value.ref (g p)
  | [], _, .nil => rfl
  | _ :: _, _, .cons r t => by
    cases r
    rw [vals_refsA t]
    rfl
theorem refs_valsA {β : Type} {g : β → Addr} : ∀ (ks : List β), Vals (ks.map fun p => V.ref (g p)) (ks.map fun p => Value.ref (g p))
  | [] => .nil
  | _ :: ks => .cons rfl (refs_valsA ks)
section
variable {X : Cx} {α : Type} [DecidableEq α]
/-- a kind of things, how they stand in the heap, and as data -/
structure Kd (P : Program) (w : World) (α : Type) [DecidableEq α] where
  N : NKind P w α
  S : SKind N
  h8 : N.lev < 8
  at_ : Hp → Addr → α → Prop
  sound : ∀ {H : Hp} {h : Heap} {a : Addr} {k : α}, HOk P w H h → at_ H a k → N.is h k a
def tSetIn (D : Kd P w α) (K : PySem.W.Frag) (ta : TE) (Q : List (Addr × α) → Hp → Prop) : L2.St → Hp → Prop := fun σ H => ta σ H fun x H1 => ∃ (l : Addr) (ks : List (Addr × α)), x = .ref l ∧ SqL K H1 l (ks.map fun p => V.ref p.1) ∧ ks.length < 4000 ∧ (ks.map (·.2)).Nodup ∧ (∀ p ∈ ks, D.at_ H1 p.1 p.2) ∧ Q ks H1
/-- len(set(xs)) -/
theorem pe_lenSetN {K : PySem.W.Frag} (D : Kd X.prog X.w α) {a : Expr} {ta : TE} {p p2 q pos : Pos} (hc : X.calm = true) (hu : X.A.units + 64 < cLine) (hg : Gl X "len") (hm : X.mg "len" = none) (hg2 : Gl X "set") (hm2 : X.mg "set" = none) (ha : PE X a ta) (hK : X.K = K := by rfl)
    (na : starEach [a] X.env = (false, eval a X.env) :: starEach [] X.env := by rfl) : PE X (.Call (.Name "len" p) [.Call (.Name "set" p2) [a] [] q] [] pos) (fun σ H Q => tSetIn D K ta (fun ks H1 => Q (.int ks.length) H1) σ H) := by
  subst hK
  refine ⟨fun pins s σ H Q I h => ?_⟩
  refine Call_ (ld_blt I hg hm PySem.boot_len (PyProof.Rows.callWith_builtin1 (PyProof.Rows.args_cons ?_ rfl) rfl rfl))
  refine Call_ (ld_blt I hg2 hm2 PyProof.Rows.boot_set ?_)
  refine PyProof.Rows.callWith_type1 (PyProof.Rows.args_cons (thn (ha.run pins s σ H _ I h) fun v s1 ⟨x, H1, I1, r1, q1⟩ => PyProof.Rows.args_nil ?_) na) na rfl
  obtain ⟨l, ks, rfl, hL, hz, nd, hat, qq⟩ := q1
  cases r1
  obtain ⟨its, r, pl, _⟩ := I1.list hL
  refine call_set_n D.S D.h8 ks (I1.ok.hd hc) pl.isList (by simpa using vals_refsA r) (fun p hp => D.sound I1.hok (hat p hp)) hz nd (by have : (64 : Nat) ≤ 64 := Nat.le_refl _; omega) fun h' tk L es ep t R pm hk => ?_
  have I2 : Inv X pins σ H1 { s1 with heap := h', toks := tk } := I1.kept hk
  refine PyProof.Rows.args_nil ?_
  obtain ⟨o, ho, hex, hd⟩ := R.ob
  have es_sz : es.size = ks.length := (rows_size R.rows).trans pm.length_eq
  exact call_len_set ho hex hd R.fits (by omega) ⟨.int ks.length, H1, I2.tok _, ⟨_, by rw [es_sz]⟩, qq⟩
/-- sorted(set(xs)) -/
theorem pe_sortSetN {K : PySem.W.Frag} (D : Kd X.prog X.w α) (dd : α → PyData) {a : Expr} {ta : TE} {p p2 q pos : Pos} (hc : X.calm = true) (hu : X.A.units + 64 < cLine) (hg : Gl X "sorted") (hm : X.mg "sorted" = none) (hg2 : Gl X "set") (hm2 : X.mg "set" = none) (ha : PE X a ta) (hK : X.K = K := by rfl)
    (na : starEach [a] X.env = (false, eval a X.env) :: starEach [] X.env := by rfl) : PE X (.Call (.Name "sorted" p) [.Call (.Name "set" p2) [a] [] q] [] pos) (fun σ H Q => tSetIn D K ta (fun ks H1 => (∀ p ∈ ks, Dp K H1 (.ref p.1) (dd p.2) ∧ (dd p.2).depth ≤ 50) ∧ (∀ ls : List (Addr × α), ls.Perm ks → PySem.W.AllAlike (ls.map fun p => dd p.2) ∧ PySem.W.Sortable (ls.map fun p => dd p.2)) ∧
      ∀ (b : Addr) (ls : List (Addr × α)), ls.Perm ks → H1 b = none → Q (.ref b) (upd H1 b (.lst ((ls.mergeSort (PySem.W.dataLe false fun p => dd p.2)).map fun p => V.ref p.1)))) σ H) := by
  subst hK
  refine ⟨fun pins s σ H Q I h => ?_⟩
  refine Call_ (ld_blt I hg hm (u := .builtin "sorted") (by decide +kernel) (PyProof.Rows.callWith_builtin1 (PyProof.Rows.args_cons ?_ rfl) rfl rfl))
  refine Call_ (ld_blt I hg2 hm2 PyProof.Rows.boot_set ?_)
  refine PyProof.Rows.callWith_type1 (PyProof.Rows.args_cons (thn (ha.run pins s σ H _ I h) fun v s1 ⟨x, H1, I1, r1, q1⟩ => PyProof.Rows.args_nil ?_) na) na rfl
  obtain ⟨l, ks, rfl, hL, hz, nd, hat, hdp, hal, qq⟩ := q1
  cases r1
  obtain ⟨its, r, pl, _⟩ := I1.list hL
  refine call_set_n D.S D.h8 ks (I1.ok.hd hc) pl.isList (by simpa using vals_refsA r) (fun p hp => D.sound I1.hok (hat p hp)) hz nd (by have : (64 : Nat) ≤ 64 := Nat.le_refl _; omega) fun h' tk L es ep t R pm hk => ?_
  have I2 : Inv X pins σ H1 { s1 with heap := h', toks := tk } := I1.kept hk
  refine PyProof.Rows.args_nil ?_
  obtain ⟨o, ho, hex, hd⟩ := R.ob
  have es_sz : es.size = ks.length := (rows_size R.rows).trans pm.length_eq
  refine Calls.call_function_entry PyProof.Rows.kind_sorted PyProof.Rows.plain_sorted PyProof.Rows.entry_sorted (PyProof.Rows.args_sorted1 _) ?_
  unfold Builtin.«sorted»
  refine wpAny_bind (m := checkCount "sorted" 1 1 _) (wpAny_pure ?_)
  refine wpAny_bind (collect_set (A := X.A.in1) (I2.ok.hd hc) ⟨o, ho, hex.1, hd⟩ R.fits (by unfold scanBound; omega) R.tb.ris R.led fun s2 out k2 _ g2 o2 pm2 => ?_)
  have e2 : es.toList.map (·.2) = L.map fun p => Value.ref p.1 := by
    rw [R.rows]
    unfold rowsN
    rw [List.map_map]
    rfl
  rw [e2] at pm2
  obtain ⟨Ls, p1, p2⟩ := perm_unmap pm2 L rfl
  have pk := p1.trans pm
  have I3 : Inv X pins σ H1 s2 := by
    have e : s2 = { s2 with os := s2.os } := rfl
    obtain ⟨h2, gg, dr, tt, os⟩ := s2
    have eg : gg = s1.gens := g2
    have eo : os = s1.os := o2
    subst eg eo
    exact I1.call (ch := []) (Un.kept fun b u e => k2 b u (hk b u e)) (I1.hok.kept fun b u e => k2 b u (hk b u e)) I1.bare (fun _ z => nomatch z)
  refine sort_tail I3 hu (v := fun p : Addr × α => V.ref p.1) (dd := fun p => dd p.2) (ys := Ls) (by rw [p2]; exact refs_valsA Ls) (fun y hy => hdp y (pk.mem_iff.mp hy)) (hal Ls pk).1 (hal Ls pk).2 (by rw [pk.length_eq, sizeLine_eq]; omega) (fun b hb => qq b Ls pk hb) fun l s' h => ⟨_, rfl, h⟩
end
end Pf


namespace Pf
open PySem PySem.Spec PyProof.Rows L2
section
variable {P : Program} {w : World} {α β : Type} [DecidableEq α] [DecidableEq β]
/-! ### a kind told otherwise -/
def NKind.by (N : NKind P w α) (e : β → α) (he : ∀ x y, e x = e y → x = y) : NKind P w β where
  is := fun h b a => N.is h (e b) a
  hash := fun b => N.hash (e b)
  draws := fun b => N.draws (e b)
  lev := N.lev
  inj := fun h1 h2 => he _ _ (N.inj h1 h2)
  keeps := fun h1 h2 h3 h4 => N.keeps h1 h2 h3 h4
  pyHash := fun hu hk h => N.pyHash hu hk h
  eqBool := fun {A E s x y a b Q} hu hx hy h => N.eqBool hu hx hy (by
    have e1 : decide (e x = e y) = decide (x = y) := decide_eq_decide.mpr ⟨he x y, congrArg e⟩
    rw [e1]
    exact h)
  quiet := fun hn hk h => N.quiet hn hk h
theorem SKind.by {N : NKind P w α} (S : SKind N) (e : β → α) (he : ∀ x y, e x = e y → x = y) : SKind (N.by e he) where
  ofc := fun {A E s n k a Q} hn hk h => S.ofc (k := e k) hn hk h
  hby := fun {A E s n k a Q} hn hk h => S.hby (k := e k) hn hk h
  stay := fun {h h' k a b o es ep t} h1 h2 h3 h4 => S.stay (k := e k) h1 h2 h3 h4
  keep := fun {h h' k b} h1 h2 => S.keep (k := e k) h1 h2
/-! ### a number and such a thing -/
def IsRow (N : NKind P w α) (h : Heap) (y : Int × α) (a : Addr) : Prop := ∃ o n t b, h.get? a = some o ∧ o.cls = .type "tuple" ∧ o.data = .seq #[.int y.1 t, .ref b] n ∧ N.is h y.2 b
variable {N : NKind P w α}
theorem IsRow.ty {s : Shared} {y : Int × α} {a : Addr} (x : IsRow N s.heap y a) : s.TypeIs (.ref a) "tuple" := let ⟨o, _, _, _, ho, hc, _⟩ := x; ⟨o, ho, hc⟩
def rowHash (N : NKind P w α) (y : Int × α) : Int := reduceHash (Builtin.Tuple.tupleHashOf [hashInt y.1, N.hash y.2])
theorem row_hash {A : Around} {E : Value → Shared → Prop} {s : Shared} {y : Int × α} {a : Addr} {Q : Int → Shared → Prop} (hu : A.units + (N.lev + 1) < cLine) (hk : IsRow N s.heap y a) (h : Q (rowHash N y) { s with toks := s.toks + (N.draws y.2 + 2) }) : wpAny (model P w) A (pyHash (.ref a)) Q E s := by
  have T := hk.ty
  obtain ⟨o, n, t, b, ho, _, hd, hi⟩ := hk
  unfold pyHash
  first | unfold pyHashByItsType | skip
  first | refine wpAny_bind (wpAny_cRoomFor_or (.inr (by omega)) ?_) | skip
  refine wpAny_bind (wpAny_specialOf T F.slot_tuple_hash.lookup ?_)
  show wpAny _ _ (if (some (Value.builtin "tuple.__hash__") == some Value.none) = true then _ else _) Q E s
  rw [if_neg (by rw [beq_builtin_none]; exact Bool.false_ne_true)]
  refine wpAny_bind (wpAny_specialOf T F.slot_tuple_hash.lookup ?_)
  show wpAny _ _ (callSpecialIfBoundUnlessNone? (.ref a) "__hash__" _ >>= _) Q E s
  refine wpAny_bind (wpAny_callSpecialIfBoundUnlessNone?_slot T F.slot_tuple_hash (wpAny_call_entry F.slot_tuple_hash T F.entry_tuple_hash ?_ (F.args_tuple_hash_1 _)))
  show wpAny _ _ (Builtin.Tuple.tupleItemsOf (.ref a) >>= _) _ _ s
  refine wpAny_bind (wpAny_tupleItemsOf ho hd ?_)
  refine wpAny_bind ?_
  rw [← Array.forIn_toList]
  refine wpAny_forIn_list _ (fun rest (c : Array Int) u => (rest = [.int y.1 t, .ref b] ∧ c = #[] ∧ u = s) ∨ (rest = [.ref b] ∧ c = #[hashInt y.1] ∧ u = { s with toks := s.toks + 1 }) ∨ (rest = [] ∧ c = #[hashInt y.1, N.hash y.2] ∧ u = { s with toks := s.toks + 1 + N.draws y.2 })) _ ?_ ?_ _ _ (.inl ⟨rfl, rfl, rfl⟩)
  · rintro x rest c u (⟨h1, rfl, rfl⟩ | ⟨h1, rfl, rfl⟩ | ⟨h1, _, _⟩)
    · injection h1 with h1 h2
      subst h1 h2
      refine wpAny_bind ((intKind P w).pyHash (k := y.1) (intKind_is P w y.1 t) ?_)
      first
        | exact wpAny_pure (.inr (.inl ⟨rfl, rfl, rfl⟩))
        | exact wpAny_bind (wpAny_pure (wpAny_pure (.inr (.inl ⟨rfl, rfl, rfl⟩))))
    · injection h1 with h1 h2
      subst h1 h2
      refine wpAny_bind (N.pyHash (by show A.units + 1 + N.lev < cLine; omega) hi ?_)
      first
        | exact wpAny_pure (.inr (.inr ⟨rfl, rfl, rfl⟩))
        | exact wpAny_bind (wpAny_pure (wpAny_pure (.inr (.inr ⟨rfl, rfl, rfl⟩))))
    · cases h1
  · rintro c u (⟨h1, _, _⟩ | ⟨h1, _, _⟩ | ⟨_, rfl, rfl⟩)
    · cases h1
    · cases h1
    show wpAny _ _ (retInt (Builtin.Tuple.tupleHashOf [hashInt y.1, N.hash y.2])) _ _ _
    refine wpAny_ret_mkInt ?_
    show wpAny _ _ (if (decide (-(2 : Int) ^ 63 ≤ Builtin.Tuple.tupleHashOf [hashInt y.1, N.hash y.2]) && decide (Builtin.Tuple.tupleHashOf [hashInt y.1, N.hash y.2] < 2 ^ 63)) = true then _ else _) Q E _
    have eT : s.toks + 1 + N.draws y.2 + 1 = s.toks + (N.draws y.2 + 2) := by omega
    unfold rowHash reduceHash at h
    generalize Builtin.Tuple.tupleHashOf [hashInt y.1, N.hash y.2] = z at h ⊢
    by_cases hr : (decide (-(2 : Int) ^ 63 ≤ z) && decide (z < 2 ^ 63)) = true
    · rw [if_pos hr] at h ⊢
      rw [← eT] at h
      exact wpAny_pure h
    · rw [if_neg hr] at h ⊢
      rw [← eT] at h
      exact wpAny_bind (wpAny_rule (wpAny_pure h))
theorem row_tree {A : Around} {E : Value → Shared → Prop} {s : Shared} {x y : Int × α} {a b : Addr} {G : PySem.Fin → Shared → Prop} (hu : A.units + N.lev < cLine) (hx : IsRow N s.heap x a) (hy : IsRow N s.heap y b) (h : G (.done (.ret (.bool (decide (x = y))))) s) : wpAny (model P w) A (Builtin.«tuple.__eq__» ⟨[.ref a, .ref b], []⟩) G E s := by
  have Tb := hy.ty
  obtain ⟨oa, na, ta, ca, hoa, _, hda, hia⟩ := hx
  obtain ⟨ob, nb, tb, cb, hob, _, hdb, hib⟩ := hy
  show wpAny _ _ (isInstance (.ref b) (.type "tuple") >>= _) _ _ s
  refine wpAny_bind (wpAny_isInstance Tb isSubtype_tuple_tuple ?_)
  simp only [Bool.not_true, Bool.false_eq_true, if_false]
  refine wpAny_bind (wpAny_tupleItemsOf hoa hda ?_)
  refine wpAny_bind (wpAny_tupleItemsOf hob hdb ?_)
  refine wpAny_bind ?_
  refine wpAny_forIn_list _ (fun rest z u => (z.1 = none ∧ u = s) ∧ ((rest = [(.int x.1 ta, .int y.1 tb), (.ref ca, .ref cb)]) ∨ (rest = [(.ref ca, .ref cb)] ∧ x.1 = y.1) ∨ (rest = [] ∧ x.1 = y.1 ∧ x.2 = y.2))) _ ?_ ?_ _ _ ⟨⟨rfl, rfl⟩, .inl rfl⟩
  · rintro ⟨u, v⟩ rest z st ⟨⟨hz, rfl⟩, (h1 | ⟨h1, e1⟩ | ⟨h1, _⟩)⟩
    · injection h1 with h1 h2
      injection h1 with h1 h3
      subst h1 h2 h3
      refine wpAny_bind ((intKind P w).eqBool (a := x.1) (b := y.1) (intKind_is P w _ _) (intKind_is P w _ _) ?_)
      by_cases e : x.1 = y.1
      · rw [decide_eq_true e]
        simp only [Bool.not_true, Bool.false_eq_true, if_false]
        exact wpAny_pure ⟨by simp, .inr (.inl ⟨trivial, e⟩)⟩
      · rw [decide_eq_false e]
        simp only [Bool.not_false, if_true]
        rw [decide_eq_false (fun z : x = y => e (congrArg Prod.fst z))] at h
        exact wpAny_bind (wpAny_pure (wpAny_pure (wpAny_pure h)))
    · injection h1 with h1 h2
      injection h1 with h1 h3
      subst h1 h2 h3
      refine wpAny_bind (N.eqBool hu hia hib ?_)
      by_cases e : x.2 = y.2
      · rw [decide_eq_true e]
        simp only [Bool.not_true, Bool.false_eq_true, if_false]
        exact wpAny_pure ⟨by simp, .inr (.inr ⟨trivial, e1, e⟩)⟩
      · rw [decide_eq_false e]
        simp only [Bool.not_false, if_true]
        rw [decide_eq_false (fun z : x = y => e (congrArg Prod.snd z))] at h
        exact wpAny_bind (wpAny_pure (wpAny_pure (wpAny_pure h)))
    · cases h1
  · rintro ⟨z1, z2⟩ u ⟨⟨e0, rfl⟩, (h1 | ⟨h1, _⟩ | ⟨_, e1, e2⟩)⟩
    · cases h1
    · cases h1
    simp only at e0
    subst e0
    refine wpAny_pure ?_
    rw [decide_eq_true (Prod.ext e1 e2)] at h
    exact h
theorem IsRow.inj {h : Heap} {a : Addr} {x y : Int × α} (hx : IsRow N h x a) (hy : IsRow N h y a) : x = y := by
  obtain ⟨o, n, t, b, h1, _, h2, h3⟩ := hx
  obtain ⟨o', n', t', b', g1, _, g2, g3⟩ := hy
  obtain rfl := Option.some.inj (h1.symm.trans g1)
  rw [h2] at g2
  injection g2 with g2 _
  have e := congrArg Array.toList g2
  injection e with e1 e2
  injection e2 with e2 _
  injection e1 with e1 _
  injection e2 with e2
  subst e2
  exact Prod.ext e1 (N.inj h3 g3)
/-- a number and a thing, in a tuple -/
def rowN (N : NKind P w α) : NKind P w (Int × α) where
  is := IsRow N
  hash := rowHash N
  draws := fun y => N.draws y.2 + 2
  lev := N.lev + 1
  inj := fun hx hy => hx.inj hy
  keeps := fun {h h' k a d o es ep} x ho hd hs => by
    obtain ⟨o', n, t, b, g1, g2, g3, g4⟩ := x
    have ne : a ≠ d := fun e => by
      subst e
      obtain rfl := Option.some.inj (g1.symm.trans ho)
      rw [hd] at g3
      exact nomatch g3
    exact ⟨o', n, t, b, (hs.2 a ne).trans g1, g2, g3, N.keeps g4 ho hd hs⟩
  pyHash := fun hu hk h => row_hash hu hk h
  eqBool := fun {A E s x y a b Q} hu hx hy h => by
    unfold eqBool
    try with_reducible refine wpAny_holding ?_
    show wpAny _ _ (if (Value.ref a == Value.ref b) = true then _ else _) Q E s
    by_cases hab : (Value.ref a == Value.ref b) = true
    · rw [if_pos hab]
      obtain rfl : a = b := by have := eq_of_beq hab; injection this
      obtain rfl := hx.inj hy
      exact wpAny_bind (wpAny_rule (wpAny_pure (by simpa using h)))
    · rw [if_neg hab]
      exact wpAny_bind (wpAny_richCompare_same_room (op := .Eq) hx.ty hy.ty F.slot_tuple_eq (wpAny_call_entry F.slot_tuple_eq hx.ty F.entry_tuple_eq (row_tree (by show A.units + 1 + N.lev < cLine; omega) hx hy ⟨_, rfl, (fun e => nomatch e), wpAny_truthy_bool h⟩) (F.args_tuple_eq_2 _ _)) (by omega))
  quiet := fun {A E s n k a Q} hn hk h => by
    obtain ⟨m, rfl⟩ : ∃ m, n = m + 1 := ⟨n - 1, by omega⟩
    have T := hk.ty
    obtain ⟨o, n, t, b, ho, _, hd, hi⟩ := hk
    unfold eqIsQuiet
    refine wpAny_bind (wpAny_specialOf T F.slot_tuple_eq.lookup ?_)
    show wpAny _ _ (isInstance (.ref a) (.type "tuple") >>= _) _ _ s
    refine wpAny_bind (wpAny_isInstance T isSubtype_tuple_tuple ?_)
    simp only [Bool.not_true, Bool.false_eq_true, if_false]
    refine wpAny_bind (wpAny_seqItems ho hd ?_)
    refine wpAny_bind ?_
    show wpAny _ _ (forIn _ _ _) _ _ s
    rw [← Array.forIn_toList]
    refine wpAny_forIn_list _ (fun rest z u => (z.1 = none ∧ u = s) ∧ ∀ v ∈ rest, v = .int k.1 t ∨ v = .ref b) _ ?_ ?_ _ _ ⟨⟨rfl, rfl⟩, fun v hv => by simpa using hv⟩
    · rintro v rest z u ⟨⟨_, rfl⟩, al⟩
      have al2 : ∀ v ∈ rest, v = .int k.1 t ∨ v = .ref b := fun x q => al x (List.mem_cons_of_mem _ q)
      rcases al v List.mem_cons_self with rfl | rfl
      · rw [eqIsQuiet_byValue _ (show carriedByValue (.int k.1 t) = true from rfl)]
        refine wpAny_bind (wpAny_pure ?_)
        simp only [Bool.not_true, Bool.false_eq_true, if_false]
        exact wpAny_pure ⟨⟨rfl, rfl⟩, al2⟩
      · refine wpAny_bind (N.quiet (by omega) hi ?_)
        simp only [Bool.not_true, Bool.false_eq_true, if_false]
        exact wpAny_pure ⟨⟨rfl, rfl⟩, al2⟩
    · rintro ⟨z1, z2⟩ u ⟨⟨e1, rfl⟩, _⟩
      simp only at e1
      subst e1
      exact wpAny_pure h
theorem sk_row (S : SKind N) : SKind (rowN N) where
  ofc := fun {A E s n k a Q} hn hk h => by
    obtain ⟨o, m, t, b, ho, hc, hd, hi⟩ := (show IsRow N s.heap k a from hk)
    obtain ⟨j, rfl⟩ : ∃ j, n = j + 1 := ⟨n - 1, by omega⟩
    refine ofc_tup ho hc hd (fun v hv Q' q => ?_) h
    rcases (show v = .int k.1 t ∨ v = .ref b by simpa using hv) with rfl | rfl
    · rw [ofAClass_int]
      exact wpAny_pure q
    · exact S.ofc (show N.lev < j by have : N.lev + 1 < j + 1 := hn; omega) hi q
  hby := fun {A E s n k a Q} hn hk h => by
    obtain ⟨o, m, t, b, ho, hc, hd, hi⟩ := (show IsRow N s.heap k a from hk)
    obtain ⟨j, rfl⟩ : ∃ j, n = j + 1 := ⟨n - 1, by omega⟩
    refine hby_tup ho hc hd (fun v hv Q' q => ?_) h
    rcases (show v = .int k.1 t ∨ v = .ref b by simpa using hv) with rfl | rfl
    · rw [hashBy_int]
      exact wpAny_pure q
    · exact S.hby (show N.lev < j by have : N.lev + 1 < j + 1 := hn; omega) hi q
  stay := fun {h h' k a b o es ep t} hk ho hd hs => by
    obtain ⟨o', n, t', c, g1, g2, g3, g4⟩ := (show IsRow N h k b from hk)
    exact (show IsRow N h' k b from ⟨o', n, t', c, (hs.2 b (tup_no_set g1 g3 ho hd)).trans g1, g2, g3, S.stay g4 ho hd hs⟩)
  keep := fun {h h' k b} hk q => by
    obtain ⟨o', n, t', c, g1, g2, g3, g4⟩ := (show IsRow N h k b from hk)
    exact (show IsRow N h' k b from ⟨o', n, t', c, q _ _ g1, g2, g3, S.keep g4 q⟩)
end
/-! ### foldings; numbers with foldings -/
def two2 (p : Int × Int) : List Int := [p.1, p.2]
theorem two2_inj (p q : Int × Int) (h : two2 p = two2 q) : p = q := by
  unfold two2 at h
  injection h with h1 h2
  injection h2 with h2 _
  exact Prod.ext h1 h2
theorem map_inj {α β : Type} {f : α → β} (hf : ∀ x y, f x = f y → x = y) : ∀ xs ys : List α, xs.map f = ys.map f → xs = ys
  | [], [], _ => rfl
  | [], _ :: _, h => by cases h
  | _ :: _, [], h => by cases h
  | x :: xs, y :: ys, h => by
    injection h with h1 h2
    rw [hf _ _ h1, map_inj hf xs ys h2]
section
variable {P : Program} {w : World}
/-- a list of tuples of numbers, told by e, in a tuple -/
def listE {γ : Type} (e : γ → List Int) : List γ → List (List Int) := List.map e
theorem vals_items {k : List Int} {us : List Value} (r : Vals (k.map V.int) us) : ItemsAre (intKind P w) k us := items_of_vals r
theorem nest_ints {γ : Type} {e : γ → List Int} {H : Hp} {h : Heap} (ok : HOk P w H h) {vs : List V} {q : List γ} (p : Paired (fun v y => ∃ b, v = V.ref b ∧ H b = some (.tup ((e y).map V.int))) vs q) : ∀ {us : List Value}, Vals vs us → RefsAre (flatN (intKind P w)) h (q.map e) us := by
  induction p with
  | nil => intro us r; cases r; exact .nil
  | cons h1 _ ih =>
    intro us r
    cases r with
    | cons r1 rt =>
      obtain ⟨b, rfl, hb⟩ := h1
      cases r1
      obtain ⟨_, its, ri, o, g1, g2, n, g3⟩ := (show ObjOk P w H h b (.tup _) from ok b _ hb)
      exact .cons (show IsTupleKey (intKind P w) h _ b from ⟨o, its.toArray, n, g1, g2, g3, by simpa using vals_items ri⟩) (ih rt)
def NestE {γ : Type} (e : γ → List Int) (H : Hp) (a : Addr) (q : List γ) : Prop := ∃ vs, H a = some (.tup vs) ∧ Paired (fun v y => ∃ b, v = V.ref b ∧ H b = some (.tup ((e y).map V.int))) vs q
theorem nestE_is {γ : Type} {e : γ → List Int} {H : Hp} {h : Heap} (ok : HOk P w H h) {a : Addr} {q : List γ} (hk : NestE e H a q) : IsTupN (flatN (intKind P w)) h (q.map e) a := by
  obtain ⟨vs, ea, p⟩ := hk
  obtain ⟨_, its, r, o, g1, g2, n, g3⟩ := (show ObjOk P w H h a (.tup vs) from ok a _ ea)
  exact ⟨o, its.toArray, n, g1, g2, g3, by simpa using nest_ints ok p r⟩
def nestN {γ : Type} [DecidableEq γ] (e : γ → List Int) (he : ∀ x y, e x = e y → x = y) : NKind P w (List γ) := (upN (flatN (intKind P w))).by (List.map e) (map_inj he)
/-- tuples of tuples of numbers -/
def kdNest {γ : Type} [DecidableEq γ] (P : Program) (w : World) (e : γ → List Int) (he : ∀ x y, e x = e y → x = y) : Kd P w (List γ) where
  N := nestN e he
  S := (sk_up sk_flat).by _ _
  h8 := show 0 + 1 < 8 by decide
  at_ := NestE e
  sound := fun ok h => nestE_is ok h
def RowE {γ : Type} (e : γ → List Int) (H : Hp) (a : Addr) (y : Int × List γ) : Prop := ∃ b, H a = some (.tup [.int y.1, .ref b]) ∧ NestE e H b y.2
/-- numbers with such -/
def kdRow {γ : Type} [DecidableEq γ] (P : Program) (w : World) (e : γ → List Int) (he : ∀ x y, e x = e y → x = y) : Kd P w (Int × List γ) where
  N := rowN (nestN e he)
  S := sk_row ((sk_up sk_flat).by _ _)
  h8 := show 0 + 1 + 1 < 8 by decide
  at_ := RowE e
  sound := fun {H h a k} ok hk => by
    obtain ⟨b, ha, hb⟩ := hk
    obtain ⟨_, its, r, o, g1, g2, n, g3⟩ := (show ObjOk P w H h a (.tup _) from ok a _ ha)
    cases r with
    | cons r1 rt =>
      cases rt with
      | cons r2 rn =>
        cases rn
        obtain ⟨t, rfl⟩ := r1
        cases r2
        exact ⟨o, n, t, b, g1, g2, g3, nestE_is ok hb⟩
end
end Pf


namespace Pf
open PySem PySem.Spec PyProof.Rows L2
/-! ### a dict by tuples of tuples -/
abbrev NK := List (List Key)
def nkN (P : Program) (w : World) : NKind P w NK := upN (flatN (mixKind P w))
def nkK (P : Program) (w : World) : HeapKind P w NK := (nkN P w).kind (show 1 < 8 by decide)
/-- its object: which keys (where they stand) and values it holds -/
def dnO (P : Program) (w : World) (D : Addr) (xs : List (NK × Addr × Value)) : HO := .ext fun h => xs.length ≤ sizeLine ∧ (D == sysModules) = false ∧ ∃ o es ep, h.get? D = some o ∧ o.ExactDict ∧ o.data = .dict es ep ∧ es.toList = xs.map (entryOfKey (nkK P w)) ∧ (xs.map (·.1)).Nodup
/-- a tuple of tuples in the heap -/
def NestAt (H : Hp) (a : Addr) (k : NK) : Prop := ∃ vs, H a = some (.tup vs) ∧ Paired (fun v ks => ∃ b, v = V.ref b ∧ H b = some (.tup (ks.map kV))) vs k
theorem NestAt.mono {H H' : Hp} {a : Addr} {k : NK} (t : TupK H H') (h : NestAt H a k) : NestAt H' a k := by
  obtain ⟨vs, e, p⟩ := h
  exact ⟨vs, t _ _ e, paired_imp (fun _ _ ⟨b, e1, e2⟩ => ⟨b, e1, t _ _ e2⟩) p⟩
def KN (H : Hp) (kvs : List (NK × V)) (xs : List (NK × Addr × Value)) : Prop := Paired (fun p q => p.1 = q.1 ∧ NestAt H q.2.1 p.1 ∧ RelV p.2 q.2.2) kvs xs
def DN (P : Program) (w : World) (H : Hp) (D : Addr) (kvs : List (NK × V)) : Prop := ∃ xs, H D = some (dnO P w D xs) ∧ KN H kvs xs
section
variable {P : Program} {w : World} {H : Hp} {h : Heap}
theorem nest_refs (ok : HOk P w H h) {vs : List V} {k : NK} (p : Paired (fun v ks => ∃ b, v = V.ref b ∧ H b = some (.tup (ks.map kV))) vs k) : ∀ {us : List Value}, Vals vs us → RefsAre (flatN (mixKind P w)) h k us := by
  induction p with
  | nil => intro us r; cases r; exact .nil
  | cons h1 _ ih =>
    intro us r
    cases r with
    | cons r1 rt =>
      obtain ⟨b, rfl, hb⟩ := h1
      cases r1
      exact .cons (key_of ok hb) (ih rt)
theorem nest_is (ok : HOk P w H h) {a : Addr} {k : NK} (hk : NestAt H a k) : (nkK P w).is h k a := by
  obtain ⟨vs, e, p⟩ := hk
  obtain ⟨_, its, r, o, h1, h2, n, h3⟩ := (show ObjOk P w H h a (.tup vs) from ok a _ e)
  exact ⟨o, its.toArray, n, h1, h2, h3, by simpa using nest_refs ok p r⟩
theorem kn_is (ok : HOk P w H h) {kvs : List (NK × V)} {xs : List (NK × Addr × Value)} (p : KN H kvs xs) : ∀ x ∈ xs, (nkK P w).is h x.1 x.2.1 := by
  induction p with
  | nil => intro x hx; cases hx
  | cons h1 _ ih =>
    intro x hx
    rcases List.mem_cons.mp hx with rfl | hx
    · obtain ⟨e, n, _⟩ := h1
      exact e ▸ nest_is ok n
    · exact ih x hx
theorem dn_of (ok : HOk P w H h) {D : Addr} {kvs : List (NK × V)} {xs : List (NK × Addr × Value)} (e : H D = some (dnO P w D xs)) (p : KN H kvs xs) : xs.length ≤ sizeLine ∧ (D == sysModules) = false ∧ h.DictOfH (nkK P w) D xs := by
  obtain ⟨⟨z, y, o, es, ep, h1, h2, h3, h4, h5⟩, _⟩ := (show ObjOk P w H h D (dnO P w D xs) from ok D _ e)
  exact ⟨z, y, o, es, ep, h1, h2, h3, h4, kn_is ok p, h5⟩
theorem dn_obj {H' : Hp} {D : Addr} {xs : List (NK × Addr × Value)} (z : xs.length ≤ sizeLine) (y : (D == sysModules) = false) (d : h.DictOfH (nkK P w) D xs) : ObjOk P w H' h D (dnO P w D xs) := by
  obtain ⟨o, es, ep, h1, h2, h3, h4, _, h5⟩ := d
  exact ⟨⟨z, y, o, es, ep, h1, h2, h3, h4, h5⟩, ⟨o, h1⟩, fun g1 g2 q st => by
    obtain ⟨z, y, o, es, ep, h1, h2⟩ := q
    exact ⟨z, y, o, es, ep, st _ h1, h2⟩⟩
/-- the empty one -/
theorem dn_nil (ok : HOk P w H h) {D : Addr} (e : H D = some (.dK []) ∨ H D = some (.dT [])) : (D == sysModules) = false ∧ h.DictOfH (nkK P w) D [] := by
  rcases e with e | e
  · obtain ⟨_, y, vs, r, o, es, ep, h1, h2, h3, h4, h5⟩ := dk_of ok e
    cases r
    have h6 : es.toList = [] := by
      obtain ⟨hp, _⟩ := h5
      generalize es.toList = l at hp
      cases hp
      rfl
    exact ⟨y, o, es, ep, h1, h2, h3, h6, fun x hx => (by cases hx), List.nodup_nil⟩
  · obtain ⟨_, y, xs, r, o, es, ep, h1, h2, h3, h4, _, h5⟩ := dt_of ok e
    cases r
    exact ⟨y, o, es, ep, h1, h2, h3, h4, fun x hx => (by cases hx), List.nodup_nil⟩
end
def lkN (kvs : List (NK × V)) (k : NK) : Option V := (kvs.find? fun x => decide (x.1 = k)).map (·.2)
theorem kn_at {H : Hp} {kvs : List (NK × V)} {xs : List (NK × Addr × Value)} (p : KN H kvs xs) (k : NK) : (lkN kvs k = none ∧ atKey xs k = none) ∨ ∃ v q, lkN kvs k = some v ∧ atKey xs k = some q ∧ RelV v q.2 := by
  induction p with
  | nil => exact .inl ⟨rfl, rfl⟩
  | @cons a b _ _ h1 _ ih =>
    obtain ⟨e, _, r⟩ := h1
    unfold lkN atKey at ih ⊢
    by_cases c : a.1 = k
    · refine .inr ⟨a.2, b.2, ?_, ?_, r⟩
      · rw [List.find?_cons_of_pos (by simpa using c)]
        rfl
      · rw [List.find?_cons_of_pos (by simpa using e ▸ c)]
        rfl
    · rw [List.find?_cons_of_neg (by simpa using c), List.find?_cons_of_neg (by simpa using fun z => c (e.trans z))]
      exact ih
theorem mut_tk {H : Hp} {D : Addr} {o : HO} (hm : Mut (H D)) : TupK H (upd H D o) := by
  refine ⟨fun b xs e => ?_, fun b o u e => ?_⟩
  · by_cases c : b = D
    · subst c
      rw [e] at hm
      exact hm.elim
    · rw [upd_ne c]
      exact e
  · by_cases c : b = D
    · subst c
      rw [e] at hm
      exact hm.elim
    · rw [upd_ne c]
      exact e
/-- d.setdefault(k, v) -/
def rSetN (P : Program) (w : World) : V → List V → Hp → VK → Prop := fun x vs H Q => ∃ (D a : Addr) (k : NK) (v : V) (kvs : List (NK × V)), x = .ref D ∧ vs = [.ref a, v] ∧ (DN P w H D kvs ∨ ((H D = some (.dK []) ∨ H D = some (.dT [])) ∧ kvs = [])) ∧ NestAt H a k ∧ kvs.length < sizeLine ∧
  (∀ u, lkN kvs k = some u → Q u H) ∧ (lkN kvs k = none → ∀ o, DN P w (upd H D o) D (kvs ++ [(k, v)]) → Q v (upd H D o))
theorem mt_setN {X : Cx} (hu : X.A.units + 64 < cLine) : MtM X "dict.setdefault" (rSetN X.prog X.w) := by
  intro pins s σ H x vs v us Q I rx rv h
  obtain ⟨D, a, k, y, kvs, rfl, rfl, hD, hk, hz, q1, q2⟩ := h
  cases rx
  obtain ⟨ua, uy, rfl, ra, ry⟩ : ∃ ua uy, us = [ua, uy] ∧ RelV (V.ref a) ua ∧ RelV y uy := by
    cases rv with
    | cons r1 rt =>
      cases rt with
      | cons r2 rn =>
        cases rn
        exact ⟨_, _, rfl, r1, r2⟩
  cases ra
  obtain ⟨xs, hp, hlen, hns, hd, hm⟩ : ∃ xs, KN H kvs xs ∧ xs.length ≤ sizeLine ∧ (D == sysModules) = false ∧ s.heap.DictOfH (nkK X.prog X.w) D xs ∧ Mut (H D) := by
    rcases hD with ⟨xs, e, p⟩ | ⟨e, rfl⟩
    · obtain ⟨z, y, d⟩ := dn_of I.hok e p
      exact ⟨xs, p, z, y, d, by rw [e]; exact True.intro⟩
    · obtain ⟨y, d⟩ := dn_nil I.hok e
      exact ⟨[], .nil, Nat.zero_le _, y, d, by rcases e with e | e <;> rw [e] <;> exact True.intro⟩
  have hroom : (nkK X.prog X.w).room X.A.in1 := by
    show X.A.units + 1 + 1 < cLine
    omega
  refine call_setdefault_heap (k := k) hroom (nest_is I.hok hk) hns hd (fun q hq => ?_) (fun hq h' hd' same => ?_) hlen
  · rcases kn_at hp k with ⟨_, e⟩ | ⟨v2, q2', e1, e2, r⟩
    · rw [hq] at e
      cases e
    · rw [hq] at e2
      cases e2
      exact ⟨v2, H, I.tok _, r, q1 v2 e1⟩
  · rcases kn_at hp k with ⟨e, _⟩ | ⟨v2, q2', e1, e2, r⟩
    · have hxl : xs.length = kvs.length := (Paired.length hp).symm
      rw [storedH_new hq] at hd'
      have I2 : Inv X pins σ (upd H D (dnO X.prog X.w D (xs ++ [(k, a, uy)]))) { s with heap := h', toks := s.toks + (nkK X.prog X.w).draws k } := by
        obtain ⟨ob, e1⟩ : ∃ ob, h'.get? D = some ob := by
          obtain ⟨o, _, _, e, _⟩ := hd'
          exact ⟨o, e⟩
        exact d_write I hm same ⟨ob, e1⟩ (dn_obj (by rw [List.length_append, List.length_singleton]; omega) hns hd')
      refine ⟨y, _, I2, ry, q2 e _ ⟨xs ++ [(k, a, uy)], upd_same, ?_⟩⟩
      have tk : TupK H (upd H D (dnO X.prog X.w D (xs ++ [(k, a, uy)]))) := mut_tk hm
      exact paired_app (paired_imp (fun _ _ ⟨z1, z2, z3⟩ => ⟨z1, z2.mono tk, z3⟩) hp) (.cons ⟨rfl, hk.mono tk, ry⟩ .nil)
    · rw [hq] at e2
      cases e2
/-! ### its values as a list -/
theorem values_raw {prog : Program} {w : World} (d : Addr) (hd : (d == sysModules) = false) :
    MeetsIn prog w (Builtin.«dict.values» ⟨[.ref d], []⟩) (fun _ R s => s.TypeIs (.ref d) "dict" ∧
      R (.ok (.ret (.ref s.heap.objs.size))) { s with heap := s.heap.push (DSub.viewOb "dict_values" d) }) :=
  .of_wp fun A R s ⟨ht, h⟩ => by
    refine wpAny_bind ?_
    unfold Builtin.Dict.noArgs
    refine wpAny_bind (wpAny_notOrdered_dict ht ?_)
    show wpAny _ _ (pure d) _ _ s
    refine wpAny_pure ?_
    show wpAny _ _ (Builtin.Dict.showsAll d >>= _) _ _ s
    unfold Builtin.Dict.showsAll
    rw [if_neg (by rw [hd]; exact Bool.false_ne_true)]
    refine wpAny_bind (wpAny_pure ?_)
    exact wpAny_bind (wpAny_newObj_type (wpAny_pure ⟨_, rfl, h⟩))
def rValsN (P : Program) (w : World) : V → List V → Hp → VK → Prop := fun x xs H Q => ∃ (D : Addr) (kvs : List (NK × V)), x = .ref D ∧ xs = [] ∧ DN P w H D kvs ∧ ∀ p, H p = none → Q (.ref p) (upd H p (viewO "dict_values" p D))
theorem mt_valsN {X : Cx} : MtM X "dict.values" (rValsN X.prog X.w) := by
  intro pins s σ H x xs v us Q I rx rxs h
  obtain ⟨D, kvs, rfl, rfl, ⟨ks, e, hp⟩, q⟩ := h
  cases rx
  cases rxs
  obtain ⟨hlen, hns, hd⟩ := dn_of I.hok e hp
  refine call_meetsIn PySem.F.slot_dict_values hd.typeIs PySem.F.entry_dict_values (PySem.F.args_dict_values_1 _) (values_raw D hns) ⟨hd.typeIs, ?_⟩
  exact ⟨.ref s.heap.objs.size, _, I.laid (t' := s.toks) (fun b u z => Heap.get?_push_of_some _ z) (Nat.le_refl _) (viewO_ok (Heap.get?_push_size _ rfl)), rfl, q _ (I.hok.fresh (Nat.le_refl _))⟩
theorem kdl_vals {prog : Program} {w : World} {v d : Addr} {ob : Obj} {es : Array DictEntry} {ep : Nat} (hdd : ob.data = .dict es ep) :
    PySem.W.KdlSrc prog w "dict_values" v d es.size (fun i u => ∃ en : DictEntry, es[i]? = some en ∧ u = en.val) (fun h => h.get? v = some (DSub.viewOb "dict_values" d) ∧ h.get? d = some ob) where
  type := fun _ hm => ⟨_, hm.1, rfl⟩
  there := fun _ hm => ⟨Heap.lt_size hm.1, Heap.lt_size hm.2⟩
  keep := fun _ _ hm hk => ⟨hk v (.inl rfl) _ hm.1, hk d (.inr rfl) _ hm.2⟩
  notList := by decide
  notTuple := by decide
  hint := fun _ _ s _ hm hq => PySem.W.kdl_hint_values (s := s) ⟨_, hm.1, rfl⟩ hq
  iter := fun _ s hh hm => ⟨_, _, (fun _ _ hq => DSub.iter_vals hm.1 hm.2 hdd hq), DSub.walksVal hh (Nat.ne_of_lt (Heap.lt_size hm.2)) hdd (fun i e he => ⟨e, he, rfl⟩), ⟨Heap.get?_push_size _ rfl, Heap.get?_push_of_some _ hm.2⟩⟩
def rListN (P : Program) (w : World) : List V → Hp → VK → Prop := fun xs H Q => ∃ (p D : Addr) (kvs : List (NK × V)), xs = [V.ref p] ∧ H p = some (viewO "dict_values" p D) ∧ DN P w H D kvs ∧ ∀ q, H q = none → Q (.ref q) (upd H q (.lst (kvs.map (·.2))))
theorem call_list_valsN {X : Cx} (hc : X.calm = true) : CallR X (.type "list") (rListN X.prog X.w) := by
  intro pins s σ H xs us Q I r h
  obtain ⟨p, D, kvs, rfl, hv, ⟨ks, e0, pr⟩, q⟩ := h
  obtain ⟨u, rfl, rx⟩ := r.one
  cases rx
  have hv : s.heap.get? p = some (DSub.viewOb "dict_values" D) := (show ObjOk X.prog X.w H s.heap p (viewO "dict_values" p D) from I.hok p _ hv).1
  obtain ⟨z, hs, o, es, ep, ho, hx, hdt, he, _, hn⟩ := dn_of I.hok e0 pr
  have l1 : es.size = ks.length := size_of_entries he
  have l2 : kvs.length = ks.length := Paired.length pr
  refine PySem.W.kdl_call (kdl_vals hdt) (I.ok.hd hc) ⟨hv, ho⟩ (by omega) fun h' tk acc' c' kp e it => ?_
  have rv : Vals (kvs.map (·.2)) acc'.toList := by
    have la : acc'.toList.length = es.size := by rw [Array.length_toList]; exact it.1
    refine vals_of_at (by rw [List.length_map]; omega) fun j x u h1 h2 => ?_
    obtain ⟨en, hen, hu⟩ := it.2 j u (by rw [← Array.getElem?_toList]; exact h2)
    rw [List.getElem?_map] at h1
    cases hj : kvs[j]? with
    | none => rw [hj] at h1; cases h1
    | some a =>
      rw [hj] at h1
      cases h1
      obtain ⟨b, hb, _, _, rb⟩ := paired_get pr hj
      have qe := entry_at he j
      rw [hen, hb] at qe
      have e2 : en = entryOfKey (nkK X.prog X.w) b := Option.some.inj qe
      rw [hu, e2]
      exact rb
  have hz : (kvs.map (·.2)).length ≤ sizeLine := by rw [List.length_map]; omega
  refine ⟨.ref s.heap.objs.size, _, I.laid (t' := tk) (o := .lst (kvs.map (·.2))) kp (Nat.le_refl _) ?_, rfl, q _ (I.hok.fresh (Nat.le_refl _))⟩
  exact ⟨hz, acc'.toList, c', rv, by rw [Array.toArray_toList]; exact e⟩
/-! ### methods of such a dict -/
def tyN (P : Program) (w : World) (x : V) (H : Hp) : Prop := ∃ D, x = V.ref D ∧ ((∃ xs, H D = some (dnO P w D xs)) ∨ H D = some (.dK []) ∨ H D = some (.dT []))
theorem tyN_is {X : Cx} {pins : List (Addr × Obj)} {σ : L2.St} {H : Hp} {s : Shared} {x : V} {v : Value} (I : Inv X pins σ H s) (r : RelV x v) (ty : tyN X.prog X.w x H) : s.TypeIs v "dict" ∧ ∀ a, v = .ref a → ∃ ob, s.heap.get? a = some ob ∧ ob.dict = none := by
  obtain ⟨D, rfl, h⟩ := ty
  cases r
  have z : ∃ o, s.heap.get? D = some o ∧ o.ExactDict := by
    rcases h with ⟨xs, e⟩ | e
    · obtain ⟨⟨_, _, o, _, _, h1, h2, _⟩, _⟩ := (show ObjOk X.prog X.w H s.heap D (dnO X.prog X.w D xs) from I.hok D _ e)
      exact ⟨o, h1, h2⟩
    · obtain ⟨_, o, _, _, h1, h2, _⟩ := dn_nil (P := X.prog) (w := X.w) I.hok e
      exact ⟨o, h1, h2⟩
  obtain ⟨o, e, ex⟩ := z
  exact ⟨⟨o, e, ex.1⟩, fun a e2 => by cases e2; exact ⟨o, e, ex.2.1⟩⟩
def tMN (P : Program) (w : World) (r : V → List V → Hp → VK → Prop) (to : TE) (t : TA) : TE := fun σ H Q => to σ H fun x H1 => tyN P w x H1 ∧ t σ H1 fun xs H2 => r x xs H2 Q
def tMN0 (P : Program) (w : World) (r : V → List V → Hp → VK → Prop) (to : TE) : TE := fun σ H Q => to σ H fun x H1 => tyN P w x H1 ∧ r x [] H1 Q
section
variable {X : Cx} {o e : Expr} {es : List Expr} {to : TE} {t : TA} {apos cpos : Pos} {P : Program} {w : World}
theorem pe_setN (ho : PE X o to) (ha : PA X (e :: es) t) (hu : X.A.units + 64 < cLine) (hP : X.prog = P := by rfl) (hw : X.w = w := by rfl)
    (hbase : attributeBase o "setdefault" X.env (eval o X.env) = eval o X.env := by rfl)
    (hfew : ((backTo cpos (starEach (e :: es) X.env)).all (fun x => !x.1) && (backToKw cpos (keywordEach [] X.env)).all (fun x => x.1.isSome)
      && decide ((e :: es).length + ([] : List Keyword).length + (if ([] : List Keyword).isEmpty then 0 else 1) < 30)) = true := by rfl)
    (hline : (apos.endLine == cpos.line) = true := by rfl) (hs : starEach (e :: es) X.env = (false, eval e X.env) :: starEach es X.env := by rfl) (hplain : (backTo cpos (starEach es X.env)).any (·.1) = false := by rfl) :
    PE X (.Call (.Attribute o "setdefault" apos) (e :: es) [] cpos) (tMN P w (rSetN P w) to t) := by
  subst hP hw
  constructor
  intro pins s σ H Q I h
  refine wpAny_Call_method_late hbase hfew hline rfl (thn (ho.run pins s σ H _ I h) fun v s1 z => ?_)
  obtain ⟨x, H1, I1, rx, ty, q1⟩ := z
  have hty := tyN_is I1 rx ty
  refine ⟨"dict", "dict.setdefault", PySem.F.plainAttrs_dict, PySem.F.slot_dict_setdefault, PySem.F.type_dict_setdefault, hty.1, hty.2, ?_⟩
  have hA := ha.run cpos pins s1 σ H1 _ I1 q1
  rw [hs] at hA ⊢
  refine Calls.callWith_builtin ?_ (Calls.evalArgs_plain (thn hA fun us s2 z2 => ?_))
  · show (false || (backTo cpos (starEach es X.env)).any (·.1)) = false
    rw [hplain]
    rfl
  · obtain ⟨vs, H2, I2, r2, q2⟩ := z2
    exact mt_setN hu pins s2 σ H2 x vs v us Q I2 rx r2 q2
theorem pe_valsN (ho : PE X o to) (hP : X.prog = P := by rfl) (hw : X.w = w := by rfl)
    (hbase : attributeBase o "values" X.env (eval o X.env) = eval o X.env := by rfl) (hline : (apos.endLine == cpos.line) = true := by rfl) : PE X (.Call (.Attribute o "values" apos) [] [] cpos) (tMN0 P w (rValsN P w) to) := by
  subst hP hw
  constructor
  intro pins s σ H Q I h
  refine wpAny_Call_method0_late hbase hline (thn (ho.run pins s σ H _ I h) fun v s1 z => ?_)
  obtain ⟨x, H1, I1, rx, ty, q1⟩ := z
  have hty := tyN_is I1 rx ty
  exact ⟨"dict", "dict.values", PySem.F.plainAttrs_dict, PySem.F.slot_dict_values, PySem.F.type_dict_values, hty.1, hty.2, Calls.callWith_builtin rfl (PySem.evalArgs_none (mt_valsN pins s1 σ H1 x [] v [] Q I1 rx .nil q1))⟩
end
theorem listN (P : Program) (w : World) {X : Cx} (hc : X.calm = true) (hP : X.prog = P := by rfl) (hw : X.w = w := by rfl) : CallR X (.type "list") (rListN P w) := by
  subst hP hw
  exact call_list_valsN hc
end Pf


namespace Pf
open PySem PySem.Spec PyProof.Rows L2
/-! ### a dict by foldings -/
abbrev Fq := List (Int × Int)
/-- a folding at a: known of old, or as a tuple -/
def FkAt (H : Hp) (a : Addr) (q : Fq) : Prop := ∃ vs, Rd H a (.tup vs) ∧ Paired (TwoAt H) vs q
def FkT (H : Hp) (a : Addr) (q : Fq) : Prop := TupOf TwoAt H (.ref a) q
structure KeyR (R : Hp → Addr → Fq → Prop) : Prop where
  imp : ∀ {H : Hp} {a : Addr} {q : Fq}, R H a q → FkAt H a q
  mono : ∀ {H H' : Hp} {a : Addr} {q : Fq}, TupK H H' → R H a q → R H' a q
theorem keyW : KeyR FkAt := ⟨id, fun t ⟨vs, e, p⟩ => ⟨vs, e.elim (fun e => .inl (t _ _ e)) (fun ⟨o, e⟩ => .inr ⟨o, t.frz _ _ _ e⟩), paired_imp (fun _ _ => TwoAt.mono _ _ _ _ t) p⟩⟩
theorem keyT : KeyR FkT := ⟨fun ⟨a', vs, e, hA, p⟩ => by
  cases e
  exact ⟨vs, .inl hA, p⟩, fun t h => TupOf.mono TwoAt.mono _ _ _ _ t h⟩
/-- .. as a tuple without a dict of its own -/
def FkF (H : Hp) (a : Addr) (q : Fq) : Prop := FrzOf TwoAt H (.ref a) q
theorem keyF : KeyR FkF := ⟨fun ⟨a', o, vs, e, hA, _, p⟩ => by
  cases e
  exact ⟨vs, .inr ⟨o, hA⟩, p⟩, fun t h => FrzOf.mono TwoAt.mono _ _ _ _ t h⟩
theorem nest2_ints {P : Program} {w : World} {H : Hp} {h : Heap} (ok : HOk P w H h) {vs : List V} {q : Fq} (p : Paired (TwoAt H) vs q) {us : List Value} (r : Vals vs us) : RefsAre (flatN (intKind P w)) h (q.map two2) us :=
  nest_ints (e := two2) ok (paired_imp (fun v y ⟨b, e, hb⟩ => ⟨b, e, hb⟩) p) r
def fqK (P : Program) (w : World) : HeapKind P w Fq := (nestN (P := P) (w := w) two2 two2_inj).kind (show 0 + 1 < 8 by decide)
def dfO (P : Program) (w : World) (D : Addr) (xs : List (Fq × Addr × Value)) : HO := .ext fun h => xs.length ≤ sizeLine ∧ (D == sysModules) = false ∧ ∃ o es ep, h.get? D = some o ∧ o.ExactDict ∧ o.data = .dict es ep ∧ es.toList = xs.map (entryOfKey (fqK P w)) ∧ (xs.map (·.1)).Nodup
def KF (R : Hp → Addr → Fq → Prop) (H : Hp) (kvs : List (Fq × V)) (xs : List (Fq × Addr × Value)) : Prop := Paired (fun p q => p.1 = q.1 ∧ R H q.2.1 p.1 ∧ RelV p.2 q.2.2) kvs xs
section
variable {R : Hp → Addr → Fq → Prop}
theorem KF.keeps {H H' : Hp} {kvs : List (Fq × V)} {xs : List (Fq × Addr × Value)} (m : KeyR R) (t : TupK H H') (r : KF R H kvs xs) : KF R H' kvs xs := paired_imp (fun _ _ ⟨z1, z2, z3⟩ => ⟨z1, m.mono t z2, z3⟩) r
theorem KF.val {H : Hp} {kvs : List (Fq × V)} {xs : List (Fq × Addr × Value)} (r : KF R H kvs xs) (k : Fq) : RelO (valV kvs k) ((atKey xs k).map (·.2)) := by
  unfold KF at r
  induction r with
  | nil => exact True.intro
  | @cons p q ps qs h t ih =>
    obtain ⟨h1, _, h2⟩ := h
    by_cases e : p.1 = k
    · have e' : q.1 = k := h1.symm.trans e
      have b : atKey (q :: qs) k = some q.2 := by simp [atKey, List.find?_cons, e']
      rw [valV_pos e, b]; exact h2
    · have e' : ¬ q.1 = k := fun z => e (h1.trans z)
      have b : atKey (q :: qs) k = atKey qs k := by simp [atKey, List.find?_cons, e']
      rw [valV_neg e, b]; exact ih
theorem KF.repl {H : Hp} {kvs : List (Fq × V)} {xs : List (Fq × Addr × Value)} (r : KF R H kvs xs) (k : Fq) {y : V} {u : Value} (ry : RelV y u) :
    KF R H (kvs.map fun kv => if kv.1 = k then (kv.1, y) else kv) (xs.map (putAt k u)) := by
  unfold KF at r ⊢
  induction r with
  | nil => exact .nil
  | @cons p q ps qs h t ih =>
    rw [List.map_cons, List.map_cons]
    refine .cons ?_ ih
    obtain ⟨h1, h2, h3⟩ := h
    unfold putAt
    by_cases e : p.1 = k
    · rw [if_pos e, if_pos (h1.symm.trans e)]; exact ⟨h1, h2, ry⟩
    · rw [if_neg e, if_neg (fun z => e (h1.trans z))]; exact ⟨h1, h2, h3⟩
theorem KF.put {H : Hp} {kvs : List (Fq × V)} {xs : List (Fq × Addr × Value)} (r : KF R H kvs xs) (k : Fq) {b : Addr} {y : V} {u : Value} (hb : R H b k) (ry : RelV y u) :
    KF R H (putK kvs k y) (storedH xs k b u) := by
  have e : (kvs.any fun kv => decide (kv.1 = k)) = (atKey xs k).isSome := by
    rw [valV_any, (r.val k).isSome_eq, Option.isSome_map]
  unfold putK storedH
  rw [e]
  by_cases q : (atKey xs k).isSome = true
  · rw [if_pos q, if_pos q]; exact r.repl k ry
  · rw [if_neg q, if_neg q]; exact Paired.snoc r ⟨rfl, hb, ry⟩
end
/-- it may be written -/
def DF (P : Program) (w : World) (R : Hp → Addr → Fq → Prop) (H : Hp) (D : Addr) (kvs : List (Fq × V)) : Prop := ∃ xs, H D = some (dfO P w D xs) ∧ KF R H kvs xs
/-- a walk holds it -/
def DFz (P : Program) (w : World) (R : Hp → Addr → Fq → Prop) (H : Hp) (D : Addr) (o : Obj) (kvs : List (Fq × V)) : Prop := ∃ xs, H D = some (.frz o (dfO P w D xs)) ∧ KF R H kvs xs
/-- it may be read -/
def DFr (P : Program) (w : World) (H : Hp) (D : Addr) (kvs : List (Fq × V)) : Prop := ∃ xs, Rd H D (dfO P w D xs) ∧ KF FkAt H kvs xs
/-- .. or is a new one -/
def DFw (P : Program) (w : World) (R : Hp → Addr → Fq → Prop) (H : Hp) (D : Addr) (kvs : List (Fq × V)) : Prop := DF P w R H D kvs ∨ ((H D = some (.dK []) ∨ H D = some (.dT [])) ∧ kvs = [])
section
variable {P : Program} {w : World} {R : Hp → Addr → Fq → Prop} {H H' : Hp} {h : Heap} {D : Addr} {o : Obj} {kvs : List (Fq × V)}
theorem KF.imp {R : Hp → Addr → Fq → Prop} {xs : List (Fq × Addr × Value)} (m : KeyR R) (r : KF R H kvs xs) : KF FkAt H kvs xs := paired_imp (fun _ _ ⟨z1, z2, z3⟩ => ⟨z1, m.imp z2, z3⟩) r
theorem DF.r (m : KeyR R) (d : DF P w R H D kvs) : DFr P w H D kvs := by
  obtain ⟨xs, e, k⟩ := d
  exact ⟨xs, .inl e, k.imp m⟩
theorem DFz.r (m : KeyR R) (d : DFz P w R H D o kvs) : DFr P w H D kvs := by
  obtain ⟨xs, e, k⟩ := d
  exact ⟨xs, .inr ⟨o, e⟩, k.imp m⟩
theorem DFw.weak (m : KeyR R) (d : DFw P w R H D kvs) : DFw P w FkAt H D kvs := d.elim (fun ⟨xs, e, k⟩ => .inl ⟨xs, e, k.imp m⟩) .inr
theorem DF.weak (m : KeyR R) (d : DF P w R H D kvs) : DF P w FkAt H D kvs := by
  obtain ⟨xs, e, k⟩ := d
  exact ⟨xs, e, k.imp m⟩
theorem DF.keeps (m : KeyR R) (t : TupK H H') (d : DF P w R H D kvs) (e : H' D = H D) : DF P w R H' D kvs := by
  obtain ⟨xs, e1, k⟩ := d
  exact ⟨xs, e.trans e1, k.keeps m t⟩
theorem DFz.keeps (m : KeyR R) (t : TupK H H') (d : DFz P w R H D o kvs) (e : H' D = H D) : DFz P w R H' D o kvs := by
  obtain ⟨xs, e1, k⟩ := d
  exact ⟨xs, e.trans e1, k.keeps m t⟩
theorem DF.ext (m : KeyR R) (x : Ext H H') (d : DF P w R H D kvs) : DF P w R H' D kvs := by
  obtain ⟨xs, e1, k⟩ := d
  exact ⟨xs, x _ _ e1, k.keeps m (TupK.ext x)⟩
theorem DF.there (d : DF P w R H D kvs) : ∃ u, H D = some u := by
  obtain ⟨xs, e1, k⟩ := d
  exact ⟨_, e1⟩
theorem DF.mut (d : DF P w R H D kvs) : Mut (H D) := by
  obtain ⟨xs, e1, k⟩ := d
  rw [e1]
  exact True.intro
theorem DFw.mut (d : DFw P w R H D kvs) : Mut (H D) := by
  rcases d with d | ⟨e | e, _⟩
  · exact d.mut
  · rw [e]; exact True.intro
  · rw [e]; exact True.intro
theorem DF.ne_lst {b : Addr} {ys : List V} (d : DF P w R H D kvs) (e : H b = some (.lst ys)) : b ≠ D := by
  obtain ⟨xs, e1, k⟩ := d
  exact ne_of e e1 (fun z => by unfold dfO at z; cases z)
theorem DF.ne_dK {b : Addr} {ys : List (Key × V)} (d : DF P w R H D kvs) (e : H b = some (.dK ys)) : b ≠ D := by
  obtain ⟨xs, e1, k⟩ := d
  exact ne_of e e1 (fun z => by unfold dfO at z; cases z)
theorem DF.ne_tup {b : Addr} {ys : List V} (d : DF P w R H D kvs) (e : H b = some (.tup ys)) : b ≠ D := by
  obtain ⟨xs, e1, k⟩ := d
  exact ne_of e e1 (fun z => by unfold dfO at z; cases z)
theorem fk_is (ok : HOk P w H h) {a : Addr} {q : Fq} (hk : FkAt H a q) : (fqK P w).is h q a := by
  obtain ⟨vs, ea, p⟩ := hk
  obtain ⟨_, its, r, o, g1, g2, n, g3⟩ := (show ObjOk P w H h a (.tup vs) from ea.ok ok)
  exact ⟨o, its.toArray, n, g1, g2, g3, by simpa using nest2_ints ok p r⟩
theorem kf_is (ok : HOk P w H h) {xs : List (Fq × Addr × Value)} (p : KF FkAt H kvs xs) : ∀ x ∈ xs, (fqK P w).is h x.1 x.2.1 := by
  unfold KF at p
  induction p with
  | nil => intro x hx; cases hx
  | cons h1 _ ih =>
    intro x hx
    rcases List.mem_cons.mp hx with rfl | hx
    · obtain ⟨e, n, _⟩ := h1
      exact e ▸ fk_is ok n
    · exact ih x hx
theorem dfo_of (ok : HOk P w H h) {xs : List (Fq × Addr × Value)} (e : Rd H D (dfO P w D xs)) (p : KF FkAt H kvs xs) : xs.length ≤ sizeLine ∧ (D == sysModules) = false ∧ h.DictOfH (fqK P w) D xs := by
  obtain ⟨⟨z, y, o, es, ep, h1, h2, h3, h4, h5⟩, _⟩ := (show ObjOk P w H h D (dfO P w D xs) from e.ok ok)
  exact ⟨z, y, o, es, ep, h1, h2, h3, h4, kf_is ok p, h5⟩
theorem df_rd (ok : HOk P w H h) (d : DFr P w H D kvs) : kvs.length ≤ sizeLine ∧ (D == sysModules) = false ∧ ∃ xs, KF FkAt H kvs xs ∧ h.DictOfH (fqK P w) D xs := by
  obtain ⟨xs, e, p⟩ := d
  obtain ⟨z, y, d⟩ := dfo_of ok e p
  have l : kvs.length = xs.length := Paired.length p
  exact ⟨by omega, y, xs, p, d⟩
theorem df_obj {xs : List (Fq × Addr × Value)} (z : xs.length ≤ sizeLine) (y : (D == sysModules) = false) (d : h.DictOfH (fqK P w) D xs) : ObjOk P w H' h D (dfO P w D xs) := by
  obtain ⟨o, es, ep, h1, h2, h3, h4, _, h5⟩ := d
  exact ⟨⟨z, y, o, es, ep, h1, h2, h3, h4, h5⟩, ⟨o, h1⟩, fun g1 g2 q st => by
    obtain ⟨z, y, o, es, ep, h1, h2⟩ := q
    exact ⟨z, y, o, es, ep, st _ h1, h2⟩⟩
theorem df_nil (ok : HOk P w H h) (e : H D = some (.dK []) ∨ H D = some (.dT [])) : (D == sysModules) = false ∧ h.DictOfH (fqK P w) D [] := by
  rcases e with e | e
  · obtain ⟨_, y, vs, r, o, es, ep, h1, h2, h3, h4, h5⟩ := dk_of ok e
    cases r
    have h6 : es.toList = [] := by
      obtain ⟨hp, _⟩ := h5
      generalize es.toList = l at hp
      cases hp
      rfl
    exact ⟨y, o, es, ep, h1, h2, h3, h6, fun x hx => (by cases hx), List.nodup_nil⟩
  · obtain ⟨_, y, xs, r, o, es, ep, h1, h2, h3, h4, _, h5⟩ := dt_of ok e
    cases r
    exact ⟨y, o, es, ep, h1, h2, h3, h4, fun x hx => (by cases hx), List.nodup_nil⟩
end
section
variable {X : Cx} {pins : List (Addr × Obj)} {σ : L2.St} {H : Hp} {s : Shared} {D a : Addr} {v : V} {r : Value} {A : Around} {E : Value → Shared → Prop} {kvs : List (Fq × V)} {k : Fq}
theorem fq_room (hu : A.units + 64 < cLine) : (fqK X.prog X.w).room A.in1 := by
  show A.units + 1 + (0 + 1) < cLine
  omega
theorem f_getItem {Q : Value → Shared → Prop} (hu : A.units + 64 < cLine) (I : Inv X pins σ H s) (g : DFr X.prog X.w H D kvs) (hk : FkAt H a k) (hv : valV kvs k = some v) (h : ∀ w' s', Inv X pins σ H s' → RelV v w' → Q w' s') :
    wpAny (model X.prog X.w) A (getItem (.ref D) (.ref a)) Q E s := by
  obtain ⟨z, hd, xs, rel, dd⟩ := df_rd I.hok g
  obtain ⟨w', hw, rw'⟩ := RelO.some_of (v := v) (o := (atKey xs k).map (·.2)) (by rw [← hv]; exact rel.val k)
  obtain ⟨p, hp, hp2⟩ := Option.map_eq_some_iff.mp hw
  refine wpAny_getItem_heap (fq_room hu) (fk_is I.hok hk) dd hp ?_
  rw [hp2]
  exact h w' _ (I.tok _) rw'
theorem f_in {Q : Value → Shared → Prop} (hu : A.units + 64 < cLine) (I : Inv X pins σ H s) (g : DFr X.prog X.w H D kvs) (hk : FkAt H a k) (h : ∀ s', Inv X pins σ H s' → Q (.bool (valV kvs k).isSome) s') :
    wpAny (model X.prog X.w) A (compareOp .In (.ref a) (.ref D)) Q E s := by
  obtain ⟨z, hd, xs, rel, dd⟩ := df_rd I.hok g
  refine wpAny_in_heap (fq_room hu) (fk_is I.hok hk) hd dd ?_
  have q := (rel.val k).isSome_eq
  rw [Option.isSome_map] at q
  rw [← q]
  exact h _ (I.tok _)
theorem f_notIn {Q : Value → Shared → Prop} (hu : A.units + 64 < cLine) (I : Inv X pins σ H s) (g : DFr X.prog X.w H D kvs) (hk : FkAt H a k) (h : ∀ s', Inv X pins σ H s' → Q (.bool (!(valV kvs k).isSome)) s') :
    wpAny (model X.prog X.w) A (compareOp .NotIn (.ref a) (.ref D)) Q E s := by
  obtain ⟨z, hd, xs, rel, dd⟩ := df_rd I.hok g
  refine wpAny_notIn_heap (fq_room hu) (fk_is I.hok hk) hd dd ?_
  have q := (rel.val k).isSome_eq
  rw [Option.isSome_map] at q
  rw [← q]
  exact h _ (I.tok _)
theorem f_setItem {R : Hp → Addr → Fq → Prop} (m : KeyR R) {Q : Unit → Shared → Prop} (hu : A.units + 64 < cLine) (I : Inv X pins σ H s) (g : DFw X.prog X.w R H D kvs) (hk : R H a k) (hl : kvs.length < sizeLine) (rv : RelV v r) (h : ∀ o s', DF X.prog X.w R (upd H D o) D (putK kvs k v) → Inv X pins σ (upd H D o) s' → Q () s') :
    wpAny (model X.prog X.w) A (setItem (.ref D) (.ref a) r) Q E s := by
  obtain ⟨xs, hp, hlen, hns, hd, hm⟩ : ∃ xs, KF R H kvs xs ∧ xs.length ≤ sizeLine ∧ (D == sysModules) = false ∧ s.heap.DictOfH (fqK X.prog X.w) D xs ∧ Mut (H D) := by
    rcases id g with ⟨xs, e, p⟩ | ⟨e, rfl⟩
    · obtain ⟨z, y, d⟩ := dfo_of I.hok (.inl e) (p.imp m)
      exact ⟨xs, p, z, y, d, g.mut⟩
    · obtain ⟨y, d⟩ := df_nil (P := X.prog) (w := X.w) I.hok e
      exact ⟨[], .nil, Nat.zero_le _, y, d, g.mut⟩
  refine wpAny_setItem_heap (hsz := hlen) (fq_room hu) (fk_is I.hok (m.imp hk)) hd fun h' dd' hs => ?_
  have tk : TupK H (upd H D (dfO X.prog X.w D (storedH xs k a r))) := mut_tk hm
  have hp2 := hp.put k hk rv
  have hsl : (storedH xs k a r).length ≤ sizeLine := by
    have h1 : (putK kvs k v).length = (storedH xs k a r).length := Paired.length hp2
    have := length_putK kvs k v
    omega
  refine h (dfO X.prog X.w D (storedH xs k a r)) _ ⟨_, upd_same, hp2.keeps m tk⟩ ?_
  have he : ∃ q, h'.get? D = some q := let ⟨q, _, _, hq, _⟩ := dd'; ⟨q, hq⟩
  exact d_write I hm hs he (df_obj hsl hns dd')
end
/-! ### readings and rules -/
def tFGet (P : Program) (w : World) (td ty : TE) : TE := fun σ H Q => td σ H fun x H1 => ty σ H1 fun y H2 => ∃ (D a : Addr) (kvs : List (Fq × V)) (k : Fq) (v : V), x = .ref D ∧ y = .ref a ∧ DFr P w H2 D kvs ∧ FkAt H2 a k ∧ valV kvs k = some v ∧ Q v H2
def tFIn (P : Program) (w : World) (ty td : TE) : TE := fun σ H Q => ty σ H fun y H1 => td σ H1 fun x H2 => ∃ (D a : Addr) (kvs : List (Fq × V)) (k : Fq), y = .ref a ∧ x = .ref D ∧ FkAt H2 a k ∧ DFr P w H2 D kvs ∧ Q (.bl (valV kvs k).isSome) H2
def tFNotIn (P : Program) (w : World) (ty td : TE) : TE := fun σ H Q => ty σ H fun y H1 => td σ H1 fun x H2 => ∃ (D a : Addr) (kvs : List (Fq × V)) (k : Fq), y = .ref a ∧ x = .ref D ∧ FkAt H2 a k ∧ DFr P w H2 D kvs ∧ Q (.bl (!(valV kvs k).isSome)) H2
def sFPut (P : Program) (w : World) (td ty tv : TE) : TS := fun E σ H => tv σ H fun v H1 => td σ H1 fun x H2 => ty σ H2 fun y H3 => ∃ (R : Hp → Addr → Fq → Prop) (_ : KeyR R) (D a : Addr) (kvs : List (Fq × V)) (k : Fq), x = .ref D ∧ y = .ref a ∧ DFw P w R H3 D kvs ∧ R H3 a k ∧ kvs.length < sizeLine ∧ ∀ o, DF P w R (upd H3 D o) D (putK kvs k v) → E.nx σ (upd H3 D o)
section
variable {X : Cx} {o i e value : Expr} {pos pos' tpos : Pos} {td ty tv : TE} {P : Program} {w : World}
theorem pe_fget (hu : X.A.units + 64 < cLine) (ho : PE X o td) (hi : PE X i ty) (hs : NoSl i) (hP : X.prog = P := by rfl) (hw : X.w = w := by rfl) : PE X (.Subscript o i pos) (tFGet P w td ty) := by
  subst hP hw
  refine ⟨fun pins s σ H Q I h => ?_⟩
  refine subD_of PySem.F.slot_dict_getitem.lookup hs (thn (ho.run pins s σ H _ I h) fun u s1 ⟨x, H1, I1, rx, q1⟩ => thn (hi.run pins s1 σ H1 _ I1 q1) fun iv s2 ⟨y, H2, I2, ry, D, a, kvs, k, v, ex, ey, g, hk, hv, q2⟩ => ?_)
  subst ex ey
  obtain rfl : u = Value.ref D := rx
  obtain rfl : iv = Value.ref a := ry
  obtain ⟨_, _, _, _, dd⟩ := df_rd I2.hok g
  exact ⟨dd.typeIs, f_getItem hu I2 g hk hv fun w' s3 I3 rw' => ⟨v, H2, I3, rw', q2⟩⟩
theorem pc_fin (hu : X.A.units + 64 < cLine) (hi : PE X i ty) (ho : PE X o td) (hP : X.prog = P := by rfl) (hw : X.w = w := by rfl) : PC X .In i o (tFIn P w ty td) := by
  subst hP hw
  refine ⟨fun pins s σ H Q I h => ?_⟩
  refine thn (hi.run pins s σ H _ I h) fun iv s1 ⟨y, H1, I1, ry, q1⟩ => thn (ho.run pins s1 σ H1 _ I1 q1) fun u s2 ⟨x, H2, I2, rx, D, a, kvs, k, ey, ex, hk, g, q2⟩ => ?_
  subst ex ey
  obtain rfl : u = Value.ref D := rx
  obtain rfl : iv = Value.ref a := ry
  exact f_in hu I2 g hk fun s3 I3 => ⟨.bl _, H2, I3, rfl, q2⟩
theorem pc_fnotin (hu : X.A.units + 64 < cLine) (hi : PE X i ty) (ho : PE X o td) (hP : X.prog = P := by rfl) (hw : X.w = w := by rfl) : PC X .NotIn i o (tFNotIn P w ty td) := by
  subst hP hw
  refine ⟨fun pins s σ H Q I h => ?_⟩
  refine thn (hi.run pins s σ H _ I h) fun iv s1 ⟨y, H1, I1, ry, q1⟩ => thn (ho.run pins s1 σ H1 _ I1 q1) fun u s2 ⟨x, H2, I2, rx, D, a, kvs, k, ey, ex, hk, g, q2⟩ => ?_
  subst ex ey
  obtain rfl : u = Value.ref D := rx
  obtain rfl : iv = Value.ref a := ry
  exact f_notIn hu I2 g hk fun s3 I3 => ⟨.bl _, H2, I3, rfl, q2⟩
theorem ps_fput (hu : X.A.units + 64 < cLine) (ho : PE X o td) (hi : PE X i ty) (hv : PE X value tv) (hs : swapsWith value (some (.Subscript o i pos')) pos.line X.env = pure false) (hP : X.prog = P := by rfl) (hw : X.w = w := by rfl) :
    PS X (.Assign [.Subscript o i pos'] value pos) (sFPut P w td ty tv) := by
  subst hP hw
  refine ⟨fun pins s σ H D I h => ?_⟩
  refine wpAny_Assign_Subscript (thn (hv.run pins s σ H _ I h) fun r s1 ⟨v, H1, I1, rv, q1⟩ => thn (ho.run pins s1 σ H1 _ I1 q1) fun u s2 ⟨x, H2, I2, rx, q2⟩ => thn (hi.run pins s2 σ H2 _ I2 q2) fun iv s3 ⟨y, H3, I3, ry, R, m, d, a, kvs, k, ex, ey, g, hk, hl, q3⟩ => ?_) hs
  subst ex ey
  obtain rfl : u = Value.ref d := rx
  obtain rfl : iv = Value.ref a := ry
  exact f_setItem m hu I3 g hk hl rv fun ob s4 d4 I4 => ⟨σ, _, I4, q3 ob d4⟩
end
/-! ### walks over its keys -/
def Itkf (P : Program) (w : World) (R : Hp → Addr → Fq → Prop) (d : Addr) (o : Obj) (kvs : List (Fq × V)) : It :=
  ⟨fun i H => DFz P w R H d o kvs ∧ i < kvs.length, fun i H x H' => H' = H ∧ ∃ (k : Fq) (v : V) (q : Addr), kvs[i]? = some (k, v) ∧ x = .ref q ∧ R H q k, fun i H => DFz P w R H d o kvs ∧ kvs.length ≤ i⟩
theorem Inv.frzF {R : Hp → Addr → Fq → Prop} {X : Cx} {pins : List (Addr × Obj)} {σ : L2.St} {H : Hp} {s : Shared} {d : Addr} {o : Obj} {kvs : List (Fq × V)} (I : L2.Inv X pins σ H s) (h : DFz X.prog X.w R H d o kvs) :
    (d == sysModules) = false ∧ s.heap.get? d = some o ∧ o.ExactDict ∧ ∃ (es : Array DictEntry) (ep : Nat), o.data = .dict es ep ∧ es.size = kvs.length ∧
      ∀ (i : Nat) (k : Fq) (v : V), kvs[i]? = some (k, v) → ∃ (en : DictEntry) (q : Addr), es[i]? = some en ∧ en.key = .ref q ∧ R H q k := by
  obtain ⟨xs, h, pr⟩ := h
  obtain ⟨hd, ⟨z, hs, o', es, ep, ho, hx, hdt, he, _⟩, _⟩ := I.hok d _ h
  rw [hd] at ho
  cases ho
  refine ⟨hs, hd, hx, es, ep, hdt, ?_, fun i k v e => ?_⟩
  · have l1 : es.size = xs.length := size_of_entries he
    have l2 : kvs.length = xs.length := Paired.length pr
    omega
  · obtain ⟨b, hb, e1, e2, _⟩ := paired_get pr e
    have q := entry_at he i
    rw [hb] at q
    exact ⟨_, b.2.1, q, rfl, e2⟩
theorem turn_keysF {R : Hp → Addr → Fq → Prop} {P : Program} {w : World} {K : PySem.W.Frag} {tg : Expr} {d : Addr} {o : Obj} {es : Array DictEntry} {ep : Nat} {kvs : List (Fq × V)} (it : Addr) (hod : o.data = .dict es ep) : Turn P w K tg (Itkf P w R d o kvs) [it] it (fun i h => h.IsKeyIter it d i kvs.length ep) where
  mem := by simp
  obj := fun i h st b hb => by
    have e : b = it := by simpa using hb
    subst e
    obtain ⟨oi, e, c, dd⟩ := st
    exact ⟨oi, e, fun v z => by rw [dd] at z; cases z⟩
  keep := fun i h h' st k => st.at fun oi e => k it (by simp) oi e
  item := by
    intro X hP hw hK hc i pins s σ H E I hf st hg
    subst hP hw hK
    obtain ⟨hd, hi⟩ := hg
    obtain ⟨f0, f1, f2, f3, f4, f5⟩ := hf it (by simp)
    obtain ⟨hs, hgd, hx, es', ep', hdt, hsz, ent⟩ := Inv.frzF I hd
    obtain ⟨rfl, rfl⟩ := dict_ep hod hdt
    obtain ⟨⟨k, v⟩, hkv⟩ : ∃ p, kvs[i]? = some p := ⟨kvs[i], List.getElem?_eq_getElem hi⟩
    obtain ⟨en, q, hen, hkey, hq⟩ := ent i k v hkv
    refine next_key_item st hgd hdt hsz hen fun h' st' sb => ?_
    have I1 : L2.Inv X pins σ H { s with heap := h' } := I.turned (t' := s.toks) (fun b ob hb e => (sb.2 b hb).trans e) f0 f1 f3 f4 f5
    obtain ⟨oi, e, c, dd⟩ := id st'
    exact ⟨en.key, rfl, go_of (s := { s with heap := h' }) e c dd (by decide) ⟨.ref q, H, I1, hkey, ⟨rfl, k, v, q, hkv, rfl, hq⟩, st', fun b hb => (hf b hb).1⟩⟩
  done := by
    intro X hP hw hK hc i pins s σ H E I hf st hg
    subst hP hw hK
    obtain ⟨hd, hi⟩ := hg
    obtain ⟨f0, f1, f2, f3, f4, f5⟩ := hf it (by simp)
    obtain ⟨hs, hgd, hx, es', ep', hdt, hsz, ent⟩ := Inv.frzF I hd
    obtain ⟨rfl, rfl⟩ := dict_ep hod hdt
    exact next_key_end (I.ok.hd hc) st hgd hdt hsz hi fun h' eb => ⟨rfl, I.turned (t' := s.toks) (fun b ob hb e => eb b ob hb e) f0 f1 f3 f4 f5⟩
  self := fun A i s Q E st h => by
    refine wpAny_pyIter_slot st.typeIs F.slot_dict_keyiterator_iter (wpAny_call_entry F.slot_dict_keyiterator_iter st.typeIs F.entry_dict_keyiterator_iter ?_ (F.args_dict_keyiterator_iter_1 _))
    show wpAny _ _ (ret (.ref it)) _ _ s
    exact wpAny_pure ⟨_, rfl, "dict_keyiterator", _, st.typeIs, F.slot_dict_keyiterator_next.lookup, h⟩
def iKeysF (P : Program) (w : World) (td : TE) : TI := fun σ H R => td σ H fun x H1 => ∃ (T : Hp → Addr → Fq → Prop) (d : Addr) (o : Obj) (kvs : List (Fq × V)), x = .ref d ∧ DFz P w T H1 d o kvs ∧ R (Itkf P w T d o kvs) H1
theorem pi_keysF {X : Cx} {tg e : Expr} {td : TE} {P : Program} {w : World} (he : PE X e td) (hP : X.prog = P := by rfl) (hw : X.w = w := by rfl) : PI X tg e (iKeysF P w td) := by
  subst hP hw
  refine ⟨fun pins s σ H R I h => ?_⟩
  refine thn (he.run pins s σ H _ I h) fun u s1 ⟨x, H1, I1, rx, T, d, o, kvs, ex, hd, q⟩ => ?_
  subst ex
  obtain rfl : u = Value.ref d := rx
  obtain ⟨hs, hgd, hx, es, ep, hdt, hsz, ent⟩ := Inv.frzF I1 hd
  refine iter_keys hs hgd hx hdt (pi_one (tk := s1.toks) I1 _ (turn_keysF _ hdt) ⟨_, Heap.get?_push_size _ rfl, rfl, ?_⟩ q)
  rw [hsz] <;> rfl
theorem walk_keysF {R : Hp → Addr → Fq → Prop} {P : Program} {w : World} {d : Addr} {o : Obj} {kvs : List (Fq × V)} : Walk (Itkf P w R d o kvs) kvs.length (fun H => DFz P w R H d o kvs)
    (fun i H x H' => H' = H ∧ ∃ (k : Fq) (v : V) (q : Addr), kvs[i]? = some (k, v) ∧ x = .ref q ∧ R H q k) :=
  ⟨fun _ _ hi q => ⟨q, hi⟩, fun _ q => ⟨q, Nat.le_refl _⟩, fun _ _ _ _ _ _ y => y⟩
/-! ### list(d) -/
def IsFks (R : Hp → Addr → Fq → Prop) (H : Hp) (kvs : List (Fq × V)) (bs : List Addr) : Prop := Paired (fun p b => R H b p.1) kvs bs
theorem isFks_of {R : Hp → Addr → Fq → Prop} {H : Hp} {kvs : List (Fq × V)} {xs : List (Fq × Addr × Value)} (r : KF R H kvs xs) : IsFks R H kvs (xs.map fun x => x.2.1) := by
  unfold IsFks
  unfold KF at r
  induction r with
  | nil => exact Paired.nil
  | cons h t ih => exact Paired.cons h.2.1 ih
def rListF (P : Program) (w : World) : List V → Hp → VK → Prop := fun xs H Q => ∃ (R : Hp → Addr → Fq → Prop) (d : Addr) (kvs : List (Fq × V)), xs = [V.ref d] ∧ (DF P w R H d kvs ∨ ∃ o, DFz P w R H d o kvs) ∧ ∀ p bs, H p = none → IsFks R H kvs bs → Q (.ref p) (upd H p (.lst (bs.map V.ref)))
theorem keys_read {X : Cx} {P : Program} {w : World} {ks : List (Fq × Addr × Value)} {es : Array DictEntry} {acc : Array Value} (he : es.toList = ks.map (entryOfKey (fqK P w))) (it1 : acc.size = es.size) (it2 : ∀ (j : Nat) (v : Value), acc[j]? = some v → ∃ en : DictEntry, es[j]? = some en ∧ v = en.key) : acc.toList = (ks.map fun x => x.2.1).map Value.ref := by
  have l1 : es.size = ks.length := size_of_entries he
  rw [List.map_map]
  have hl : acc.toList.length = ks.length := by rw [Array.length_toList, it1]; exact l1
  apply List.ext_getElem?
  intro j
  rw [List.getElem?_map]
  cases hj : acc.toList[j]? with
  | none =>
    have h1 := List.getElem?_eq_none_iff.mp hj
    rw [List.getElem?_eq_none (by omega)]
    all_goals rfl
  | some v =>
    obtain ⟨en, hen, hv⟩ := it2 j v (by rw [← Array.getElem?_toList]; exact hj)
    have qe := entry_at he j
    rw [hen] at qe
    cases hb : ks[j]? with
    | none =>
      rw [hb] at qe
      exact nomatch (show some en = none from qe)
    | some b =>
      rw [hb] at qe
      have e2 : en = entryOfKey (fqK P w) b := Option.some.inj qe
      rw [hv, e2]
      all_goals rfl
theorem listF (P : Program) (w : World) {X : Cx} (hc : X.calm = true) (hP : X.prog = P := by rfl) (hw : X.w = w := by rfl) : CallR X (.type "list") (rListF P w) := by
  subst hP hw
  intro pins s σ H xs us Q I r h
  obtain ⟨R, d, kvs, rfl, hdd, q⟩ := h
  obtain ⟨ks, hd, pr⟩ : ∃ ks, Rd H d (dfO X.prog X.w d ks) ∧ KF R H kvs ks := by
    rcases hdd with ⟨ks, e, p⟩ | ⟨o, ks, e, p⟩
    · exact ⟨ks, .inl e, p⟩
    · exact ⟨ks, .inr ⟨o, e⟩, p⟩
  obtain ⟨u, rfl, rx⟩ := r.one
  cases rx
  obtain ⟨⟨z, hs, o, es, ep, ho, hx, hdt, he, hn⟩, _⟩ := (show ObjOk X.prog X.w H s.heap d (dfO X.prog X.w d ks) from hd.ok I.hok)
  have l1 : es.size = ks.length := size_of_entries he
  refine PySem.W.kdl_call (kdl_raw hs hx hdt) (I.ok.hd hc) ho (by omega) fun h' tk acc' c' kp e it => ?_
  have eb := keys_read (X := X) he it.1 it.2
  have rv : Vals ((ks.map fun x => x.2.1).map V.ref) acc'.toList := by rw [eb]; exact vals_refs _
  have hz : ((ks.map fun x => x.2.1).map V.ref).length ≤ sizeLine := by rw [List.length_map, List.length_map]; omega
  refine ⟨.ref s.heap.objs.size, _, I.laid (t' := tk) (o := .lst ((ks.map fun x => x.2.1).map V.ref)) kp (Nat.le_refl _) ?_, rfl, q _ _ (I.hok.fresh (Nat.le_refl _)) (isFks_of pr)⟩
  exact ⟨hz, acc'.toList, c', rv, by rw [Array.toArray_toList]; exact e⟩
/-! ### dict(list of pairs) -/
abbrev TFV : Type := Fq × Addr × V
def TfR (kv : TFV) (x : Fq × Addr × Value) : Prop := kv.1 = x.1 ∧ kv.2.1 = x.2.1 ∧ RelV kv.2.2 x.2.2
def TfP (R : Hp → Addr → Fq → Prop) (K : PySem.W.Frag) (H : Hp) (p : Addr) (kv : TFV) : Prop := SqT K H p [.ref kv.2.1, kv.2.2] ∧ R H kv.2.1 kv.1
theorem fkeys_of {R : Hp → Addr → Fq → Prop} {X : Cx} {pins : List (Addr × Obj)} {σ : L2.St} {H : Hp} {s : Shared} (I : L2.Inv X pins σ H s) : ∀ {ps : List Addr} {kvs : List TFV}, Paired (TfP R X.K H) ps kvs →
    ∃ xs : List (Fq × Addr × Value), Paired TfR kvs xs ∧ xs.length = ps.length ∧ ∀ (j : Nat) (x : Fq × Addr × Value), xs[j]? = some x → R H x.2.1 x.1 ∧ ∃ b, ps[j]? = some b ∧ IsTup s.heap b #[.ref x.2.1, x.2.2]
  | _, _, .nil => ⟨[], .nil, rfl, fun j q e => by simp at e⟩
  | _, _, .cons (a := p) (b := kv) h t => by
    obtain ⟨xs, r, hl, hp⟩ := fkeys_of I t
    obtain ⟨its, rv, ht, _⟩ := I.tuple h.1
    obtain ⟨u, y, ei, ru, ry⟩ := vals2 rv
    subst ei
    obtain rfl : u = Value.ref kv.2.1 := ru
    refine ⟨(kv.1, kv.2.1, y) :: xs, .cons ⟨rfl, rfl, ry⟩ r, by rw [List.length_cons, List.length_cons, hl], fun j q e => ?_⟩
    cases j with
    | zero =>
      have e' : (kv.1, kv.2.1, y) = q := Option.some.inj e
      subst e'
      exact ⟨h.2, p, rfl, ht⟩
    | succ j =>
      obtain ⟨e0, b, e1, e2⟩ := hp j q (by simpa using e)
      exact ⟨e0, b, by simpa using e1, e2⟩
def mergeF (acc : List (Fq × V)) (kvs : List TFV) : List (Fq × V) := kvs.foldl (fun acc x => putK acc x.1 x.2.2) acc
theorem mergeF_len : ∀ (kvs : List TFV) (acc : List (Fq × V)), (mergeF acc kvs).length ≤ acc.length + kvs.length
  | [], acc => Nat.le_refl _
  | x :: kvs, acc => by
    have h1 := mergeF_len kvs (putK acc x.1 x.2.2)
    have h2 := length_putK acc x.1 x.2.2
    rw [List.length_cons]
    show (mergeF (putK acc x.1 x.2.2) kvs).length ≤ _
    omega
theorem mergeF_nd : ∀ (kvs : List TFV) (acc : List (Fq × V)), ((acc.map (·.1)) ++ kvs.map (·.1)).Nodup → mergeF acc kvs = acc ++ kvs.map fun x => (x.1, x.2.2)
  | [], acc, _ => by simp [mergeF]
  | x :: kvs, acc, h => by
    have hx : x.1 ∉ acc.map (·.1) := fun z => by
      rw [List.map_cons] at h
      exact (List.nodup_append.mp h).2.2 _ z _ (List.mem_cons_self ..) rfl
    have hv : valV acc x.1 = none := by
      cases e : valV acc x.1 with
      | none => rfl
      | some v =>
        exfalso
        have h1 : (acc.any fun kv => decide (kv.1 = x.1)) = true := by rw [valV_any, e]; rfl
        obtain ⟨y, hy, e2⟩ := List.any_eq_true.mp h1
        exact hx (List.mem_map.mpr ⟨y, hy, of_decide_eq_true e2⟩)
    show mergeF (putK acc x.1 x.2.2) kvs = _
    rw [putK_new x.2.2 hv, mergeF_nd kvs _ (by simpa using h)]
    simp
theorem kf_merge {R : Hp → Addr → Fq → Prop} {H : Hp} : ∀ {kvs : List TFV} {xs : List (Fq × Addr × Value)} {acc : List (Fq × V)} {ys : List (Fq × Addr × Value)}, Paired TfR kvs xs → (∀ x ∈ xs, R H x.2.1 x.1) → KF R H acc ys → KF R H (mergeF acc kvs) (storedAllH ys xs)
  | _, _, _, _, .nil, _, r => r
  | _, _, acc, ys, .cons (a := kv) (b := x) h t, hH, r => by
    have hb := hH x (List.mem_cons_self ..)
    have r1 := r.put x.1 hb h.2.2
    have := kf_merge t (fun z hz => hH z (List.mem_cons_of_mem _ hz)) r1
    rw [← h.1] at this
    show KF R H (mergeF (putK acc kv.1 kv.2.2) _) (storedAllH (storedH ys x.1 x.2.1 x.2.2) _)
    rw [← h.1]
    exact this
def rDictLF (P : Program) (w : World) (K : PySem.W.Frag) : List V → Hp → VK → Prop := fun xs H Q => ∃ (R : Hp → Addr → Fq → Prop) (_ : KeyR R) (a : Addr) (ps : List Addr) (kvs : List TFV), xs = [.ref a] ∧ SqL K H a (ps.map V.ref) ∧ Paired (TfP R K H) ps kvs ∧ ∀ p o, H p = none → DF P w R (upd H p o) p (mergeF [] kvs) → Q (.ref p) (upd H p o)
theorem dictLF (P : Program) (w : World) (K : PySem.W.Frag) {X : Cx} (hu : X.A.units + 64 < cLine) (calm : X.calm = true := by rfl) (hK : X.K = K := by rfl) (hP : X.prog = P := by rfl) (hw : X.w = w := by rfl) : CallR X (.type "dict") (rDictLF P w K) := by
  subst hK hP hw
  intro pins s σ H xs us Q I r q
  obtain ⟨R, m, a, ps, kvs, ex, hq, hp, q⟩ := q
  subst ex
  obtain ⟨u, eu, rx⟩ := vals1 r
  subst eu
  cases rx
  obtain ⟨its, rv, pl, hz⟩ := I.list hq
  have ei := refs_at rv
  subst ei
  rw [List.length_map] at hz
  obtain ⟨xs, rel, hl, hpr⟩ := fkeys_of I hp
  obtain ⟨o, n, ho, hc, hd, hdat⟩ := pl
  have hH : ∀ x ∈ xs, R H x.2.1 x.1 := fun x hx => by
    obtain ⟨j, hj⟩ := List.mem_iff_getElem?.mp hx
    exact (hpr j x hj).1
  have lkv : kvs.length = ps.length := (Paired.length rel).trans hl
  have fresh := I.hok.fresh (Nat.le_refl s.heap.objs.size)
  refine call_dict_pairsH (knd := fqK X.prog X.w) (ps := xs) (PairArg.list a (ps.map Value.ref).toArray (fun j => ps.getD j 0) (xs.map fun x => (Value.ref x.2.1, x.2.2))) (I.ok.hd calm) (show X.A.units + 2 + (0 + 1) < cLine by omega) ⟨⟨o, n, ho, hc, hd, hdat⟩, by simp [hl], fun j k v e => ?_⟩ ⟨by simp, fun i key v e => ?_⟩ (fun h' hk x hx => ?_) (by rw [List.length_map, hl]; exact hz) (fun h' tk hd' hk => ?_)
  · rw [List.getElem?_map] at e
    cases ex : xs[j]? with
    | none => rw [ex] at e; cases e
    | some x =>
      rw [ex] at e
      cases e
      obtain ⟨_, b, e1, e2⟩ := hpr j x ex
      refine ⟨by simp [e1], .inl ?_⟩
      have : ps.getD j 0 = b := by
        rw [List.getD_eq_getElem?_getD, e1]
        rfl
      show s.heap.IsTuple (ps.getD j 0) _
      rw [this]
      exact e2
  · rw [show PairRel (xs.map fun x => (Value.ref x.2.1, x.2.2)) i key v ↔ _ from Iff.rfl] at e
    have e : (xs.map fun x => (Value.ref x.2.1, x.2.2))[i]? = some (key, v) := e
    rw [List.getElem?_map] at e
    cases ex : xs[i]? with
    | none => rw [ex] at e; cases e
    | some x =>
      rw [ex] at e
      cases e
      exact ⟨x.1, x.2.1, rfl, rfl⟩
  · refine fk_is (H := H) (fun b u e => ?_) (m.imp (hH x hx))
    refine (I.hok b u e).stay (fun c ob hc e1 => hk _ _ (Nat.ne_of_lt (Heap.lt_size e1)) (by simp) e1) (fun _ e => e) fun _ _ e => e
  · have hm : (s.heap.objs.size == sysModules) = false := beq_eq_false_iff_ne.mpr (Nat.ne_of_gt I.big)
    have kt : KF R H (mergeF [] kvs) (storedAllH [] xs) := kf_merge rel hH .nil
    have hlen : (storedAllH [] xs).length ≤ sizeLine := by
      have h1 : (mergeF [] kvs).length = (storedAllH [] xs).length := Paired.length kt
      have h2 := mergeF_len kvs []
      rw [List.length_nil, Nat.zero_add, lkv] at h2
      omega
    refine ⟨.ref s.heap.objs.size, upd H s.heap.objs.size (dfO X.prog X.w s.heap.objs.size (storedAllH [] xs)), I.laid (t' := tk) (fun b o e => hk b o (by simp) e) (Nat.le_refl _) (df_obj hlen hm hd'), rfl, q _ _ fresh ⟨_, upd_same, kt.keeps m (TupK.new fresh)⟩⟩
end Pf


namespace Pf
open PySem PySem.Spec PyProof.Rows L2
/-! ### tuples whose objects are known -/
def tTupF (t : TA) : TE := fun σ H Q => t σ H fun xs H1 => xs.length ≤ sizeLine ∧ ∀ (p : Addr) (o : Obj), H1 p = none → o.dict = none → Q (.ref p) (upd H1 p (.frz o (.tup xs)))
theorem pe_tupF {X : Cx} {es : List Expr} {x1 : Nat} {pos : Pos} {t : TA} (h : PA X es t) : PE X (.Tuple es x1 pos) (tTupF t) := by
  refine ⟨fun pins s σ H Q I hq => ?_⟩
  refine wpAny_Tuple_spliced (thn (h.run pos pins s σ H _ I hq) fun us s1 ⟨xs, H1, I1, r, z, q⟩ => ⟨by rw [← r.length]; exact z, ?_⟩)
  have hf : H1 s1.heap.objs.size = none := I1.hok.fresh (Nat.le_refl _)
  refine ⟨.ref s1.heap.objs.size, upd H1 s1.heap.objs.size (.frz { cls := .type "tuple", data := .seq us.toArray } (.tup xs)), I1.laid (t' := s1.toks) (fun b u e => Heap.get?_push_of_some _ e) (Nat.le_refl _) ?_, rfl, q _ _ hf rfl⟩
  exact ⟨Heap.get?_push_size _ rfl, z, us, r, ⟨_, Heap.get?_push_size _ rfl, rfl, _, rfl⟩⟩
def rCatF (K : PySem.W.Frag) : R2 := fun x y H Q => ∃ (a b : Addr) (oa ob : Obj) (xs ys : List V), x = .ref a ∧ y = .ref b ∧ H a = some (.frz oa (.tup xs)) ∧ oa.dict = none ∧ H b = some (.frz ob (.tup ys)) ∧ xs ≠ [] ∧ xs.length + ys.length ≤ sizeLine ∧
  ∀ (p : Addr) (o : Obj) (H' : Hp), (p = a ∨ H p = none) → Ext H H' → H' p = some (.frz o (.tup (xs ++ ys))) → o.dict = none → Q (.ref p) H'
theorem catF (K : PySem.W.Frag) {X : Cx} (h : X.K = K := by rfl) : OpR X (binaryOp .Add) (rCatF K) := by
  subst h
  intro pins s σ H x y v u Q I rx ry h
  obtain ⟨a, b, oa, ob, xs, ys, rfl, rfl, ha, hda, hb, hx, hz, q⟩ := h
  cases rx
  cases ry
  obtain ⟨its, r1, p1, _⟩ := I.tuple (SqT.fz ha)
  obtain ⟨its2, r2, p2, _⟩ := I.tuple (SqT.fz hb)
  refine HT.cat_tup p1 p2 (fun z => hx (r1.nil_iff.mp z)) (fun z => ⟨.ref a, H, I, rfl, q a oa H (.inl rfl) Ext.refl ?_ hda⟩) (fun z => ?_) (by rw [← r1.length, ← r2.length]; exact hz)
  · rw [r2.nil_iff.mp z, List.append_nil]
    exact ha
  · have hf := I.hok.fresh (Nat.le_refl s.heap.objs.size)
    refine ⟨.ref s.heap.objs.size, _, I.laid (t' := s.toks) (o := .frz { cls := .type "tuple", data := .seq (its ++ its2).toArray } (.tup (xs ++ ys))) (fun b ob q => Heap.get?_push_of_some _ q) (Nat.le_refl _) ?_, rfl, q _ _ _ (.inr hf) (Ext.new hf) upd_same rfl⟩
    exact ⟨Heap.get?_push_size _ rfl, by rw [List.length_append]; exact hz, _, r1.append r2, IsTup.new _ _⟩
/-! ### to know less of what was made since a heap -/
def unf (H0 H : Hp) : Hp := fun b => match H0 b, H b with
  | none, some (.frz _ (.tup xs)) => some (.tup xs)
  | _, x => x
section
variable {H0 H H1 : Hp} {b : Addr} {o : Obj} {xs : List V}
theorem unf_frz (h0 : H0 b = none) (h : H b = some (.frz o (.tup xs))) : unf H0 H b = some (.tup xs) := by
  unfold unf
  rw [h0, h]
theorem unf_cases (H0 H : Hp) (b : Addr) : unf H0 H b = H b ∨ (H0 b = none ∧ ∃ o xs, H b = some (.frz o (.tup xs)) ∧ unf H0 H b = some (.tup xs)) := by
  unfold unf
  split
  · rename_i h1 h2
    exact .inr ⟨h1, _, _, h2, rfl⟩
  · exact .inl rfl
theorem unf_old {u : HO} (h0 : H0 b = some u) : unf H0 H b = H b := by
  rcases unf_cases H0 H b with h | ⟨h, _⟩
  · exact h
  · rw [h0] at h
    cases h
theorem unf_keep (h : ∀ o xs, H b ≠ some (.frz o (.tup xs))) : unf H0 H b = H b := by
  rcases unf_cases H0 H b with h1 | ⟨_, o, xs, e, _⟩
  · exact h1
  · exact absurd e (h o xs)
theorem unf_tup (h : H b = some (.tup xs)) : unf H0 H b = some (.tup xs) := (unf_keep fun o xs z => by rw [h] at z; cases z).trans h
theorem unf_lst (h : H b = some (.lst xs)) : unf H0 H b = some (.lst xs) := (unf_keep fun o xs z => by rw [h] at z; cases z).trans h
theorem unf_none : unf H0 H b = none ↔ H b = none := by
  rcases unf_cases H0 H b with h1 | ⟨_, o, xs, e, e2⟩
  · rw [h1]
  · rw [e, e2]
    exact ⟨fun z => (by cases z), fun z => (by cases z)⟩
theorem unf_ext (x : Ext H0 H) : Ext H0 (unf H0 H) := fun b u e => (unf_old e).trans (x b u e)
end
theorem Inv.unf {X : Cx} {pins : List (Addr × Obj)} {σ : L2.St} {H : Hp} {s : Shared} (I : L2.Inv X pins σ H s) : L2.Inv X pins σ (unf X.H_0 H) s := by
  have own : ∀ b y, H b = some (.own y) → Pf.unf X.H_0 H b = some (.own y) := fun b y e => (unf_keep fun o xs z => by rw [e] at z; cases z).trans e
  have st : ∀ (b : Addr) (o : HO), ObjOk X.prog X.w H s.heap b o → ObjOk X.prog X.w (Pf.unf X.H_0 H) s.heap b o := fun b o x => x.stay (fun _ _ _ e => e) (fun c e => own c _ e) fun c xs e => unf_tup e
  refine ⟨I.ok, I.os, I.bare, ⟨I.base.keep, I.base.slot, fun b o e n hx => unf_none.mpr (I.base.free b o e n hx), I.base.there, fun b xs e => (unf_old e).trans (I.base.tups b xs e), fun b o u e => (unf_old e).trans (I.base.frzs b o u e), fun b ps e => ?_⟩, I.loc, I.cell, unf_none.mpr I.free, fun x c e => unf_none.mpr (I.freeC x c e), fun p hp => ?_, fun b o e => ?_, I.len⟩
  · obtain ⟨m, hm⟩ := I.base.tbls b ps e
    exact ⟨m, (unf_old e).trans hm⟩
  · obtain ⟨h1, h2, h3⟩ := I.pin p hp
    exact ⟨h1, unf_none.mpr h2, h3⟩
  · rcases unf_cases X.H_0 H b with h | ⟨_, ob, xs, e1, e2⟩
    · rw [h] at e
      exact st b o (I.hok b o e)
    · rw [e2] at e
      cases e
      exact st b _ (I.hok b _ e1).2
def tWk (H0 : Hp) (t : TS) : TS := fun D σ H => t { D with nx := fun σ' H' => D.nx σ' (unf H0 H') } σ H
theorem ps_wk {X : Cx} {H0 : Hp} {st : Stmt} {t : TS} (h : PS X st t) (hH : X.H_0 = H0 := by rfl) : PS X st (tWk H0 t) := by
  subst hH
  refine ⟨fun pins s σ H D I hw => ?_⟩
  refine thn (h.run pins s σ _ _ I hw) fun f s1 q => ?_
  cases f with
  | next => obtain ⟨σ', H', I2, q⟩ := q; exact ⟨σ', _, Inv.unf I2, q⟩
  | brk => obtain ⟨σ', H', I2, q⟩ := q; exact ⟨σ', _, I2, q⟩
  | cont => obtain ⟨σ', H', I2, q⟩ := q; exact ⟨σ', _, I2, q⟩
  | ret v => obtain ⟨x, σ', H', I2, r, q⟩ := q; exact ⟨x, σ', _, I2, r, q⟩
/-! ### foldings made since a heap -/
def FkN (H0 H : Hp) (a : Addr) (q : Fq) : Prop := FkF H a q ∧ H0 a = none
theorem keyN (H0 : Hp) : KeyR (FkN H0) := ⟨fun h => keyF.imp h.1, fun t h => ⟨keyF.mono t h.1, h.2⟩⟩
theorem FkN.unf {H0 H : Hp} {a : Addr} {q : Fq} (h : FkN H0 H a q) : FkT (unf H0 H) a q := by
  obtain ⟨⟨a', o, vs, e, hA, _, p⟩, h0⟩ := h
  cases e
  exact ⟨a, vs, rfl, unf_frz h0 hA, paired_imp (fun v y ⟨b, e, hb⟩ => ⟨b, e, unf_tup hb⟩) p⟩
theorem DF.unf {P : Program} {w : World} {H0 H : Hp} {D : Addr} {kvs : List (Fq × V)} (d : DF P w (FkN H0) H D kvs) : DF P w FkT (unf H0 H) D kvs := by
  obtain ⟨xs, e, k⟩ := d
  refine ⟨xs, ?_, paired_imp (fun _ _ ⟨z1, z2, z3⟩ => ⟨z1, z2.unf, z3⟩) k⟩
  rw [unf_keep fun o xs z => by rw [e] at z; unfold dfO at z; cases z]
  exact e
end Pf


namespace Pf
open PySem PySem.Spec PyProof.Rows L2 HT
/-! ### a product in its place; a tuple lengthened; data compared -/
def ipM : TIp := fun x y H Q => ∃ i j, x = .int i ∧ y = .int j ∧ CMul i j ∧ Q (.int (i * j)) H
theorem ip_mul {X : Cx} : PIp X .Mult ipM := by
  intro pins s σ H x y v u Q I r1 r2 h
  obtain ⟨i, j, e1, e2, hc, q⟩ := h
  subst e1; subst e2
  obtain ⟨t, rfl⟩ := r1
  obtain ⟨t', rfl⟩ := r2
  exact imul_int ⟨.int _, H, I.tok _, ⟨_, rfl⟩, q⟩ hc.ok
theorem no_tup_iadd : typeLookup (.type "tuple") (dunderI "add") = pure none := by kernel_rfl
def rItup : TIp := fun x y H Q => ∃ a b xs ys, x = .ref a ∧ y = .ref b ∧ H a = some (.tup xs) ∧ H b = some (.tup ys) ∧ xs.length + ys.length ≤ sizeLine ∧ ∀ p H', Ext H H' → H' p = some (.tup (xs ++ ys)) → Q (.ref p) H'
theorem ip_tup {X : Cx} : PIp X .Add rItup := by
  intro pins s σ H x y v u Q I rx ry h
  obtain ⟨a, b, xs, ys, rfl, rfl, ha, hb, hz, q⟩ := h
  cases rx
  cases ry
  obtain ⟨its, r1, p1, _⟩ := I.tuple (SqT.of (K := X.K) ha)
  obtain ⟨its2, r2, p2, _⟩ := I.tuple (SqT.of (K := X.K) hb)
  obtain ⟨⟨cls, dd, data, sl⟩, ho, hc, n, hd⟩ := id p1
  obtain ⟨⟨cls2, dd2, data2, sl2⟩, ho2, hc2, n2, hd2⟩ := id p2
  simp only at hc hd hc2 hd2
  subst hc hd hc2 hd2
  have e : its.toArray ++ its2.toArray = (its ++ its2).toArray := by simp
  have go : ∀ {S : PySem.Spec}, PySem.Meets (Builtin.«tuple.__add__» ⟨[.ref a, .ref b], []⟩) S → S X.A (wants (EP X pins σ Q) X.xe) s → wpAny (model X.prog X.w) X.A (inplaceOp .Add (.ref a) (.ref b)) (EP X pins σ Q) X.xe s := fun g h =>
    inplaceOp_concat ⟨_, ho, rfl⟩ ⟨_, ho2, rfl⟩ no_tup_iadd PySem.noFill_tuple_add PySem.seq_tuple_add (call_meets PySem.F.slot_tuple_add ⟨_, ho, rfl⟩ PySem.F.entry_tuple_add (PySem.F.args_tuple_add_2 _ _) g h)
  by_cases h1 : its = []
  · have hx : xs = [] := by
      have := r1.length
      rw [h1] at this
      exact List.eq_nil_of_length_eq_zero this
    exact go (tuple_addW0 a b its.toArray its2.toArray n n2 dd dd2 sl sl2 (by simp [h1])) ⟨ho, ho2, .ref b, H, I, rfl, q b H Ext.refl (by rw [hx]; exact hb)⟩
  · by_cases h2 : its2 = []
    · have hy : ys = [] := by
        have := r2.length
        rw [h2] at this
        exact List.eq_nil_of_length_eq_zero this
      exact go (tuple_addW1 a b its.toArray its2.toArray n n2 dd dd2 sl sl2 (by simpa using h1) (by simp [h2])) ⟨ho, ho2, .ref a, H, I, rfl, q a H Ext.refl (by rw [hy, List.append_nil]; exact ha)⟩
    · refine go (tuple_addW2 a b its.toArray its2.toArray n n2 dd dd2 sl sl2 (by simpa using h1) (by simpa using h2) (by rw [List.size_toArray, List.size_toArray, ← r1.length, ← r2.length]; exact hz)) ⟨ho, ho2, ?_⟩
      rw [e]
      refine ⟨.ref s.heap.objs.size, _, I.laid (t' := s.toks) (o := .tup (xs ++ ys)) (fun b ob q => Heap.get?_push_of_some _ q) (Nat.le_refl _) ?_, rfl, q _ _ (Ext.new (I.hok.fresh (Nat.le_refl _))) upd_same⟩
      exact ⟨by rw [List.length_append]; exact hz, _, r1.append r2, IsTup.new _ _⟩
def rLtD (K : PySem.W.Frag) : R2 := fun x y H Q => ∃ d e, Dp K H x d ∧ Dp K H y e ∧ PySem.W.alike d e = true ∧ d ≠ .none ∧ d.depth ≤ 64 ∧ Q (.bl (PySem.W.dataLt d e)) H
theorem ltD (K : PySem.W.Frag) {X : Cx} (hu : X.A.units + 64 < cLine) (h : X.K = K := by rfl) : OpR X (compareOp .Lt) (rLtD K) := by
  subst h
  intro pins s σ H x y v u Q I rx ry h
  obtain ⟨d, e, hd, he, ha, hn, hdp, q⟩ := h
  obtain ⟨as, r1⟩ := Dp.reads I d x v hd rx
  obtain ⟨bs, r2⟩ := Dp.reads I e y u he ry
  exact PySem.W.lt_data r1 r2 ha hn (by have := Nat.min_le_left d.depth e.depth; omega) ⟨.bl _, H, I, rfl, q⟩
end Pf


namespace Pf
open PySem PySem.Spec PyProof.Rows L2
/-! ### sorting tuples, empty ones anywhere -/
section
open PySem.W PySem.SeqAt PySem.Calls
variable {prog : Program} {w : World} {A : Around} {E : Value → Shared → Prop} {s : Shared}
def nonE : PyData → Bool
  | .tuple [] => false
  | _ => true
theorem ft_at2 {M : Model} {v : Value} {ds : List PyData} {as : List Addr} (r : Reads s.heap v (.tuple ds) as) : ∃ f : Option Value, f.isSome = nonE (.tuple ds) ∧ ∀ Q : Option Value → Shared → Prop, Q f s → wpAny M A (firstOfTuple' v) Q E s := by
  cases r with
  | @tuple a o xs n _ _ ho hc hd hr =>
    refine ⟨xs[0]?, ?_, fun Q q => ?_⟩
    · cases q : xs.toList with
      | nil =>
        rw [← Array.getElem?_toList, q]
        rw [q] at hr
        cases hr
        rfl
      | cons f fr =>
        rw [← Array.getElem?_toList, q]
        rw [q] at hr
        cases hr
        rfl
    · rw [kas_first_eq]
      refine wpAny_bind (Looks.here (show Looks M s.heap (typeOf (.ref a)) o.cls from (Looks.ld ho).andThen .now) ?_)
      rw [hc, if_neg (by simp)]
      exact wpAny_bind (listItems_at ho hd (wpAny_pure q))
theorem fts_at2 {M : Model} : ∀ {vs : List Value} {ds : List PyData}, EachIs (fun v d => ∃ as, Reads s.heap v d as) vs ds → (∀ d ∈ ds, ∃ xs, d = .tuple xs) → ∃ fs : List (Option Value), fs.map (·.isSome) = ds.map nonE ∧ ∀ Q : List (Option Value) → Shared → Prop, Q fs s → wpAny M A (vs.mapM firstOfTuple') Q E s
  | _, _, .nil, _ => ⟨[], rfl, fun Q q => by rw [List.mapM_nil]; exact wpAny_pure q⟩
  | _, _, .cons (b := d) ⟨as, r⟩ t, ht => by
    obtain ⟨fs, h1, h2⟩ := fts_at2 (M := M) t fun d hd => ht d (List.mem_cons_of_mem _ hd)
    obtain ⟨xs, rfl⟩ := ht d (List.mem_cons_self ..)
    obtain ⟨f, e1, e2⟩ := ft_at2 (M := M) (A := A) (E := E) r
    refine ⟨f :: fs, by rw [List.map_cons, List.map_cons, e1, h1], fun Q q => ?_⟩
    rw [List.mapM_cons]
    exact wpAny_bind (e2 _ (wpAny_bind (h2 _ (wpAny_pure q))))
theorem kind_mixt {M : Model} {vs : List Value} {d0 : PyData} {ds : List PyData} {Q : SortKind → Shared → Prop} (e : EachIs (fun v d => ∃ as, Reads s.heap v d as) vs (d0 :: ds)) (ht : ∀ d ∈ d0 :: ds, ∃ xs, d = .tuple xs) (h0 : nonE d0 = true) (h1 : (d0 :: ds).all nonE = false) (q : Q general' s) : wpAny M A (keyKind' vs.toArray) Q E s := by
  obtain ⟨fs, hf, h2⟩ := fts_at2 (M := M) (A := A) (E := E) e ht
  obtain ⟨f0, fr, rfl⟩ : ∃ f0 fr, fs = f0 :: fr := by
    cases fs with
    | nil => cases hf
    | cons a b => exact ⟨a, b, rfl⟩
  rw [keyKind'_eq, List.mapM_toArray, map_eq_pure_bind]
  refine wpAny_bind (wpAny_bind (h2 _ (wpAny_pure ?_)))
  have e1 : ((f0 :: fr).toArray.all fun x => x.isSome) = false := by
    rw [List.all_toArray]
    have : ((f0 :: fr).all fun x => x.isSome) = ((f0 :: fr).map (·.isSome)).all id := by rw [List.all_map]; rfl
    rw [this, hf, List.all_map]
    exact h1
  have e2 : f0.isSome = true := by
    injection hf with hf _
    exact hf.trans h0
  have e3 : (((f0 :: fr).toArray)[0]?.bind id).isSome = true := by
    simpa using e2
  rw [if_neg (by rw [e1]; exact Bool.false_ne_true), if_pos e3]
  exact wpAny_pure q
theorem tup_ltG {Q : Bool → Shared → Prop} {a b : Value} {xs ys : List PyData} {as bs : List Addr} (ra : Reads s.heap a (.tuple xs) as) (rb : Reads s.heap b (.tuple ys) bs) (hal : alikeAll xs ys = true)
    (hu : A.units + min (PyData.tuple xs).depth (PyData.tuple ys).depth < cLine) (hq : Q (dataLt (.tuple xs) (.tuple ys)) s) : wpAny (model prog w) A (keyLt' general' a b) Q E s := by
  show wpAny (model prog w) A (do let r ← compareOp .Lt a b; truthOfDropped r) Q E s
  refine wpAny_bind (lt_data ra rb (by simpa [alike] using hal) (fun z => by cases z) hu ?_)
  exact wpAny_truthy_bool hq
theorem sorts_mixt {vs : List Value} {d0 : PyData} {ds : List PyData} (e : EachIs (fun v d => ∃ as, Reads s.heap v d as) vs (d0 :: ds)) (hal : AllAlike (d0 :: ds)) (ht : ∀ d ∈ d0 :: ds, ∃ xs, d = .tuple xs) (h0 : nonE d0 = true) (h1 : (d0 :: ds).all nonE = false) (hu : ∀ d ∈ d0 :: ds, A.units + d.depth < cLine) : SortsAt prog w A s (dataKind s.heap (d0 :: ds)) vs := by
  refine ⟨fun v hv => ?_, general', ?_, fun h2 E Q hq => kind_mixt e ht h0 h1 hq⟩
  · obtain ⟨d, hd, as, r⟩ := e.left v hv
    exact ⟨_, dataKind_some hal hd r⟩
  · intro E x y a b Q ha hb hq
    obtain ⟨d, as, hd, ra, rfl⟩ := dataKind_inv ha
    obtain ⟨d', as', hd', rb, rfl⟩ := dataKind_inv hb
    have hdd := hal d hd d' hd'
    have hroom : A.units + min d.depth d'.depth < cLine := Nat.lt_of_le_of_lt (Nat.add_le_add_left (Nat.min_le_left _ _) _) (hu d hd)
    obtain ⟨xs, rfl⟩ := ht d hd
    obtain ⟨ys, rfl⟩ := ht d' hd'
    exact tup_ltG ra rb (by simpa [alike] using hdd) hroom hq
theorem sorts_tups {vs : List Value} {ds : List PyData} (e : EachIs (fun v d => ∃ as, Reads s.heap v d as) vs ds) (hal : AllAlike ds) (ht : ∀ d ∈ ds, ∃ xs, d = .tuple xs) (hu : ∀ d ∈ ds, A.units + d.depth < cLine) : SortsAt prog w A s (dataKind s.heap ds) vs := by
  by_cases h : ds.all nonE = true
  · refine SortsAt.data e hal (.inl fun d hd => ?_) hu
    obtain ⟨xs, rfl⟩ := ht d hd
    have h := List.all_eq_true.mp h _ hd
    cases xs with
    | nil => cases h
    | cons x r => exact ⟨x, r, rfl⟩
  · cases ds with
    | nil => exact absurd rfl h
    | cons d0 ds =>
      have h := Bool.eq_false_iff.mpr h
      cases h0 : nonE d0 with
      | true => exact sorts_mixt e hal ht h0 h hu
      | false =>
        obtain ⟨xs, rfl⟩ := ht d0 (List.mem_cons_self ..)
        cases xs with
        | nil => exact sorts_empt e hal ht hu
        | cons x r => cases h0
theorem sorted_tups {β : Type} {vs : List Value} {bs : List β} {enc : β → PyData} {R : Value → β → Prop} {l : Addr} {Q : Value → Shared → Prop} (hl : s.heap.IsList l vs.toArray) (e : EachIs R vs bs) (er : EachIs (fun v b => ∃ as, Reads s.heap v (enc b) as) vs bs) (hal : AllAlike (bs.map enc)) (ht : ∀ d ∈ bs.map enc, ∃ xs, d = .tuple xs) (hL : bs.length ≤ sizeLine)
    (hu : ∀ b, b ∈ bs → A.units + 2 + (enc b).depth < cLine) (h : ∀ out, out.length = bs.length → EachIs R out (bs.mergeSort (dataLe false enc)) → Q (.ref (s.heap.objs.size + 1)) { s with heap := sortedAll s.heap vs (List.toArray out) }) :
    wpAny (model prog w) A (call (.builtin "sorted") [.ref l]) Q E s := by
  have er2 : EachIs (fun v b => ∃ as, Reads (sortingHeap (copyHeap s.heap vs) (s.heap.objs.size + 1) vs) v (enc b) as) vs bs := er.mono fun _ _ ⟨as, z⟩ => ⟨as, PyProof.Rows.Reads.keeps (fun _ _ => sorting_copy_old) z⟩
  have em := each_map (R := fun v d => ∃ as, Reads (sortingHeap (copyHeap s.heap vs) (s.heap.objs.size + 1) vs) v d as) enc er2
  have bm := bound_map (A := A.in1.in1) (bs := bs) (enc := enc) hu
  have S : SortsAt prog w A.in1.in1 { s with heap := sortingHeap (copyHeap s.heap vs) (s.heap.objs.size + 1) vs } (dataKind (sortingHeap (copyHeap s.heap vs) (s.heap.objs.size + 1) vs) (bs.map enc)) vs :=
    sorts_tups (s := { s with heap := sortingHeap (copyHeap s.heap vs) (s.heap.objs.size + 1) vs }) em hal ht bm
  exact sorted_vals hl S (by rw [e.length]; exact hL) (h _ (by rw [sortVals_length false rfl]; exact e.length) (sortVals_data false e er2 hal))
end
/-- sorted of tuples, empty ones anywhere -/
def rSortX (K : PySem.W.Frag) : List V → Hp → VK → Prop := fun vs H Q => ∃ (β : Type) (v : β → V) (d : β → PyData) (a : Addr) (bs : List β), vs = [.ref a] ∧ SqL K H a (bs.map v) ∧ (∀ b ∈ bs, Dp K H (v b) (d b) ∧ (d b).depth ≤ 50) ∧
  PySem.W.AllAlike (bs.map d) ∧ (∀ e ∈ bs.map d, ∃ xs, e = .tuple xs) ∧ ∀ p, H p = none → Q (.ref p) (upd H p (.lst ((bs.mergeSort (PySem.W.dataLe false d)).map v)))
theorem cr_sortX (K : PySem.W.Frag) {X : Cx} (hu : X.A.units + 64 < cLine) (hK : X.K = K := by rfl) : CallR X (.builtin "sorted") (rSortX K) := by
  subst hK
  intro pins s σ H vs us Q I r h
  obtain ⟨β, v, d, a, bs, rfl, hs, hd, al, ht, q⟩ := h
  obtain ⟨u, rfl, rfl⟩ := vals1 r
  obtain ⟨its, rv, hl, hz⟩ := I.list hs
  rw [List.length_map] at hz
  refine sorted_tups (enc := d) (R := fun (u : Value) (b : β) => RelV (v b) u) hl.isList (each_vals rv) (each_reads I rv fun b hb => (hd b hb).1) al ht hz (fun b hb => ?_) fun out hlen he => ?_
  · have := (hd b hb).2
    omega
  · obtain ⟨ep, he'⟩ := PyProof.Rows.sortedAll_at s.heap its out.toArray
    have hlen2 : ((bs.mergeSort (PySem.W.dataLe false d)).map v).length ≤ sizeLine := by
      rw [List.length_map, List.length_mergeSort]
      exact hz
    exact ⟨.ref _, upd H (s.heap.objs.size + 1) (.lst ((bs.mergeSort (PySem.W.dataLe false d)).map v)), I.laid (t' := s.toks) (fun _ _ => PyProof.Rows.sortedAll_old) (Nat.le_succ _) ⟨hlen2, out, ep, vals_each he, by simpa using he'⟩, rfl, q _ (I.hok.fresh (Nat.le_succ _))⟩
end Pf


namespace Pf
open PySem PySem.Spec PyProof.Rows L2
theorem inR_keys {t : Str} {prs : List (Str × Int)} : inV (.str t) ((prs.map (·.1)).map V.str) = decide (t ∈ prs.map (·.1)) := by
  unfold inV
  rw [List.any_map]
  by_cases h : t ∈ prs.map (·.1)
  · rw [decide_eq_true h, List.any_eq_true]
    exact ⟨t, h, by show (t == t) = true; exact beq_self_eq_true t⟩
  · rw [decide_eq_false h, List.any_eq_false]
    intro y hy e
    have e : (y == t) = true := e
    rw [beq_iff_eq] at e
    exact h (e ▸ hy)
/-- a folding made since H0, its object known -/
def FzN (H0 H : Hp) (v : V) (q : Fo) : Prop := ∃ a, v = .ref a ∧ FkN H0 H a q
theorem FzN.mono {H0 : Hp} : Mono (FzN H0) := fun H H' v q t ⟨a, e, h⟩ => ⟨a, e, (keyN H0).mono t h⟩
theorem FzN.back {H0 H1 H : Hp} {v : V} {q : Fo} (k : Ext H0 H1) (h : FzN H1 H v q) : FzN H0 H v q := by
  obtain ⟨a, e, h1, h2⟩ := h
  exact ⟨a, e, h1, k.none h2⟩
theorem dp_fz {K : PySem.W.Frag} {H0 H : Hp} {v : V} {q : Fo} (h : FzN H0 H v q) : Dp K H v (dFo q) := by
  obtain ⟨a, rfl, ⟨_, o, vs, e, hA, _, p⟩, _⟩ := h
  cases e
  exact .tup (SqT.fz hA) (dpTwos p)
theorem fk_fo {H : Hp} {a : Addr} {q : Fo} (h : FkT H a q) : FoAt H (.ref a) q := h
theorem sort_R {R : Hp → V → Fo → Prop} (m : Mono R) (dp : ∀ {K : PySem.W.Frag} {H : Hp} {v : V} {q : Fo}, R H v q → Dp K H v (dFo q)) {K : PySem.W.Frag} {H : Hp} {l : Addr} {us : List V} {L : List Fo} {Q : VK} (hL : H l = some (.lst us)) (hP : Paired (R H) us L) (q : ∀ (p : Addr) (ws : List V) (H' : Hp), H p = none → H' p = some (.lst ws) → Paired (R H') ws (SF L) → Ext H H' → Q (.ref p) H') : rSortX K [.ref l] H Q := by
  have hz := paired_len hP
  have e1 : (us.zip L).map (·.1) = us := List.map_fst_zip (by omega)
  have e2 : (us.zip L).map (·.2) = L := List.map_snd_zip (by omega)
  have hall : ∀ b ∈ us.zip L, R H b.1 b.2 := by
    clear e1 e2 hz q hL
    induction hP with
    | nil => intro b hb; cases hb
    | cons r _ ih =>
      intro b hb
      rw [List.zip_cons_cons] at hb
      rcases List.mem_cons.mp hb with rfl | hb
      · exact r
      · exact ih b hb
  have ed : (us.zip L).map (fun b => dFo b.2) = L.map dFo := by
    have := congrArg (List.map dFo) e2
    rw [List.map_map] at this
    exact this
  refine ⟨V × Fo, fun b => b.1, fun b => dFo b.2, l, us.zip L, rfl, SqL.of (by rw [e1]; exact hL), fun b hb => ⟨dp (hall b hb), Nat.le_trans (dep_fo _) (by decide)⟩, ?_, ?_, fun p hp => ?_⟩
  · intro d1 h1 d2 h2
    obtain ⟨b1, _, rfl⟩ := List.mem_map.mp h1
    obtain ⟨b2, _, rfl⟩ := List.mem_map.mp h2
    show PySem.W.alike (.tuple _) (.tuple _) = true
    rw [PySem.W.alike]
    exact alike_twos _ _
  · intro e he
    obtain ⟨b1, _, rfl⟩ := List.mem_map.mp he
    exact ⟨_, rfl⟩
  · have x1 := Ext.new (o := .lst (((us.zip L).mergeSort (PySem.W.dataLe false fun b => dFo b.2)).map fun b => b.1)) hp
    refine q p _ _ hp upd_same ?_ x1
    have es : ((us.zip L).mergeSort (PySem.W.dataLe false fun b => dFo b.2)).map (·.2) = SF L := by
      have hm := List.map_mergeSort (r := PySem.W.dataLe false fun b : V × Fo => dFo b.2) (s := PySem.W.dataLe false dFo) (f := fun b : V × Fo => b.2) (l := us.zip L) (fun a _ b _ => rfl)
      rw [e2] at hm
      exact hm
    rw [← es]
    have hm : ∀ b ∈ (us.zip L).mergeSort (PySem.W.dataLe false fun b => dFo b.2), R H b.1 b.2 := fun b hb => hall b ((List.mergeSort_perm _ _).mem_iff.mp hb)
    generalize (us.zip L).mergeSort (PySem.W.dataLe false fun b => dFo b.2) = S at hm x1
    have : ∀ {T : List (V × Fo)} {H2 : Hp}, (∀ b ∈ T, R H b.1 b.2) → Ext H H2 → Paired (R H2) (T.map (·.1)) (T.map (·.2)) := by
      intro T H2 hT hx
      induction T with
      | nil => exact .nil
      | cons b T ih => exact .cons (m _ _ _ _ (TupK.ext hx) (hT b (List.mem_cons_self ..))) (ih fun c hc => hT c (List.mem_cons_of_mem _ hc))
    exact this hm x1
section
variable {P : Program} {w : World} {K : PySem.W.Frag} {mg : Str → Option Value} {base : Heap}
abbrev s_law_may : Stmt := topS 35
theorem sc_law_may : FnScope ["_law_book_here", "_law_line_here", "_law_i", "_law_j", "_law_row"] ["_law_book_here", "_law_line_here", "_law_i", "_law_j"] (defScope s_law_may) :=
  ⟨rfl, rfl, rfl, by decide +kernel, rfl, by decide +kernel, by decide +kernel⟩
def spMayR : Sp := fun vs H Q _ => ∃ (v : V) (r : Rl) (x : Str) (i j : Int), vs = [v, .str x, .int i, .int j] ∧ RulesAt H v r ∧ RlOk r ∧ x.length ≤ 1000 ∧ 0 ≤ i ∧ i < x.length ∧ 0 ≤ j ∧ j < x.length ∧ ∀ H', Ext H H' → Q (.bl (mayC r x i j)) H'
theorem ok_mayR {f : Addr} {fd : FuncData} {k : Nat} (F : Fun K "_law_may" "_law_may" s_law_may f fd) : FnOk P w K mg base CX0 (k + 1) f fd ["_law_book_here", "_law_line_here", "_law_i", "_law_j"] spMayR := by
  refine F.ok sc_law_may (fun vs H Q E h => ?_) (fun cdv A outer s H vs Q E hr h => ?_)
  · obtain ⟨v, r, x, i, j, rfl, _⟩ := h
    rfl
  · obtain ⟨v, r, x, i, j, rfl, hR, ok, hx, i0, i1, j0, j1, q⟩ := h
    obtain ⟨a, vp, vl, vs, rfl, hA, ⟨ap, oz, pus, rfl, hp, hoz, hRp⟩, _, _⟩ := id hR
    refine ⟨_, (pss_one (ps_ret (pe_and (pe_cmpR op_ge (pe_op op_sub (pe_op op_sub (pv 3) (pv 2)) pe_int) (pe_ix (ixT K) (pv 0) pe_int (fun _ _ => rfl)) (nomark _)) (pe_one (pe_cmpR (inSeq K) (pe_op op_add_str (pe_ix ix_str (pv 1) (pv 2) (fun _ _ => rfl)) (pe_ix ix_str (pv 1) (pv 3) (fun _ _ => rfl))) (pe_lc (own := [("_law_row", 4)]) (g := gName 4) (by rfl) sc_law_may.nd (pi_tup (pe_ix (ixT K) (pv 0) pe_int (fun _ _ => rfl))) (blkOk_by (own := [("_law_row", 4)]) (N := ["_law_book_here", "_law_line_here", "_law_i", "_law_j", "_law_row"]) (sc := defScope s_law_may) (by decide +kernel)) (fun _ _ _ _ _ => (pg_name (i := 4) sc_law_may.nd rfl (.inl rfl))) (fun _ _ _ _ _ => pts_nil) (fun _ _ _ _ _ => (pe_ix (ixT K) (pv 4) pe_int (fun _ _ => rfl)))) (by rfl)))))), ?_⟩
    have hpl := paired_len hRp
    have hpr := ok.prs
    have edec : decide (r.span ≤ j - i - 1) = decide (r.span < j - i) := decide_eq_decide.mpr (by omega)
    refine ⟨_, rfl, _, rfl, _, _, rfl, rfl, _, 1, rfl, rfl, _, rfl, a, _, 2, _, rfl, rfl, SqT.of hA, rfl, _, _, rfl, rfl, _, rfl, ite2 (fun e => ?_) (fun e => ?_)⟩
    · have e : decide (r.span ≤ j - i - 1) = true := e
      refine ⟨_, rfl, _, rfl, x, i, _, rfl, rfl, szL (by omega), sgn_at i0 i1, _, rfl, _, rfl, x, j, _, rfl, rfl, szL (by omega), sgn_at j0 j1, _, _, rfl, rfl, szL (show 1 + 1 ≤ 1000000 by decide), ?_⟩
      refine ⟨_, rfl, a, _, 1, _, rfl, rfl, SqT.of hA, rfl, ap, rfl, ⟨_, SqT.fz hp⟩, fun D hD => lc_tup (K := K) (xs := pus) (fun c H2 => H2 D = some (.lst (((r.prs.take c).map (·.1)).map V.str)) ∧ Ext H H2)
        ⟨upd_same, Ext.new hD⟩ (fun c H2 _ ⟨_, k⟩ => SqT.fz (k _ _ hp)) (fun c u H2 hc hv => ?_) (fun H2 hv => ?_)⟩
      · obtain ⟨hL, k2⟩ := hv
        obtain ⟨y, hy, a1, rfl, ha1⟩ := paired_get hRp hc
        refine ⟨rfl, _, rfl, a1, _, 0, _, rfl, rfl, SqT.of (k2 _ _ ha1), rfl, _, hL, szLt ?_, ?_, k2.put hD⟩
        · rw [List.length_map, List.length_map, List.length_take]
          omega
        · rw [upd_same, List.take_add_one, hy, List.map_append, List.map_append]
          rfl
      obtain ⟨hL, k2⟩ := hv
      rw [List.take_of_length_le (by omega)] at hL
      refine ⟨D, _, rfl, .inl (SqL.of hL), rfl, ?_, ?_⟩
      · rw [List.all_map]
        exact List.all_eq_true.mpr fun z _ => rfl
      have h := q H2 k2
      unfold mayC at h
      have e2 : inV (.str (sgn x i ++ sgn x j)) ((r.prs.map (·.1)).map V.str) = decide (tx2 x (i, j) ∈ r.prs.map (·.1)) := inR_keys
      rw [← edec, e, Bool.true_and, ← e2] at h
      exact h
    · have e : decide (r.span ≤ j - i - 1) = false := Bool.eq_false_iff.mpr e
      have h := q H Ext.refl
      unfold mayC at h
      rw [← edec, e, Bool.false_and] at h
      exact h
abbrev CMayR (P : Program) (w : World) (K : PySem.W.Frag) (mg : Str → Option Value) (base : Heap) : Prop := Ca P w K mg base 1 "_law_may" ["_law_book_here", "_law_line_here", "_law_i", "_law_j"] spMayR
abbrev s_law_lists : Stmt := topS 37
theorem sc_law_lists : FnScope ["_law_book_here", "_law_line_here", "_law_i", "_law_j", "_law_found", "_law_k", "_law_behind", "_law_one", "_law_two"] ["_law_book_here", "_law_line_here", "_law_i", "_law_j"] (defScope s_law_lists) :=
  ⟨rfl, rfl, rfl, by decide +kernel, rfl, by decide +kernel, by decide +kernel⟩
def spLists (d : Nat) : Sp := fun vs H Q _ => ∃ (v : V) (r : Rl) (x : Str) (a b : Int), vs = [v, .str x, .int a, .int (b - 1)] ∧ RulesAt H v r ∧ RlOk r ∧ x.length ≤ 12 ∧ 0 ≤ a ∧ a ≤ b ∧ b ≤ x.length ∧ (b - a).toNat < d ∧
  ∀ (l : Addr) (us : List V) (H' : Hp), H l = none → H' l = some (.lst us) → Paired (FzN H H') us (WA r x (b - a).toNat a) → Ext H H' → Q (.ref l) H'
theorem ok_lists {f : Addr} {fd : FuncData} (F : Fun K "_law_lists" "_law_lists" s_law_lists f fd) (bF : Binds K fd ["_law_book_here", "_law_line_here", "_law_i", "_law_j"] []) (gF : mg "_law_lists" = some (.ref f)) (c_law_may : CMayR P w K mg base) (mrange : mg "range" = none) :
    ∀ d : Nat, FnOk P w K mg base CX0 (2 + d) f fd ["_law_book_here", "_law_line_here", "_law_i", "_law_j"] (spLists d)
  | 0 => ⟨fun vs H Q E h => by
      obtain ⟨v, r, x, a, b, rfl, _⟩ := h
      rfl, fun A outer s H args us vs Q E _ _ _ _ h => by
      obtain ⟨v, r, x, a, b, _, _, _, _, _, _, _, h2, _⟩ := h
      omega⟩
  | d + 1 => by
    have c_law_lists : Ca P w K mg base (2 + d) "_law_lists" ["_law_book_here", "_law_line_here", "_law_i", "_law_j"] (spLists d) := ⟨f, fd, ok_lists F bF gF c_law_may mrange d, gF, F.kp, bF⟩
    refine F.ok (k := 2 + d) sc_law_lists (fun vs H Q E h => ?_) (fun cdv A outer s H vs Q E hr h => ?_)
    · obtain ⟨v, r, x, a, b, rfl, _⟩ := h
      rfl
    · obtain ⟨v, r, x, a, b, rfl, hR, ok, hx, a0, ab, bx, hd, q⟩ := h
      refine ⟨_, (pss_cons (ps_if (pt_cmpR op_lt (pv 3) (pv 2) (nomark _)) (pss_one (ps_ret (pe_lst (pa_cons (pe_tupF pa_nil) pa_nil)))) pss_nil)
      (pss_cons (ps_set (i := 4) sc_law_lists.nd rfl (.inl rfl) (pe_ca c_law_lists (hr.mono (by omega)) (by rfl) (pa_cons (pv 0) (pa_cons (pv 1) (pa_cons (pe_op op_add (pv 2) pe_int) (pa_cons (pv 3) pa_nil))))))
      (pss_cons (ps_for PassesOwn.never rfl (pi_range2 (by rfl) mrange (pa_cons (pe_op op_add (pv 2) pe_int) (pa_cons (pe_op op_add (pv 3) pe_int) pa_nil))) (pg_name (i := 5) sc_law_lists.nd rfl (.inr rfl)) (pss_one (ps_if (pt_val (pe_ca c_law_may (hr.mono (by omega)) (by rfl) (pa_cons (pv 0) (pa_cons (pv 1) (pa_cons (pv 2) (pa_cons (pv 5) pa_nil)))))) (pss_cons (ps_set (i := 6) sc_law_lists.nd rfl (.inl rfl) (pe_ca c_law_lists (hr.mono (by omega)) (by rfl) (pa_cons (pv 0) (pa_cons (pv 1) (pa_cons (pe_op op_add (pv 5) pe_int) (pa_cons (pv 3) pa_nil))))))
      (pss_one (ps_for PassesOwn.never rfl (pi_list (pe_ca c_law_lists (hr.mono (by omega)) (by rfl) (pa_cons (pv 0) (pa_cons (pv 1) (pa_cons (pe_op op_add (pv 2) pe_int) (pa_cons (pe_op op_sub (pv 5) pe_int) pa_nil)))))) (pg_name (i := 7) sc_law_lists.nd rfl (.inr rfl)) (pss_one (ps_set (i := 4) sc_law_lists.nd rfl (.inl rfl) (pe_op op_cat (pv 4) (pe_lc (own := [("_law_two", 8)]) (g := gName 8) (by rfl) sc_law_lists.nd (pi_list (pv 6)) (blkOk_by (own := [("_law_two", 8)]) (N := ["_law_book_here", "_law_line_here", "_law_i", "_law_j", "_law_found", "_law_k", "_law_behind", "_law_one", "_law_two"]) (sc := defScope s_law_lists) (by decide +kernel)) (fun _ _ _ _ _ => (pg_name (i := 8) sc_law_lists.nd rfl (.inl rfl))) (fun _ _ _ _ _ => pts_nil) (fun _ _ _ _ _ => (pe_op (catF K) (pe_op (catF K) (pe_tupF (pa_cons (pe_tup (pa_cons (pv 2) (pa_cons (pv 5) pa_nil))) pa_nil)) (pv 7)) (pv 8)))))))))) pss_nil)))
      (pss_one (ps_ret (pv 4)))))), ?_⟩
      refine ⟨_, rfl, _, rfl, _, _, rfl, rfl, _, rfl, ite2 (fun e => ?_) (fun e => ?_)⟩
      · have e : b - 1 < a := of_decide_eq_true e
        refine ⟨Nat.zero_le _, fun t o ht ho => ⟨szL (show 1 ≤ 1000000 by decide), fun l hl => ?_⟩⟩
        have x1 := Ext.new (o := .frz o (.tup [])) ht
        have x2 := Ext.new (o := .lst [.ref t]) hl
        refine q l [.ref t] _ (x1.none hl) upd_same ?_ (x1.trans x2)
        rw [show (b - a).toNat = 0 by omega]
        exact .cons ⟨t, rfl, ⟨t, o, [], rfl, x2 _ _ upd_same, ho, .nil⟩, ht⟩ .nil
      · have e : ¬ b ≤ a := fun z => e (decide_eq_true (show b - 1 < a by omega))
        have hab : (b - (a + 1)).toNat + 1 = (b - a).toNat := by omega
        rw [← hab, WA_succ] at q
        obtain ⟨n, hn⟩ : ∃ n, n = (b - (a + 1)).toNat := ⟨_, rfl⟩
        have hn12 : n + 1 ≤ 12 := by omega
        have wl := WA_len r x (n := n + 1) (by omega) a
        rw [WA_succ, List.length_append] at wl
        refine ⟨_, rfl, _, rfl, _, rfl, a, 1, rfl, rfl, _, rfl, v, r, x, a + 1, b, rfl, hR, ok, hx, by omega, by omega, bx, by omega, fun l1 us1 H1 hl1 hL1 hP1 k1 => ?_⟩
        rw [← hn] at hP1 q
        have rulE : ∀ {H' : Hp}, Ext H H' → RulesAt H' v r := fun k => RulesAt.mono _ _ _ _ (TupK.ext k) hR
        refine ⟨_, rfl, a, 1, rfl, rfl, _, rfl, _, 1, rfl, rfl, a + 1, b, congrArg (fun z => [V.int (a + 1), V.int z]) (show b - 1 + 1 = b by omega), ⟨by omega, by omega, by omega, by omega⟩, for_range (lo := a + 1) (n := (b - (a + 1)).toNat) (fun t σ H2 => ∃ (y5 y6 y7 : Option V) (l : Addr) (us : List V), σ = [some v, some (.str x), some (.int a), some (.int (b - 1)), some (.ref l), y5, y6, y7, none] ∧ H l = none ∧ H2 l = some (.lst us) ∧ Paired (FzN H H2) us (WA r x n (a + 1) ++ (List.range t).flatMap fun t => seg r x (WA r x) n a t) ∧ Ext H H2)
          ⟨none, none, none, l1, us1, rfl, hl1, hL1, by rw [List.range_zero, List.flatMap_nil, List.append_nil]; exact hP1, k1⟩ (fun t σ H2 ht hv => ?_) (fun σ H2 hv => ?_)⟩
        · obtain ⟨y5, y6, y7, l, us, rfl, hl, hL2, hP2, k2⟩ := hv
          have ht' : t < n := by omega
          have eflat : (List.range (t + 1)).flatMap (fun t => seg r x (WA r x) n a t) = (List.range t).flatMap (fun t => seg r x (WA r x) n a t) ++ seg r x (WA r x) n a t := by
            rw [List.range_succ, List.flatMap_append]
            simp
          have esub : ((List.range (t + 1)).flatMap fun t => seg r x (WA r x) n a t).length ≤ ((List.range n).flatMap fun t => seg r x (WA r x) n a t).length := by
            rw [flat_len, flat_len]
            have : (List.range n) = List.range (t + 1) ++ (List.range (n - (t + 1))).map (fun y => (t + 1) + y) := by
              rw [← List.range_add]
              congr 1
              omega
            rw [this, List.map_append, List.sum_append]
            omega
          refine ⟨_, rfl, _, rfl, _, rfl, _, rfl, v, r, x, a, a + 1 + t, rfl, rulE k2, ok, by omega, a0, by omega, by omega, by omega, fun H3 k3 => ⟨_, rfl, ite2 (fun em => ?_) (fun em => ?_)⟩⟩
          · have k03 := k2.trans k3
            have es : seg r x (WA r x) n a t = (WA r x t (a + 1)).flatMap fun one => (WA r x (n - 1 - t) (a + 2 + t)).map fun other => (a, a + 1 + t) :: (one ++ other) := by
              unfold seg
              rw [if_pos em]
            rw [eflat, es, List.length_append] at esub
            -- behind, inner
            refine ⟨_, rfl, _, rfl, _, rfl, a + 1 + t, 1, rfl, rfl, _, rfl, v, r, x, a + 1 + t + 1, b, rfl, rulE k03, ok, hx, by omega, by omega, by omega, by omega, fun l5 us5 H4 hl5 hL5 hP5 k4 => ?_⟩
            have hP5 := paired_imp (fun _ _ h => FzN.back k03 h) hP5
            rw [show (b - (a + 1 + (t : Int) + 1)).toNat = n - 1 - t by omega, show a + 1 + (t : Int) + 1 = a + 2 + t by omega] at hP5
            refine ⟨_, rfl, _, rfl, _, rfl, a, 1, rfl, rfl, _, rfl, _, 1, rfl, rfl, v, r, x, a + 1, a + 1 + t, rfl, rulE (k03.trans k4), ok, hx, by omega, by omega, by omega, by omega, fun l4 us4 H5 hl4 hL4 hP4 k5 => ?_⟩
            have hP4 := paired_imp (fun _ _ h => FzN.back (k03.trans k4) h) hP4
            rw [show (a + 1 + (t : Int) - (a + 1)).toNat = t by omega] at hP4
            have k05 := (k03.trans k4).trans k5
            have k35 := k4.trans k5
            have hL5' := k5 _ _ hL5
            have hP5' := paired_imp (fun _ _ => FzN.mono _ _ _ _ (TupK.ext k5)) hP5
            have h4l := paired_len hP4
            have h5l := paired_len hP5
            refine ⟨l4, rfl, ⟨_, SqL.of hL4⟩, for_list (K := K) (xs := us4) (fun j σ H6 => ∃ (y7 : Option V) (l : Addr) (us : List V), σ = [some v, some (.str x), some (.int a), some (.int (b - 1)), some (.ref l), some (.int (a + 1 + (t : Int))), some (.ref l5), y7, none] ∧ H l = none ∧ H6 l = some (.lst us) ∧ Paired (FzN H H6) us ((WA r x n (a + 1) ++ (List.range t).flatMap fun t => seg r x (WA r x) n a t) ++ ((WA r x t (a + 1)).take j).flatMap fun one => (WA r x (n - 1 - t) (a + 2 + t)).map fun other => (a, a + 1 + t) :: (one ++ other)) ∧ Ext H5 H6)
              ⟨y7, l, us, rfl, hl, k35 _ _ (k3 _ _ hL2), by rw [List.take_zero, List.flatMap_nil, List.append_nil]; exact paired_imp (fun _ _ => (FzN.mono (H0 := H)) _ _ _ _ (TupK.ext (k3.trans k35))) hP2, Ext.refl⟩ (fun j σ H6 _ ⟨_, _, _, _, _, _, _, k⟩ => SqL.of (k _ _ hL4)) (fun j u σ H6 hj hv => ?_) (fun σ H6 hv => ?_)⟩
            · obtain ⟨y7, l, us, rfl, hl, hL6, hP6, k6⟩ := hv
              obtain ⟨one, hone, t1, rfl, ⟨_, o1, fs1, e1, hT1, ho1, hF1⟩, hn1⟩ := paired_get hP4 hj
              cases e1
              have k46 := k6
              have hjl : j < (WA r x t (a + 1)).length := (List.getElem?_eq_some_iff.mp hone).1
              -- the comprehension
              refine ⟨_, rfl, _, rfl, l5, rfl, ⟨_, SqL.of (k6 _ _ hL5')⟩, fun D hD => lc_list (K := K) (xs := us5) (GenP (FzN H) D H6 ((WA r x (n - 1 - t) (a + 2 + t)).map fun other => (a, a + 1 + (t : Int)) :: (one ++ other))) (gen_new hD) (fun i H7 _ h => SqL.of (h.ext _ _ (k6 _ _ hL5'))) (fun i u H7 hi hv => ?_) (fun H7 hv => ?_)⟩
              · obtain ⟨other, hother, t2, rfl, ⟨_, o2, fs2, e2, hT2, ho2, hF2⟩, hn2⟩ := paired_get hP5' hi
                cases e2
                have k7 := hv.ext
                have k67 := k6.trans k7
                have hone1 := (WA_in r x t (a + 1) one (List.mem_of_getElem? hone)).2
                have hoth1 := (WA_in r x (n - 1 - t) (a + 2 + t) other (List.mem_of_getElem? hother)).2
                have f1l := paired_len hF1
                have f2l := paired_len hF2
                refine ⟨rfl, _, rfl, _, rfl, szL (show 2 ≤ 1000000 by decide), fun tp htp => ⟨szL (show 1 ≤ 1000000 by decide), fun tq oq htq hoq => ?_⟩⟩
                have x8 := Ext.new (o := .tup [.int a, .int (a + 1 + (t : Int))]) htp
                have x9 := Ext.new (o := .frz oq (.tup [.ref tp])) htq
                have x89 := x8.trans x9
                have k07 := (k05.trans k6).trans k7
                have htqH : H tq = none := (k07.trans x8).none htq
                refine ⟨_, rfl, tq, t1, oq, o1, _, fs1, rfl, rfl, upd_same, hoq, (k46.trans (k7.trans x89)) _ _ hT1, (fun z => by cases z), szL (by rw [List.length_singleton]; omega), fun p10 o10 H10 hn10 k10 hp10 ho10 => ?_⟩
                have hp10H : H p10 = none := hn10.elim (fun e => e ▸ htqH) fun e => (k07.trans x89).none e
                refine ⟨_, rfl, p10, t2, o10, o2, _, fs2, rfl, rfl, hp10, ho10, (k67.trans (x89.trans k10)) _ _ hT2, (fun z => by cases z), szL (by rw [List.length_append, List.length_singleton]; omega), fun p11 o11 H11 hn11 k11 hp11 ho11 => ?_⟩
                have hp11H : H p11 = none := hn11.elim (fun e => e ▸ hp10H) fun e => ((k07.trans x89).trans k10).none e
                have kk := x89.trans (k10.trans k11)
                refine gen_step (FzN.mono (H0 := H)) hD hv kk (b := (a, a + 1 + (t : Int)) :: (one ++ other)) ⟨p11, rfl, ⟨p11, o11, _, rfl, hp11, ho11, ?_⟩, hp11H⟩ ?_ ?_
                · have eap : [V.ref tp] ++ fs1 ++ fs2 = V.ref tp :: (fs1 ++ fs2) := rfl
                  rw [eap]
                  refine .cons ⟨tp, rfl, (x9.trans (k10.trans k11)) _ _ upd_same⟩ (paired_app (paired_imp (fun _ _ => TwoAt.mono _ _ _ _ (TupK.ext (k46.trans (k7.trans kk)))) hF1) (paired_imp (fun _ _ => TwoAt.mono _ _ _ _ (TupK.ext (k67.trans kk))) hF2))
                · rw [List.getElem?_map, hother]
                  rfl
                · rw [List.length_map]
                  have := WA_len r x (n := n - 1 - t) (by omega) (a + 2 + t)
                  omega
              obtain ⟨vs7, hL7, hP7, k7⟩ := gen_end hv (by rw [List.length_map]; omega)
              clear hv
              have h6l := paired_len hP6
              have h7l := paired_len hP7
              rw [List.length_map] at h7l
              have etake : ((WA r x t (a + 1)).take (j + 1)).flatMap (fun one => (WA r x (n - 1 - t) (a + 2 + t)).map fun other => (a, a + 1 + (t : Int)) :: (one ++ other)) = ((WA r x t (a + 1)).take j).flatMap (fun one => (WA r x (n - 1 - t) (a + 2 + t)).map fun other => (a, a + 1 + (t : Int)) :: (one ++ other)) ++ (WA r x (n - 1 - t) (a + 2 + t)).map fun other => (a, a + 1 + (t : Int)) :: (one ++ other) := by
                rw [List.take_add_one, hone, List.flatMap_append]
                simp
              have esz : us.length + vs7.length ≤ 15511 := by
                have e1 : (((WA r x t (a + 1)).take (j + 1)).flatMap (fun one => (WA r x (n - 1 - t) (a + 2 + t)).map fun other => (a, a + 1 + (t : Int)) :: (one ++ other))).length ≤ ((WA r x t (a + 1)).flatMap (fun one => (WA r x (n - 1 - t) (a + 2 + t)).map fun other => (a, a + 1 + (t : Int)) :: (one ++ other))).length := by
                  rw [flat_const (c := (WA r x (n - 1 - t) (a + 2 + t)).length) (fun y _ => List.length_map ..), flat_const (c := (WA r x (n - 1 - t) (a + 2 + t)).length) (fun y _ => List.length_map ..)]
                  exact Nat.mul_le_mul_right _ (by rw [List.length_take]; omega)
                rw [etake, List.length_append, List.length_map] at e1
                rw [List.length_append, List.length_append] at h6l
                omega
              refine ⟨l, D, us, vs7, rfl, rfl, k7 _ _ hL6, hL7, szL (by omega), fun l8 hl8 => ?_⟩
              have x8 := Ext.new (o := .lst (us ++ vs7)) hl8
              refine ⟨_, l8, us ++ vs7, rfl, (k05.trans (k6.trans k7)).none hl8, upd_same, ?_, (k6.trans k7).trans x8⟩
              rw [etake, ← List.append_assoc]
              exact paired_app (paired_imp (fun _ _ => (FzN.mono (H0 := H)) _ _ _ _ (TupK.ext (k7.trans x8))) hP6) (paired_imp (fun _ _ => (FzN.mono (H0 := H)) _ _ _ _ (TupK.ext x8)) hP7)
            · obtain ⟨y7, l, us, rfl, hl, hL6, hP6, k6⟩ := hv
              rw [List.take_of_length_le (by omega)] at hP6
              refine ⟨_, _, _, l, us, rfl, hl, hL6, ?_, k05.trans k6⟩
              rw [eflat, es, ← List.append_assoc]
              exact hP6
          · have es : seg r x (WA r x) n a t = [] := by
              unfold seg
              rw [if_neg em]
            refine ⟨_, _, _, l, us, rfl, hl, k3 _ _ hL2, ?_, k2.trans k3⟩
            rw [eflat, es, List.append_nil]
            exact paired_imp (fun _ _ => (FzN.mono (H0 := H)) _ _ _ _ (TupK.ext k3)) hP2
        · obtain ⟨y5, y6, y7, l, us, rfl, hl, hL2, hP2, k2⟩ := hv
          rw [← hn] at hP2
          exact ⟨_, rfl, q l us H2 hl hL2 hP2 k2⟩
abbrev CLists (P : Program) (w : World) (K : PySem.W.Frag) (mg : Str → Option Value) (base : Heap) : Prop := Ca P w K mg base 15 "_law_lists" ["_law_book_here", "_law_line_here", "_law_i", "_law_j"] (spLists 13)
end
end Pf


namespace Pf
open PySem PySem.Spec PyProof.Rows L2
/-! ### pairs straight within, as the program finds them -/
def ins (pr : Option (Int × Int)) (x : Int × Int) : Bool := match pr with
  | none => true
  | some q => decide (q.1 < x.1) && decide (x.2 < q.2)
def fits (acc : List (Int × Int)) (x : Int × Int) : Bool := acc.isEmpty || decide ((acc.getLast?.map (·.2)).getD 0 < x.1)
def gstep (pr : Option (Int × Int)) (acc : List (Int × Int)) (x : Int × Int) : List (Int × Int) := if (ins pr x && fits acc x) = true then acc ++ [x] else acc
def gr : Option Int → List (Int × Int) → List (Int × Int)
  | _, [] => []
  | e, x :: r => if (e.isNone || decide (e.getD 0 < x.1)) = true then x :: gr (some x.2) r else gr e r
theorem fits_last (acc : List (Int × Int)) (x : Int × Int) : fits acc x = ((acc.getLast?.map (·.2)).isNone || decide ((acc.getLast?.map (·.2)).getD 0 < x.1)) := by
  unfold fits
  cases acc with
  | nil => rfl
  | cons a r =>
    rw [List.getLast?_cons]
    rfl
theorem fold_gr (pr : Option (Int × Int)) : ∀ (ps acc : List (Int × Int)), ps.foldl (gstep pr) acc = acc ++ gr (acc.getLast?.map (·.2)) (ps.filter (ins pr))
  | [], acc => by
    rw [List.foldl_nil, List.filter_nil, gr, List.append_nil]
  | x :: r, acc => by
    rw [List.foldl_cons, fold_gr pr r]
    unfold gstep
    by_cases h : ins pr x = true
    · rw [List.filter_cons_of_pos h, gr, h, Bool.true_and, ← fits_last]
      by_cases h2 : fits acc x = true
      · rw [if_pos h2, if_pos h2, List.append_assoc]
        simp
      · rw [if_neg h2, if_neg h2]
    · rw [List.filter_cons_of_neg h, if_neg (by simp [h])]
def swL (pr : Option (Int × Int)) (ps : List (Int × Int)) : List (Int × Int) := ps.foldl (gstep pr) []
def OneAt (H : Hp) (v : V) (pr : Option (Int × Int)) : Prop := match pr with
  | none => v = .non
  | some q => TwoAt H v q
theorem OneAt.mono : Mono OneAt := fun H H' v x k h => by
  cases x with
  | none => exact h
  | some q => exact TwoAt.mono _ _ _ _ k h
theorem last_at {H : Hp} {vs : List V} {qs : List (Int × Int)} (hPr : Paired (TwoAt H) vs qs) (h : 0 < vs.length) : ∃ (a : Addr) (q : Int × Int), atI vs (-1) = some (.ref a) ∧ H a = some (.tup [.int q.1, .int q.2]) ∧ qs.getLast? = some q := by
  have hl := paired_len hPr
  have h1 : vs[vs.length - 1]? = some (vs[vs.length - 1]'(by omega)) := List.getElem?_eq_getElem _
  obtain ⟨q, hq, a, ea, ha⟩ := paired_get hPr h1
  refine ⟨a, q, ?_, ha, ?_⟩
  · unfold atI ixN
    rw [if_neg (by decide), if_pos (by omega)]
    show vs[(-1 + (vs.length : Int)).toNat]? = _
    rw [show (-1 + (vs.length : Int)).toNat = vs.length - 1 by omega, h1, ea]
  · rw [List.getLast?_eq_getElem?, ← hl]
    exact hq
theorem fold_take {α β : Type} {f : β → α → β} {b : β} {xs : List α} {i : Nat} {x : α} (h : xs[i]? = some x) : (xs.take (i + 1)).foldl f b = f ((xs.take i).foldl f b) x := by
  rw [List.take_add_one, h, List.foldl_append]
  rfl
theorem gstep_len (pr : Option (Int × Int)) (acc : List (Int × Int)) (x : Int × Int) : (gstep pr acc x).length ≤ acc.length + 1 := by
  unfold gstep
  split
  · rw [List.length_append]
    exact Nat.le_refl _
  · omega
theorem fold_len (pr : Option (Int × Int)) : ∀ (ps acc : List (Int × Int)), (ps.foldl (gstep pr) acc).length ≤ acc.length + ps.length
  | [], acc => by simp
  | x :: r, acc => by
    have h1 := fold_len pr r (gstep pr acc x)
    have h2 := gstep_len pr acc x
    rw [List.foldl_cons, List.length_cons]
    omega
theorem gr_some : ∀ (e : Int) (q : Fo), gr (some e) q = topF (e + 1) q
  | _, [] => rfl
  | e, y :: q => by
    rw [gr, topF]
    by_cases h : e < y.1
    · rw [if_pos (by simp; exact h), if_pos (by omega), gr_some y.2 q]
    · rw [if_neg (by simp; omega), if_neg (by omega), gr_some e q]
theorem gr_none (q : Fo) : gr none q = tops q := by
  cases q with
  | nil => rfl
  | cons y q =>
    rw [gr, tops, if_pos (by rfl), gr_some]
theorem sw_tops (pr : Option (Int × Int)) (q : Fo) : swL pr q = tops (q.filter (ins pr)) := by
  unfold swL
  rw [fold_gr, List.nil_append]
  exact gr_none _
theorem sw_none (q : Fo) : swL none q = tops q := by
  rw [sw_tops, filter_all (f := ins none) (fun y _ => rfl)]
/-- within a pair of a folding -/
theorem within_WA {r : Rl} {x : Str} {n : Nat} {a : Int} {q : Fo} (hq : q ∈ WA r x n a) {y : Int × Int} (hy : y ∈ q) : ∃ t : Nat, withinC q y.1 y.2 ∈ WA r x t (y.1 + 1) := by
  have f := fo4_of r x n a q hq
  have hb := f.inn y hy
  refine ⟨(y.2 - y.1 - 1).toNat, of_fo4 r x _ _ _ (f.sub (List.filter_sublist ..) fun z hz => ?_)⟩
  obtain ⟨hz1, hz2⟩ := List.mem_filter.mp hz
  rw [Bool.and_eq_true] at hz2
  have h1 : y.1 < z.1 := of_decide_eq_true hz2.1
  have h2 : z.2 < y.2 := of_decide_eq_true hz2.2
  have := f.inn z hz1
  omega
theorem sw_some {r : Rl} {x : Str} {n : Nat} {a : Int} {q : Fo} (hq : q ∈ WA r x n a) {y : Int × Int} (hy : y ∈ q) : swL (some y) q = strC q y.1 y.2 := by
  obtain ⟨t, ht⟩ := within_WA hq hy
  rw [sw_tops]
  show tops (withinC q y.1 y.2) = nn (withinC q y.1 y.2)
  exact (nn_tops r x t (y.1 + 1) _ ht).symm
theorem free_le {r : Rl} {x : Str} {n : Nat} {a : Int} {q : Fo} (hq : q ∈ WA r x n a) {y : Int × Int} (hy : y ∈ q) : freeI y (strC q y.1 y.2) ≤ y.2 - y.1 - 1 := by
  have f := fo4_of r x n a q hq
  unfold freeI wid
  have : 0 ≤ ((strC q y.1 y.2).map fun y => y.2 - y.1 + 1).sum := by
    have aux : ∀ l : Fo, (∀ z ∈ l, z ∈ q) → 0 ≤ (l.map fun y => y.2 - y.1 + 1).sum := by
      intro l
      induction l with
      | nil => intro _; exact Int.le_refl _
      | cons z l ih =>
        intro h
        rw [List.map_cons, List.sum_cons]
        have h1 := f.inn z (h z (List.mem_cons_self ..))
        have h2 := ih fun w hw => h w (List.mem_cons_of_mem _ hw)
        omega
    exact aux _ fun z hz => str_sub q y.1 y.2 z hz
  omega
theorem tops_len : ∀ q : Fo, (tops q).length ≤ q.length
  | [] => Nat.le_refl _
  | y :: q => by
    have aux : ∀ (z : Int) (q : Fo), (topF z q).length ≤ q.length := by
      intro z q
      induction q generalizing z with
      | nil => exact Nat.le_refl _
      | cons y q ih =>
        rw [topF]
        split
        · rw [List.length_cons, List.length_cons]
          have := ih (y.2 + 1)
          omega
        · rw [List.length_cons]
          have := ih z
          omega
    rw [tops, List.length_cons, List.length_cons]
    have := aux (y.2 + 1) q
    omega
def woV (r : Rl) (x : Str) (qs : Fo) : Int := (qs.map fun y => pwI r.prs (tx2 x y)).sum + (qs.map fun y => lpW r x y (strC qs y.1 y.2)).sum + ((tops qs).length : Int) * lo r 8
abbrev Row : Type := Int × Int × Str × Int × Int
def RowAt (H : Hp) (v : V) (y : Row) : Prop := ∃ a, v = .ref a ∧ H a = some (.tup [.int y.1, .int y.2.1, .str y.2.2.1, .int y.2.2.2.1, .int y.2.2.2.2])
theorem RowAt.mono : Mono RowAt := fun H H' v x k ⟨a, e, h⟩ => ⟨a, e, k _ _ h⟩
def lpR (r : Rl) (x : Str) (qs : List (Int × Int)) (one : Int × Int) : Row := (one.1, one.2, kindN (freeI one (strC qs one.1 one.2)) (strC qs one.1 one.2).length, freeI one (strC qs one.1 one.2), lpW r x one (strC qs one.1 one.2))
section
variable {P : Program} {w : World} {K : PySem.W.Frag} {mg : Str → Option Value} {base : Heap}
abbrev s_straight_within : Stmt := topS 15
theorem sc_straight_within : FnScope ["folding", "pair", "found", "i", "j", "inside"] ["folding", "pair"] (defScope s_straight_within) :=
  ⟨rfl, rfl, rfl, by decide +kernel, rfl, by decide +kernel, by decide +kernel⟩
def spWithin : Sp := fun vs H Q _ => ∃ (vf vp : V) (ps : List (Int × Int)) (pr : Option (Int × Int)), vs = [vf, vp] ∧ TupOf TwoAt H vf ps ∧ ps.length ≤ 1000 ∧ OneAt H vp pr ∧
  ∀ (l : Addr) (us : List V) (H' : Hp), H l = none → H' l = some (.lst us) → Paired (TwoAt H') us (swL pr ps) → Ext H H' → Q (.ref l) H'
theorem ok_within {f : Addr} {fd : FuncData} {k : Nat} (F : Fun K "straight_within" "straight_within" s_straight_within f fd) : FnOk P w K mg base CX0 (k + 1) f fd ["folding", "pair"] spWithin := by
  refine F.ok sc_straight_within (fun vs H Q E h => ?_) (fun cdv A outer s H vs Q E hr h => ?_)
  · obtain ⟨vf, vp, ps, pr, rfl, _⟩ := h
    rfl
  · obtain ⟨vf, vp, ps, pr, rfl, ⟨af, fs, rfl, hF, hPs⟩, hpl, hpr, q⟩ := h
    refine ⟨_, (pss_cons (ps_set (i := 2) sc_straight_within.nd rfl (.inl rfl) (pe_lst pa_nil))
      (pss_cons (ps_for PassesOwn.never rfl (pi_tup (pv 0)) (pg_tup rfl (pgs_cons (pg_name (i := 3) sc_straight_within.nd rfl (.inl rfl)) (pgs_cons (pg_name (i := 4) sc_straight_within.nd rfl (.inl rfl)) pgs_nil))) (pss_cons (ps_set (i := 5) sc_straight_within.nd rfl (.inl rfl) (pe_or (pe_cmpR op_isN (pv 1) pe_non (nomark _)) (pe_one (pe_and (pe_cmpR op_lt (pe_ix (ixT K) (pv 1) pe_int (fun _ _ => rfl)) (pv 3) (nomark _)) (pe_one (pe_cmpR op_lt (pv 4) (pe_ix (ixT K) (pv 1) pe_int (fun _ _ => rfl)) (nomark _)))))))
      (pss_one (ps_if (PW.pt (pw_and (pt_val (pv 5)) (pw_and1 (PW.pt (pw_or (pt_not (pt_truth (pv 2) (by intro _; rfl))) (pw_or1 (pt_cmpR op_lt (pe_ix (ixT K) (pe_ix (ixL K) (pv 2) (pe_un un_neg pe_int) (fun _ _ => rfl)) pe_int (fun _ _ => rfl)) (pv 3) (nomark _)))))))) (pss_one (ps_expr (pe_bm PySem.F.plainAttrs_list PySem.F.slot_list_append PySem.F.type_list_append mt_append (pv 2) (pa_cons (pe_tup (pa_cons (pv 3) (pa_cons (pv 4) pa_nil))) pa_nil)))) pss_nil))))
      (pss_one (ps_ret (pv 2))))), ?_⟩
    have hfl := paired_len hPs
    refine ⟨Nat.zero_le _, fun l hl => ?_⟩
    refine ⟨_, rfl, af, rfl, ⟨_, SqT.of (Ext.new hl _ _ hF)⟩, for_tup (xs := fs) (fun i σ H2 => ∃ (y3 y4 y5 : Option V) (us : List V), σ = [some (.ref af), some vp, some (.ref l), y3, y4, y5] ∧ H2 l = some (.lst us) ∧ Paired (TwoAt H2) us ((ps.take i).foldl (gstep pr) []) ∧ Ext H H2)
      ⟨none, none, none, [], rfl, upd_same, .nil, Ext.new hl⟩ (fun i σ H2 _ ⟨_, _, _, _, _, _, _, k⟩ => SqT.of (k _ _ hF)) (fun i u σ H2 hi hv => ?_) (fun σ H2 hv => ?_)⟩
    · obtain ⟨y3, y4, y5, us, rfl, hL2, hPr, k2⟩ := hv
      obtain ⟨⟨a, b⟩, hx, a1, rfl, ha1⟩ := paired_get hPs hi
      rw [fold_take hx]
      have hus := paired_len hPr
      have hul : us.length ≤ 1000 := by
        have := fold_len pr (ps.take i) []
        rw [List.length_take, List.length_nil] at this
        omega
      refine ⟨a1, _, rfl, SqT.of (k2 _ _ ha1), rfl, _, _, rfl, _, _, rfl, rfl, ?_⟩
      generalize (ps.take i).foldl (gstep pr) [] = acc at hPr hus
      cases pr with
      | none =>
        obtain rfl : vp = .non := hpr
        have hI : ins none (a, b) = true := rfl
        generalize (none : Option (Int × Int)) = pr at hI ⊢
        refine ⟨_, rfl, rfl, _, rfl, iteT ?_⟩
        refine ⟨_, rfl, _, rfl, ite2 (fun e => ?_) (fun e => ?_)⟩
        · have hI' : ins pr (a, b) = true := hI.trans e
          refine ⟨_, rfl, _, .inl ⟨us, SqL.of hL2, rfl⟩, ?_⟩
          cases us with
          | nil =>
            cases hPr
            refine iteT ?_
            refine iteT ?_
            refine ⟨_, rfl, .inl ⟨rfl, _, SqL.of hL2⟩, _, rfl, _, rfl, szL (show 2 ≤ 1000000 by decide), fun t ht => ?_⟩
            have e8 := Ext.new (o := .tup [.int a, .int b]) ht
            refine ⟨l, _, _, rfl, rfl, e8 _ _ hL2, szLt (show 0 < 1000000 by decide), ?_⟩
            refine ⟨_, _, _, [.ref t], rfl, upd_same, ?_, (k2.trans e8).put hl⟩
            unfold gstep
            rw [if_pos (by rw [hI']; rfl)]
            refine .cons ⟨t, rfl, ?_⟩ .nil
            rw [upd_ne (ne_of_none hL2 ht).symm, upd_same]
          | cons u0 us0 =>
            refine iteF ?_
            obtain ⟨ak, qk, hat, hak, hlast⟩ := last_at hPr (by rw [List.length_cons]; omega)
            have hfit : fits acc (a, b) = decide (qk.2 < a) := by
              rw [fits_last, hlast]
              rfl
            refine ⟨_, rfl, 1, rfl, l, _, -1, _, rfl, rfl, SqL.of hL2, hat, ak, _, 1, _, rfl, rfl, SqT.of hak, rfl, _, rfl, _, _, rfl, rfl, _, rfl, ite2 (fun e2 => ?_) (fun e2 => ?_)⟩
            · refine ⟨_, rfl, .inl ⟨rfl, _, SqL.of hL2⟩, _, rfl, _, rfl, szL (show 2 ≤ 1000000 by decide), fun t ht => ?_⟩
              have e8 := Ext.new (o := .tup [.int a, .int b]) ht
              have hL8 := e8 _ _ hL2
              refine ⟨l, _, _, rfl, rfl, hL8, szLt (by omega), ?_⟩
              refine ⟨_, _, _, (u0 :: us0) ++ [.ref t], rfl, upd_same, ?_, (k2.trans e8).put hl⟩
              unfold gstep
              rw [if_pos (by rw [hI', hfit]; exact e2)]
              refine (paired_imp (fun _ _ => TwoAt.mono _ _ _ _ ((TupK.ext e8).trans (TupK.lst hL8))) hPr).snoc ⟨t, rfl, ?_⟩
              rw [upd_ne (ne_of_none hL2 ht).symm, upd_same]
            · refine ⟨_, _, _, u0 :: us0, rfl, hL2, ?_, k2⟩
              unfold gstep
              rw [if_neg (by rw [hI', hfit]; exact e2)]
              exact hPr
        · have hI' : ins pr (a, b) = false := hI.trans (Bool.eq_false_iff.mpr e)
          refine ⟨_, _, _, us, rfl, hL2, ?_, k2⟩
          unfold gstep
          rw [if_neg (by rw [hI']; exact Bool.false_ne_true)]
          exact hPr
      | some q0 =>
        obtain ⟨ap, rfl, hap⟩ : TwoAt H vp q0 := hpr
        refine ⟨_, rfl, rfl, _, rfl, ?_⟩
        rw [decide_eq_false (show ¬ V.ref ap = V.non from fun z => by cases z)]
        refine iteF ⟨_, rfl, ap, _, 0, _, rfl, rfl, SqT.of (k2 _ _ hap), rfl, _, rfl, _, _, rfl, rfl, _, rfl, ite2 (fun e0 => ?_) (fun e0 => ?_)⟩
        · have hI : ins (some q0) (a, b) = decide (b < q0.2) := by
            show (decide (q0.1 < a) && decide (b < q0.2)) = _
            have e0 : decide (q0.1 < a) = true := e0
            rw [e0, Bool.true_and]
          refine ⟨_, rfl, _, rfl, ap, _, 1, _, rfl, rfl, SqT.of (k2 _ _ hap), rfl, _, _, rfl, rfl, ?_⟩
          generalize (some q0 : Option (Int × Int)) = pr at hI ⊢
          refine ⟨_, rfl, _, rfl, ite2 (fun e => ?_) (fun e => ?_)⟩
          · have hI' : ins pr (a, b) = true := hI.trans e
            refine ⟨_, rfl, _, .inl ⟨us, SqL.of hL2, rfl⟩, ?_⟩
            cases us with
            | nil =>
              cases hPr
              refine iteT ?_
              refine iteT ?_
              refine ⟨_, rfl, .inl ⟨rfl, _, SqL.of hL2⟩, _, rfl, _, rfl, szL (show 2 ≤ 1000000 by decide), fun t ht => ?_⟩
              have e8 := Ext.new (o := .tup [.int a, .int b]) ht
              refine ⟨l, _, _, rfl, rfl, e8 _ _ hL2, szLt (show 0 < 1000000 by decide), ?_⟩
              refine ⟨_, _, _, [.ref t], rfl, upd_same, ?_, (k2.trans e8).put hl⟩
              unfold gstep
              rw [if_pos (by rw [hI']; rfl)]
              refine .cons ⟨t, rfl, ?_⟩ .nil
              rw [upd_ne (ne_of_none hL2 ht).symm, upd_same]
            | cons u0 us0 =>
              refine iteF ?_
              obtain ⟨ak, qk, hat, hak, hlast⟩ := last_at hPr (by rw [List.length_cons]; omega)
              have hfit : fits acc (a, b) = decide (qk.2 < a) := by
                rw [fits_last, hlast]
                rfl
              refine ⟨_, rfl, 1, rfl, l, _, -1, _, rfl, rfl, SqL.of hL2, hat, ak, _, 1, _, rfl, rfl, SqT.of hak, rfl, _, rfl, _, _, rfl, rfl, _, rfl, ite2 (fun e2 => ?_) (fun e2 => ?_)⟩
              · refine ⟨_, rfl, .inl ⟨rfl, _, SqL.of hL2⟩, _, rfl, _, rfl, szL (show 2 ≤ 1000000 by decide), fun t ht => ?_⟩
                have e8 := Ext.new (o := .tup [.int a, .int b]) ht
                have hL8 := e8 _ _ hL2
                refine ⟨l, _, _, rfl, rfl, hL8, szLt (by omega), ?_⟩
                refine ⟨_, _, _, (u0 :: us0) ++ [.ref t], rfl, upd_same, ?_, (k2.trans e8).put hl⟩
                unfold gstep
                rw [if_pos (by rw [hI', hfit]; exact e2)]
                refine (paired_imp (fun _ _ => TwoAt.mono _ _ _ _ ((TupK.ext e8).trans (TupK.lst hL8))) hPr).snoc ⟨t, rfl, ?_⟩
                rw [upd_ne (ne_of_none hL2 ht).symm, upd_same]
              · refine ⟨_, _, _, u0 :: us0, rfl, hL2, ?_, k2⟩
                unfold gstep
                rw [if_neg (by rw [hI', hfit]; exact e2)]
                exact hPr
          · have hI' : ins pr (a, b) = false := hI.trans (Bool.eq_false_iff.mpr e)
            refine ⟨_, _, _, us, rfl, hL2, ?_, k2⟩
            unfold gstep
            rw [if_neg (by rw [hI']; exact Bool.false_ne_true)]
            exact hPr
        · have hI : ins (some q0) (a, b) = false := by
            show (decide (q0.1 < a) && decide (b < q0.2)) = _
            have e0 : decide (q0.1 < a) = false := Bool.eq_false_iff.mpr e0
            rw [e0, Bool.false_and]
          generalize (some q0 : Option (Int × Int)) = pr at hI ⊢
          refine ⟨_, rfl, _, rfl, ite2 (fun e => ?_) (fun e => ?_)⟩
          · have hI' : ins pr (a, b) = true := hI.trans e
            refine ⟨_, rfl, _, .inl ⟨us, SqL.of hL2, rfl⟩, ?_⟩
            cases us with
            | nil =>
              cases hPr
              refine iteT ?_
              refine iteT ?_
              refine ⟨_, rfl, .inl ⟨rfl, _, SqL.of hL2⟩, _, rfl, _, rfl, szL (show 2 ≤ 1000000 by decide), fun t ht => ?_⟩
              have e8 := Ext.new (o := .tup [.int a, .int b]) ht
              refine ⟨l, _, _, rfl, rfl, e8 _ _ hL2, szLt (show 0 < 1000000 by decide), ?_⟩
              refine ⟨_, _, _, [.ref t], rfl, upd_same, ?_, (k2.trans e8).put hl⟩
              unfold gstep
              rw [if_pos (by rw [hI']; rfl)]
              refine .cons ⟨t, rfl, ?_⟩ .nil
              rw [upd_ne (ne_of_none hL2 ht).symm, upd_same]
            | cons u0 us0 =>
              refine iteF ?_
              obtain ⟨ak, qk, hat, hak, hlast⟩ := last_at hPr (by rw [List.length_cons]; omega)
              have hfit : fits acc (a, b) = decide (qk.2 < a) := by
                rw [fits_last, hlast]
                rfl
              refine ⟨_, rfl, 1, rfl, l, _, -1, _, rfl, rfl, SqL.of hL2, hat, ak, _, 1, _, rfl, rfl, SqT.of hak, rfl, _, rfl, _, _, rfl, rfl, _, rfl, ite2 (fun e2 => ?_) (fun e2 => ?_)⟩
              · refine ⟨_, rfl, .inl ⟨rfl, _, SqL.of hL2⟩, _, rfl, _, rfl, szL (show 2 ≤ 1000000 by decide), fun t ht => ?_⟩
                have e8 := Ext.new (o := .tup [.int a, .int b]) ht
                have hL8 := e8 _ _ hL2
                refine ⟨l, _, _, rfl, rfl, hL8, szLt (by omega), ?_⟩
                refine ⟨_, _, _, (u0 :: us0) ++ [.ref t], rfl, upd_same, ?_, (k2.trans e8).put hl⟩
                unfold gstep
                rw [if_pos (by rw [hI', hfit]; exact e2)]
                refine (paired_imp (fun _ _ => TwoAt.mono _ _ _ _ ((TupK.ext e8).trans (TupK.lst hL8))) hPr).snoc ⟨t, rfl, ?_⟩
                rw [upd_ne (ne_of_none hL2 ht).symm, upd_same]
              · refine ⟨_, _, _, u0 :: us0, rfl, hL2, ?_, k2⟩
                unfold gstep
                rw [if_neg (by rw [hI', hfit]; exact e2)]
                exact hPr
          · have hI' : ins pr (a, b) = false := hI.trans (Bool.eq_false_iff.mpr e)
            refine ⟨_, _, _, us, rfl, hL2, ?_, k2⟩
            unfold gstep
            rw [if_neg (by rw [hI']; exact Bool.false_ne_true)]
            exact hPr
    · obtain ⟨y3, y4, y5, us, rfl, hL2, hPr, k2⟩ := hv
      rw [List.take_of_length_le (by omega)] at hPr
      exact ⟨_, rfl, q l us H2 hl hL2 hPr k2⟩
abbrev CWithin (P : Program) (w : World) (K : PySem.W.Frag) (mg : Str → Option Value) (base : Heap) : Prop := Ca P w K mg base 1 "straight_within" ["folding", "pair"] spWithin
abbrev s_loops_of : Stmt := topS 19
theorem sc_loops_of : FnScope ["rules", "string", "folding", "pair"] ["rules", "string", "folding"] (defScope s_loops_of) :=
  ⟨rfl, rfl, rfl, by decide +kernel, rfl, by decide +kernel, by decide +kernel⟩
def spLoops : Sp := fun vs H Q _ => ∃ (v vf : V) (r : Rl) (x : Str) (qs : Fo) (r0 : Rl), vs = [v, .str x, vf] ∧ RulesW H v r ∧ RlOk r ∧ x.length ≤ 1000 ∧ TupOf TwoAt H vf qs ∧ x.length ≤ 12 ∧ qs ∈ WA r0 x x.length 0 ∧
  ∀ (l : Addr) (us : List V) (H' : Hp), H' l = some (.lst us) → Paired (RowAt H') us (qs.map (lpR r x qs)) → H l = none → Ext H H' → Q (.ref l) H'
theorem ok_loops {f : Addr} {fd : FuncData} (F : Fun K "loops_of" "loops_of" s_loops_of f fd) (cloop_within : CLoopW P w K mg base) (cstraight_within : CWithin P w K mg base) : FnOk P w K mg base CX0 3 f fd ["rules", "string", "folding"] spLoops := by
  refine F.ok sc_loops_of (fun vs H Q E h => ?_) (fun cdv A outer s H vs Q E hr h => ?_)
  · obtain ⟨v, vf, r, x, qs, r0, rfl, _⟩ := h
    rfl
  · obtain ⟨v, vf, r, x, qs, r0, rfl, hRu, ok, hx, ⟨af, fs, rfl, hF, hPf⟩, hx12, hq, q⟩ := h
    have hWi := WA_in r0 x x.length 0 qs hq
    have hql : qs.length ≤ 1000 := by omega
    refine ⟨_, (pss_one (ps_ret (pe_lc (own := [("pair", 3)]) (g := gName 3) (by rfl) sc_loops_of.nd (pi_tup (pv 2)) (blkOk_by (own := [("pair", 3)]) (N := ["rules", "string", "folding", "pair"]) (sc := defScope s_loops_of) (by decide +kernel)) (fun _ _ _ _ _ => (pg_name (i := 3) sc_loops_of.nd rfl (.inl rfl))) (fun _ _ _ _ _ => pts_nil) (fun _ _ _ _ _ => (pe_op (catT K) (pv 3) (pe_ca cloop_within (hr.mono (by decide)) (by rfl) (pa_cons (pv 0) (pa_cons (pv 1) (pa_cons (pv 3) (pa_cons (pe_ca cstraight_within (hr.mono (by decide)) (by rfl) (pa_cons (pv 2) (pa_cons (pv 3) pa_nil))) pa_nil)))))))))), ?_⟩
    have hfl := paired_len hPf
    have hInX : InX x qs := fun y hy => by
      have := hWi.1 y hy
      omega
    refine ⟨_, rfl, af, rfl, ⟨_, SqT.of hF⟩, fun D hD => lc_tup (K := K) (xs := fs) (fun i H2 => ∃ us : List V, H2 D = some (.lst us) ∧ Paired (RowAt H2) us ((qs.take i).map (lpR r x qs)) ∧ Ext H H2)
      ⟨[], upd_same, .nil, Ext.new hD⟩ (fun i H2 _ ⟨_, _, _, k⟩ => SqT.of (k _ _ hF)) (fun i u H2 hi' hv => ?_) (fun H2 hv => ?_)⟩
    · obtain ⟨us, hL2, hPr2, k2⟩ := hv
      obtain ⟨one, hone, a1, rfl, ha1⟩ := paired_get hPf hi'
      have hm1 := List.mem_of_getElem? hone
      have hb1 := hWi.1 one hm1
      have hfr : 0 ≤ freeI one (strC qs one.1 one.2) ∧ freeI one (strC qs one.1 one.2) ≤ one.2 - one.1 - 1 := ⟨free_nn hq hm1, free_le hq hm1⟩
      have hkl := str_len qs one.1 one.2
      have hul := paired_len hPr2
      rw [List.length_map, List.length_take] at hul
      have hil : i < fs.length := (List.getElem?_eq_some_iff.mp hi').1
      refine ⟨rfl, _, rfl, _, rfl, _, rfl, _, rfl, _, rfl, _, rfl, .ref af, .ref a1, qs, some one, rfl, ⟨af, fs, rfl, k2 _ _ hF, paired_imp (fun _ _ => TwoAt.mono _ _ _ _ (TupK.ext k2)) hPf⟩, hql, ⟨a1, rfl, k2 _ _ ha1⟩, fun l ws H3 hl hL3 hPr3 k3 => ?_⟩
      have k23 := k2.trans k3
      rw [sw_some hq hm1] at hPr3
      refine ⟨v, r, x, a1, l, one, ws, _, rfl, RulesW.mono _ _ _ _ (TupK.ext k23) hRu, ok, hx, k23 _ _ ha1, hL3, hPr3, by omega, fun y hy => ?_, fun y hy => hInX y (str_sub qs one.1 one.2 y hy), hfr.1, by omega, fun a H4 hA4 k4 => ?_⟩
      · rw [List.mem_singleton.mp hy]
        exact hInX one hm1
      · have k14 := k3.trans k4
        refine ⟨a1, a, _, _, rfl, rfl, SqT.of (k4 _ _ (k23 _ _ ha1)), SqT.of hA4, by (intro z; cases z), szL (show 5 ≤ 1000000 by decide), (fun z => by cases z), fun _ p hp => ⟨us, Ext.new hp _ _ (k14 _ _ hL2), szLt (by omega), us ++ [.ref p], upd_same, ?_, ((k2.trans k14).trans (Ext.new hp)).put hD⟩⟩
        have e5 := Ext.new (o := .tup ([.int one.1, .int one.2] ++ [.str (kindN (freeI one (strC qs one.1 one.2)) (strC qs one.1 one.2).length), .int (freeI one (strC qs one.1 one.2)), .int (lpW r x one (strC qs one.1 one.2))])) hp
        have hL5 := e5 _ _ (k14 _ _ hL2)
        have tk := (TupK.ext (k14.trans e5)).trans (TupK.lst (o := .lst (us ++ [.ref p])) hL5)
        rw [List.take_add_one, hone, List.map_append]
        refine (paired_imp (fun _ _ => RowAt.mono _ _ _ _ tk) hPr2).snoc ⟨p, rfl, ?_⟩
        rw [upd_ne (ne_of_none (k14 _ _ hL2) hp).symm, upd_same]
        rfl
    · obtain ⟨us, hL2, hPr2, k2⟩ := hv
      rw [List.take_of_length_le (by omega)] at hPr2
      exact q D us H2 hL2 hPr2 hD k2
abbrev CLoops (P : Program) (w : World) (K : PySem.W.Frag) (mg : Str → Option Value) (base : Heap) : Prop := Ca P w K mg base 3 "loops_of" ["rules", "string", "folding"] spLoops
abbrev s_worth_of : Stmt := topS 20
theorem sc_worth_of : FnScope ["rules", "string", "folding", "pairs", "loops", "pair", "loop"] ["rules", "string", "folding"] (defScope s_worth_of) :=
  ⟨rfl, rfl, rfl, by decide +kernel, rfl, by decide +kernel, by decide +kernel⟩
def spWO : Sp := fun vs H Q _ => ∃ (v vf : V) (r : Rl) (x : Str) (qs : Fo) (r0 : Rl), vs = [v, .str x, vf] ∧ RulesW H v r ∧ RlOk r ∧ x.length ≤ 1000 ∧ TupOf TwoAt H vf qs ∧ x.length ≤ 12 ∧ qs ∈ WA r0 x x.length 0 ∧ (∀ y ∈ qs, tx2 x y ∈ r.prs.map (·.1)) ∧ ∀ H', Ext H H' → Q (.int (woV r x qs)) H'
theorem ok_wo {f : Addr} {fd : FuncData} (F : Fun K "worth_of" "worth_of" s_worth_of f fd) (cpair_worth : CPW P w K mg base) (ctext_of : CTx P w K mg base) (cloops_of : CLoops P w K mg base) (cstraight_within : CWithin P w K mg base) (cloop_worths : CLW P w K mg base) (msum : mg "sum" = none) (mlen : mg "len" = none) : FnOk P w K mg base CX0 4 f fd ["rules", "string", "folding"] spWO := by
  refine F.ok sc_worth_of (fun vs H Q E h => ?_) (fun cdv A outer s H vs Q E hr h => ?_)
  · obtain ⟨v, vf, r, x, qs, r0, rfl, _⟩ := h
    rfl
  · obtain ⟨v, vf, r, x, qs, r0, rfl, hRu, ok, hx, ⟨af, fs, rfl, hF, hPf⟩, hx12, hq, hMy, q⟩ := h
    have hWi := WA_in r0 x x.length 0 qs hq
    have hql : qs.length ≤ 1000 := by omega
    refine ⟨_, (pss_cons (ps_set (i := 3) sc_worth_of.nd rfl (.inl rfl) (pe_callB (sumI K) (by rfl) msum (by decide +kernel) (pa_cons (pe_lc (own := [("pair", 5)]) (g := gName 5) (by rfl) sc_worth_of.nd (pi_tup (pv 2)) (blkOk_by (own := [("pair", 5)]) (N := ["rules", "string", "folding", "pairs", "loops", "pair", "loop"]) (sc := defScope s_worth_of) (by decide +kernel)) (fun _ _ _ _ _ => (pg_name (i := 5) sc_worth_of.nd rfl (.inl rfl))) (fun _ _ _ _ _ => pts_nil) (fun _ _ _ _ _ => (pe_ca cpair_worth (hr.mono (by decide)) (by rfl) (pa_cons (pv 0) (pa_cons (pe_ca ctext_of (hr.mono (by decide)) (by rfl) (pa_cons (pv 1) (pa_cons (pv 5) pa_nil))) pa_nil))))) pa_nil)))
      (pss_cons (ps_set (i := 4) sc_worth_of.nd rfl (.inl rfl) (pe_callB (sumI K) (by rfl) msum (by decide +kernel) (pa_cons (pe_lc (own := [("loop", 6)]) (g := gName 6) (by rfl) sc_worth_of.nd (pi_list (pe_ca cloops_of (hr.mono (by decide)) (by rfl) (pa_cons (pv 0) (pa_cons (pv 1) (pa_cons (pv 2) pa_nil))))) (blkOk_by (own := [("loop", 6)]) (N := ["rules", "string", "folding", "pairs", "loops", "pair", "loop"]) (sc := defScope s_worth_of) (by decide +kernel)) (fun _ _ _ _ _ => (pg_name (i := 6) sc_worth_of.nd rfl (.inl rfl))) (fun _ _ _ _ _ => pts_nil) (fun _ _ _ _ _ => (pe_ix (ixT K) (pv 6) pe_int (fun _ _ => rfl)))) pa_nil)))
      (pss_one (ps_ret (pe_op op_add (pe_op op_add (pv 3) (pv 4)) (pe_op op_mul (pe_callB (lenQ K) (by rfl) mlen (by decide +kernel) (pa_cons (pe_ca cstraight_within (hr.mono (by decide)) (by rfl) (pa_cons (pv 2) (pa_cons pe_non pa_nil))) pa_nil)) (pe_dget (hu_of hr) (pe_ca cloop_worths (hr.mono (by decide)) (by rfl) (pa_cons (pv 0) pa_nil)) pe_str (fun _ _ => rfl)))))))), ?_⟩
    have hfl := paired_len hPf
    have hInX : InX x qs := fun y hy => by
      have := hWi.1 y hy
      omega
    refine ⟨_, rfl, af, rfl, ⟨_, SqT.of hF⟩, fun D hD => lc_tup (K := K) (xs := fs) (fun i H2 => H2 D = some (.lst (((qs.take i).map fun y => pwI r.prs (tx2 x y)).map V.int)) ∧ Ext H H2)
      ⟨upd_same, Ext.new hD⟩ (fun i H2 _ ⟨_, k⟩ => SqT.of (k _ _ hF)) (fun i u H2 hi' hv => ?_) (fun H2 hv => ?_)⟩
    · obtain ⟨hL2, k2⟩ := hv
      obtain ⟨one, hone, a1, rfl, ha1⟩ := paired_get hPf hi'
      have hm1 := List.mem_of_getElem? hone
      have in1 := hInX one hm1
      have hil : i < fs.length := (List.getElem?_eq_some_iff.mp hi').1
      refine ⟨rfl, _, rfl, _, rfl, _, rfl, x, a1, one, rfl, k2 _ _ ha1, hx, in1.1, in1.2.1, in1.2.2.1, in1.2.2.2, v, r, _, rfl, RulesW.mono _ _ _ _ (TupK.ext k2) hRu, ?_⟩
      rw [pwV_int (hMy one hm1)]
      refine ⟨_, hL2, szLt ?_, ?_, k2.put hD⟩
      · rw [List.length_map, List.length_map, List.length_take]
        omega
      · rw [upd_same, List.take_add_one, hone, List.map_append, List.map_append]
        rfl
    · obtain ⟨hL2, k2⟩ := hv
      rw [List.take_of_length_le (by omega)] at hL2
      refine ⟨D, _, rfl, SqL.of hL2, ?_⟩
      refine ⟨_, rfl, _, rfl, _, rfl, v, .ref af, r, x, qs, r0, rfl, RulesW.mono _ _ _ _ (TupK.ext k2) hRu, ok, hx, ⟨af, fs, rfl, k2 _ _ hF, paired_imp (fun _ _ => TwoAt.mono _ _ _ _ (TupK.ext k2)) hPf⟩, hx12, hq, fun l us H3 hL3 hPr3 hl k3 => ?_⟩
      have hul := paired_len hPr3
      rw [List.length_map] at hul
      refine ⟨l, rfl, ⟨_, SqL.of hL3⟩, fun D2 hD2 => lc_list (K := K) (xs := us) (fun i H4 => H4 D2 = some (.lst (((qs.take i).map fun y => lpW r x y (strC qs y.1 y.2)).map V.int)) ∧ Ext H3 H4)
        ⟨upd_same, Ext.new hD2⟩ (fun i H4 _ ⟨_, k⟩ => SqL.of (k _ _ hL3)) (fun i u H4 hi' hv => ?_) (fun H4 hv => ?_)⟩
      · obtain ⟨hL4, k4⟩ := hv
        obtain ⟨row, hrow, a1, rfl, ha1⟩ := paired_get hPr3 hi'
        have hil : i < us.length := (List.getElem?_eq_some_iff.mp hi').1
        obtain ⟨one, hone, e1⟩ : ∃ one, qs[i]? = some one ∧ lpR r x qs one = row := by
          rw [List.getElem?_map, List.getElem?_eq_getElem (show i < qs.length by omega)] at hrow
          exact ⟨_, List.getElem?_eq_getElem (show i < qs.length by omega), Option.some.inj hrow⟩
        subst e1
        refine ⟨rfl, _, rfl, a1, _, 4, _, rfl, rfl, SqT.of (k4 _ _ ha1), rfl, _, hL4, szLt ?_, ?_, k4.put hD2⟩
        · rw [List.length_map, List.length_map, List.length_take]
          omega
        · rw [upd_same, List.take_add_one, hone, List.map_append, List.map_append]
          rfl
      · obtain ⟨hL4, k4⟩ := hv
        rw [List.take_of_length_le (by omega)] at hL4
        have k04 := (k2.trans k3).trans k4
        refine ⟨D2, _, rfl, SqL.of hL4, ?_⟩
        refine ⟨_, rfl, _, rfl, _, _, rfl, rfl, _, rfl, .ref af, .non, qs, none, rfl, ⟨af, fs, rfl, k04 _ _ hF, paired_imp (fun _ _ => TwoAt.mono _ _ _ _ (TupK.ext k04)) hPf⟩, hql, rfl, fun l5 us5 H5 hl5 hL5 hPr5 k5 => ?_⟩
        rw [sw_none] at hPr5
        have h5l := paired_len hPr5
        have hol := tops_len qs
        have l8 := lo_bound ok (show 8 < 9 by decide)
        refine ⟨l5, us5, rfl, .inl (SqL.of hL5), _, rfl, v, r, rfl, RulesW.mono _ _ _ _ (TupK.ext (k04.trans k5)) hRu, ok.lo9, fun d hd => ?_⟩
        refine ⟨d, _, rfl, get_lo upd_same ok.lo9 (i := 8) (by decide +kernel), _, _, rfl, rfl, .inl ⟨by omega, by omega⟩, _, _, rfl, rfl, ?_⟩
        rw [h5l]
        exact q _ ((k04.trans k5).trans (Ext.new hd))
abbrev CWO (P : Program) (w : World) (K : PySem.W.Frag) (mg : Str → Option Value) (base : Heap) : Prop := Ca P w K mg base 4 "worth_of" ["rules", "string", "folding"] spWO
end
end Pf


namespace Pf
open PySem PySem.Spec PyProof.Rows L2
/-! ### the stretches told -/
def ToldAt (H : Hp) (r : Rl) (x : Str) (kvs : List (List Key × V)) (a b : Int) : Prop := ∃ l us, valV kvs [.inl a, .inl b] = some (.ref l) ∧ H l = some (.lst us) ∧ Paired (FoAt H) us (WA r x (b + 1 - a).toNat a)
theorem ToldAt.ext {H H' : Hp} {r : Rl} {x : Str} {kvs : List (List Key × V)} {a b : Int} (k : Ext H H') (h : ToldAt H r x kvs a b) : ToldAt H' r x kvs a b := by
  obtain ⟨l, us, e1, e2, e3⟩ := h
  exact ⟨l, us, e1, k _ _ e2, paired_imp (fun _ _ => FoAt.mono _ _ _ _ (TupK.ext k)) e3⟩
section
variable {P : Program} {w : World} {K : PySem.W.Frag} {mg : Str → Option Value} {base : Heap}
end
end Pf


namespace Pf
open PySem PySem.Spec PyProof.Rows L2
theorem tk_dT {H : Hp} {D : Addr} {o : HO} {kvs : List (List Key × V)} (h : H D = some (.dT kvs)) : TupK H (upd H D o) := ⟨fun b xs e => by rw [upd_ne (ne_of e h (by intro z; cases z))]; exact e, fun b o u e => by rw [upd_ne (ne_of e h (by intro z; cases z))]; exact e⟩
/-- one stretch more -/
theorem told_put {H : Hp} {r : Rl} {x : Str} {kvs : List (List Key × V)} {D l : Addr} {a b i j : Int} {us : List V} (hD : H D = some (.dT kvs)) (hl : H l = some (.lst us)) (hP : Paired (FoAt H) us (WA r x (j + 1 - i).toNat i)) (h : (a = i ∧ b = j) ∨ ToldAt H r x kvs a b) : ToldAt (upd H D (.dT (putK kvs [.inl i, .inl j] (.ref l)))) r x (putK kvs [.inl i, .inl j] (.ref l)) a b := by
  have tk := tk_dT (o := .dT (putK kvs [.inl i, .inl j] (.ref l))) hD
  by_cases c : a = i ∧ b = j
  · obtain ⟨rfl, rfl⟩ := c
    exact ⟨l, us, by rw [valV_put, if_pos rfl], by rw [upd_ne (ne_of hl hD (by intro z; cases z))]; exact hl, paired_imp (fun _ _ => FoAt.mono _ _ _ _ tk) hP⟩
  · rcases h with h | ⟨l', us', e1, e2, e3⟩
    · exact absurd h c
    · refine ⟨l', us', ?_, by rw [upd_ne (ne_of e2 hD (by intro z; cases z))]; exact e2, paired_imp (fun _ _ => FoAt.mono _ _ _ _ tk) e3⟩
      rw [valV_put, if_neg (fun z => c ?_)]
      · exact e1
      · cases z
        exact ⟨rfl, rfl⟩
section
variable {P : Program} {w : World} {K : PySem.W.Frag} {mg : Str → Option Value} {base : Heap}
end
end Pf


namespace Pf
open PySem PySem.Spec PyProof.Rows L2
def stF (stk : List (Str × Str × Int)) (o n : Str) : List Int := (stk.filter fun z => decide (z.1 = o ∧ z.2.1 = n)).map (·.2.2)
theorem stF_no : ∀ {stk : List (Str × Str × Int)} {o n : Str}, (o, n) ∉ stk.map (fun z => (z.1, z.2.1)) → stF stk o n = []
  | [], _, _, _ => rfl
  | z :: r, o, n, h => by
    rw [List.map_cons, List.mem_cons, not_or] at h
    unfold stF
    rw [List.filter_cons_of_neg (p := fun z : Str × Str × Int => decide (z.1 = o ∧ z.2.1 = n)) (by
      intro e
      have e := of_decide_eq_true e
      exact h.1 (by rw [← e.1, ← e.2]))]
    exact stF_no h.2
theorem stF_sum : ∀ {stk : List (Str × Str × Int)} {o n : Str}, (stk.map fun z => (z.1, z.2.1)).Nodup → (stF stk o n).sum = swI stk o n
  | [], _, _, _ => rfl
  | (t, u, x) :: r, o, n, h => by
    rw [List.map_cons, List.nodup_cons] at h
    unfold swI
    by_cases c : t = o ∧ u = n
    · rw [if_pos c]
      unfold stF
      rw [List.filter_cons_of_pos (p := fun z : Str × Str × Int => decide (z.1 = o ∧ z.2.1 = n)) (decide_eq_true c), List.map_cons, List.sum_cons]
      have := stF_no (stk := r) (o := o) (n := n) (by rw [← c.1, ← c.2]; exact h.1)
      unfold stF at this
      rw [this]
      simp
    · rw [if_neg c, ← stF_sum h.2]
      unfold stF
      rw [List.filter_cons_of_neg (p := fun z : Str × Str × Int => decide (z.1 = o ∧ z.2.1 = n)) (by simpa using c)]
theorem eqv_two (a b c d : Str) : PyData.eqv (.tuple [.str a, .str b]) (.tuple [.str c, .str d]) = decide (a = c ∧ b = d) := by
  simp [PyData.eqv, PyData.eqvAll]
  by_cases h1 : a = c <;> by_cases h2 : b = d <;> simp [h1, h2]
theorem sm_two {a b : Str} (ha : Two a) (hb : Two b) : SeqAt.shaped (.tuple [.str a, .str b]) = true := by
  refine (Sm.tup (n := 2) (m := 2) (k := 0) (M := 1000000) (ds := [.str a, .str b]) (Nat.le_refl 2) (fun d hd => ?_) (by decide)).shaped (by decide)
  rcases List.mem_cons.mp hd with rfl | hd
  · exact Sm.str ha.2.ok (Nat.le_of_eq ha.1)
  · rw [List.mem_singleton.mp hd]
    exact Sm.str hb.2.ok (Nat.le_of_eq hb.1)
theorem getD_in {x : Str} {i : Int} (h0 : 0 ≤ i) (h1 : i < x.length) : x.cps.toList.getD i.toNat 0 ∈ x.cps.toList := by
  have h2 : i.toNat < x.cps.toList.length := by
    rw [Array.length_toList]
    have : i < (x.cps.size : Int) := h1
    omega
  rw [List.getD_eq_getElem?_getD, List.getElem?_eq_getElem h2]
  exact List.getElem_mem _
theorem two_tx {x : Str} {p : Int × Int} (h : Small x) (i0 : 0 ≤ p.1) (i1 : p.1 < x.length) (j0 : 0 ≤ p.2) (j1 : p.2 < x.length) : Two (tx2 x p) := ⟨rfl, (Small.one (h _ (getD_in i0 i1))).app (Small.one (h _ (getD_in j0 j1)))⟩
theorem in_str {b : Str} {ts : List Str} : inV (.str b) (ts.map V.str) = true ↔ b ∈ ts := by
  unfold inV
  rw [List.any_map, List.any_eq_true]
  constructor
  · rintro ⟨t, ht, e⟩
    have e : (t == b) = true := e
    rw [beq_iff_eq] at e
    exact e ▸ ht
  · intro h
    refine ⟨b, h, ?_⟩
    show (b == b) = true
    rw [beq_iff_eq]
def lt2 (a b : Int × Int) : Bool := decide (a.1 < b.1 ∨ (a.1 = b.1 ∧ a.2 < b.2))
theorem may_mem {r : Rl} {x : Str} {i j : Int} (h : mayC r x i j = true) : tx2 x (i, j) ∈ r.prs.map (·.1) := by
  unfold mayC at h
  rw [Bool.and_eq_true] at h
  exact of_decide_eq_true h.2
theorem inV_keys {t : Str} {prs : List (Str × Int)} : inV (.str t) ((prs.map (·.1)).map V.str) = decide (t ∈ prs.map (·.1)) := by
  by_cases h : t ∈ prs.map (·.1)
  · rw [decide_eq_true h, in_str.mpr h]
  · rw [decide_eq_false h]
    cases e : inV (.str t) ((prs.map (·.1)).map V.str) with
    | false => rfl
    | true => exact absurd (in_str.mp e) h
end Pf


namespace Pf
open PySem PySem.Spec PyProof.Rows L2
/-! ### a walk over places -/
theorem topF_here {u : Fo} {z k : Int} (hs : u.Pairwise fun y z => y.1 < z.1) (h : (z, k) ∈ u) (hk : z < k) : topF z u = (z, k) :: topF (k + 1) u := by
  induction u with
  | nil => cases h
  | cons p r ih =>
    rw [List.pairwise_cons] at hs
    rcases List.mem_cons.mp h with e | h
    · subst e
      rw [topF, topF, if_pos (Int.le_refl _), if_neg (by show ¬ k + 1 ≤ z; omega)]
    · have := hs.1 _ h
      have hp : p.1 < z := this
      rw [topF, if_neg (by omega), topF, if_neg (by omega)]
      exact ih hs.2 h
theorem topF_free {u : Fo} {z : Int} (h : ∀ y ∈ u, y.1 ≠ z) : topF z u = topF (z + 1) u := by
  induction u with
  | nil => rfl
  | cons p r ih =>
    have h1 := h p (List.mem_cons_self ..)
    have h2 := ih fun y hy => h y (List.mem_cons_of_mem _ hy)
    rw [topF, topF]
    by_cases c : z ≤ p.1
    · rw [if_pos c, if_pos (by omega)]
    · rw [if_neg c, if_neg (by omega), h2]
theorem topF_end {u : Fo} {z : Int} (h : ∀ y ∈ u, y.1 < z) : topF z u = [] := by
  have := topF_skip (z := z) (u := u) (w := []) h
  rw [List.append_nil] at this
  rw [this]
  rfl
def encM (y : Int × Int) : Key × V := (.inl y.1, .int y.2)
theorem val_mate {q : Fo} (hs : q.Pairwise fun y z => y.1 < z.1) {z k : Int} (h : (z, k) ∈ q) : valV (q.map encM) (.inl z) = some (.int k) := by
  induction q with
  | nil => cases h
  | cons p r ih =>
    rw [List.pairwise_cons] at hs
    rw [List.map_cons]
    rcases List.mem_cons.mp h with e | h
    · subst e
      rw [valV_pos (show (encM (z, k)).1 = Sum.inl z from rfl)]
      rfl
    · have := hs.1 _ h
      rw [valV_neg (show ¬ (encM p).1 = Sum.inl z from fun e => by
        have e : (Sum.inl p.1 : Key) = Sum.inl z := e
        have := Sum.inl.inj e
        omega)]
      exact ih hs.2 h
theorem val_nomate {q : Fo} {z : Int} (h : ∀ y ∈ q, y.1 ≠ z) : valV (q.map encM) (.inl z) = none := by
  induction q with
  | nil => rfl
  | cons p r ih =>
    rw [List.map_cons, valV_neg (show ¬ (encM p).1 = Sum.inl z from fun e => by
      have e : (Sum.inl p.1 : Key) = Sum.inl z := e
      exact h p (List.mem_cons_self ..) (Sum.inl.inj e))]
    exact ih fun y hy => h y (List.mem_cons_of_mem _ hy)
theorem wid_snoc (ks : Fo) (p : Int × Int) : wid (ks ++ [p]) = wid ks + (p.2 - p.1 + 1) := by
  unfold wid
  rw [List.map_append, List.sum_append]
  simp
theorem enc_mates {H : Hp} : ∀ {us : List V} {q : Fo}, Paired (TwoAt H) us q → ∃ pas : List Addr, us = pas.map V.ref ∧ Paired (fun p kv => H p = some (.tup [kV kv.1, kv.2])) pas (q.map encM)
  | _, _, .nil => ⟨[], rfl, .nil⟩
  | _, _, .cons ⟨a1, e1, h1⟩ t => by
    obtain ⟨pas, e, hpp⟩ := enc_mates t
    exact ⟨a1 :: pas, by rw [e1, e]; rfl, .cons h1 hpp⟩
theorem enc_pairs {H : Hp} : ∀ {us : List V} {ps : List (Str × Int)}, Paired (PairAt H) us ps → ∃ pas : List Addr, us = pas.map V.ref ∧ Paired (fun p kv => H p = some (.tup [kV kv.1, kv.2])) pas (ps.map encP)
  | _, _, .nil => ⟨[], rfl, .nil⟩
  | _, _, .cons ⟨a1, e1, h1⟩ t => by
    obtain ⟨pas, e, hpp⟩ := enc_pairs t
    exact ⟨a1 :: pas, by rw [e1, e]; rfl, .cons h1 hpp⟩
theorem merge_mates : ∀ {q : Fo} (_ : q.Pairwise fun y z => y.1 < z.1), mergeK [] (q.map encM) = q.map encM := fun {q} hs => by
  have := merge_nd (q.map encM) [] (by
    rw [List.nil_append, List.map_map]
    refine (List.pairwise_map.mpr ?_)
    exact hs.imp fun {a b} h e => by
      have e : (Sum.inl a.1 : Key) = Sum.inl b.1 := e
      have := Sum.inl.inj e
      omega)
  rw [List.nil_append] at this
  exact this
/-- what is straight within a pair of a folding -/
structure Win (q u : Fo) (i j : Int) : Prop where
  str : strC q i j = tops u
  srt : u.Pairwise fun y z => y.1 < z.1
  mem : ∀ y, y ∈ u ↔ y ∈ q ∧ i < y.1 ∧ y.2 < j
theorem win_of {r : Rl} {x : Str} {q : Fo} (hq : q ∈ WA r x x.length 0) {y : Int × Int} (hy : y ∈ q) : Win q (withinC q y.1 y.2) y.1 y.2 := by
  obtain ⟨t, h1⟩ := within_WA hq hy
  have h4 := fo4_of r x x.length 0 q hq
  refine ⟨?_, h4.srt.filter _, fun z => ?_⟩
  · unfold strC
    exact nn_tops r x _ _ _ h1
  · unfold withinC
    rw [List.mem_filter]
    simp
theorem lpW_val {r : Rl} {x : Str} {one : Int × Int} {ks : Fo} : lpW r x one ks = if ks.length = 0 then lo r 6 + freeI one ks * lo r 7 else if 1 < ks.length then lo r 3 + (ks.length * lo r 4 + freeI one ks * lo r 5) else if 0 < freeI one ks then lo r 1 + freeI one ks * lo r 2 else lo r 0 + swI r.stk (tx2 x one) (tx2 x (ks.headD (0, 0))) := rfl
theorem sumR_take {l : List Int} {c : Nat} {y : Int} (h : l[c]? = some y) : (l.take (c + 1)).sum = (l.take c).sum + y := by
  rw [List.take_add_one, h, List.sum_append]
  simp
section
variable {P : Program} {w : World} {K : PySem.W.Frag} {mg : Str → Option Value} {base : Heap}
abbrev s_law_loop : Stmt := topS 38
theorem sc_law_loop : FnScope ["_law_book_here", "_law_line_here", "_law_mates", "_law_i", "_law_j", "_law_loops", "_law_inner", "_law_free", "_law_at", "_law_p", "_law_q", "_law_both", "_law_row"] ["_law_book_here", "_law_line_here", "_law_mates", "_law_i", "_law_j"] (defScope s_law_loop) :=
  ⟨rfl, rfl, rfl, by decide +kernel, rfl, by decide +kernel, by decide +kernel⟩
def spLoopR : Sp := fun vs H Q _ => ∃ (v : V) (M : Addr) (r : Rl) (x : Str) (q0 : Fo) (one : Int × Int), vs = [v, .str x, .ref M, .int one.1, .int one.2] ∧ RulesAt H v r ∧ RlOk r ∧ x.length ≤ 12 ∧ Of r.letters x ∧ H M = some (.dK (q0.map encM)) ∧ q0 ∈ WA r x x.length 0 ∧ one ∈ q0 ∧
  ∀ (H' : Hp), Ext H H' → Q (.int (lpW r x one (strC q0 one.1 one.2))) H'
theorem ok_loopR {f : Addr} {fd : FuncData} (F : Fun K "_law_loop" "_law_loop" s_law_loop f fd) (mlen : mg "len" = none) (msum : mg "sum" = none) : FnOk P w K mg base CX0 1 f fd ["_law_book_here", "_law_line_here", "_law_mates", "_law_i", "_law_j"] spLoopR := by
  refine F.ok sc_law_loop (fun vs H Q E h => ?_) (fun cdv A outer s H vs Q E hr h => ?_)
  · obtain ⟨v, M, r, x, q0, one, rfl, _⟩ := h
    rfl
  · obtain ⟨v, M, r, x, q0, one, rfl, hR, ok, hx, hO, hM, hq0, hone, q⟩ := h
    refine ⟨_, (pss_cons (ps_set (i := 5) sc_law_loop.nd rfl (.inl rfl) (pe_ix (ixT K) (pv 0) pe_int (fun _ _ => rfl)))
      (pss_cons (ps_set (i := 6) sc_law_loop.nd rfl (.inl rfl) (pe_lst pa_nil))
      (pss_cons (ps_set (i := 7) sc_law_loop.nd rfl (.inl rfl) pe_int)
      (pss_cons (ps_set (i := 8) sc_law_loop.nd rfl (.inl rfl) (pe_op op_add (pv 3) pe_int))
      (pss_cons (ps_while PassesOwn.never (pt_cmpR op_lt (pv 8) (pv 4) (nomark _)) (pss_cons (ps_if (pt_cmp (pc_din (hu_of hr) (pv 8) (pv 2)) rfl) (pss_cons (ps_expr (pe_bm PySem.F.plainAttrs_list PySem.F.slot_list_append PySem.F.type_list_append mt_append (pv 6) (pa_cons (pe_tup (pa_cons (pv 8) (pa_cons (pe_dget (hu_of hr) (pv 2) (pv 8) (fun _ _ => rfl)) pa_nil))) pa_nil)))
      (pss_one (ps_set (i := 8) sc_law_loop.nd rfl (.inl rfl) (pe_dget (hu_of hr) (pv 2) (pv 8) (fun _ _ => rfl))))) (pss_one (ps_set (i := 7) sc_law_loop.nd rfl (.inl rfl) (pe_op op_add (pv 7) pe_int))))
      (pss_one (ps_set (i := 8) sc_law_loop.nd rfl (.inl rfl) (pe_op op_add (pv 8) pe_int)))))
      (pss_cons (ps_if (pt_cmpR (eqD K hr.units) (pv 6) (pe_lst pa_nil) (nomark _)) (pss_one (ps_ret (pe_op op_add (pe_ix (ixT K) (pv 5) pe_int (fun _ _ => rfl)) (pe_op op_mul (pv 7) (pe_ix (ixT K) (pv 5) pe_int (fun _ _ => rfl)))))) pss_nil)
      (pss_cons (ps_if (pt_cmpR op_gt (pe_callB (lenQ K) (by rfl) mlen (by decide +kernel) (pa_cons (pv 6) pa_nil)) pe_int (nomark _)) (pss_one (ps_ret (pe_op op_add (pe_op op_add (pe_ix (ixT K) (pv 5) pe_int (fun _ _ => rfl)) (pe_op op_mul (pe_callB (lenQ K) (by rfl) mlen (by decide +kernel) (pa_cons (pv 6) pa_nil)) (pe_ix (ixT K) (pv 5) pe_int (fun _ _ => rfl)))) (pe_op op_mul (pv 7) (pe_ix (ixT K) (pv 5) pe_int (fun _ _ => rfl)))))) pss_nil)
      (pss_cons (ps_if (pt_cmpR op_gt (pv 7) pe_int (nomark _)) (pss_one (ps_ret (pe_op op_add (pe_ix (ixT K) (pv 5) pe_int (fun _ _ => rfl)) (pe_op op_mul (pv 7) (pe_ix (ixT K) (pv 5) pe_int (fun _ _ => rfl)))))) pss_nil)
      (pss_cons (ps_asg (pe_ix (ixL K) (pv 6) pe_int (fun _ _ => rfl)) (pg_tup rfl (pgs_cons (pg_name (i := 9) sc_law_loop.nd rfl (.inl rfl)) (pgs_cons (pg_name (i := 10) sc_law_loop.nd rfl (.inl rfl)) pgs_nil))))
      (pss_cons (ps_set (i := 11) sc_law_loop.nd rfl (.inr rfl) (pe_tup (pa_cons (pe_op op_add_str (pe_ix ix_str (pv 1) (pv 3) (fun _ _ => rfl)) (pe_ix ix_str (pv 1) (pv 4) (fun _ _ => rfl))) (pa_cons (pe_op op_add_str (pe_ix ix_str (pv 1) (pv 9) (fun _ _ => rfl)) (pe_ix ix_str (pv 1) (pv 10) (fun _ _ => rfl))) pa_nil))))
      (pss_one (ps_ret (pe_op op_add (pe_ix (ixT K) (pv 5) pe_int (fun _ _ => rfl)) (pe_callB (sumI K) (by rfl) msum (by decide +kernel) (pa_cons (pe_lc (own := [("_law_row", 12)]) (g := gName 12) (by rfl) sc_law_loop.nd (pi_tup (pe_ix (ixT K) (pv 0) pe_int (fun _ _ => rfl))) (blkOk_by (own := [("_law_row", 12)]) (N := ["_law_book_here", "_law_line_here", "_law_mates", "_law_i", "_law_j", "_law_loops", "_law_inner", "_law_free", "_law_at", "_law_p", "_law_q", "_law_both", "_law_row"]) (sc := defScope s_law_loop) (by decide +kernel)) (fun _ _ _ _ _ => (pg_name (i := 12) sc_law_loop.nd rfl (.inl rfl))) (fun _ _ _ _ _ => (pts_one (pt_cmpR (eqD K hr.units) (pe_slice (slE K) (pv 12) po_none (po_some pe_int)) (pv 11) (nomark _)))) (fun _ _ _ _ _ => (pe_ix (ixT K) (pv 12) pe_int (fun _ _ => rfl)))) pa_nil))))))))))))))), ?_⟩
    obtain ⟨a, vp, vl, vs, rfl, hA, _, ⟨al, ls, rfl, hl9, hLo⟩, ⟨as, ss, rfl, hs9, hSt⟩⟩ := id hR
    have ils := ints_of hLo
    subst ils
    have h4 := fo4_of r x x.length 0 q0 hq0
    obtain ⟨hin, hqlen⟩ := WA_in r x x.length 0 q0 hq0
    have hin' : ∀ y ∈ q0, 0 ≤ y.1 ∧ y.1 < x.length ∧ 0 ≤ y.2 ∧ y.2 < x.length := fun y hy => by
      have := hin y hy
      omega
    have W := win_of hq0 hone
    obtain ⟨u, hu⟩ : ∃ u, u = withinC q0 one.1 one.2 := ⟨_, rfl⟩
    rw [← hu] at W
    have ho := hin one hone
    have i0 := (hin' one hone).1
    have i1 := (hin' one hone).2.1
    have j0 := (hin' one hone).2.2.1
    have j1 := (hin' one hone).2.2.2
    have hsx : Small x := hO.small ok.small
    refine ⟨_, rfl, a, _, 3, _, rfl, rfl, SqT.of hA, rfl, ?_⟩
    refine ⟨Nat.zero_le _, fun I hI => ?_⟩
    have hIn := hI
    refine ⟨_, rfl, one.1, 1, rfl, rfl, ?_⟩
    -- the walk
    refine ⟨fun m σ H2 => ∃ (at_ fr : Int) (acc : Fo) (us : List V), m = (one.2 - at_).toNat ∧ σ = [some (.ref a), some (.str x), some (.ref M), some (.int one.1), some (.int one.2), some (.ref al), some (.ref I), some (.int fr), some (.int at_), none, none, none, none] ∧ one.1 + 1 ≤ at_ ∧ at_ ≤ one.2 ∧ tops u = acc ++ topF at_ u ∧ fr = at_ - (one.1 + 1) - wid acc ∧ (∀ y ∈ acc, y ∈ u) ∧ acc.length ≤ (at_ - one.1).toNat ∧ H2 I = some (.lst us) ∧ Paired (TwoAt H2) us acc ∧ Ext H H2,
      ⟨_, one.1 + 1, 0, [], [], rfl, rfl, Int.le_refl _, by omega, ?_, by unfold wid; simp, (fun y hy => by cases hy), Nat.zero_le _, upd_same, .nil, Ext.new hI⟩, fun m σ H2 hW => ?_⟩
    · rw [List.nil_append, topF_tops fun p hp => by have := (W.mem p).mp hp; omega]
    obtain ⟨at_, fr, acc, us, rfl, rfl, a1, a2, htop, hfr, hacc, hal, hI2, hPa, k2⟩ := hW
    have nIM : I ≠ M := fun z => by rw [z, hM] at hIn; cases hIn
    refine ⟨_, rfl, _, rfl, _, _, rfl, rfl, _, rfl, ite2 (fun e => ?_) (fun e => ?_)⟩
    · have e : at_ < one.2 := of_decide_eq_true e
      refine ⟨fun σ' H' => ∃ (at2 fr : Int) (acc : Fo) (us : List V), (one.2 - at2).toNat < (one.2 - at_).toNat ∧ σ' = [some (.ref a), some (.str x), some (.ref M), some (.int one.1), some (.int one.2), some (.ref al), some (.ref I), some (.int fr), some (.int at2), none, none, none, none] ∧ one.1 + 1 ≤ at2 ∧ at2 ≤ one.2 ∧ tops u = acc ++ topF at2 u ∧ fr = at2 - (one.1 + 1) - wid acc ∧ (∀ y ∈ acc, y ∈ u) ∧ acc.length ≤ (at2 - one.1).toNat ∧ H' I = some (.lst us) ∧ Paired (TwoAt H') us acc ∧ Ext H H', fun σ' H' ⟨at2, fr, acc, us, h1, h2⟩ => ⟨_, h1, at2, fr, acc, us, rfl, h2⟩, ?_⟩
      have hM2 := k2 _ _ hM
      refine ⟨_, rfl, _, rfl, M, _, rfl, DGet.k (k := .inl at_) hM2, _, rfl, ?_⟩
      by_cases c : ∃ k, (at_, k) ∈ q0
      · obtain ⟨k, hk⟩ := c
        have hv := val_mate h4.srt hk
        rw [hv]
        refine iteT ?_
        have hkb := hin _ hk
        have hku : (at_, k) ∈ u := by
          refine (W.mem _).mpr ⟨hk, by show one.1 < at_; omega, ?_⟩
          rcases h4.sep one hone (at_, k) hk (by show one.1 < at_; omega) with h | h
          · exact h
          · have : one.2 < at_ := h
            omega
        have hkj : k < one.2 := ((W.mem _).mp hku).2.2
        have hg : DGet H2 M (.int at_) (some (.int k)) := hv ▸ DGet.k (k := .inl at_) hM2
        refine ⟨_, rfl, .inl ⟨rfl, _, SqL.of hI2⟩, _, rfl, _, rfl, _, rfl, M, _, rfl, hg, szL (show 2 ≤ 1000000 by decide), fun t ht => ?_⟩
        have x3 := Ext.new (o := .tup [.int at_, .int k]) ht
        have hI3 := x3 _ _ hI2
        have hal2 : acc.length ≤ 12 := by omega
        have hul := paired_len hPa
        refine ⟨I, us, .ref t, rfl, rfl, hI3, szLt (by omega), ?_⟩
        have nIt : t ≠ I := fun z => by rw [z, hI2] at ht; cases ht
        have tk4 : TupK (upd H2 t (.tup [.int at_, .int k])) (upd (upd H2 t (.tup [.int at_, .int k])) I (.lst (us ++ [.ref t]))) := TupK.lst hI3
        have k4 : Ext H (upd (upd H2 t (.tup [.int at_, .int k])) I (.lst (us ++ [.ref t]))) := (k2.trans x3).put hIn
        refine ⟨_, rfl, _, rfl, M, _, rfl, hv ▸ DGet.k (k := .inl at_) (k4 _ _ hM), ?_⟩
        refine ⟨_, rfl, k, 1, rfl, rfl, k + 1, fr, acc ++ [(at_, k)], us ++ [.ref t], by omega, rfl, by omega, by omega, ?_, ?_, fun y hy => ?_, ?_, upd_same, ?_, k4⟩
        · rw [htop, topF_here W.srt hku (by omega), List.append_assoc]
          rfl
        · rw [wid_snoc, hfr]
          show at_ - (one.1 + 1) - wid acc = k + 1 - (one.1 + 1) - (wid acc + (k - at_ + 1))
          omega
        · rcases List.mem_append.mp hy with hy | hy
          · exact hacc y hy
          · rw [List.mem_singleton.mp hy]
            exact hku
        · rw [List.length_append, List.length_singleton]
          omega
        · exact paired_app (paired_imp (fun _ _ => TwoAt.mono _ _ _ _ ((TupK.ext x3).trans tk4)) hPa) (.cons ⟨t, rfl, tk4 _ _ upd_same⟩ .nil)
      · have hno : ∀ y ∈ q0, y.1 ≠ at_ := fun y hy e => c ⟨y.2, by rw [← e]; exact hy⟩
        rw [val_nomate hno]
        refine iteF ?_
        refine ⟨_, rfl, fr, 1, rfl, rfl, ?_⟩
        refine ⟨_, rfl, at_, 1, rfl, rfl, at_ + 1, fr + 1, acc, us, by omega, rfl, by omega, by omega, ?_, by omega, hacc, by omega, hI2, hPa, k2⟩
        rw [htop, topF_free fun y hy => hno y ((W.mem y).mp hy).1]
    · have e : ¬ at_ < one.2 := fun z => e (decide_eq_true z)
      have eat : at_ = one.2 := by omega
      subst eat
      rw [topF_end fun y hy => by have := (W.mem y).mp hy; have := hin y this.1; omega, List.append_nil] at htop
      have hks := W.str
      rw [htop] at hks
      obtain ⟨ks, hksd⟩ : ∃ ks, ks = acc := ⟨_, rfl⟩
      rw [← hksd] at hks hfr hacc hal hPa
      rw [hks] at q
      clear htop hksd
      have hkl : ks.length ≤ 12 := by omega
      have hkin : ∀ y ∈ ks, 0 ≤ y.1 ∧ y.1 < x.length ∧ 0 ≤ y.2 ∧ y.2 < x.length := fun y hy => hin' y ((W.mem y).mp (hacc y hy)).1
      have hfr2 : fr = freeI one ks := by
        unfold freeI
        rw [hfr]
        omega
      have hul := paired_len hPa
      have at9 : ∀ (i : Nat), i < 9 → atI (r.loops.map V.int) (i : Int) = some (.int (lo r i)) := fun i hi => by
        have h9 := ok.lo9
        rw [atI_get (by omega) (by rw [List.length_map]; omega)]
        have e : lo r i = r.loops[i]'(by omega) := by
          unfold lo
          rw [List.getD_eq_getElem?_getD, List.getElem?_eq_getElem (by omega)]
          rfl
        rw [e]
        simp
      -- inner == []
      refine ⟨_, rfl, Nat.zero_le _, fun l3 hl3 => ?_⟩
      have x3 := Ext.new (o := .lst []) hl3
      have k03 := k2.trans x3
      have hl93 := k03 _ _ hl9
      have hL3 := x3 _ _ hI2
      refine ⟨.list (ks.map dTwo), .list [], .lst (SqL.of hL3) (dpTwos (paired_imp (fun _ _ => TwoAt.mono _ _ _ _ (TupK.ext x3)) hPa)), .lst (SqL.of upd_same) .nil, shaped_twos _, by decide +kernel, _, rfl, ?_⟩
      rw [eqv_nil]
      have l2 := lo_bound ok (show 2 < 9 by decide)
      have l4 := lo_bound ok (show 4 < 9 by decide)
      have l5 := lo_bound ok (show 5 < 9 by decide)
      have l7 := lo_bound ok (show 7 < 9 by decide)
      refine ite2 (fun e => ?_) (fun e => ?_)
      · have c0 : ks.length = 0 := by
          cases ks with
          | nil => rfl
          | cons _ _ => cases e
        refine ⟨_, rfl, al, _, 6, _, rfl, rfl, SqT.of hl93, at9 6 (by decide), _, rfl, _, rfl, al, _, 7, _, rfl, rfl, SqT.of hl93, at9 7 (by decide), _, _, rfl, rfl, .inr ⟨by omega, by omega⟩, _, _, rfl, rfl, ?_⟩
        have := q _ k03
        rw [lpW_val, if_pos c0, ← hfr2] at this
        exact this
      · have c0 : ¬ ks.length = 0 := by
          cases ks with
          | nil => exact absurd rfl e
          | cons _ _ => exact Nat.succ_ne_zero _
        refine ⟨_, rfl, I, us, rfl, .inl (SqL.of hL3), _, 1, rfl, rfl, _, rfl, ite2 (fun e => ?_) (fun e => ?_)⟩
        · have c1 : 1 < ks.length := by
            have : (us.length : Int) > 1 := by simpa using e
            omega
          refine ⟨_, rfl, al, _, 3, _, rfl, rfl, SqT.of hl93, at9 3 (by decide), _, rfl, I, us, rfl, .inl (SqL.of hL3), _, rfl, al, _, 4, _, rfl, rfl, SqT.of hl93, at9 4 (by decide), _, _, rfl, rfl, .inr ⟨by omega, by omega⟩, _, _, rfl, rfl, _, rfl, _, rfl, al, _, 5, _, rfl, rfl, SqT.of hl93, at9 5 (by decide), _, _, rfl, rfl, .inr ⟨by omega, by omega⟩, _, _, rfl, rfl, ?_⟩
          have := q _ k03
          rw [lpW_val, if_neg c0, if_pos c1, ← hfr2, ← hul] at this
          have e5 : lo r 3 + (us.length : Int) * lo r 4 + fr * lo r 5 = lo r 3 + ((us.length : Int) * lo r 4 + fr * lo r 5) := by omega
          rw [← e5] at this
          exact this
        · have c1 : ¬ 1 < ks.length := by
            have : ¬ (us.length : Int) > 1 := by simpa using e
            omega
          refine ⟨_, rfl, _, _, rfl, rfl, _, rfl, ite2 (fun e => ?_) (fun e => ?_)⟩
          · have c2 : 0 < fr := by simpa using e
            refine ⟨_, rfl, al, _, 1, _, rfl, rfl, SqT.of hl93, at9 1 (by decide), _, rfl, _, rfl, al, _, 2, _, rfl, rfl, SqT.of hl93, at9 2 (by decide), _, _, rfl, rfl, .inr ⟨by omega, by omega⟩, _, _, rfl, rfl, ?_⟩
            have := q _ k03
            rw [lpW_val, if_neg c0, if_neg c1, ← hfr2, if_pos c2] at this
            exact this
          · have c2 : ¬ 0 < fr := by simpa using e
            obtain ⟨y, hyk⟩ : ∃ y, ks = [y] := by
              match ks, c0, c1 with
              | [], c0, _ => exact absurd rfl c0
              | [y], _, _ => exact ⟨y, rfl⟩
              | _ :: _ :: _, _, c1 => exact absurd (by simp) c1
            subst hyk
            obtain ⟨u0, hu0, a2, hu2, ha2⟩ : ∃ u0, us = [u0] ∧ ∃ a2, u0 = .ref a2 ∧ H2 a2 = some (.tup [.int y.1, .int y.2]) := by
              cases hPa with
              | cons r t =>
                cases t
                obtain ⟨a2, e1, e2⟩ := r
                exact ⟨_, rfl, a2, e1, e2⟩
            subst hu2
            subst hu0
            have hy := hkin y (List.mem_singleton.mpr rfl)
            have ha3 := x3 _ _ ha2
            have hA3 := k03 _ _ hA
            have hs93 := k03 _ _ hs9
            have hSt3 := paired_imp (fun _ _ => StackAt.mono _ _ _ _ (TupK.ext k03)) hSt
            have hsl := paired_len hSt3
            have hst := ok.stk
            refine ⟨_, rfl, I, _, 0, _, rfl, rfl, SqL.of hL3, rfl, a2, _, rfl, SqT.of ha3, rfl, _, _, rfl, _, _, rfl, rfl, ?_⟩
            refine ⟨_, rfl, _, rfl, x, one.1, _, rfl, rfl, szL (by omega), sgn_at i0 i1, _, rfl, _, rfl, x, one.2, _, rfl, rfl, szL (by omega), sgn_at j0 j1, _, _, rfl, rfl, szL (show 1 + 1 ≤ 1000000 by decide), ?_⟩
            refine ⟨_, rfl, _, rfl, x, y.1, _, rfl, rfl, szL (by omega), sgn_at hy.1 hy.2.1, _, rfl, _, rfl, x, y.2, _, rfl, rfl, szL (by omega), sgn_at hy.2.2.1 hy.2.2.2, _, _, rfl, rfl, szL (show 1 + 1 ≤ 1000000 by decide), szL (show 2 ≤ 1000000 by decide), fun t8 ht8 => ?_⟩
            have x8 := Ext.new (o := .tup [.str (tx2 x one), .str (tx2 x y)]) ht8
            have hT8 : upd (upd H2 l3 (.lst [])) t8 (.tup [.str (tx2 x one), .str (tx2 x y)]) t8 = some (.tup [.str (tx2 x one), .str (tx2 x y)]) := upd_same
            have k08 := k03.trans x8
            have hl98 := x8 _ _ hl93
            have hA8 := x8 _ _ hA3
            have hs98 := x8 _ _ hs93
            have hSt8 := paired_imp (fun _ _ => StackAt.mono _ _ _ _ (TupK.ext x8)) hSt3
            refine ⟨_, rfl, al, _, 0, _, rfl, rfl, SqT.of hl98, at9 0 (by decide), ?_⟩
            refine ⟨_, rfl, a, _, 4, _, rfl, rfl, SqT.of hA8, rfl, as, rfl, ⟨_, SqT.of hs98⟩, fun E5 hE5 => ?_⟩
            refine lc_tup (K := K) (xs := ss) (fun c H5 => H5 E5 = some (.lst ((stF (r.stk.take c) (tx2 x one) (tx2 x y)).map V.int)) ∧ Ext (upd (upd H2 l3 (.lst [])) t8 (.tup [.str (tx2 x one), .str (tx2 x y)])) H5)
              ⟨upd_same, Ext.new hE5⟩ (fun c H5 _ ⟨_, k⟩ => SqT.of (k _ _ hs98)) (fun c u H5 hc hv => ?_) (fun H5 hv => ?_)
            · obtain ⟨hE, k5⟩ := hv
              obtain ⟨z, hz, b1, rfl, hb1⟩ := paired_get hSt8 hc
              have hb5 := k5 _ _ hb1
              have cl : c < ss.length := (List.getElem?_eq_some_iff.mp hc).1
              have hzo := ok.st z (List.mem_of_getElem? hz)
              have hle : (stF (r.stk.take c) (tx2 x one) (tx2 x y)).length ≤ 12 := by
                unfold stF
                rw [List.length_map]
                refine Nat.le_trans (List.length_filter_le _ _) ?_
                rw [List.length_take]
                omega
              refine ⟨rfl, _, rfl, 2, rfl, b1, _, rfl, hb5, fun p6 H6 k6 hp6 => ?_⟩
              have hp6 : H6 p6 = some (.tup [.str z.1, .str z.2.1]) := hp6
              have k58 := k6
              refine ⟨_, rfl, .tuple [.str z.1, .str z.2.1], .tuple [.str (tx2 x one), .str (tx2 x y)], .tup (SqT.of hp6) (.cons (.str _) (.cons (.str _) .nil)), .tup (SqT.of ((k5.trans k6) _ _ hT8)) (.cons (.str _) (.cons (.str _) .nil)), ?_, ?_, _, rfl, ?_⟩
              · exact sm_two hzo.1 hzo.2.1
              · exact sm_two (two_tx hsx i0 i1 j0 j1) (two_tx hsx hy.1 hy.2.1 hy.2.2.1 hy.2.2.2)
              rw [eqv_two]
              refine ite2 (fun e => ?_) (fun e => ?_)
              · refine ⟨_, rfl, b1, _, 2, _, rfl, rfl, SqT.of (k58 _ _ hb5), rfl, _, k58 _ _ hE, szLt (by rw [List.length_map]; omega), ?_, (k5.trans k58).put hE5⟩
                rw [upd_same, List.take_add_one, hz]
                unfold stF
                rw [List.filter_append, show (some z).toList = [z] from rfl, List.filter_cons_of_pos (p := fun z : Str × Str × Int => decide (z.1 = tx2 x one ∧ z.2.1 = tx2 x y)) e, List.map_append, List.map_append]
                rfl
              · refine ⟨?_, k5.trans k58⟩
                rw [List.take_add_one, hz]
                unfold stF
                rw [List.filter_append, show (some z).toList = [z] from rfl, List.filter_cons_of_neg (p := fun z : Str × Str × Int => decide (z.1 = tx2 x one ∧ z.2.1 = tx2 x y)) e, List.filter_nil, List.append_nil]
                exact k58 _ _ hE
            · obtain ⟨hE, k5⟩ := hv
              rw [List.take_of_length_le (by omega)] at hE
              refine ⟨E5, _, rfl, SqL.of hE, _, _, rfl, rfl, ?_⟩
              have := q _ (k08.trans k5)
              rw [lpW_val, if_neg c0, if_neg c1, ← hfr2, if_neg c2, ← stF_sum ok.nd] at this
              exact this
abbrev CLoopR (P : Program) (w : World) (K : PySem.W.Frag) (mg : Str → Option Value) (base : Heap) : Prop := Ca P w K mg base 1 "_law_loop" ["_law_book_here", "_law_line_here", "_law_mates", "_law_i", "_law_j"] spLoopR
def pVR (r : Rl) (x : Str) (w : Fo) (p : Int × Int) : Int := pwI r.prs (tx2 x p) + lpW r x p (strC w p.1 p.2)
theorem woV_pVR {r : Rl} {x : Str} {q : Fo} : woV r x q = (q.map (pVR r x q)).sum + ((tops q).length : Int) * lo r 8 := by
  have : ∀ l : Fo, (l.map (pVR r x q)).sum = (l.map fun y => pwI r.prs (tx2 x y)).sum + (l.map fun y => lpW r x y (strC q y.1 y.2)).sum := fun l => by
    induction l with
    | nil => rfl
    | cons y l ih =>
      rw [List.map_cons, List.map_cons, List.map_cons, List.sum_cons, List.sum_cons, List.sum_cons, ih]
      unfold pVR
      omega
  rw [this]
  rfl
abbrev s_law_worth : Stmt := topS 39
theorem sc_law_worth : FnScope ["_law_book_here", "_law_line_here", "_law_one", "_law_mates", "_law_pairs", "_law_found", "_law_behind", "_law_i", "_law_j", "_law_both"] ["_law_book_here", "_law_line_here", "_law_one"] (defScope s_law_worth) :=
  ⟨rfl, rfl, rfl, by decide +kernel, rfl, by decide +kernel, by decide +kernel⟩
def spValR : Sp := fun vs H Q _ => ∃ (v : V) (b : Addr) (r : Rl) (x : Str) (q0 : Fo), vs = [v, .str x, .ref b] ∧ RulesAt H v r ∧ RlOk r ∧ x.length ≤ 12 ∧ Of r.letters x ∧ FkF H b q0 ∧ q0 ∈ WA r x x.length 0 ∧ ∀ H', Ext H H' → Q (.int (woV r x q0)) H'
theorem ok_valR {f : Addr} {fd : FuncData} (F : Fun K "_law_worth" "_law_worth" s_law_worth f fd) (c_law_loop : CLoopR P w K mg base) (mdict : mg "dict" = none) : FnOk P w K mg base CX0 2 f fd ["_law_book_here", "_law_line_here", "_law_one"] spValR := by
  refine F.ok sc_law_worth (fun vs H Q E h => ?_) (fun cdv A outer s H vs Q E hr h => ?_)
  · obtain ⟨v, b, r, x, q0, rfl, _⟩ := h
    rfl
  · obtain ⟨v, b, r, x, q0, rfl, hR, ok, hx, hO, ⟨_, ob, fs, eb, hB, hob, hPf⟩, hq0, q⟩ := h
    cases eb
    refine ⟨_, (pss_cons (ps_set (i := 3) sc_law_worth.nd rfl (.inl rfl) (pe_callTy (dictT K) (by rfl) mdict (by decide +kernel) (pa_cons (pv 2) pa_nil)))
      (pss_cons (ps_set (i := 4) sc_law_worth.nd rfl (.inl rfl) (pe_callTy (dictT K) (by rfl) mdict (by decide +kernel) (pa_cons (pe_ix (ixT K) (pv 0) pe_int (fun _ _ => rfl)) pa_nil)))
      (pss_cons (ps_set (i := 5) sc_law_worth.nd rfl (.inl rfl) pe_int)
      (pss_cons (ps_set (i := 6) sc_law_worth.nd rfl (.inl rfl) (pe_un un_neg pe_int))
      (pss_cons (ps_for PassesOwn.never rfl (pi_tup (pv 2)) (pg_tup rfl (pgs_cons (pg_name (i := 7) sc_law_worth.nd rfl (.inl rfl)) (pgs_cons (pg_name (i := 8) sc_law_worth.nd rfl (.inl rfl)) pgs_nil))) (pss_cons (ps_set (i := 9) sc_law_worth.nd rfl (.inl rfl) (pe_op op_add_str (pe_ix ix_str (pv 1) (pv 7) (fun _ _ => rfl)) (pe_ix ix_str (pv 1) (pv 8) (fun _ _ => rfl))))
      (pss_cons (ps_set (i := 5) sc_law_worth.nd rfl (.inl rfl) (pe_op op_add (pv 5) (pe_dget (hu_of hr) (pv 4) (pv 9) (fun _ _ => rfl))))
      (pss_cons (ps_set (i := 5) sc_law_worth.nd rfl (.inl rfl) (pe_op op_add (pv 5) (pe_ca c_law_loop (hr.mono (by decide)) (by rfl) (pa_cons (pv 0) (pa_cons (pv 1) (pa_cons (pv 3) (pa_cons (pv 7) (pa_cons (pv 8) pa_nil))))))))
      (pss_one (ps_if (pt_cmpR op_gt (pv 7) (pv 6) (nomark _)) (pss_cons (ps_set (i := 5) sc_law_worth.nd rfl (.inl rfl) (pe_op op_add (pv 5) (pe_ix (ixT K) (pe_ix (ixT K) (pv 0) pe_int (fun _ _ => rfl)) pe_int (fun _ _ => rfl))))
      (pss_one (ps_set (i := 6) sc_law_worth.nd rfl (.inl rfl) (pv 8)))) pss_nil))))))
      (pss_one (ps_ret (pv 5)))))))), ?_⟩
    have h4 := fo4_of r x x.length 0 q0 hq0
    obtain ⟨hin, hqlen⟩ := WA_in r x x.length 0 q0 hq0
    have hin' : ∀ y ∈ q0, 0 ≤ y.1 ∧ y.1 < x.length ∧ 0 ≤ y.2 ∧ y.2 < x.length := fun y hy => by
      have := hin y hy
      omega
    obtain ⟨a, vp, vl, vs, rfl, hA, ⟨ap, oz, pus, rfl, hp, hoz, hRp⟩, ⟨al, ls, rfl, hl9, hLo⟩, hvs⟩ := id hR
    have ils := ints_of hLo
    subst ils
    have h9 := ok.lo9
    have at8 : atI (r.loops.map V.int) 8 = some (.int (lo r 8)) := by
      rw [atI_get (by omega) (by rw [List.length_map]; omega)]
      have e : lo r 8 = r.loops[8]'(by omega) := by
        unfold lo
        rw [List.getD_eq_getElem?_getD, List.getElem?_eq_getElem (by omega)]
        rfl
      rw [e]
      simp
    have hfl := paired_len hPf
    obtain ⟨mas, hmas, hmp⟩ := enc_mates hPf
    obtain ⟨pas, hpas, hpp⟩ := enc_pairs hRp
    refine ⟨_, rfl, b, ob, mas, q0.map encM, rfl, by rw [← hmas]; exact hB, hob, paired_imp (fun _ _ h => SqT.of h) hmp, fun M hM => ?_⟩
    rw [merge_mates h4.srt]
    have x1 := Ext.new (o := .dK (q0.map encM)) hM
    refine ⟨_, rfl, a, _, 1, _, rfl, rfl, SqT.of (x1 _ _ hA), rfl, ap, oz, pas, r.prs.map encP, rfl, by rw [← hpas]; exact x1 _ _ hp, hoz, paired_imp (fun _ _ h => SqT.of (x1 _ _ h)) hpp, fun d hd => ?_⟩
    rw [merge_prs ok.pn]
    have x2 := x1.trans (Ext.new (o := .dK (r.prs.map encP)) hd)
    have hM2 : (upd (upd H M (.dK (q0.map encM))) d (.dK (r.prs.map encP))) M = some (.dK (q0.map encM)) := Ext.new hd _ _ upd_same
    have hD2 : (upd (upd H M (.dK (q0.map encM))) d (.dK (r.prs.map encP))) d = some (.dK (r.prs.map encP)) := upd_same
    generalize upd (upd H M (.dK (q0.map encM))) d (.dK (r.prs.map encP)) = H2 at x2 hM2 hD2 ⊢
    refine ⟨1, rfl, ?_⟩
    refine ⟨_, rfl, b, rfl, ⟨_, SqT.fz (x2 _ _ hB)⟩, for_tup (K := K) (xs := fs) (fun c σ H3 => ∃ (y7 y8 y9 : Option V) (fo bh : Int) (T : Nat), σ = [some (.ref a), some (.str x), some (.ref b), some (.ref M), some (.ref d), some (.int fo), some (.int bh), y7, y8, y9] ∧ fo = ((q0.map (pVR r x q0)).take c).sum + (T : Int) * lo r 8 ∧ (tops q0).length = T + (topF (bh + 1) (q0.drop c)).length ∧ T ≤ c ∧ Ext H2 H3)
      ⟨none, none, none, 0, -1, 0, rfl, by simp, ?_, Nat.le_refl _, Ext.refl⟩ (fun c σ H3 _ h => by obtain ⟨_, _, _, _, _, _, _, _, _, _, k⟩ := h; exact SqT.fz (k _ _ (x2 _ _ hB))) (fun c u σ H3 hc hv => ?_) (fun σ H3 hv => ?_)⟩
    · rw [List.drop_zero, topF_tops fun p hp => by have := hin p hp; omega, Nat.zero_add]
    · obtain ⟨y7, y8, y9, fo, bh, T, rfl, hfo, hT, hTc, k3⟩ := hv
      obtain ⟨y, hy, a1, rfl, ha1⟩ := paired_get hPf hc
      have hcl : c < q0.length := (List.getElem?_eq_some_iff.mp hy).1
      have hyq := List.mem_of_getElem? hy
      have hi := hin' y hyq
      have hm := may_mem (h4.may y hyq)
      have k03 := x2.trans k3
      have l8 := lo_bound ok (show 8 < 9 by decide)
      refine ⟨a1, _, rfl, SqT.of (k03 _ _ ha1), rfl, _, _, rfl, _, _, rfl, rfl, ?_⟩
      refine ⟨_, rfl, _, rfl, x, y.1, _, rfl, rfl, szL (by omega), sgn_at hi.1 hi.2.1, _, rfl, _, rfl, x, y.2, _, rfl, rfl, szL (by omega), sgn_at hi.2.2.1 hi.2.2.2, _, _, rfl, rfl, szL (show 1 + 1 ≤ 1000000 by decide), ?_⟩
      refine ⟨_, rfl, _, rfl, _, rfl, d, _, rfl, val_prs r.prs (tx2 x y) hm ▸ DGet.k (k := .inr (tx2 x y)) (k3 _ _ hD2), _, _, rfl, rfl, ?_⟩
      refine ⟨_, rfl, _, rfl, _, rfl, _, rfl, _, rfl, _, rfl, .ref a, M, r, x, q0, y, rfl, RulesAt.mono _ _ _ _ (TupK.ext k03) hR, ok, hx, hO, k3 _ _ hM2, hq0, hyq, fun H4 k4 => ⟨_, _, rfl, rfl, ?_⟩⟩
      have k04 := k03.trans k4
      have esum : ((q0.map (pVR r x q0)).take (c + 1)).sum = ((q0.map (pVR r x q0)).take c).sum + pVR r x q0 y := sumR_take (by rw [List.getElem?_map, hy]; rfl)
      have edrop : q0.drop c = y :: q0.drop (c + 1) := by
        rw [List.drop_eq_getElem_cons hcl]
        congr 1
        exact (List.getElem?_eq_some_iff.mp hy).2
      rw [edrop, topF] at hT
      refine ⟨_, rfl, _, rfl, _, _, rfl, rfl, _, rfl, ite2 (fun e => ?_) (fun e => ?_)⟩
      · have e : bh < y.1 := of_decide_eq_true e
        rw [if_pos (by omega), List.length_cons] at hT
        refine ⟨_, rfl, _, rfl, a, _, 3, _, rfl, rfl, SqT.of (k04 _ _ hA), rfl, al, _, 8, _, rfl, rfl, SqT.of (k04 _ _ hl9), at8, _, _, rfl, rfl, ?_⟩
        refine ⟨_, rfl, some (.int y.1), some (.int y.2), some (.str (tx2 x y)), _, y.2, T + 1, rfl, ?_, by omega, by omega, k3.trans k4⟩
        have e1 : ((T + 1 : Nat) : Int) * lo r 8 = (T : Int) * lo r 8 + lo r 8 := by
          rw [show ((T + 1 : Nat) : Int) = (T : Int) + 1 by omega, Int.add_mul, Int.one_mul]
        rw [esum, e1, hfo]
        unfold pVR
        omega
      · have e : ¬ bh < y.1 := fun z => e (decide_eq_true z)
        rw [if_neg (by omega)] at hT
        refine ⟨some (.int y.1), some (.int y.2), some (.str (tx2 x y)), _, bh, T, rfl, ?_, hT, by omega, k3.trans k4⟩
        rw [esum, hfo]
        unfold pVR
        omega
    · obtain ⟨y7, y8, y9, fo, bh, T, rfl, hfo, hT, hTc, k3⟩ := hv
      rw [List.drop_eq_nil_of_le (by omega)] at hT
      have hT : (tops q0).length = T := hT
      rw [List.take_of_length_le (by rw [List.length_map]; omega), ← hT, ← woV_pVR] at hfo
      have := q H3 (x2.trans k3)
      rw [← hfo] at this
      exact ⟨_, rfl, this⟩
abbrev CValR (P : Program) (w : World) (K : PySem.W.Frag) (mg : Str → Option Value) (base : Heap) : Prop := Ca P w K mg base 2 "_law_worth" ["_law_book_here", "_law_line_here", "_law_one"] spValR
end
end Pf


namespace Pf
open PySem PySem.Spec PyProof.Rows L2
/-! ### foldings with a pair less -/
def lessL (q : Fo) : List Fo := (List.range q.length).map fun a => q.eraseIdx a
def AL (r : Rl) (x : Str) : List Fo := SF (WA r x x.length 0)
def stepB (q z : Fo) : Bool := decide (z ∈ lessL q ∨ q ∈ lessL z)
def nb (r : Rl) (x : Str) (q : Fo) : List Fo := (AL r x).filter (stepB q)
def ctr (q q1 : Fo) : List Fo := if q1 = q then lessL q else if q ∈ lessL q1 then [q1] else []
def cont (L : List Fo) (q : Fo) : List Fo := L.flatMap (ctr q)
def prt (q1 : Fo) (a : Nat) (q : Fo) : List Fo := if q1 = q then (lessL q).take a else if q ∈ (lessL q1).take a then [q1] else []
theorem less_len {q z : Fo} (h : z ∈ lessL q) : z.length + 1 = q.length := by
  obtain ⟨a, ha, rfl⟩ := List.mem_map.mp h
  have := List.mem_range.mp ha
  rw [List.length_eraseIdx_of_lt this]
  omega
theorem AL_perm (r : Rl) (x : Str) : (AL r x).Perm (WA r x x.length 0) := SF_perm _
theorem AL_mem {r : Rl} {x : Str} {q : Fo} : q ∈ AL r x ↔ q ∈ WA r x x.length 0 := (AL_perm r x).mem_iff
theorem AL_nd (r : Rl) (x : Str) : (AL r x).Nodup := (AL_perm r x).nodup_iff.mpr (WA_nd r x _ _)
theorem AL_len (r : Rl) {x : Str} (hx : x.length ≤ 12) : (AL r x).length ≤ 15511 := by
  rw [(AL_perm r x).length_eq]
  exact WA_len r x hx 0
theorem AL_pos (r : Rl) (x : Str) : [] ∈ AL r x := by
  rw [AL_mem]
  obtain ⟨t, h⟩ := WA_head r x x.length 0
  rw [h]
  exact List.mem_cons_self ..
theorem fo_nd {q : Fo} (h : q.Pairwise fun y z => y.1 < z.1) : q.Nodup := h.imp fun {a b} h e => by rw [e] at h; omega
theorem AL_fo {r : Rl} {x : Str} {q : Fo} (h : q ∈ AL r x) : Fo4 r x 0 x.length q := by
  have := fo4_of r x x.length 0 q (AL_mem.mp h)
  rw [Int.zero_add] at this
  exact this
theorem less_in {r : Rl} {x : Str} {q z : Fo} (h : q ∈ AL r x) (hz : z ∈ lessL q) : z ∈ AL r x := by
  obtain ⟨a, ha, rfl⟩ := List.mem_map.mp hz
  have h4 := AL_fo h
  rw [AL_mem]
  refine of_fo4 r x _ _ _ ?_
  rw [Int.zero_add]
  exact h4.sub (List.eraseIdx_sublist _ _) fun y hy => h4.inn y (List.mem_of_mem_eraseIdx hy)
theorem erase_inj {α : Type} {q : List α} (hn : q.Nodup) {a b : Nat} (hab : a < b) (hb : b < q.length) : q.eraseIdx a ≠ q.eraseIdx b := fun e => by
  have e1 : (q.eraseIdx a)[a]? = (q.eraseIdx b)[a]? := by rw [e]
  rw [List.getElem?_eraseIdx, List.getElem?_eraseIdx, if_neg (Nat.lt_irrefl _), if_pos hab, List.getElem?_eq_getElem (by omega), List.getElem?_eq_getElem (by omega)] at e1
  exact List.pairwise_iff_getElem.mp hn a (a + 1) (by omega) (by omega) (by omega) (Option.some.inj e1).symm
theorem less_nd {q : Fo} (hn : q.Nodup) : (lessL q).Nodup := by
  unfold lessL
  refine List.pairwise_map.mpr ?_
  refine List.Pairwise.imp_of_mem ?_ (List.pairwise_lt_range (n := q.length))
  intro a b ha hb hab
  exact erase_inj hn hab (List.mem_range.mp hb)
theorem mem_ctr {q q1 z : Fo} : z ∈ ctr q q1 ↔ (q1 = q ∧ z ∈ lessL q) ∨ (q1 ≠ q ∧ q ∈ lessL q1 ∧ z = q1) := by
  unfold ctr
  by_cases c : q1 = q
  · rw [if_pos c]
    exact ⟨fun h => .inl ⟨c, h⟩, fun h => h.elim (fun h => h.2) fun h => absurd c h.1⟩
  · rw [if_neg c]
    by_cases d : q ∈ lessL q1
    · rw [if_pos d, List.mem_singleton]
      exact ⟨fun h => .inr ⟨c, d, h⟩, fun h => h.elim (fun h => absurd h.1 c) fun h => h.2.2⟩
    · rw [if_neg d]
      exact ⟨fun h => (by cases h), fun h => h.elim (fun h => absurd h.1 c) fun h => absurd h.2.1 d⟩
theorem cont_nd {L : List Fo} (hL : L.Nodup) {q : Fo} (hq : q.Nodup) : (cont L q).Nodup := by
  unfold cont
  refine List.pairwise_flatMap.mpr ⟨fun q1 _ => ?_, hL.imp fun {a b} hab y hy z hz e => ?_⟩
  · unfold ctr
    split
    · exact less_nd hq
    · split
      · exact List.pairwise_singleton _ _
      · exact List.Pairwise.nil
  · subst e
    rcases mem_ctr.mp hy with ⟨h1, h2⟩ | ⟨h1, h2, h3⟩
    · rcases mem_ctr.mp hz with ⟨g1, g2⟩ | ⟨g1, g2, g3⟩
      · exact hab (h1.trans g1.symm)
      · have l1 := less_len h2
        have l2 := less_len g2
        rw [← g3] at l2
        omega
    · rcases mem_ctr.mp hz with ⟨g1, g2⟩ | ⟨g1, g2, g3⟩
      · have l1 := less_len g2
        have l2 := less_len h2
        rw [← h3] at l2
        omega
      · exact hab (h3.symm.trans g3)
theorem cont_perm {r : Rl} {x : Str} {q : Fo} (h : q ∈ AL r x) : (cont (AL r x) q).Perm (nb r x q) := by
  refine perm_nd (cont_nd (AL_nd r x) (fo_nd (AL_fo h).srt)) ((AL_nd r x).filter _) fun z => ?_
  unfold cont nb
  rw [List.mem_flatMap, List.mem_filter]
  unfold stepB
  rw [decide_eq_true_iff]
  constructor
  · rintro ⟨q1, h1, hz⟩
    rcases mem_ctr.mp hz with ⟨h2, h3⟩ | ⟨h2, h3, rfl⟩
    · exact ⟨less_in h h3, .inl h3⟩
    · exact ⟨h1, .inr h3⟩
  · rintro ⟨h1, h2 | h2⟩
    · exact ⟨q, h, mem_ctr.mpr (.inl ⟨rfl, h2⟩)⟩
    · refine ⟨z, h1, mem_ctr.mpr (.inr ⟨fun e => ?_, h2, rfl⟩)⟩
      have := less_len h2
      rw [e] at this
      omega
theorem prt_zero (q1 q : Fo) : prt q1 0 q = [] := by
  unfold prt
  rw [List.take_zero, List.take_zero]
  split
  · rfl
  · rw [if_neg (List.not_mem_nil)]
theorem prt_all (q1 q : Fo) : prt q1 q1.length q = ctr q q1 := by
  unfold prt ctr
  have e : (lessL q1).take q1.length = lessL q1 := List.take_of_length_le (by unfold lessL; rw [List.length_map, List.length_range]; exact Nat.le_refl _)
  by_cases c : q1 = q
  · rw [if_pos c, if_pos c, ← c, e]
  · rw [if_neg c, if_neg c, e]
theorem prt_step {q1 q less : Fo} {a : Nat} (hn : q1.Nodup) (ha : a < q1.length) (hl : less = q1.eraseIdx a) : prt q1 (a + 1) q = if q = less then prt q1 a q ++ [q1] else if q = q1 then prt q1 a q ++ [less] else prt q1 a q := by
  have hlen : (lessL q1).length = q1.length := by unfold lessL; rw [List.length_map, List.length_range]
  have hat : (lessL q1)[a]? = some less := by
    unfold lessL
    rw [List.getElem?_map, List.getElem?_range ha, hl]
    rfl
  have et : (lessL q1).take (a + 1) = (lessL q1).take a ++ [less] := by
    rw [List.take_add_one, hat]
    rfl
  have hll : less.length + 1 = q1.length := less_len (List.mem_of_getElem? hat)
  by_cases c1 : q = less
  · rw [if_pos c1]
    have c2 : ¬ q1 = q := fun e => by rw [e, c1] at hll; omega
    have hno : less ∉ (lessL q1).take a := fun h => by
      have hnd := less_nd hn
      have h2 : ((lessL q1).take (a + 1)).Nodup := List.Sublist.nodup (List.take_sublist _ _) hnd
      rw [et] at h2
      exact (List.nodup_append.mp h2).2.2 _ h _ (List.mem_singleton.mpr rfl) rfl
    unfold prt
    rw [if_neg c2, if_neg c2, c1, if_neg hno, if_pos (by rw [et]; exact List.mem_append_right _ (List.mem_singleton.mpr rfl))]
    rfl
  · rw [if_neg c1]
    by_cases c2 : q = q1
    · rw [if_pos c2]
      unfold prt
      rw [if_pos c2.symm, if_pos c2.symm, c2, et]
    · rw [if_neg c2]
      have c2' : ¬ q1 = q := fun e => c2 e.symm
      unfold prt
      rw [if_neg c2', if_neg c2', et]
      by_cases c3 : q ∈ (lessL q1).take a
      · rw [if_pos (List.mem_append_left _ c3), if_pos c3]
      · rw [if_neg (fun h => by
          rcases List.mem_append.mp h with h | h
          · exact c3 h
          · exact c1 (List.mem_singleton.mp h)), if_neg c3]
theorem cont_snoc {L : List Fo} {i : Nat} {q1 q : Fo} (h : L[i]? = some q1) : cont (L.take (i + 1)) q = cont (L.take i) q ++ ctr q q1 := by
  unfold cont
  rw [List.take_add_one, h, List.flatMap_append]
  simp
/-! ### dicts by foldings, of worths and of lists -/
def enW (r : Rl) (x : Str) (q : Fo) : Fq × V := (q, .int (woV r x q))
theorem val_key {α : Type} {f : α → V} {g : α → Fq} : ∀ {L : List α} {k : Fq}, (∀ y ∈ L, g y ≠ k) → valV (L.map fun y => (g y, f y)) k = none
  | [], _, _ => rfl
  | y :: L, k, h => by
    rw [List.map_cons, valV_neg (show ¬ (g y, f y).1 = k from h y (List.mem_cons_self ..))]
    exact val_key fun z hz => h z (List.mem_cons_of_mem _ hz)
theorem val_memF : ∀ {ss : List (Fq × V)} {k : Fq} {v : V}, (ss.map (·.1)).Nodup → (k, v) ∈ ss → valV ss k = some v
  | [], _, _, _, h => by cases h
  | y :: ss, k, v, hn, h => by
    rw [List.map_cons, List.nodup_cons] at hn
    rcases List.mem_cons.mp h with e | h
    · rw [← e, valV_pos rfl]
    · rw [valV_neg (fun e => hn.1 (List.mem_map.mpr ⟨_, h, e.symm⟩))]
      exact val_memF hn.2 h
theorem nd_inj {α β : Type} {f : α → β} : ∀ {L : List α} {y z : α}, (L.map f).Nodup → y ∈ L → z ∈ L → f y = f z → y = z
  | [], _, _, _, h, _, _ => by cases h
  | a :: L, y, z, hn, hy, hz, e => by
    rw [List.map_cons, List.nodup_cons] at hn
    rcases List.mem_cons.mp hy with e1 | h1
    · rcases List.mem_cons.mp hz with e2 | h2
      · rw [e1, e2]
      · exact absurd (List.mem_map.mpr ⟨z, h2, by rw [← e, e1]⟩) hn.1
    · rcases List.mem_cons.mp hz with e2 | h2
      · exact absurd (List.mem_map.mpr ⟨y, h1, by rw [e, e2]⟩) hn.1
      · exact nd_inj hn.2 h1 h2 e
theorem val_enW {r : Rl} {x : Str} {L : List Fo} (hn : L.Nodup) {q : Fo} (h : q ∈ L) : valV (L.map (enW r x)) q = some (.int (woV r x q)) := by
  refine val_memF ?_ (List.mem_map.mpr ⟨q, h, rfl⟩)
  rw [List.map_map]
  have : ((fun z : Fq × V => z.1) ∘ enW r x) = id := rfl
  rw [this, List.map_id]
  exact hn
def Stps (H : Hp) (ss : List (Fq × V)) (C : Fo → List Fo) : Prop := ∀ z ∈ ss, ∃ l us, z.2 = V.ref l ∧ H l = some (.lst us) ∧ Paired (FoAt H) us (C z.1)
theorem Stps.mono {H H' : Hp} {ss : List (Fq × V)} {C : Fo → List Fo} (h : Stps H ss C) (k : Ext H H') : Stps H' ss C := fun z hz => by
  obtain ⟨l, us, e, hl, hp⟩ := h z hz
  exact ⟨l, us, e, k _ _ hl, paired_imp (fun _ _ => FoAt.mono _ _ _ _ (TupK.ext k)) hp⟩
theorem Stps.congr {H : Hp} {ss : List (Fq × V)} {C D : Fo → List Fo} (h : Stps H ss C) (e : ∀ q, C q = D q) : Stps H ss D := fun z hz => by
  obtain ⟨l, us, e1, hl, hp⟩ := h z hz
  exact ⟨l, us, e1, hl, e z.1 ▸ hp⟩
theorem Stps.app {H : Hp} {ss : List (Fq × V)} {C : Fo → List Fo} (h : Stps H ss C) (inj : ∀ y ∈ ss, ∀ z ∈ ss, y.2 = z.2 ↔ y.1 = z.1) {z : Fq × V} (hz : z ∈ ss) {l : Addr} {us : List V} (hl : z.2 = .ref l) (hu : H l = some (.lst us)) (hp : Paired (FoAt H) us (C z.1)) {v : V} {q : Fo} (hv : FoAt H v q) :
    Stps (upd H l (.lst (us ++ [v]))) ss fun k => if k = z.1 then C k ++ [q] else C k := fun y hy => by
  have tk : TupK H (upd H l (.lst (us ++ [v]))) := TupK.lst hu
  by_cases c : y.1 = z.1
  · obtain ⟨l2, us2, e2, hl2, hp2⟩ := h y hy
    have cl : l2 = l := by
      have := (inj y hy z hz).mpr c
      rw [e2, hl] at this
      injection this
    subst cl
    rw [hu] at hl2
    cases hl2
    refine ⟨l2, us ++ [v], e2, upd_same, ?_⟩
    show Paired _ _ (if y.1 = z.1 then C y.1 ++ [q] else C y.1)
    rw [if_pos c, c]
    exact paired_app (paired_imp (fun _ _ => FoAt.mono _ _ _ _ tk) hp) (.cons (FoAt.mono _ _ _ _ tk hv) .nil)
  · obtain ⟨l2, us2, e2, hl2, hp2⟩ := h y hy
    have cl : l2 ≠ l := fun e => c ((inj y hy z hz).mp (by rw [e2, hl, e]))
    refine ⟨l2, us2, e2, by rw [upd_ne cl]; exact hl2, ?_⟩
    show Paired _ _ (if y.1 = z.1 then C y.1 ++ [q] else C y.1)
    rw [if_neg c]
    exact paired_imp (fun _ _ => FoAt.mono _ _ _ _ tk) hp2
/-- plain tuples stay -/
def T1 (H H' : Hp) : Prop := ∀ b xs, H b = some (.tup xs) → H' b = some (.tup xs)
theorem TupK.t1 {H H' : Hp} (t : TupK H H') : T1 H H' := t.tup
theorem T1.trans {H H1 H2 : Hp} (a : T1 H H1) (b : T1 H1 H2) : T1 H H2 := fun c xs e => b c xs (a c xs e)
theorem FoAt.t1 {H H' : Hp} {v : V} {q : Fo} (t : T1 H H') (h : FoAt H v q) : FoAt H' v q := by
  obtain ⟨a, vs, e, hA, p⟩ := h
  exact ⟨a, vs, e, t _ _ hA, paired_imp (fun _ _ ⟨b, e, hb⟩ => ⟨b, e, t _ _ hb⟩) p⟩
theorem FkT.t1 {H H' : Hp} {a : Addr} {q : Fo} (t : T1 H H') (h : FkT H a q) : FkT H' a q := FoAt.t1 (v := .ref a) t h
theorem KF.t1 {H H' : Hp} {kvs : List (Fq × V)} {xs : List (Fq × Addr × Value)} (t : T1 H H') (r : KF FkT H kvs xs) : KF FkT H' kvs xs := paired_imp (fun _ _ ⟨z1, z2, z3⟩ => ⟨z1, z2.t1 t, z3⟩) r
theorem t1_put {H : Hp} {D : Addr} {o : HO} (h : ∀ xs, H D ≠ some (.tup xs)) : T1 H (upd H D o) := fun b xs e => by
  rw [upd_ne fun z => h xs (by rw [← z]; exact e)]
  exact e
/-- a pair's tuple: a folding's place and a thing -/
def TfT (H : Hp) (p : Addr) (kv : TFV) : Prop := H p = some (.tup [.ref kv.2.1, kv.2.2]) ∧ FkT H kv.2.1 kv.1
/-- the world of a law: its rules and string, the worths of all foldings, the steps between them -/
def WorldAt (P : Program) (w : World) (p : Addr) (H : Hp) (W : Addr) (v : V) (r : Rl) (x : Str) : Prop := ∃ (Dw Ds E : Addr) (es : List V) (ss : List (Fq × V)) (C : Fo → List Fo),
  H W = some (.dK [(.inr "book", v), (.inr "line", .str x), (.inr "worths", .ref Dw), (.inr "steps", .ref Ds), (.inr "every", .ref E)]) ∧
  DF P w FkT H Dw ((AL r x).map (enW r x)) ∧ DF P w FkT H Ds ss ∧ ss.map (·.1) = AL r x ∧ Stps H ss C ∧ (∀ q ∈ AL r x, (C q).Perm (nb r x q)) ∧ H E = some (.lst es) ∧ Paired (FoAt H) es (AL r x) ∧
  W ≠ p ∧ Dw ≠ p ∧ Ds ≠ p ∧ E ≠ p ∧ ∀ z ∈ ss, z.2 ≠ .ref p
theorem DF.kp {P : Program} {w : World} {R : Hp → Addr → Fq → Prop} {H H' : Hp} {p D : Addr} {kvs : List (Fq × V)} (m : KeyR R) (d : DF P w R H D kvs) (k : Kp p H H') (t : TupK H H') (n : D ≠ p) : DF P w R H' D kvs := by
  obtain ⟨xs, e1, h⟩ := d
  exact ⟨xs, k _ _ n e1, h.keeps m t⟩
theorem WorldAt.kp {P : Program} {w : World} {p : Addr} {H H' : Hp} {W : Addr} {v : V} {r : Rl} {x : Str} (h : WorldAt P w p H W v r x) (k : Kp p H H') (t : TupK H H') : WorldAt P w p H' W v r x := by
  obtain ⟨Dw, Ds, E, es, ss, C, h1, h2, h3, h4, h5, h6, h7, h8, n1, n2, n3, n4, n5⟩ := h
  refine ⟨Dw, Ds, E, es, ss, C, k _ _ n1 h1, h2.kp keyT k t n2, h3.kp keyT k t n3, h4, fun z hz => ?_, h6, k _ _ n4 h7, paired_imp (fun _ _ => FoAt.mono _ _ _ _ t) h8, n1, n2, n3, n4, n5⟩
  obtain ⟨l, us, e, hl, hp⟩ := h5 z hz
  exact ⟨l, us, e, k _ _ (fun z2 => n5 z hz (by rw [e, z2])) hl, paired_imp (fun _ _ => FoAt.mono _ _ _ _ t) hp⟩
theorem SF_pair (L : List Fo) : (SF L).Pairwise fun a b => PySem.W.dataLe false dFo a b = true := by
  have T := PySem.W.sortLe_total (listOrd itemOrd) false fun z : Fo => PySem.W.keyToks (dFo z)
  exact List.pairwise_mergeSort (le := PySem.W.dataLe false dFo) T.trans (fun a b => by
    rcases T.total a b with h | h
    · rw [show PySem.W.dataLe false dFo a b = true from h]
      rfl
    · rw [show PySem.W.dataLe false dFo b a = true from h, Bool.or_true]) L
theorem SF_idem (L : List Fo) : SF (SF L) = SF L := List.mergeSort_of_pairwise (SF_pair L)
theorem fks_fo {H : Hp} {f : Fo → V} : ∀ {L : List Fo} {bs : List Addr}, Paired (fun (p : Fq × V) b => FkT H b p.1) (L.map fun q => (q, f q)) bs → Paired (FoAt H) (bs.map V.ref) L
  | [], _, h => by
    cases h
    exact .nil
  | q :: L, _, h => by
    rw [List.map_cons] at h
    cases h with
    | cons h1 t => exact .cons h1 (fks_fo t)
theorem merge_world {a b c d e : V} : mergeK [] [((.inr "book" : Key), a), (.inr "line", b), (.inr "worths", c), (.inr "steps", d), (.inr "every", e)] = [(.inr "book", a), (.inr "line", b), (.inr "worths", c), (.inr "steps", d), (.inr "every", e)] := by
  have h : ([.inr "book", .inr "line", .inr "worths", .inr "steps", .inr "every"] : List Key).Nodup := by decide +kernel
  have := merge_nd [((.inr "book" : Key), a), (.inr "line", b), (.inr "worths", c), (.inr "steps", d), (.inr "every", e)] [] h
  rw [List.nil_append] at this
  exact this
theorem cut_one {fs : List V} {H : Hp} {q : Fo} {a : Nat} (hp : Paired (TwoAt H) fs q) : Paired (TwoAt H) (fs.take a ++ fs.drop (a + 1)) (q.eraseIdx a) := by
  rw [List.eraseIdx_eq_take_drop_succ]
  exact paired_app (paired_take a hp) (paired_drop (a + 1) hp)
section
variable {P : Program} {w : World} {K : PySem.W.Frag} {mg : Str → Option Value} {base : Heap}
abbrev s_law_world : Stmt := topS 40
theorem sc_law_world : FnScope ["_law_book_here", "_law_line_here", "_law_worths", "_law_one", "_law_steps", "_law_at", "_law_less"] ["_law_book_here", "_law_line_here"] (defScope s_law_world) :=
  ⟨rfl, rfl, rfl, by decide +kernel, rfl, by decide +kernel, by decide +kernel⟩
def spWorld (P : Program) (w : World) : Sp := fun vs H Q _ => ∃ (v : V) (r : Rl) (x : Str), vs = [v, .str x] ∧ RulesAt H v r ∧ RlOk r ∧ x.length ≤ 12 ∧ Of r.letters x ∧
  ∀ (W : Addr) (H' : Hp), (∀ p o, H p = some o → WorldAt P w p H' W v r x) → Ext H H' → Q (.ref W) H'
theorem ok_world {f : Addr} {fd : FuncData} (F : Fun K "_law_world" "_law_world" s_law_world f fd) (c_law_lists : CLists P w K mg base) (c_law_worth : CValR P w K mg base) (mlen : mg "len" = none) (mlist : mg "list" = none) (mdict : mg "dict" = none) (mrange : mg "range" = none) (msorted : mg "sorted" = none) : FnOk P w K mg base CX0 16 f fd ["_law_book_here", "_law_line_here"] (spWorld P w) := by
  refine F.ok sc_law_world (fun vs H Q E h => ?_) (fun cdv A outer s H vs Q E hr h => ?_)
  · obtain ⟨v, r, x, rfl, _⟩ := h
    rfl
  · obtain ⟨v, r, x, rfl, hR, ok, hx, hO, q⟩ := h
    refine ⟨_, (pss_cons (ps_set (i := 2) sc_law_world.nd rfl (.inl rfl) pe_dnewT)
      (pss_cons (ps_wk (H0 := H) (ps_for PassesOwn.never rfl (pi_list (pe_callB (cr_sortX K hr.units) (by rfl) msorted (by decide +kernel) (pa_cons (pe_ca c_law_lists (hr.mono (by decide)) (by rfl) (pa_cons (pv 0) (pa_cons (pv 1) (pa_cons pe_int (pa_cons (pe_op op_sub (pe_callB call_len_str (by rfl) mlen (by decide +kernel) (pa_cons (pv 1) pa_nil)) pe_int) pa_nil))))) pa_nil))) (pg_name (i := 3) sc_law_world.nd rfl (.inl rfl)) (pss_one (ps_fput (P := P) (w := w) hr.units (pv 2) (pv 3) (pe_ca c_law_worth (hr.mono (by decide)) (by rfl) (pa_cons (pv 0) (pa_cons (pv 1) (pa_cons (pv 3) pa_nil)))) rfl))))
      (pss_cons (ps_set (i := 4) sc_law_world.nd rfl (.inl rfl) (pe_callTy (dictLF P w K hr.units) (by rfl) mdict (by decide +kernel) (pa_cons (pe_lock (pe_lc (own := [("_law_one", 3)]) (g := gName 3) (by rfl) sc_law_world.nd (pi_keysF (P := P) (w := w) (pv 2)) (blkOk_by (own := [("_law_one", 3)]) (N := ["_law_book_here", "_law_line_here", "_law_worths", "_law_one", "_law_steps", "_law_at", "_law_less"]) (sc := defScope s_law_world) (by decide +kernel)) (fun _ _ _ _ _ => (pg_name (i := 3) sc_law_world.nd rfl (.inl rfl))) (fun _ _ _ _ _ => pts_nil) (fun _ _ _ _ _ => (pe_tup (pa_cons (pv 3) (pa_cons (pe_lst pa_nil) pa_nil)))))) pa_nil)))
      (pss_cons (ps_lock (ps_for PassesOwn.never rfl (pi_keysF (P := P) (w := w) (pv 2)) (pg_name (i := 3) sc_law_world.nd rfl (.inl rfl)) (pss_one (ps_for PassesOwn.never rfl (pi_range1 (by rfl) mrange (pa_cons (pe_callB (lenQ K) (by rfl) mlen (by decide +kernel) (pa_cons (pv 3) pa_nil)) pa_nil)) (pg_name (i := 5) sc_law_world.nd rfl (.inl rfl)) (pss_cons (ps_set (i := 6) sc_law_world.nd rfl (.inl rfl) (pe_op (catE K) (pe_slice (slE K) (pv 3) po_none (po_some (pv 5))) (pe_slice (slE K) (pv 3) (po_some (pe_op op_add (pv 5) pe_int)) po_none)))
      (pss_cons (ps_expr (pe_bm PySem.F.plainAttrs_list PySem.F.slot_list_append PySem.F.type_list_append mt_append (pe_fget (P := P) (w := w) hr.units (pv 4) (pv 3) (fun _ _ => rfl)) (pa_cons (pv 6) pa_nil)))
      (pss_one (ps_expr (pe_bm PySem.F.plainAttrs_list PySem.F.slot_list_append PySem.F.type_list_append mt_append (pe_fget (P := P) (w := w) hr.units (pv 4) (pv 6) (fun _ _ => rfl)) (pa_cons (pv 3) pa_nil))))))))))
      (pss_one (ps_ret (pe_disp (pps_cons pe_str (pv 0) (pps_cons pe_str (pv 1) (pps_cons pe_str (pv 2) (pps_cons pe_str (pv 4) (pps_cons pe_str (pe_callB (cr_sortX K hr.units) (by rfl) msorted (by decide +kernel) (pa_cons (pe_callTy (listF P w rfl) (by rfl) mlist (by decide +kernel) (pa_cons (pv 2) pa_nil)) pa_nil)) pps_nil))))) (by rfl) (by rfl) (fun z => by cases z) (by decide)))))))), ?_⟩
    have hALl := AL_len r hx
    have hnd := AL_nd r x
    -- worths
    refine fun Dw hDw => ?_
    have x0 := Ext.new (o := .dT []) hDw
    have hD0 : upd H Dw (.dT []) Dw = some (.dT []) := upd_same
    generalize upd H Dw (.dT []) = H0 at x0 hD0 ⊢
    refine ⟨_, rfl, _, rfl, _, rfl, x, rfl, szL (by omega), _, 1, rfl, rfl, v, r, x, 0, (x.length : Int), rfl, RulesAt.mono _ _ _ _ (TupK.ext x0) hR, ok, hx, Int.le_refl _, by omega, Int.le_refl _, by omega, fun l us H1 hl hL hP k1 => ?_⟩
    rw [show ((x.length : Int) - 0).toNat = x.length by omega] at hP
    have hP := paired_imp (fun _ _ h => FzN.back x0 h) hP
    delta tNil
    refine sort_R (FzN.mono (H0 := H)) dp_fz hL hP fun pl ws H2 hpl hL2 hP2 k2 => ?_
    have hP2 : Paired (FzN H H2) ws (AL r x) := hP2
    have x02 := x0.trans (k1.trans k2)
    have hD2 := (k1.trans k2) _ _ hD0
    have npl : pl ≠ Dw := fun z => by rw [z, k1 _ _ hD0] at hpl; cases hpl
    have hwl := paired_len hP2
    refine ⟨pl, rfl, ⟨_, SqL.of hL2⟩, for_list (K := K) (xs := ws) (fun i σ Hc => ∃ y3 : Option V, σ = [some v, some (.str x), some (.ref Dw), y3, none, none, none] ∧ DFw P w (FkN H) Hc Dw (((AL r x).take i).map (enW r x)) ∧ Kp Dw H2 Hc ∧ TupK H2 Hc)
      ⟨none, rfl, .inr ⟨.inr hD2, rfl⟩, Kp.refl, TupK.refl⟩ (fun i σ Hc _ h => by obtain ⟨_, _, _, k, _⟩ := h; exact SqL.of (k _ _ npl hL2)) (fun i u σ Hc hi hv => ?_) (fun σ Hc hv => ?_)⟩
    · obtain ⟨y3, rfl, hDc, kc, tkc⟩ := hv
      obtain ⟨q1, hq1, b, rfl, hb⟩ := paired_get hP2 hi
      have hb := (keyN H).mono tkc hb
      have hq1m := List.mem_of_getElem? hq1
      have hil : i < (AL r x).length := (List.getElem?_eq_some_iff.mp hq1).1
      refine ⟨_, rfl, _, rfl, _, rfl, v, b, r, x, q1, rfl, RulesAt.mono _ _ _ _ ((TupK.ext x02).trans tkc) hR, ok, hx, hO, hb.1, AL_mem.mp hq1m, fun H3 k3 => ?_⟩
      have hD3 : DFw P w (FkN H) H3 Dw (((AL r x).take i).map (enW r x)) := by
        rcases hDc with h | ⟨h, e⟩
        · exact .inl (h.ext (keyN H) k3)
        · exact .inr ⟨h.imp (fun h => k3 _ _ h) (fun h => k3 _ _ h), e⟩
      have hno : valV (((AL r x).take i).map (enW r x)) q1 = none := val_key fun y hy e => by
        have h2 : ((AL r x).take (i + 1)).Nodup := List.Sublist.nodup (List.take_sublist _ _) hnd
        rw [List.take_add_one, hq1] at h2
        exact (List.nodup_append.mp h2).2.2 _ hy q1 (List.mem_singleton.mpr rfl) e
      refine ⟨_, rfl, _, rfl, FkN H, keyN H, Dw, b, _, q1, rfl, rfl, hD3, (keyN H).mono (TupK.ext k3) hb, szLt (by rw [List.length_map, List.length_take]; omega), fun o hd => ?_⟩
      rw [putK_new _ hno] at hd
      refine ⟨some (.ref b), rfl, .inl ?_, ?_, ?_⟩
      · rw [List.take_add_one, hq1, List.map_append]
        exact hd
      · exact fun b' o' n e => by
          rw [upd_ne n]
          exact k3 _ _ (kc b' o' n e)
      · exact (tkc.trans (TupK.ext k3)).trans (mut_tk hD3.mut)
    obtain ⟨y3, rfl, hDc, kc, tkc⟩ := hv
    rw [hwl, List.take_length] at hDc
    have hDc : DF P w (FkN H) Hc Dw ((AL r x).map (enW r x)) := hDc.elim id fun ⟨_, e⟩ => by
      have h1 := AL_pos r x
      have h2 : AL r x = [] := List.map_eq_nil_iff.mp e
      rw [h2] at h1
      cases h1
    have xc : Ext H Hc := fun b o e => kc b o (ne_of_none e hDw) (x02 _ _ e)
    have hD3 := hDc.unf
    have x3 := unf_ext (H := Hc) xc
    dsimp only
    generalize unf H Hc = H3 at hD3 x3 ⊢
    clear hDc kc tkc xc hP hP2 hL hL2 k1 k2 x02 hD2 hpl npl hD0 x0 hl
    -- steps
    obtain ⟨xw, ew, hKw⟩ := id hD3
    refine ⟨Dw, _, ew, True.intro, fun od => ?_⟩
    have tkf : TupK H3 (upd H3 Dw (.frz od (dfO P w Dw xw))) := mut_tk hD3.mut
    refine ⟨_, rfl, FkT, Dw, od, _, rfl, ⟨xw, upd_same, hKw.keeps keyT tkf⟩, fun D hD => ?_⟩
    have nDw : D ≠ Dw := fun z => by rw [z, upd_same] at hD; cases hD
    have hD' : H3 D = none := by rw [upd_ne nDw] at hD; exact hD
    refine lc_it walk_keysF (fun i H5 => ∃ (ps : List Addr) (kvs : List TFV), H5 D = some (.lst (ps.map V.ref)) ∧ Paired (TfT H5) ps kvs ∧ kvs.map (·.1) = (AL r x).take i ∧ (∀ z ∈ kvs, ∃ l, z.2.2 = .ref l ∧ H5 l = some (.lst []) ∧ H3 l = none ∧ l ≠ D) ∧ (kvs.map (·.2.2)).Nodup ∧ Ext (upd H3 Dw (.frz od (dfO P w Dw xw))) H5)
      ⟨[], [], upd_same, .nil, rfl, (fun z h => by cases h), List.nodup_nil, Ext.new hD⟩ (fun i H5 _ h => by obtain ⟨_, _, _, _, _, _, _, k⟩ := h; exact ⟨xw, k _ _ upd_same, (hKw.keeps keyT tkf).keeps keyT (TupK.ext k)⟩) (fun i u H5p H5 hi hv hy => ?_) (fun H5 hv => ?_)
    · obtain ⟨ps, kvs, hL5, hP5, hks, hnew, hnl, k5⟩ := hv
      obtain ⟨rfl, kq, vq, b, hkv, rfl, hb⟩ := hy
      rw [List.getElem?_map] at hkv
      obtain ⟨q1, hq1, e1⟩ := Option.map_eq_some_iff.mp hkv
      have ek : q1 = kq := congrArg Prod.fst e1
      subst ek
      refine ⟨rfl, _, rfl, Nat.zero_le _, fun l hl => ⟨szL (show 2 ≤ 1000000 by decide), fun t ht => ?_⟩⟩
      have x6 := Ext.new (o := .lst []) hl
      have x7 := Ext.new (o := .tup [.ref b, .ref l]) ht
      have x67 := x6.trans x7
      have hlt : l ≠ t := fun z => by rw [← z, upd_same] at ht; cases ht
      have hlD : l ≠ D := fun z => by rw [z, hL5] at hl; cases hl
      have hpsl : ps.length ≤ 15511 := by
        have h1 := paired_len hP5
        have h2 := congrArg List.length hks
        rw [List.length_map, List.length_take] at h2
        omega
      have hL7 := x67 _ _ hL5
      have tk8 : TupK (upd (upd H5 l (.lst [])) t (.tup [.ref b, .ref l])) (upd (upd (upd H5 l (.lst [])) t (.tup [.ref b, .ref l])) D (.lst (ps.map V.ref ++ [.ref t]))) := TupK.lst hL7
      refine ⟨_, hL7, szLt (by rw [List.length_map]; omega), ps ++ [t], kvs ++ [(q1, b, .ref l)], ?_, ?_, ?_, fun z hz => ?_, ?_, (k5.trans x67).put hD⟩
      · rw [upd_same, List.map_append]
        rfl
      · refine paired_app (paired_imp (fun _ _ ⟨h1, h2⟩ => ⟨tk8 _ _ (x67 _ _ h1), keyT.mono ((TupK.ext x67).trans tk8) h2⟩) hP5) (.cons ⟨tk8 _ _ upd_same, keyT.mono ((TupK.ext x67).trans tk8) hb⟩ .nil)
      · rw [List.map_append, hks, List.take_add_one, hq1]
        rfl
      · rcases List.mem_append.mp hz with hz | hz
        · obtain ⟨l2, e2, hl2, hn2, hd2⟩ := hnew z hz
          exact ⟨l2, e2, by rw [upd_ne hd2]; exact x67 _ _ hl2, hn2, hd2⟩
        · rw [List.mem_singleton.mp hz]
          refine ⟨l, rfl, ?_, ?_, hlD⟩
          · rw [upd_ne hlD, upd_ne hlt]
            exact upd_same
          · have h1 := k5.none hl
            by_cases c : l = Dw
            · rw [c, upd_same] at h1
              cases h1
            · rw [upd_ne c] at h1
              exact h1
      · rw [List.map_append]
        refine List.nodup_append.mpr ⟨hnl, List.pairwise_singleton _ _, fun a1 ha1 b1 hb1 e => ?_⟩
        obtain ⟨z, hz, rfl⟩ := List.mem_map.mp ha1
        obtain ⟨l2, e2, hl2, _⟩ := hnew z hz
        rw [List.mem_singleton.mp hb1, e2] at e
        injection e with e
        rw [e, hl] at hl2
        cases hl2
    obtain ⟨ps, kvs, hL5, hP5, hks, hnew, hnl, k5⟩ := hv
    rw [List.length_map, List.take_length] at hks
    refine ⟨k5 _ _ upd_same, ?_⟩
    have xu : Ext H3 (upd H5 Dw (dfO P w Dw xw)) := fun b o e => by
      by_cases c : b = Dw
      · rw [c, upd_same]
        rw [c, ew] at e
        exact e
      · rw [upd_ne c]
        exact k5 _ _ (by rw [upd_ne c]; exact e)
    have tku : T1 H5 (upd H5 Dw (dfO P w Dw xw)) := t1_put fun xs e => by rw [k5 _ _ upd_same] at e; cases e
    have hLu : (upd H5 Dw (dfO P w Dw xw)) D = some (.lst (ps.map V.ref)) := by
      rw [upd_ne nDw]
      exact hL5
    have hPu : Paired (TfT (upd H5 Dw (dfO P w Dw xw))) ps kvs := paired_imp (fun _ _ ⟨h1, h2⟩ => ⟨tku _ _ h1, h2.t1 tku⟩) hP5
    have hnewu : ∀ z ∈ kvs, ∃ l, z.2.2 = .ref l ∧ (upd H5 Dw (dfO P w Dw xw)) l = some (.lst []) ∧ H3 l = none := fun z hz => by
      obtain ⟨l, e1, e2, e3, _⟩ := hnew z hz
      refine ⟨l, e1, ?_, e3⟩
      rw [upd_ne fun z => by rw [z, ew] at e3; cases e3]
      exact e2
    generalize upd H5 Dw (dfO P w Dw xw) = H6 at xu hLu hPu hnewu ⊢
    clear tku tkf hL5 hP5 hnew k5 hD
    refine ⟨FkT, keyT, D, ps, kvs, rfl, SqL.of hLu, paired_imp (fun _ _ ⟨h1, h2⟩ => ⟨SqT.of h1, h2⟩) hPu, fun Ds oS hDs hDF => ?_⟩
    have hmk : mergeF [] kvs = kvs.map fun z => (z.1, z.2.2) := mergeF_nd kvs [] (by rw [List.map_nil, List.nil_append, hks]; exact hnd)
    rw [hmk] at hDF
    obtain ⟨ss, hss⟩ : ∃ ss, ss = kvs.map fun z => (z.1, z.2.2) := ⟨_, rfl⟩
    rw [← hss] at hDF
    have hsk : ss.map (·.1) = AL r x := by
      rw [hss, List.map_map]
      exact hks
    have hsn : (ss.map (·.2)).Nodup := by
      rw [hss, List.map_map]
      exact hnl
    have x7 := Ext.new (o := oS) hDs
    have x37 := xu.trans x7
    have hstp : Stps (upd H6 Ds oS) ss fun _ => [] := fun z hz => by
      rw [hss] at hz
      obtain ⟨y, hy, rfl⟩ := List.mem_map.mp hz
      obtain ⟨l, e1, e2, _⟩ := hnewu y hy
      exact ⟨l, [], e1, x7 _ _ e2, .nil⟩
    have hsnew : ∀ z ∈ ss, ∀ l, z.2 = .ref l → H3 l = none := fun z hz l e => by
      rw [hss] at hz
      obtain ⟨y, hy, rfl⟩ := List.mem_map.mp hz
      obtain ⟨l2, e1, _, e3⟩ := hnewu y hy
      have e : y.2.2 = .ref l := e
      rw [e1] at e
      cases e
      exact e3
    have hkn : (ss.map (·.1)).Nodup := by rw [hsk]; exact hnd
    have inj : ∀ y ∈ ss, ∀ z ∈ ss, y.2 = z.2 ↔ y.1 = z.1 := fun y hy z hz => by
      have aux : ∀ {f : Fq × V → Fq} {g : Fq × V → V}, True := fun {_ _} => True.intro
      constructor
      · intro e
        exact congrArg (·.1) (nd_inj hsn hy hz e)
      · intro e
        exact congrArg (·.2) (nd_inj hkn hy hz e)
    have hD7 : DF P w FkT (upd H6 Ds oS) Dw ((AL r x).map (enW r x)) := hD3.ext keyT x37
    have hDs3 : H3 Ds = none := xu.none hDs
    generalize upd H6 Ds oS = H7 at hDF hstp x37 hD7 ⊢
    clear hmk hss hPu hLu hnewu hks hnl x7 xu hDs hKw ew
    -- the walk
    obtain ⟨xw, ew, hKw⟩ := id hD7
    obtain ⟨xs7, es7, hKs7⟩ := id hDF
    have nsw : Ds ≠ Dw := fun z => by
      obtain ⟨_, e, _⟩ := hD3
      rw [z, e] at hDs3
      cases hDs3
    have nls : ∀ z ∈ ss, ∀ l, z.2 = .ref l → l ≠ Dw ∧ l ≠ Ds := fun z hz l e => by
      obtain ⟨l2, us2, e2, h2, _⟩ := hstp z hz
      rw [e2] at e
      cases e
      exact ⟨hD7.ne_lst h2, hDF.ne_lst h2⟩
    refine ⟨Dw, _, ew, True.intro, fun od => ?_⟩
    have tkf : TupK H7 (upd H7 Dw (.frz od (dfO P w Dw xw))) := mut_tk hD7.mut
    have hstpf : Stps (upd H7 Dw (.frz od (dfO P w Dw xw))) ss fun _ => [] := fun z hz => by
      obtain ⟨l, us, e, hl, hp⟩ := hstp z hz
      refine ⟨l, us, e, ?_, paired_imp (fun _ _ => FoAt.mono _ _ _ _ tkf) hp⟩
      rw [upd_ne (nls z hz l e).1]
      exact hl
    have hDFf : DF P w FkT (upd H7 Dw (.frz od (dfO P w Dw xw))) Ds ss := hDF.keeps keyT tkf (upd_ne nsw)
    have hKf := hKw.keeps keyT tkf
    have hef : (upd H7 Dw (.frz od (dfO P w Dw xw))) Dw = some (.frz od (dfO P w Dw xw)) := upd_same
    have kf7 : ∀ b o, b ≠ Dw → H7 b = some o → (upd H7 Dw (.frz od (dfO P w Dw xw))) b = some o := fun b o n e => by rw [upd_ne n]; exact e
    generalize upd H7 Dw (.frz od (dfO P w Dw xw)) = Hf at tkf hstpf hDFf hKf hef kf7 ⊢
    refine ⟨_, rfl, FkT, Dw, od, _, rfl, ⟨xw, hef, hKf⟩, for_it walk_keysF (fun c σ Hc => ∃ (y3 y5 y6 : Option V), σ = [some v, some (.str x), some (.ref Dw), y3, some (.ref Ds), y5, y6] ∧ Stps Hc ss (cont ((AL r x).take c)) ∧ (∀ b o, (∀ z ∈ ss, z.2 ≠ .ref b) → Hf b = some o → Hc b = some o) ∧ TupK Hf Hc)
      ⟨y3, none, none, rfl, hstpf, fun _ _ _ e => e, TupK.refl⟩ (fun c σ Hc _ h => ?_) (fun c u σ Hcp Hc hc hv hy => ?_) (fun σ Hc hv => ?_)⟩
    · obtain ⟨_, _, _, _, _, k, tk⟩ := h
      exact ⟨xw, k _ _ (fun z hz e => (nls z hz _ e).1 rfl) hef, hKf.keeps keyT tk⟩
    · obtain ⟨y3, y5, y6, rfl, hst, kc, tkc⟩ := hv
      obtain ⟨rfl, kq, vq, b, hkv, rfl, hb⟩ := hy
      rw [List.getElem?_map] at hkv
      obtain ⟨q1, hq1, e1⟩ := Option.map_eq_some_iff.mp hkv
      have ek : q1 = kq := congrArg Prod.fst e1
      subst ek
      have hq1m := List.mem_of_getElem? hq1
      have h4 := AL_fo hq1m
      have hnq := fo_nd h4.srt
      obtain ⟨_, fs, eb, hB, hPf⟩ := id hb
      cases eb
      have hfl := paired_len hPf
      have hql : q1.length ≤ 12 := by
        have := (WA_in r x x.length 0 q1 (AL_mem.mp hq1m)).2
        omega
      obtain ⟨z1, hz1, ez1⟩ : ∃ z ∈ ss, z.1 = q1 := List.mem_map.mp (hsk ▸ hq1m)
      refine ⟨_, rfl, b, fs, rfl, .inr (SqT.of hB), (fs.length : Int), rfl, by omega, by omega, for_range (lo := 0) (n := fs.length) (fun a σ Ha => ∃ (y5 y6 : Option V), σ = [some v, some (.str x), some (.ref Dw), some (.ref b), some (.ref Ds), y5, y6] ∧ Stps Ha ss (fun q => cont ((AL r x).take c) q ++ prt q1 a q) ∧ (∀ b o, (∀ z ∈ ss, z.2 ≠ .ref b) → Hc b = some o → Ha b = some o) ∧ TupK Hc Ha)
        ⟨y5, y6, rfl, hst.congr fun q => by rw [prt_zero, List.append_nil], fun _ _ _ e => e, TupK.refl⟩ (fun a σ Ha ha hv => ?_) (fun σ Ha hv => ?_)⟩
      · obtain ⟨y5, y6, rfl, hsta, ka, tka⟩ := hv
        have haq : a < q1.length := by omega
        have hBa := tka _ _ hB
        have hPfa := paired_imp (fun _ _ => TwoAt.mono _ _ _ _ tka) hPf
        refine ⟨_, rfl, _, rfl, _, rfl, b, fs, rfl, hBa, fun p1 Hb k1 hp1 => ?_⟩
        rw [show (0 : Int) + (a : Int) = (a : Int) by omega, cut_to] at hp1
        refine ⟨_, rfl, _, rfl, _, 1, rfl, rfl, _, rfl, b, fs, rfl, k1 _ _ hBa, fun p2 Hd k2 hp2 => ?_⟩
        rw [show (0 : Int) + (a : Int) + 1 = ((a + 1 : Nat) : Int) by omega, cut_from] at hp2
        refine ⟨p1, p2, _, _, rfl, rfl, k2 _ _ hp1, hp2, szL (by rw [List.length_take, List.length_drop]; omega), fun p He k3 hp => ?_⟩
        have k13 := (k1.trans k2).trans k3
        obtain ⟨less, hless⟩ : ∃ less, less = q1.eraseIdx a := ⟨_, rfl⟩
        have hFl : FoAt He (.ref p) less := ⟨p, _, rfl, hp, hless ▸ cut_one (paired_imp (fun _ _ => TwoAt.mono _ _ _ _ (TupK.ext k13)) hPfa)⟩
        have hlm : less ∈ lessL q1 := by
          rw [hless]
          exact List.mem_map.mpr ⟨a, List.mem_range.mpr haq, rfl⟩
        have hlA := less_in hq1m hlm
        obtain ⟨z2, hz2, ez2⟩ : ∃ z ∈ ss, z.1 = less := List.mem_map.mp (hsk ▸ hlA)
        have hste := hsta.mono k13
        have tk7e : TupK Hf He := (tkc.trans tka).trans (TupK.ext k13)
        have nDsm : ∀ z ∈ ss, z.2 ≠ .ref Ds := fun z hz e => (nls z hz _ e).2 rfl
        have hDse : DF P w FkT He Ds ss := by
          obtain ⟨xs, e, k⟩ := hDFf
          exact ⟨xs, k13 _ _ (ka _ _ nDsm (kc _ _ nDsm e)), k.keeps keyT tk7e⟩
        have hbe : FkT He b q1 := keyT.mono (tka.trans (TupK.ext k13)) hb
        -- steps[one].append(less)
        obtain ⟨l1, us1, el1, hl1, hp1'⟩ := hste z1 hz1
        have hv1 : valV ss q1 = some (.ref l1) := val_memF hkn (by rw [← ez1, ← el1]; exact hz1)
        have hlen1 : us1.length < 1000000 := by
          have h1 := paired_len hp1'
          have h2 : (cont ((AL r x).take c) z1.1).length ≤ 20000 := by
            have h3 : (cont (AL r x) z1.1).length ≤ (AL r x).length := by
              rw [ez1, (cont_perm hq1m).length_eq]
              exact List.length_filter_le _ _
            have h4 : (cont ((AL r x).take c) z1.1).length ≤ (cont (AL r x) z1.1).length := by
              have e : AL r x = (AL r x).take c ++ (AL r x).drop c := (List.take_append_drop _ _).symm
              unfold cont
              conv => rhs; rw [e]
              rw [List.flatMap_append, List.length_append]
              omega
            omega
          have h5 : (prt q1 a z1.1).length ≤ 20 := by
            unfold prt
            split
            · rw [List.length_take]; omega
            · split
              · show (1 : Nat) ≤ 20
                decide
              · show (0 : Nat) ≤ 20
                decide
          rw [List.length_append] at h1
          omega
        refine ⟨_, rfl, _, rfl, Ds, b, ss, q1, .ref l1, rfl, rfl, hDse.r keyT, keyT.imp hbe, hv1, .inl ⟨rfl, _, SqL.of hl1⟩, _, rfl, l1, us1, .ref p, rfl, rfl, hl1, szLt (by omega), ?_⟩
        have hst2 := hste.app inj hz1 el1 hl1 hp1' hFl
        have tk8 : TupK He (upd He l1 (.lst (us1 ++ [.ref p]))) := TupK.lst hl1
        have hDs8 := hDse.keeps keyT tk8 (upd_ne (nls z1 hz1 l1 el1).2.symm)
        have hFl8 := FoAt.mono _ _ _ _ tk8 hFl
        have hb8 := keyT.mono tk8 hbe
        have k8 : ∀ b o, (∀ z ∈ ss, z.2 ≠ .ref b) → He b = some o → (upd He l1 (.lst (us1 ++ [.ref p]))) b = some o := fun b o n e => by
          rw [upd_ne fun z => n z1 hz1 (by rw [el1, z])]
          exact e
        generalize upd He l1 (.lst (us1 ++ [.ref p])) = H8 at hst2 tk8 hDs8 hFl8 hb8 k8 ⊢
        -- steps[less].append(one)
        obtain ⟨l2, us2, el2, hl2, hp2'⟩ := hst2 z2 hz2
        have hv2 : valV ss less = some (.ref l2) := val_memF hkn (by rw [← ez2, ← el2]; exact hz2)
        have hlen2 : us2.length < 1000000 := by
          have h1 := paired_len hp2'
          dsimp only at h1
          have hne : ¬ z2.1 = z1.1 := fun e => by
            have := less_len hlm
            rw [← ez1, ← e, ez2] at this
            omega
          rw [if_neg hne, List.length_append] at h1
          have h3 : (cont (AL r x) z2.1).length ≤ (AL r x).length := by
            rw [ez2, (cont_perm hlA).length_eq]
            exact List.length_filter_le _ _
          have h4 : (cont ((AL r x).take c) z2.1).length ≤ (cont (AL r x) z2.1).length := by
            have e : AL r x = (AL r x).take c ++ (AL r x).drop c := (List.take_append_drop _ _).symm
            unfold cont
            conv => rhs; rw [e]
            rw [List.flatMap_append, List.length_append]
            omega
          have h5 : (prt q1 a z2.1).length ≤ 20 := by
            unfold prt
            split
            · rw [List.length_take]; omega
            · split
              · show (1 : Nat) ≤ 20
                decide
              · show (0 : Nat) ≤ 20
                decide
          omega
        obtain ⟨ap, vs2, eap, hap, hpap⟩ := id hFl8
        cases eap
        refine ⟨_, rfl, _, rfl, Ds, p, ss, less, .ref l2, rfl, rfl, hDs8.r keyT, keyT.imp hFl8, hv2, .inl ⟨rfl, _, SqL.of hl2⟩, _, rfl, l2, us2, .ref b, rfl, rfl, hl2, szLt (by omega), ?_⟩
        have hst3 := hst2.app inj hz2 el2 hl2 hp2' (q := q1) hb8
        have tk9 : TupK H8 (upd H8 l2 (.lst (us2 ++ [.ref b]))) := TupK.lst hl2
        refine ⟨some (.int (0 + (a : Int))), some (.ref p), rfl, hst3.congr fun q => ?_, fun b' o' n e => ?_, ((tka.trans (TupK.ext k13)).trans tk8).trans tk9⟩
        · rw [ez1, ez2, prt_step hnq haq hless]
          by_cases c1 : q = less
          · have c2 : ¬ q = q1 := fun e => by
              have := less_len hlm
              rw [← e, c1] at this
              omega
            rw [if_pos c1, if_neg c2, if_pos c1, List.append_assoc]
          · rw [if_neg c1, if_neg c1]
            by_cases c2 : q = q1
            · rw [if_pos c2, if_pos c2, List.append_assoc]
            · rw [if_neg c2, if_neg c2]
        · rw [upd_ne fun z => n z2 hz2 (by rw [el2, z])]
          exact k8 _ _ n (k13 _ _ (ka _ _ n e))
      · obtain ⟨y5, y6, rfl, hsta, ka, tka⟩ := hv
        refine ⟨some (.ref b), y5, y6, rfl, hsta.congr fun q => ?_, fun b o n e => ka _ _ n (kc _ _ n e), tkc.trans tka⟩
        rw [hfl, prt_all, cont_snoc hq1]
    obtain ⟨y3', y5, y6, rfl, hst, kc, tkc⟩ := hv
    rw [List.length_map, List.take_length] at hst
    have nDwm : ∀ z ∈ ss, z.2 ≠ .ref Dw := fun z hz e => (nls z hz _ e).1 rfl
    have nDsm : ∀ z ∈ ss, z.2 ≠ .ref Ds := fun z hz e => (nls z hz _ e).2 rfl
    refine ⟨kc _ _ nDwm hef, ?_⟩
    have tku : T1 Hc (upd Hc Dw (dfO P w Dw xw)) := t1_put fun xs e => by rw [kc _ _ nDwm hef] at e; cases e
    have tk7u : T1 H7 (upd Hc Dw (dfO P w Dw xw)) := (tkf.trans tkc).t1.trans tku
    have hDwu : DF P w FkT (upd Hc Dw (dfO P w Dw xw)) Dw ((AL r x).map (enW r x)) := ⟨xw, upd_same, hKw.t1 tk7u⟩
    have hDsu : DF P w FkT (upd Hc Dw (dfO P w Dw xw)) Ds ss := ⟨xs7, by
      rw [upd_ne nsw]
      exact kc _ _ nDsm (kf7 _ _ nsw es7), hKs7.t1 tk7u⟩
    have hstu : Stps (upd Hc Dw (dfO P w Dw xw)) ss (cont (AL r x)) := fun z hz => by
      obtain ⟨l, us, e, hl, hp⟩ := hst z hz
      refine ⟨l, us, e, ?_, paired_imp (fun _ _ => FoAt.t1 tku) hp⟩
      rw [upd_ne (nls z hz l e).1]
      exact hl
    have x3u : Ext H3 (upd Hc Dw (dfO P w Dw xw)) := fun b o e => by
      have hb7 := x37 b o e
      by_cases c : b = Dw
      · rw [c, upd_same]
        rw [c, ew] at hb7
        exact hb7
      · rw [upd_ne c]
        exact kc _ _ (fun z hz e2 => by rw [hsnew z hz b e2] at e; cases e) (kf7 _ _ c hb7)
    generalize upd Hc Dw (dfO P w Dw xw) = Hu at hDwu hDsu hstu x3u ⊢
    clear tku tk7u tkf tkc kc hst hstpf hDFf hKf hef kf7 hD7 hDF hstp x37 hKw ew es7 hKs7
    -- the display
    have xHu := x3.trans x3u
    refine fun W hW => ?_
    have xW := Ext.new (o := .dK []) hW
    refine ⟨_, rfl, _, rfl, _, rfl, _, rfl, _, rfl, FkT, Dw, _, rfl, .inl (hDwu.ext keyT xW), fun lq bs hlq hkeys => ?_⟩
    have xq := xW.trans (Ext.new (o := .lst (bs.map V.ref)) hlq)
    have hWq : (upd (upd Hu W (.dK [])) lq (.lst (bs.map V.ref))) W = some (.dK []) := Ext.new hlq _ _ upd_same
    have hLq : (upd (upd Hu W (.dK [])) lq (.lst (bs.map V.ref))) lq = some (.lst (bs.map V.ref)) := upd_same
    have hPq : Paired (FoAt (upd (upd Hu W (.dK [])) lq (.lst (bs.map V.ref)))) (bs.map V.ref) (AL r x) := fks_fo (paired_imp (fun _ _ h => keyT.mono (TupK.new hlq) h) hkeys)
    have nlq : lq ≠ W := fun z => by rw [z, upd_same] at hlq; cases hlq
    have hlqu : Hu lq = none := xW.none hlq
    generalize upd (upd Hu W (.dK [])) lq (.lst (bs.map V.ref)) = Hq at xq hWq hLq hPq ⊢
    refine sort_R FoAt.mono dp_fo hLq hPq fun pe we He hpe hEe hPe ke => ?_
    rw [show SF (AL r x) = AL r x from SF_idem _] at hPe
    have xe := xq.trans ke
    have hWe := ke _ _ hWq
    have hpeu : Hu pe = none := xq.none hpe
    refine ⟨hWe, [(.inr "book", v), (.inr "line", .str x), (.inr "worths", .ref Dw), (.inr "steps", .ref Ds), (.inr "every", .ref pe)], rfl, (show (5 : Nat) ≤ 15 by decide), ?_⟩
    rw [merge_world]
    have tkz : TupK He (upd He W (.dK [(.inr "book", v), (.inr "line", .str x), (.inr "worths", .ref Dw), (.inr "steps", .ref Ds), (.inr "every", .ref pe)])) := mut_tk (by rw [hWe]; exact True.intro)
    have npe : pe ≠ W := fun z => by rw [z, hWq] at hpe; cases hpe
    have xz : Ext Hu (upd He W (.dK [(.inr "book", v), (.inr "line", .str x), (.inr "worths", .ref Dw), (.inr "steps", .ref Ds), (.inr "every", .ref pe)])) := fun b o e => by
      rw [upd_ne (ne_of_none e hW)]
      exact xe _ _ e
    refine q W _ (fun p o hp => ⟨Dw, Ds, pe, we, ss, cont (AL r x), upd_same, hDwu.ext keyT xz, hDsu.ext keyT xz, hsk, hstu.mono xz, fun q1 h1 => cont_perm h1, ?_, ?_, ?_, ?_, ?_, ?_, fun z hz e => ?_⟩) (xHu.trans xz)
    · rw [upd_ne npe]
      exact hEe
    · exact paired_imp (fun _ _ => FoAt.mono _ _ _ _ tkz) hPe
    · exact (ne_of_none (xHu _ _ hp) hW).symm
    · exact (ne_of_none hp hDw).symm
    · exact (ne_of_none (x3 _ _ hp) hDs3).symm
    · exact (ne_of_none (xHu _ _ hp) hpeu).symm
    · have := hsnew z hz p e
      rw [x3 _ _ hp] at this
      cases this
abbrev CWorld (P : Program) (w : World) (K : PySem.W.Frag) (mg : Str → Option Value) (base : Heap) : Prop := Ca P w K mg base 16 "_law_world" ["_law_book_here", "_law_line_here"] (spWorld P w)
end
end Pf


namespace Pf
open PySem PySem.Spec PyProof.Rows L2
/-! ### what is a folding -/
def go2 (p q : Int × Int) : Bool := decide (p.2 < q.1) || decide (q.2 < p.2)
def risL (qs : List (Int × Int)) : List Bool := (qs.zip (qs.drop 1)).map fun z => lt2 z.1 z.2
def goL : List (Int × Int) → List Bool
  | [] => []
  | p :: r => r.map (go2 p) ++ goL r
def isF (r : Rl) (x : Str) (qs : List (Int × Int)) : Bool := (qs.map fun y => mayC r x y.1 y.2).all id && ((risL qs).all id && (goL qs).all id)
theorem goL_len : ∀ qs : List (Int × Int), (goL qs).length ≤ qs.length * qs.length
  | [] => Nat.le_refl _
  | p :: r => by
    have h := goL_len r
    rw [goL, List.length_append, List.length_map, List.length_cons, Nat.succ_mul, Nat.mul_succ]
    omega
theorem goL_at {qs : List (Int × Int)} {i : Nat} {p : Int × Int} (h : qs[i]? = some p) : goL (qs.drop i) = (qs.drop (i + 1)).map (go2 p) ++ goL (qs.drop (i + 1)) := by
  obtain ⟨hi, e⟩ := List.getElem?_eq_some_iff.mp h
  rw [List.drop_eq_getElem_cons hi, e, goL]
theorem isF_true {r : Rl} {x : Str} {qs : Fo} (h : Fo4 r x 0 x.length qs) : isF r x qs = true := by
  unfold isF
  rw [Bool.and_eq_true, Bool.and_eq_true]
  refine ⟨List.all_eq_true.mpr fun b hb => ?_, List.all_eq_true.mpr fun b hb => ?_, ?_⟩
  · obtain ⟨y, hy, rfl⟩ := List.mem_map.mp hb
    exact h.may y hy
  · obtain ⟨z, hz, rfl⟩ := List.mem_map.mp hb
    obtain ⟨i, hi⟩ := List.getElem?_of_mem hz
    obtain ⟨h1, h2⟩ := (List.getElem?_zip_eq_some (z := z)).mp hi
    rw [List.getElem?_drop] at h2
    obtain ⟨l1, e1⟩ := List.getElem?_eq_some_iff.mp h1
    obtain ⟨l2, e2⟩ := List.getElem?_eq_some_iff.mp h2
    have := List.pairwise_iff_getElem.mp h.srt i (1 + i) l1 l2 (by omega)
    rw [e1, e2] at this
    exact decide_eq_true (.inl this)
  · have aux : ∀ l : Fo, l.Sublist qs → (goL l).all id = true := by
      intro l
      induction l with
      | nil => intro _; rfl
      | cons p l ih =>
        intro hs
        rw [goL, List.all_append, ih ((List.sublist_cons_self p l).trans hs), Bool.and_true]
        refine List.all_eq_true.mpr fun b hb => ?_
        obtain ⟨y, hy, rfl⟩ := List.mem_map.mp hb
        have h1 := (List.pairwise_cons.mp (h.srt.sublist hs)).1 y hy
        have h2 := h.sep p (hs.subset (List.mem_cons_self ..)) y (hs.subset (List.mem_cons_of_mem _ hy)) h1
        show (decide (p.2 < y.1) || decide (y.2 < p.2)) = true
        rcases h2 with h2 | h2
        · rw [decide_eq_true h2, Bool.or_true]
        · rw [decide_eq_true h2, Bool.true_or]
    exact aux qs (List.Sublist.refl _)
section
variable {P : Program} {w : World} {K : PySem.W.Frag} {mg : Str → Option Value} {base : Heap}
abbrev s_is_whole : Stmt := topS 2
theorem sc_is_whole : FnScope ["thing"] ["thing"] (defScope s_is_whole) :=
  ⟨rfl, rfl, rfl, by decide +kernel, rfl, by decide +kernel, by decide +kernel⟩
def spWhI : Sp := fun vs H Q _ => ∃ i : Int, vs = [.int i] ∧ Q (.bl true) H
theorem ok_whI {f : Addr} {fd : FuncData} {k : Nat} (F : Fun K "is_whole" "is_whole" s_is_whole f fd) (misinstance : mg "isinstance" = none) (mint : mg "int" = none) (mbool : mg "bool" = none) : FnOk P w K mg base CX0 (k + 1) f fd ["thing"] spWhI := by
  refine F.ok sc_is_whole (fun vs H Q E h => ?_) (fun cdv A outer s H vs Q E hr h => ?_)
  · obtain ⟨i, rfl, _⟩ := h
    rfl
  · obtain ⟨i, rfl, q⟩ := h
    refine ⟨_, (pss_one (ps_ret (pe_and (pe_callB (isi1 K) (by rfl) misinstance (by decide +kernel) (pa_cons (pv 0) (pa_cons (pe_bltn (v := .ty "int") (by rfl) mint (by decide +kernel) rfl) pa_nil))) (pe_one (pe_not (pe_callB (isi1 K) (by rfl) misinstance (by decide +kernel) (pa_cons (pv 0) (pa_cons (pe_bltn (v := .ty "bool") (by rfl) mbool (by decide +kernel) rfl) pa_nil)))))))), ?_⟩
    refine ⟨_, rfl, .int i, .ty "int", _, _, true, rfl, .ty _, .base (.int i), kit_ty (by decide +kernel), true, rfl, iteT ?_⟩
    exact ⟨_, rfl, .int i, .ty "bool", _, _, false, rfl, .ty _, .base (.int i), kit_ty (by decide +kernel), false, rfl, q⟩
abbrev s_is_row : Stmt := topS 3
theorem sc_is_row : FnScope ["thing", "size"] ["thing", "size"] (defScope s_is_row) :=
  ⟨rfl, rfl, rfl, by decide +kernel, rfl, by decide +kernel, by decide +kernel⟩
def spRow2 : Sp := fun vs H Q _ => ∃ (t : Addr) (xs : List V) (n : Int), vs = [.ref t, .int n] ∧ H t = some (.tup xs) ∧ Q (.bl (decide ((xs.length : Int) = n))) H
theorem ok_row2 {f : Addr} {fd : FuncData} {k : Nat} (F : Fun K "is_row" "is_row" s_is_row f fd) (misinstance : mg "isinstance" = none) (mtuple : mg "tuple" = none) (mlen : mg "len" = none) : FnOk P w K mg base CX0 (k + 1) f fd ["thing", "size"] spRow2 := by
  refine F.ok sc_is_row (fun vs H Q E h => ?_) (fun cdv A outer s H vs Q E hr h => ?_)
  · obtain ⟨t, xs, n, rfl, _⟩ := h
    rfl
  · obtain ⟨t, xs, n, rfl, hT, q⟩ := h
    refine ⟨_, (pss_one (ps_ret (pe_and (pe_callB (isi1 K) (by rfl) misinstance (by decide +kernel) (pa_cons (pv 0) (pa_cons (pe_bltn (v := .ty "tuple") (by rfl) mtuple (by decide +kernel) rfl) pa_nil))) (pe_one (pe_cmpR op_eq (pe_callB (lenQ K) (by rfl) mlen (by decide +kernel) (pa_cons (pv 0) pa_nil)) (pv 1) (nomark _)))))), ?_⟩
    refine ⟨_, rfl, .ref t, .ty "tuple", _, _, true, rfl, .ty _, .base (.tup hT), kit_ty (by decide +kernel), true, rfl, iteT ?_⟩
    refine ⟨_, rfl, t, xs, rfl, .inr (SqT.of hT), _, rfl, rfl, ?_⟩
    have e : decide ((V.int (xs.length : Nat)) = V.int n) = decide ((xs.length : Int) = n) := decide_eq_decide.mpr ⟨V.int.inj, congrArg V.int⟩
    rw [e]
    exact q
abbrev CWhI (P : Program) (w : World) (K : PySem.W.Frag) (mg : Str → Option Value) (base : Heap) : Prop := Ca P w K mg base 1 "is_whole" ["thing"] spWhI
abbrev CRow2 (P : Program) (w : World) (K : PySem.W.Frag) (mg : Str → Option Value) (base : Heap) : Prop := Ca P w K mg base 1 "is_row" ["thing", "size"] spRow2
abbrev s_is_pair : Stmt := topS 11
theorem sc_is_pair : FnScope ["rules", "string", "thing"] ["rules", "string", "thing"] (defScope s_is_pair) :=
  ⟨rfl, rfl, rfl, by decide +kernel, rfl, by decide +kernel, by decide +kernel⟩
def spIP : Sp := fun vs H Q _ => ∃ (v : V) (r : Rl) (x : Str) (t : Addr) (y : Int × Int), vs = [v, .str x, .ref t] ∧ RulesW H v r ∧ x.length ≤ 1000 ∧ H t = some (.tup [.int y.1, .int y.2]) ∧ 0 ≤ y.1 ∧ y.1 < y.2 ∧ y.2 < x.length ∧ ∀ H', Ext H H' → Q (.bl (mayC r x y.1 y.2)) H'
theorem ok_ip {f : Addr} {fd : FuncData} (F : Fun K "is_pair" "is_pair" s_is_pair f fd) (cis_row : CRow2 P w K mg base) (cis_whole : CWhI P w K mg base) (cmay_pair : CMP P w K mg base) : FnOk P w K mg base CX0 3 f fd ["rules", "string", "thing"] spIP := by
  refine F.ok sc_is_pair (fun vs H Q E h => ?_) (fun cdv A outer s H vs Q E hr h => ?_)
  · obtain ⟨v, r, x, t, y, rfl, _⟩ := h
    rfl
  · obtain ⟨v, r, x, t, y, rfl, hR, hx, hT, b1, b2, b3, q⟩ := h
    refine ⟨_, (pss_cons (ps_if (PW.pt (pw_or (pt_not (pt_val (pe_ca cis_row (hr.mono (by decide)) (by rfl) (pa_cons (pv 2) (pa_cons pe_int pa_nil))))) (pw_or (pt_not (pt_val (pe_ca cis_whole (hr.mono (by decide)) (by rfl) (pa_cons (pe_ix (ixT K) (pv 2) pe_int (fun _ _ => rfl)) pa_nil)))) (pw_or1 (pt_not (pt_val (pe_ca cis_whole (hr.mono (by decide)) (by rfl) (pa_cons (pe_ix (ixT K) (pv 2) pe_int (fun _ _ => rfl)) pa_nil)))))))) (pss_one (ps_ret pe_bl)) pss_nil)
      (pss_one (ps_ret (pe_ca cmay_pair (hr.mono (by decide)) (by rfl) (pa_cons (pv 0) (pa_cons (pv 1) (pa_cons (pe_ix (ixT K) (pv 2) pe_int (fun _ _ => rfl)) (pa_cons (pe_ix (ixT K) (pv 2) pe_int (fun _ _ => rfl)) pa_nil)))))))), ?_⟩
    refine ⟨_, rfl, t, _, 2, rfl, hT, true, rfl, iteF ?_⟩
    refine ⟨_, rfl, t, _, 0, _, rfl, rfl, SqT.of hT, rfl, y.1, rfl, true, rfl, iteF ?_⟩
    refine ⟨_, rfl, t, _, 1, _, rfl, rfl, SqT.of hT, rfl, y.2, rfl, true, rfl, iteF ?_⟩
    exact ⟨_, rfl, _, rfl, _, rfl, t, _, 0, _, rfl, rfl, SqT.of hT, rfl, _, rfl, t, _, 1, _, rfl, rfl, SqT.of hT, rfl, v, r, x, y.1, y.2, rfl, hR, hx, b1, b2, b3, q⟩
abbrev s_go_together : Stmt := topS 12
theorem sc_go_together : FnScope ["pair", "later"] ["pair", "later"] (defScope s_go_together) :=
  ⟨rfl, rfl, rfl, by decide +kernel, rfl, by decide +kernel, by decide +kernel⟩
def spGT : Sp := fun vs H Q _ => ∃ (t u : Addr) (p y : Int × Int), vs = [.ref t, .ref u] ∧ H t = some (.tup [.int p.1, .int p.2]) ∧ H u = some (.tup [.int y.1, .int y.2]) ∧ Q (.bl (go2 p y)) H
theorem ok_gt {f : Addr} {fd : FuncData} {k : Nat} (F : Fun K "go_together" "go_together" s_go_together f fd) : FnOk P w K mg base CX0 (k + 1) f fd ["pair", "later"] spGT := by
  refine F.ok sc_go_together (fun vs H Q E h => ?_) (fun cdv A outer s H vs Q E hr h => ?_)
  · obtain ⟨t, u, p, y, rfl, _⟩ := h
    rfl
  · obtain ⟨t, u, p, y, rfl, hT, hU, q⟩ := h
    refine ⟨_, (pss_one (ps_ret (pe_or (pe_cmpR op_lt (pe_ix (ixT K) (pv 0) pe_int (fun _ _ => rfl)) (pe_ix (ixT K) (pv 1) pe_int (fun _ _ => rfl)) (nomark _)) (pe_one (pe_cmpR op_lt (pe_ix (ixT K) (pv 1) pe_int (fun _ _ => rfl)) (pe_ix (ixT K) (pv 0) pe_int (fun _ _ => rfl)) (nomark _)))))), ?_⟩
    unfold go2 at q
    refine ⟨_, rfl, t, _, 1, _, rfl, rfl, SqT.of hT, rfl, _, rfl, u, _, 0, _, rfl, rfl, SqT.of hU, rfl, _, _, rfl, rfl, _, rfl, ite2 (fun e => ?_) (fun e => ?_)⟩
    · have e : decide (p.2 < y.1) = true := e
      rw [e, Bool.true_or] at q
      exact q
    · have e : decide (p.2 < y.1) = false := Bool.eq_false_iff.mpr e
      rw [e, Bool.false_or] at q
      exact ⟨_, rfl, u, _, 1, _, rfl, rfl, SqT.of hU, rfl, _, rfl, t, _, 1, _, rfl, rfl, SqT.of hT, rfl, _, _, rfl, rfl, q⟩
abbrev s_rises : Stmt := topS 4
theorem sc_rises : FnScope ["things", "thing", "after"] ["things"] (defScope s_rises) :=
  ⟨rfl, rfl, rfl, by decide +kernel, rfl, by decide +kernel, by decide +kernel⟩
def spRi : Sp := fun vs H Q _ => ∃ (v : V) (qs : List (Int × Int)), vs = [v] ∧ TupOf TwoAt H v qs ∧ qs.length ≤ 100 ∧ ∀ H', Ext H H' → Q (.bl ((risL qs).all id)) H'
theorem ok_ri {f : Addr} {fd : FuncData} {k : Nat} (F : Fun K "rises" "rises" s_rises f fd) (mall : mg "all" = none) (mzip : mg "zip" = none) : FnOk P w K mg base CX0 (k + 1) f fd ["things"] spRi := by
  refine F.ok sc_rises (fun vs H Q E h => ?_) (fun cdv A outer s H vs Q E hr h => ?_)
  · obtain ⟨v, qs, rfl, _⟩ := h
    rfl
  · obtain ⟨v, qs, rfl, ⟨af, fs, rfl, hF, hPs⟩, hql, q⟩ := h
    refine ⟨_, (pss_one (ps_ret (pe_callB (cr_all rfl) (by rfl) mall (by decide +kernel) (pa_cons (pe_lc (own := [("thing", 1), ("after", 2)]) (g := gTup K 2 (gCons (gName 1) (gCons (gName 2) gNil))) (by rfl) sc_rises.nd (RZ.pi_zipA (by rfl) mzip (pa_cons (pv 0) (pa_cons (pe_slice (slE K) (pv 0) (po_some pe_int) po_none) pa_nil))) (blkOk_by (own := [("thing", 1), ("after", 2)]) (N := ["things", "thing", "after"]) (sc := defScope s_rises) (by decide +kernel)) (fun _ _ _ _ _ => (pgT K rfl (pgs_cons (pg_name (i := 1) sc_rises.nd rfl (.inl rfl)) (pgs_cons (pg_name (i := 2) sc_rises.nd rfl (.inl rfl)) pgs_nil)))) (fun _ _ _ _ _ => pts_nil) (fun _ _ _ _ _ => (pe_cmpR (ltT K hr.units0) (pv 1) (pv 2) (nomark _)))) pa_nil)))), ?_⟩
    have hfl := paired_len hPs
    refine ⟨_, rfl, _, rfl, 1, rfl, af, fs, rfl, hF, fun t H1 k1 hT => ?_⟩
    have ec : cutV fs (some 1) none = fs.drop 1 := cut_from (k := 1)
    rw [ec] at hT
    have hrl : (risL qs).length = fs.length - 1 := by
      unfold risL
      rw [List.length_map, List.length_zip, List.length_drop]
      omega
    refine ⟨af, t, fs, fs.drop 1, rfl, .inr ⟨SqT.of (k1 _ _ hF), SqT.of hT, fun D hD => lc_it (walk_zt (n := fs.length - 1) (by rw [List.length_drop]; omega)) (fun i H2 => H2 D = some (.lst (((risL qs).take i).map V.bl)) ∧ Ext H1 H2)
      ⟨upd_same, Ext.new hD⟩ (fun i H2 _ ⟨_, k⟩ => ⟨SqT.of (k _ _ (k1 _ _ hF)), SqT.of (k _ _ hT)⟩) (fun i u H2 H3 hi hv hy => ?_) (fun H2 hv => ?_)⟩⟩
    · obtain ⟨hL, k2⟩ := hv
      obtain ⟨T, a, b, rfl, hTn, rfl, ha, hb⟩ := hy
      obtain ⟨y1, hy1, a1, rfl, ha1⟩ := paired_get hPs ha
      have hb : (fs.drop 1)[i]? = some b := hb
      rw [List.getElem?_drop] at hb
      obtain ⟨y2, hy2, a2, rfl, ha2⟩ := paired_get hPs hb
      have e3 := Ext.new (o := .tup [.ref a1, .ref a2]) hTn
      have k03 := (k1.trans k2).trans e3
      refine ⟨T, _, rfl, SqT.of upd_same, rfl, _, _, rfl, _, _, rfl, rfl, rfl, _, rfl, _, rfl, a1, a2, [y1.1, y1.2], [y2.1, y2.2], rfl, rfl, SqT.of (k03 _ _ ha1), SqT.of (k03 _ _ ha2), _, e3 _ _ hL, szLt ?_, ?_, (k2.trans e3).put hD⟩
      · rw [List.length_map, List.length_take]
        omega
      · have er : (risL qs)[i]? = some (lt2 y1 y2) := by
          unfold risL
          rw [List.getElem?_map, (List.getElem?_zip_eq_some (z := (y1, y2))).mpr ⟨hy1, by rw [List.getElem?_drop]; exact hy2⟩]
          rfl
        rw [upd_same, List.take_add_one, er, List.map_append, lex2]
        rfl
    · obtain ⟨hL, k2⟩ := hv
      rw [List.take_of_length_le (by omega)] at hL
      exact ⟨D, risL qs, rfl, SqL.of hL, q _ (k1.trans k2)⟩
abbrev CIP (P : Program) (w : World) (K : PySem.W.Frag) (mg : Str → Option Value) (base : Heap) : Prop := Ca P w K mg base 3 "is_pair" ["rules", "string", "thing"] spIP
abbrev CGT (P : Program) (w : World) (K : PySem.W.Frag) (mg : Str → Option Value) (base : Heap) : Prop := Ca P w K mg base 1 "go_together" ["pair", "later"] spGT
abbrev CRi (P : Program) (w : World) (K : PySem.W.Frag) (mg : Str → Option Value) (base : Heap) : Prop := Ca P w K mg base 1 "rises" ["things"] spRi
abbrev s_is_folding : Stmt := topS 13
theorem sc_is_folding : FnScope ["rules", "string", "thing", "at", "pair", "later"] ["rules", "string", "thing"] (defScope s_is_folding) :=
  ⟨rfl, rfl, rfl, by decide +kernel, rfl, by decide +kernel, by decide +kernel⟩
def spIF : Sp := fun vs H Q _ => ∃ (v vf : V) (r : Rl) (x : Str) (qs : List (Int × Int)), vs = [v, .str x, vf] ∧ RulesW H v r ∧ x.length ≤ 1000 ∧ TupOf TwoAt H vf qs ∧ qs.length ≤ 100 ∧ (∀ y ∈ qs, 0 ≤ y.1 ∧ y.1 < y.2 ∧ y.2 < x.length) ∧ ∀ H', Ext H H' → Q (.bl (isF r x qs)) H'
theorem ok_if {f : Addr} {fd : FuncData} (F : Fun K "is_folding" "is_folding" s_is_folding f fd) (cis_pair : CIP P w K mg base) (cgo_together : CGT P w K mg base) (crises : CRi P w K mg base) (misinstance : mg "isinstance" = none) (mtuple : mg "tuple" = none) (mall : mg "all" = none) (menumerate : mg "enumerate" = none) : FnOk P w K mg base CX0 4 f fd ["rules", "string", "thing"] spIF := by
  refine F.ok sc_is_folding (fun vs H Q E h => ?_) (fun cdv A outer s H vs Q E hr h => ?_)
  · obtain ⟨v, vf, r, x, qs, rfl, _⟩ := h
    rfl
  · obtain ⟨v, vf, r, x, qs, rfl, hR, hx, ⟨af, fs, rfl, hF, hPs⟩, hql, hb, q⟩ := h
    refine ⟨_, (pss_cons (ps_if (PW.pt (pw_or (pt_not (pt_val (pe_callB (isi1 K) (by rfl) misinstance (by decide +kernel) (pa_cons (pv 2) (pa_cons (pe_bltn (v := .ty "tuple") (by rfl) mtuple (by decide +kernel) rfl) pa_nil))))) (pw_or1 (pt_not (pt_val (pe_callB (cr_all rfl) (by rfl) mall (by decide +kernel) (pa_cons (pe_lc (own := [("pair", 4)]) (g := gName 4) (by rfl) sc_is_folding.nd (pi_tup (pv 2)) (blkOk_by (own := [("pair", 4)]) (N := ["rules", "string", "thing", "at", "pair", "later"]) (sc := defScope s_is_folding) (by decide +kernel)) (fun _ _ _ _ _ => (pg_name (i := 4) sc_is_folding.nd rfl (.inl rfl))) (fun _ _ _ _ _ => pts_nil) (fun _ _ _ _ _ => (pe_ca cis_pair (hr.mono (by decide)) (by rfl) (pa_cons (pv 0) (pa_cons (pv 1) (pa_cons (pv 4) pa_nil)))))) pa_nil))))))) (pss_one (ps_ret pe_bl)) pss_nil)
      (pss_cons (ps_if (pt_not (pt_val (pe_ca crises (hr.mono (by decide)) (by rfl) (pa_cons (pv 2) pa_nil)))) (pss_one (ps_ret pe_bl)) pss_nil)
      (pss_one (ps_ret (pe_callB (cr_all rfl) (by rfl) mall (by decide +kernel) (pa_cons (pe_lc2 (own := [("at", 3), ("pair", 4), ("later", 5)]) (vs1 := [5]) (g := gTup K 2 (gCons (gName 3) (gCons (gName 4) gNil))) (g1 := gName 5) (by rfl) sc_is_folding.nd (pi_enumT (by rfl) menumerate (pa_cons (pv 2) pa_nil)) (blkOk_by (own := [("at", 3), ("pair", 4), ("later", 5)]) (N := ["rules", "string", "thing", "at", "pair", "later"]) (sc := defScope s_is_folding) (by decide +kernel)) (by decide) (fun _ _ _ _ _ => (pgT K rfl (pgs_cons (pg_name (i := 3) sc_is_folding.nd rfl (.inl rfl)) (pgs_cons (pg_name (i := 4) sc_is_folding.nd rfl (.inl rfl)) pgs_nil)))) (fun _ _ _ _ _ => pts_nil) (fun _ _ _ _ _ => (piT K (pe_slice (slE K) (pv 2) (po_some (pe_op op_add (pv 3) pe_int)) po_none))) (fun _ _ _ _ _ => (pg_name (i := 5) sc_is_folding.nd rfl (.inl rfl))) (fun _ _ _ _ _ => pts_nil) (fun _ _ _ _ _ => (pe_ca cgo_together (hr.mono (by decide)) (by rfl) (pa_cons (pv 4) (pa_cons (pv 5) pa_nil))))) pa_nil)))))), ?_⟩
    have hfl := paired_len hPs
    refine ⟨_, rfl, .ref af, .ty "tuple", _, _, true, rfl, .ty _, .base (.tup hF), kit_ty (by decide +kernel), true, rfl, iteF ?_⟩
    -- all([is_pair(..)])
    refine ⟨_, rfl, af, rfl, ⟨_, SqT.of hF⟩, fun D hD => lc_tup (K := K) (xs := fs) (fun i H2 => H2 D = some (.lst (((qs.take i).map fun y => mayC r x y.1 y.2).map V.bl)) ∧ Ext H H2)
      ⟨upd_same, Ext.new hD⟩ (fun i H2 _ ⟨_, k⟩ => SqT.of (k _ _ hF)) (fun i u H2 hi hv => ?_) (fun H2 hv => ?_)⟩
    · obtain ⟨hL, k2⟩ := hv
      obtain ⟨y, hy, a1, rfl, ha1⟩ := paired_get hPs hi
      refine ⟨rfl, _, rfl, _, rfl, _, rfl, v, r, x, a1, y, rfl, RulesW.mono _ _ _ _ (TupK.ext k2) hR, hx, k2 _ _ ha1, (hb y (List.mem_of_getElem? hy)).1, (hb y (List.mem_of_getElem? hy)).2.1, (hb y (List.mem_of_getElem? hy)).2.2, fun H3 k3 => ⟨_, k3 _ _ hL, szLt ?_, ?_, (k2.trans k3).put hD⟩⟩
      · rw [List.length_map, List.length_map, List.length_take]
        omega
      · rw [upd_same, List.take_add_one, hy, List.map_append, List.map_append]
        rfl
    · obtain ⟨hL, k2⟩ := hv
      rw [List.take_of_length_le (by omega)] at hL
      refine ⟨D, _, rfl, SqL.of hL, _, rfl, ite2 (fun e => ?_) (fun e => ?_)⟩
      · have e : ((qs.map fun y => mayC r x y.1 y.2).all id) = false := by simpa using e
        have := q H2 k2
        unfold isF at this
        rw [e, Bool.false_and] at this
        exact this
      · have e : ((qs.map fun y => mayC r x y.1 y.2).all id) = true := by simpa using e
        have q1 : ∀ H', Ext H H' → Q (.bl ((risL qs).all id && (goL qs).all id)) H' := fun H' k => by
          have := q H' k
          unfold isF at this
          rw [e, Bool.true_and] at this
          exact this
        refine ⟨_, rfl, .ref af, qs, rfl, ⟨af, fs, rfl, k2 _ _ hF, paired_imp (fun _ _ => TwoAt.mono _ _ _ _ (TupK.ext k2)) hPs⟩, hql, fun H3 k3 => ⟨_, rfl, ite2 (fun e2 => ?_) (fun e2 => ?_)⟩⟩
        · have e2 : (risL qs).all id = false := by simpa using e2
          have := q1 H3 (k2.trans k3)
          rw [e2, Bool.false_and] at this
          exact this
        · have e2 : (risL qs).all id = true := by simpa using e2
          have q2 : ∀ H', Ext H H' → Q (.bl ((goL qs).all id)) H' := fun H' k => by
            have := q1 H' k
            rw [e2, Bool.true_and] at this
            exact this
          have k03 := k2.trans k3
          have hgl := goL_len qs
          have hgm : qs.length * qs.length ≤ 100 * 100 := Nat.mul_le_mul hql hql
          refine ⟨_, rfl, af, fs, rfl, SqT.of (k03 _ _ hF), fun D2 hD2 => lc_two walk_et (fun i H4 => ∃ bs : List Bool, goL qs = bs ++ goL (qs.drop i) ∧ H4 D2 = some (.lst (bs.map V.bl)) ∧ Ext H3 H4)
            ⟨[], rfl, upd_same, Ext.new hD2⟩ (fun i H4 _ ⟨_, _, _, k⟩ => SqT.of (k _ _ (k03 _ _ hF))) (fun i u H4 H5 hi hv hy => ?_) (fun H4 hv => ?_)⟩
          · obtain ⟨bs, hbs, hL4, k4⟩ := hv
            obtain ⟨T, a, b, rfl, hTn, rfl, ha, hb⟩ := hy
            cases ha
            obtain ⟨p, hp, a1, rfl, ha1⟩ := paired_get hPs hb
            have e5 := Ext.new (o := .tup [.int (i : Nat), .ref a1]) hTn
            have k05 := (k03.trans k4).trans e5
            refine ⟨T, _, rfl, SqT.of upd_same, rfl, _, _, rfl, _, _, rfl, rfl, rfl, ?_⟩
            refine ⟨_, rfl, _, rfl, _, 1, rfl, rfl, _, rfl, af, fs, rfl, k05 _ _ hF, fun t H6 k6 hT => ?_⟩
            have ec : cutV fs (some ((i : Int) + 1)) none = fs.drop (i + 1) := cut_from (k := i + 1)
            rw [ec] at hT
            have k06 := k05.trans k6
            rw [goL_at hp, ← List.append_assoc] at hbs
            refine ⟨t, rfl, ⟨_, SqT.of hT⟩, lc_in (walk_tup (xs := fs.drop (i + 1))) (fun j H7 => H7 D2 = some (.lst ((bs ++ ((qs.drop (i + 1)).take j).map (go2 p)).map V.bl)) ∧ H7 t = some (.tup (fs.drop (i + 1))) ∧ Ext H3 H7)
              ⟨?_, hT, (k4.trans e5).trans k6⟩ (fun j H7 _ ⟨_, h, _⟩ => SqT.of h) (fun j u H7 H8 hj hv hy => ?_) (fun H7 hv => ?_)⟩
            · rw [List.take_zero, List.map_nil, List.append_nil]
              exact k6 _ _ (e5 _ _ hL4)
            · obtain ⟨hL7, hT7, k7⟩ := hv
              obtain ⟨rfl, hu⟩ := hy
              obtain ⟨y, hy, a2, rfl, ha2⟩ := paired_get (paired_drop (i + 1) hPs) hu
              have k07 := k03.trans k7
              refine ⟨rfl, _, rfl, _, rfl, a1, a2, p, y, rfl, k07 _ _ ha1, k07 _ _ ha2, _, hL7, szLt ?_, ?_, ?_, k7.put hD2⟩
              · have hz := congrArg List.length hbs
                rw [List.length_append, List.length_append, List.length_map] at hz
                rw [List.length_map, List.length_append, List.length_map, List.length_take]
                omega
              · rw [upd_same, List.take_add_one, hy]
                simp only [List.map_append, List.append_assoc]
                rfl
              · rw [upd_ne (ne_of hT7 hL7 (by intro z; cases z))]
                exact hT7
            · obtain ⟨hL7, _, k7⟩ := hv
              rw [List.take_of_length_le (by rw [List.length_drop, List.length_drop]; omega)] at hL7
              exact ⟨_, hbs, hL7, k7⟩
          · obtain ⟨bs, hbs, hL4, k4⟩ := hv
            rw [List.drop_eq_nil_of_le (by omega)] at hbs
            rw [show goL [] = [] from rfl, List.append_nil] at hbs
            subst hbs
            exact ⟨D2, goL qs, rfl, SqL.of hL4, q2 _ (k03.trans k4)⟩
abbrev CIF (P : Program) (w : World) (K : PySem.W.Frag) (mg : Str → Option Value) (base : Heap) : Prop := Ca P w K mg base 4 "is_folding" ["rules", "string", "thing"] spIF
end
end Pf


namespace Pf
open PySem PySem.Spec PyProof.Rows L2
/-! ### foldings with a pair more -/
def plcF (q : Fo) : List Int := q.flatMap fun y => [y.1, y.2]
def frP (n : Nat) (q : Fo) : List Int := ((List.range n).map fun (i : Nat) => (i : Int)).filter fun p => !(plcF q).contains p
def insP (q : Fo) (p : Int × Int) : Fo := (q ++ [p]).mergeSort (PySem.W.dataLe false dTwo)
def moreL (r : Rl) (x : Str) (q : Fo) : List Fo := (frP x.length q).flatMap fun i => ((frP x.length q).filter fun j => mayC r x i j).map fun j => insP q (i, j)
def fewL (q : Fo) : List Fo := q.map fun left => q.filter fun p => !decide (p = left)
def allSt (r : Rl) (x : Str) (q : Fo) : List Fo := fewL q ++ (moreL r x q).filter (isF r x)
theorem filter_erase : ∀ {q : Fo} {a : Nat} (hn : q.Nodup) (ha : a < q.length), (q.filter fun p => !decide (p = q[a])) = q.eraseIdx a
  | [], _, _, ha => by cases ha
  | p :: r, 0, hn, _ => by
    rw [List.nodup_cons] at hn
    show List.filter (fun z => !decide (z = p)) (p :: r) = r
    rw [List.filter_cons_of_neg (by simp)]
    exact List.filter_eq_self.mpr fun z hz => by
      have : z ≠ p := fun e => hn.1 (e ▸ hz)
      simp [this]
  | p :: r, a + 1, hn, ha => by
    rw [List.nodup_cons] at hn
    have ha' : a < r.length := by simpa using ha
    show List.filter (fun z => !decide (z = r[a])) (p :: r) = p :: r.eraseIdx a
    have : p ≠ r[a] := fun e => hn.1 (e ▸ List.getElem_mem _)
    rw [List.filter_cons_of_pos (by simp [this]), filter_erase hn.2 ha']
theorem few_less {q : Fo} (hn : q.Nodup) : fewL q = lessL q := by
  unfold fewL lessL
  refine List.ext_getElem (by simp) fun a h1 h2 => ?_
  rw [List.getElem_map, List.getElem_map, List.getElem_range]
  exact filter_erase hn (by simpa using h1)
theorem le_two {a b : Int × Int} : PySem.W.dataLe false dTwo a b = true ↔ (a.1 < b.1 ∨ (a.1 = b.1 ∧ a.2 ≤ b.2)) := by
  obtain ⟨a1, a2⟩ := a
  obtain ⟨b1, b2⟩ := b
  show (!PyProof.Rows.lexLt itemOrd (PySem.W.keyToks (dTwo (b1, b2))) (PySem.W.keyToks (dTwo (a1, a2)))) = true ↔ _
  simp only [dTwo, PySem.W.keyToks, PySem.W.keyToksAll, PyProof.Rows.lexLt, itemLt, List.cons_append, List.nil_append]
  by_cases h1 : b1 < a1 <;> by_cases h2 : a1 < b1 <;> by_cases h3 : b2 < a2 <;> by_cases h4 : a2 < b2 <;> simp [h1, h2, h3, h4] <;> omega
theorem ins_perm (q : Fo) (p : Int × Int) : (insP q p).Perm (q ++ [p]) := List.mergeSort_perm _ _
theorem ins_pair (q : Fo) (p : Int × Int) : (insP q p).Pairwise fun a b => PySem.W.dataLe false dTwo a b = true := by
  have T := PySem.W.sortLe_total (listOrd itemOrd) false fun z : Int × Int => PySem.W.keyToks (dTwo z)
  exact List.pairwise_mergeSort (le := PySem.W.dataLe false dTwo) T.trans (fun a b => by
    rcases T.total a b with h | h
    · rw [show PySem.W.dataLe false dTwo a b = true from h]
      rfl
    · rw [show PySem.W.dataLe false dTwo b a = true from h, Bool.or_true]) _
theorem eq_sorted {L M : Fo} (hL : L.Pairwise fun a b => PySem.W.dataLe false dTwo a b = true) (hM : M.Pairwise fun a b => PySem.W.dataLe false dTwo a b = true) (p : L.Perm M) : L = M :=
  List.Perm.eq_of_pairwise (fun a b _ _ x y => by
    rw [le_two] at x y
    exact Prod.ext (by omega) (by omega)) hL hM p
theorem srt_le {q : Fo} (h : q.Pairwise fun y z => y.1 < z.1) : q.Pairwise fun a b => PySem.W.dataLe false dTwo a b = true := h.imp fun h => le_two.mpr (.inl h)
theorem ris_pw : ∀ {q : Fo}, (risL q).all id = true → q.Pairwise fun y z => y.1 < z.1 ∨ (y.1 = z.1 ∧ y.2 < z.2)
  | [], _ => .nil
  | [_], _ => List.pairwise_singleton _ _
  | a :: b :: t, h => by
    have e : risL (a :: b :: t) = lt2 a b :: risL (b :: t) := rfl
    rw [e, List.all_cons, Bool.and_eq_true] at h
    have ih := ris_pw h.2
    have hab : a.1 < b.1 ∨ (a.1 = b.1 ∧ a.2 < b.2) := of_decide_eq_true h.1
    refine List.pairwise_cons.mpr ⟨fun z hz => ?_, ih⟩
    rcases List.mem_cons.mp hz with rfl | hz
    · exact hab
    · have := (List.pairwise_cons.mp ih).1 z hz
      omega
theorem go_pw : ∀ {q : Fo}, (goL q).all id = true → q.Pairwise fun y z => y.2 < z.1 ∨ z.2 < y.2
  | [], _ => .nil
  | p :: r, h => by
    have e : goL (p :: r) = r.map (go2 p) ++ goL r := rfl
    rw [e, List.all_append, Bool.and_eq_true] at h
    refine List.pairwise_cons.mpr ⟨fun z hz => ?_, go_pw h.2⟩
    have := List.all_eq_true.mp h.1 (go2 p z) (List.mem_map.mpr ⟨z, hz, rfl⟩)
    have : go2 p z = true := this
    unfold go2 at this
    simpa using this
theorem isF_fo {r : Rl} {x : Str} {q : Fo} (hin : ∀ y ∈ q, 0 ≤ y.1 ∧ y.1 < y.2 ∧ y.2 < x.length) (h : isF r x q = true) : Fo4 r x 0 x.length q := by
  unfold isF at h
  rw [Bool.and_eq_true, Bool.and_eq_true] at h
  obtain ⟨h1, h2, h3⟩ := h
  have pr := ris_pw h2
  have pg := go_pw h3
  have both : q.Pairwise fun y z => y.1 < z.1 ∧ (z.2 < y.2 ∨ y.2 < z.1) := by
    have := pr.and pg
    refine List.Pairwise.imp_of_mem (fun {a b} ha hb h => ?_) this
    have := hin a ha
    have := hin b hb
    omega
  refine ⟨both.imp fun h => h.1, fun y hy => by have := hin y hy; omega, fun y hy => ?_, fun y hy z hz hyz => ?_⟩
  · exact List.all_eq_true.mp h1 (mayC r x y.1 y.2) (List.mem_map.mpr ⟨y, hy, rfl⟩)
  · have key : ∀ {l : Fo}, (l.Pairwise fun y z => y.1 < z.1 ∧ (z.2 < y.2 ∨ y.2 < z.1)) → y ∈ l → z ∈ l → y.1 < z.1 → z.2 < y.2 ∨ y.2 < z.1 := by
      intro l hp
      induction l with
      | nil => intro h; cases h
      | cons p t ih =>
        intro hy hz hlt
        rw [List.pairwise_cons] at hp
        rcases List.mem_cons.mp hy with e1 | h1
        · rcases List.mem_cons.mp hz with e2 | h2
          · rw [e1, e2] at hlt
            omega
          · rw [e1]
            exact (hp.1 z h2).2
        · rcases List.mem_cons.mp hz with e2 | h2
          · have := (hp.1 y h1).1
            rw [e2] at hlt
            omega
          · exact ih hp.2 h1 h2 hlt
    exact key both hy hz hyz
theorem mem_plc {q : Fo} {p : Int} : p ∈ plcF q ↔ ∃ y ∈ q, p = y.1 ∨ p = y.2 := by
  unfold plcF
  rw [List.mem_flatMap]
  constructor
  · rintro ⟨y, hy, h⟩
    exact ⟨y, hy, by simpa using h⟩
  · rintro ⟨y, hy, h⟩
    exact ⟨y, hy, by simpa using h⟩
theorem mem_frP {n : Nat} {q : Fo} {p : Int} : p ∈ frP n q ↔ 0 ≤ p ∧ p < n ∧ p ∉ plcF q := by
  unfold frP
  rw [List.mem_filter, List.mem_map]
  constructor
  · rintro ⟨⟨i, hi, rfl⟩, h⟩
    have := List.mem_range.mp hi
    refine ⟨by omega, by omega, fun hp => ?_⟩
    simp [hp] at h
  · rintro ⟨h0, h1, h2⟩
    refine ⟨⟨p.toNat, List.mem_range.mpr (by omega), by omega⟩, ?_⟩
    simp [h2]
theorem frP_nd (n : Nat) (q : Fo) : (frP n q).Nodup := by
  unfold frP
  refine List.Pairwise.filter _ ?_
  refine List.pairwise_map.mpr ((List.nodup_range (n := n)).imp fun {a b} h e => h (by omega))
theorem ins_mem {q : Fo} {p z : Int × Int} : z ∈ insP q p ↔ z ∈ q ∨ z = p := by
  rw [(ins_perm q p).mem_iff, List.mem_append, List.mem_singleton]
theorem mem_more {r : Rl} {x : Str} {q z : Fo} : z ∈ moreL r x q ↔ ∃ i j, i ∈ frP x.length q ∧ j ∈ frP x.length q ∧ mayC r x i j = true ∧ z = insP q (i, j) := by
  unfold moreL
  rw [List.mem_flatMap]
  constructor
  · rintro ⟨i, hi, h⟩
    obtain ⟨j, hj, rfl⟩ := List.mem_map.mp h
    rw [List.mem_filter] at hj
    exact ⟨i, j, hi, hj.1, hj.2, rfl⟩
  · rintro ⟨i, j, hi, hj, hm, rfl⟩
    exact ⟨i, hi, List.mem_map.mpr ⟨j, List.mem_filter.mpr ⟨hj, hm⟩, rfl⟩⟩
theorem ins_inj {n : Nat} {q : Fo} {i j i' j' : Int} (hi : i ∈ frP n q) (h : insP q (i, j) = insP q (i', j')) : i = i' ∧ j = j' := by
  have h1 : (i, j) ∈ insP q (i', j') := h ▸ ins_mem.mpr (.inr rfl)
  rcases ins_mem.mp h1 with h2 | h2
  · exact absurd (mem_plc.mpr ⟨_, h2, .inl rfl⟩) (mem_frP.mp hi).2.2
  · injection h2 with a b
    exact ⟨a, b⟩
theorem more_nd (r : Rl) (x : Str) (q : Fo) : (moreL r x q).Nodup := by
  unfold moreL
  refine List.pairwise_flatMap.mpr ⟨fun i hi => ?_, ?_⟩
  · rw [List.pairwise_map]
    refine List.Pairwise.imp ?_ ((frP_nd x.length q).filter _)
    intro a b hab e
    exact hab (ins_inj hi e).2
  · refine List.Pairwise.imp_of_mem ?_ (frP_nd x.length q)
    intro a b ha hb hab y hy z hz e
    obtain ⟨j, _, rfl⟩ := List.mem_map.mp hy
    obtain ⟨j', _, rfl⟩ := List.mem_map.mp hz
    exact hab (ins_inj ha e).1
theorem may_lt {r : Rl} (ok : RlOk r) {x : Str} {i j : Int} (h : mayC r x i j = true) : i < j := by
  unfold mayC at h
  rw [Bool.and_eq_true] at h
  have := of_decide_eq_true h.1
  have := ok.sp0
  omega
theorem more_in {r : Rl} (ok : RlOk r) {x : Str} {q z : Fo} (h : q ∈ AL r x) (hz : z ∈ moreL r x q) : (∀ y ∈ z, 0 ≤ y.1 ∧ y.1 < y.2 ∧ y.2 < x.length) ∧ z.length = q.length + 1 := by
  obtain ⟨i, j, hi, hj, hm, rfl⟩ := mem_more.mp hz
  have hi := mem_frP.mp hi
  have hj := mem_frP.mp hj
  have hlt := may_lt ok hm
  refine ⟨fun y hy => ?_, ?_⟩
  · rcases ins_mem.mp hy with hy | rfl
    · have := (AL_fo h).inn y hy
      omega
    · exact ⟨hi.1, hlt, hj.2.1⟩
  · rw [(ins_perm q (i, j)).length_eq, List.length_append]
    rfl
theorem more_iff {r : Rl} (ok : RlOk r) {x : Str} {q z : Fo} (h : q ∈ AL r x) : z ∈ (moreL r x q).filter (isF r x) ↔ z ∈ AL r x ∧ q ∈ lessL z := by
  rw [List.mem_filter]
  have h4 := AL_fo h
  constructor
  · rintro ⟨hz, hf⟩
    have hin := more_in ok h hz
    have hz4 := isF_fo hin.1 hf
    have hzA : z ∈ AL r x := by
      rw [AL_mem]
      refine of_fo4 r x _ _ _ ?_
      rw [Int.zero_add]
      exact hz4
    refine ⟨hzA, ?_⟩
    obtain ⟨i, j, hi, hj, hm, rfl⟩ := mem_more.mp hz
    have hp : (i, j) ∈ insP q (i, j) := ins_mem.mpr (.inr rfl)
    obtain ⟨a, ha, e⟩ := List.mem_iff_getElem.mp hp
    refine List.mem_map.mpr ⟨a, List.mem_range.mpr ha, ?_⟩
    have hnz := fo_nd hz4.srt
    refine eq_sorted (List.Pairwise.sublist (List.eraseIdx_sublist _ _) (ins_pair q (i, j))) (srt_le h4.srt) ?_
    have e2 := filter_erase hnz ha
    rw [← e2, e]
    have hnq := fo_nd h4.srt
    refine perm_nd (hnz.filter _) hnq fun y => ?_
    rw [List.mem_filter, ins_mem]
    constructor
    · rintro ⟨h1 | h1, h2⟩
      · exact h1
      · rw [h1] at h2
        simp at h2
    · intro h1
      refine ⟨.inl h1, ?_⟩
      have : y ≠ (i, j) := fun e => (mem_frP.mp hi).2.2 (mem_plc.mpr ⟨y, h1, .inl (by rw [e])⟩)
      simp [this]
  · rintro ⟨hzA, hl⟩
    have hz4 := AL_fo hzA
    obtain ⟨a, ha, e⟩ := List.mem_map.mp hl
    have ha := List.mem_range.mp ha
    have hnz := fo_nd hz4.srt
    obtain ⟨p, hp⟩ : ∃ p, p = z[a] := ⟨_, rfl⟩
    have hpz : p ∈ z := hp ▸ List.getElem_mem _
    have hqm : ∀ y, y ∈ q ↔ y ∈ z ∧ y ≠ p := fun y => by
      rw [← e, ← filter_erase hnz ha, List.mem_filter, hp]
      simp
    have hpi := hz4.inn p hpz
    have dis : ∀ y ∈ q, p.1 ≠ y.1 ∧ p.1 ≠ y.2 ∧ p.2 ≠ y.1 ∧ p.2 ≠ y.2 := fun y hy => by
      obtain ⟨hyz, hne⟩ := (hqm y).mp hy
      have hyi := hz4.inn y hyz
      have hd : p.1 ≠ y.1 := fun e1 => hne (by
        obtain ⟨b, hb, eb⟩ := List.mem_iff_getElem.mp hyz
        have hab : ¬ a < b := fun c => by
          have := List.pairwise_iff_getElem.mp hz4.srt a b ha hb c
          rw [← hp, eb] at this
          omega
        have hba : ¬ b < a := fun c => by
          have := List.pairwise_iff_getElem.mp hz4.srt b a hb ha c
          rw [← hp, eb] at this
          omega
        have : a = b := by omega
        subst this
        rw [← eb, hp])
      rcases Int.lt_or_gt_of_ne hd with c | c
      · have := hz4.sep p hpz y hyz c
        omega
      · have := hz4.sep y hyz p hpz c
        omega
    have hnop : ∀ t : Int, (t = p.1 ∨ t = p.2) → t ∉ plcF q := fun t ht hm => by
      obtain ⟨y, hy, h2⟩ := mem_plc.mp hm
      have := dis y hy
      omega
    have ez : z = insP q (p.1, p.2) := by
      refine eq_sorted (srt_le hz4.srt) (ins_pair _ _) ?_
      refine perm_nd hnz ?_ fun y => ?_
      · rw [(ins_perm q (p.1, p.2)).nodup_iff]
        refine List.nodup_append.mpr ⟨fo_nd h4.srt, List.pairwise_singleton _ _, fun a1 h1 b1 h2 e1 => ?_⟩
        rw [List.mem_singleton.mp h2] at e1
        exact ((hqm a1).mp h1).2 e1
      · rw [ins_mem, hqm y]
        by_cases c : y = p
        · rw [c]
          exact ⟨fun _ => .inr rfl, fun _ => hpz⟩
        · exact ⟨fun h1 => .inl ⟨h1, c⟩, fun h1 => h1.elim (fun h1 => h1.1) fun h1 => absurd h1 c⟩
    refine ⟨mem_more.mpr ⟨p.1, p.2, mem_frP.mpr ⟨by omega, by omega, hnop _ (.inl rfl)⟩, mem_frP.mpr ⟨by omega, by omega, hnop _ (.inr rfl)⟩, hz4.may p hpz, ez⟩, isF_true hz4⟩
theorem all_perm {r : Rl} (ok : RlOk r) {x : Str} {q : Fo} (h : q ∈ AL r x) : (allSt r x q).Perm (nb r x q) := by
  have hn := fo_nd (AL_fo h).srt
  unfold allSt
  rw [few_less hn]
  refine perm_nd ?_ ((AL_nd r x).filter _) fun z => ?_
  · refine List.nodup_append.mpr ⟨less_nd hn, (more_nd r x q).filter _, fun a ha b hb e => ?_⟩
    subst e
    have l1 := less_len ha
    have l2 := less_len ((more_iff ok h).mp hb).2
    omega
  · rw [List.mem_append, more_iff ok h]
    unfold nb
    rw [List.mem_filter]
    unfold stepB
    rw [decide_eq_true_iff]
    constructor
    · rintro (h1 | ⟨h1, h2⟩)
      · exact ⟨less_in h h1, .inl h1⟩
      · exact ⟨h1, .inr h2⟩
    · rintro ⟨h1, h2 | h2⟩
      · exact .inl h2
      · exact .inr ⟨h1, h2⟩
theorem twos_inj : ∀ {a b : Fo}, PySem.W.keyToksAll (a.map dTwo) = PySem.W.keyToksAll (b.map dTwo) → a = b
  | [], [], _ => rfl
  | [], y :: b, h => by simp [PySem.W.keyToksAll, PySem.W.keyToks, dTwo] at h
  | y :: a, [], h => by simp [PySem.W.keyToksAll, PySem.W.keyToks, dTwo] at h
  | y :: a, z :: b, h => by
    rw [List.map_cons, List.map_cons] at h
    simp only [dTwo, PySem.W.keyToks, PySem.W.keyToksAll, List.cons_append, List.nil_append, List.cons.injEq, Sum.inr.injEq, Sum.inl.injEq, true_and] at h
    obtain ⟨h1, h2, h3⟩ := h
    rw [twos_inj h3, Prod.ext h1 h2]
theorem fo_inj {a b : Fo} (h : PySem.W.keyToks (dFo a) = PySem.W.keyToks (dFo b)) : a = b := by
  refine twos_inj ?_
  simpa [dFo, PySem.W.keyToks] using h
theorem SF_eq {L M : List Fo} (p : L.Perm M) : SF L = SF M := by
  refine List.Perm.eq_of_pairwise (fun a b _ _ x y => ?_) (SF_pair L) (SF_pair M) (((SF_perm L).trans p).trans (SF_perm M).symm)
  have x : (!(listOrd itemOrd).blt (PySem.W.keyToks (dFo b)) (PySem.W.keyToks (dFo a))) = true := x
  have y : (!(listOrd itemOrd).blt (PySem.W.keyToks (dFo a)) (PySem.W.keyToks (dFo b))) = true := y
  exact fo_inj ((listOrd itemOrd).total _ _ (by simpa using y) (by simpa using x))
end Pf


namespace Pf
open PySem PySem.Spec PyProof.Rows L2
/-! ### a tuple's items, gathered -/
section
variable {prog : Program} {w : World} {A : Around} {E : Value → Shared → Prop} {s : Shared}
theorem gather_tup {a : Addr} {us : List Value} {Q : List Value → Shared → Prop} (ht : s.heap.IsTuple a us.toArray) (hz : us.length ≤ sizeLine)
    (q : Q us { s with heap := (s.heap.push (seqObj "list" #[] 0)).update s.heap.objs.size (Obj.mapSeq (· ++ us.toArray)) }) : wpAny (model prog w) A (collect (.ref a)) Q E s := by
  obtain ⟨ob, hob, hcl, n, hda⟩ := id ht
  have hob1 : (s.heap.push (seqObj "list" #[] 0)).get? a = some ob := Heap.get?_push_of_some _ hob
  have hnew : (s.heap.push (seqObj "list" #[] 0)).get? s.heap.objs.size = some (seqObj "list" #[] 0) := Heap.get?_push_size _ rfl
  unfold collect
  refine wpAny_bind (wpAny_runValue ?_)
  refine codeAny_builtin entry_proto_collect' ?_
  show wpAny _ _ (do again (.builtin "list.__iadd__" ⟨[← newList [], .ref a], []⟩)) _ _ s
  refine wpAny_bind (wpAny_newList (wpAny_pure ⟨Code.quiet_builtin _ (by decide +kernel), ?_⟩))
  refine codeAny_builtin entry_list_iadd' ?_
  show wpAny _ _ (Builtin.List.listExtendWith (.ref s.heap.objs.size) (.ref a) _) _ _ { s with heap := s.heap.push (seqObj "list" #[] 0) }
  unfold Builtin.List.listExtendWith
  refine wpAny_bind (wpAny_typeOf (T := "tuple") ⟨ob, hob1, hcl⟩ ?_)
  rw [if_pos (by rw [show (Value.type "tuple" == Value.type "tuple") = true from rfl, Bool.or_true])]
  refine wpAny_bind (listItems_at hob1 hda ?_)
  refine wpAny_bind (listItems_at (xs := #[]) (n := 0) hnew rfl ?_)
  rw [if_neg (by simp)]
  have hsz : ((#[] : Array Value) ++ us.toArray).size ≤ sizeLine + 1 := by
    rw [Array.size_append, List.size_toArray]
    show 0 + us.length ≤ _
    omega
  refine wpAny_bind (listUpdate_at (xs := #[]) (n := 0) hnew rfl ?_ (Nat.zero_le _) hsz)
  refine wpAny_pure ?_
  refine wpAny_bind (wpAny_load (get?_update_seq hnew _) ?_)
  have e : ((#[] : Array Value) ++ us.toArray).toList = us := by simp
  show wpAny _ _ (pure ((#[] : Array Value) ++ us.toArray).toList) Q E _
  rw [e]
  exact wpAny_pure q
theorem sorted_tup {β : Type} {R : Value → β → Prop} {enc : β → PyData} {a : Addr} {us : List Value} {bs : List β} {Q : Value → Shared → Prop} (ht : s.heap.IsTuple a us.toArray) (e : PySem.W.EachIs R us bs) (er : PySem.W.EachIs (fun v b => ∃ as, Reads s.heap v (enc b) as) us bs) (al : PySem.W.AllAlike (bs.map enc)) (so : PySem.W.Sortable (bs.map enc))
    (hz : bs.length ≤ sizeLine) (hu : ∀ b, b ∈ bs → A.units + 2 + (enc b).depth < cLine) (q : ∀ out, out.length = bs.length → PySem.W.EachIs R out (bs.mergeSort (PySem.W.dataLe false enc)) → Q (.ref (s.heap.objs.size + 1)) { s with heap := sortedAll s.heap us out.toArray }) :
    wpAny (model prog w) A (call (.builtin "sorted") [.ref a]) Q E s := by
  have hul : us.length ≤ sizeLine := by
    rw [e.length]
    exact hz
  refine Calls.call_function_entry kind_sorted plain_sorted
    entry_sorted (args_sorted1 _) ?_
  unfold Builtin.«sorted»
  refine wpAny_bind (m := checkCount "sorted" 1 1 _) (wpAny_pure ?_)
  refine wpAny_bind (gather_tup ht hul ?_)
  refine wpAny_bind (wpAny_newList ?_ hul)
  have hsz : ((s.heap.push (seqObj "list" #[] 0)).update s.heap.objs.size (Obj.mapSeq (· ++ us.toArray))).objs.size = s.heap.objs.size + 1 := by
    rw [Heap.size_update, size_push']
  have er2 : PySem.W.EachIs (fun v b => ∃ as, Reads (PySem.W.copyHeap s.heap us) v (enc b) as ∧ s.heap.objs.size + 1 ∉ as) us bs := er.mono fun v b ⟨as, r⟩ => by
    refine ⟨as, PyProof.Rows.Reads.keeps (fun _ _ h => PySem.W.copyHeap_old h) r, fun hm => ?_⟩
    obtain ⟨o, ho⟩ := PyProof.On.reads_mem_get r _ hm
    exact absurd (Nat.lt_of_succ_lt (Heap.lt_size ho)) (Nat.lt_irrefl _)
  show wpAny _ _ _ _ _ { s with heap := PySem.W.copyHeap s.heap us }
  rw [hsz]
  refine wpAny_bind (wpAny_holding (PySem.W.list_sort_data (s := { s with heap := PySem.W.copyHeap s.heap us }) (PySem.W.copyHeap_at s.heap us) e er2 al so hz (fun b hb => ?_) fun out h1 h2 => ?_))
  · have := hu b hb
    have e1 : A.in1.units = A.units + 1 := rfl
    rw [e1]
    exact this
  · exact wpAny_pure ⟨_, rfl, q out h1 h2⟩
end
def rSortTD (K : PySem.W.Frag) : List V → Hp → VK → Prop := fun vs H Q => ∃ (β : Type) (v : β → V) (d : β → PyData) (a : Addr) (bs : List β), vs = [.ref a] ∧ SqT K H a (bs.map v) ∧ (∀ b ∈ bs, Dp K H (v b) (d b) ∧ (d b).depth ≤ 50) ∧
  PySem.W.AllAlike (bs.map d) ∧ PySem.W.Sortable (bs.map d) ∧ ∀ p, H p = none → Q (.ref p) (upd H p (.lst ((bs.mergeSort (PySem.W.dataLe false d)).map v)))
/-- sorted(xs), xs a tuple of data -/
theorem cr_sortTD (K : PySem.W.Frag) {X : Cx} (hu : X.A.units + 64 < cLine) (hK : X.K = K := by rfl) : CallR X (.builtin "sorted") (rSortTD K) := by
  subst hK
  intro pins s σ H vs us Q I r h
  obtain ⟨β, v, d, a, bs, rfl, hs, hd, al, so, q⟩ := h
  obtain ⟨u, rfl, rfl⟩ := vals1 r
  obtain ⟨its, rv, ht, hz⟩ := I.tuple hs
  rw [List.length_map] at hz
  refine sorted_tup (enc := d) (R := fun (u : Value) (b : β) => RelV (v b) u) (show s.heap.IsTuple a its.toArray from ht) (each_vals rv) (each_reads I rv fun b hb => (hd b hb).1) al so hz (fun b hb => by have := (hd b hb).2; omega) fun out hlen he => ?_
  obtain ⟨ep, he'⟩ := PyProof.Rows.sortedAll_at s.heap its out.toArray
  have hlen2 : ((bs.mergeSort (PySem.W.dataLe false d)).map v).length ≤ sizeLine := by
    rw [List.length_map, List.length_mergeSort]
    exact hz
  exact ⟨.ref _, upd H (s.heap.objs.size + 1) (.lst ((bs.mergeSort (PySem.W.dataLe false d)).map v)), I.laid (t' := s.toks) (fun _ _ => PyProof.Rows.sortedAll_old) (Nat.le_succ _) ⟨hlen2, out, ep, vals_each he, by simpa using he'⟩, rfl, q _ (I.hok.fresh (Nat.le_succ _))⟩
def rSortLT (K : PySem.W.Frag) : List V → Hp → VK → Prop := fun vs H Q => rSortD K vs H Q ∨ rSortTD K vs H Q
/-- sorted(xs), xs a list or a tuple of data -/
theorem cr_sortLT (K : PySem.W.Frag) {X : Cx} (hu : X.A.units + 64 < cLine) (hK : X.K = K := by rfl) : CallR X (.builtin "sorted") (rSortLT K) := fun pins s σ H vs us Q I r h => h.elim (cr_sortD K hu hK pins s σ H vs us Q I r) (cr_sortTD K hu hK pins s σ H vs us Q I r)
/-! ### going through a list or a tuple -/
def iSeq (K : PySem.W.Frag) (tl : TE) : TI := fun σ H R => tl σ H fun x H1 => ∃ a, x = .ref a ∧ (((∃ xs, SqL K H1 a xs) ∧ R (Itl K a) H1) ∨ ((∃ xs, SqT K H1 a xs) ∧ R (Itt K a) H1))
theorem pi_seq {X : Cx} {tg l : Expr} {tl : TE} (K : PySem.W.Frag) (hl : PE X l tl) (hK : X.K = K := by rfl) : PI X tg l (iSeq K tl) := by
  subst hK
  refine ⟨fun pins s σ H R I h => ?_⟩
  have h1 := hl.run pins s σ H _ I h
  refine thn h1 fun v s1 ⟨x, H1, I1, r1, q1⟩ => ?_
  obtain ⟨a, rfl, ⟨hq, q⟩ | ⟨hq, q⟩⟩ := q1
  · obtain ⟨xs, hq⟩ := hq
    cases r1
    obtain ⟨its, rv, hp, hz⟩ := I1.list hq
    refine wpAny_pyIter_list hp.isList ?_
    have kk := I1.kept (h' := s1.heap.push { cls := .type "list_iterator", data := .fields #[.ref a, .int 0 0] }) (t' := s1.toks) fun b o e => Heap.get?_push_of_some _ e
    exact ⟨s1.heap.objs.size, [s1.heap.objs.size], _, _, H1, rfl, kk, turn_list a _, ⟨_, Heap.get?_push_size _ rfl, rfl, rfl⟩, fun b hb => by
      rw [show b = s1.heap.objs.size by simpa using hb]
      exact I1.fpOk (Nat.le_refl s1.heap.objs.size) (I1.hok.fresh (Nat.le_refl _)), q⟩
  · obtain ⟨xs, hq⟩ := hq
    cases r1
    obtain ⟨its, rv, hp, hz⟩ := I1.tuple hq
    refine wpAny_pyIter_tuple (show s1.heap.IsTuple a its.toArray from hp) ?_
    exact ⟨s1.heap.objs.size, [s1.heap.objs.size], _, _, H1, rfl, I1.kept (t' := s1.toks) (fun b o e => Heap.get?_push_of_some _ e), turn_tuple a _, ⟨_, Heap.get?_push_size _ rfl, rfl, rfl⟩, fun b hb => by
      rw [show b = s1.heap.objs.size by simpa using hb]
      exact I1.fpOk (Nat.le_refl s1.heap.objs.size) (I1.hok.fresh (Nat.le_refl _)), q⟩
/-- a list (true) or a tuple -/
def bo (b : Bool) (us : List V) : HO := match b with
  | true => .lst us
  | false => .tup us
def Sq2 (K : PySem.W.Frag) (H : Hp) (a : Addr) (xs : List V) (b : Bool) : Prop := match b with
  | true => SqL K H a xs
  | false => SqT K H a xs
theorem Sq2.of {K : PySem.W.Frag} {H : Hp} {a : Addr} {xs : List V} {b : Bool} (h : H a = some (bo b xs)) : Sq2 K H a xs b := by
  cases b with
  | true => exact SqL.of h
  | false => exact SqT.of h
theorem for_seq {K : PySem.W.Frag} {a : Addr} {xs : List V} {b : Bool} {g : TG} {tb : TS} {D : Ends} {σ : L2.St} {H : Hp} (e : Sq2 K H a xs b) (Pv : Nat → L2.St → Hp → Prop) (h0 : Pv 0 σ H) (hl : ∀ i σ H, i ≤ xs.length → Pv i σ H → Sq2 K H a xs b)
    (hs : ∀ i x σ H, xs[i]? = some x → Pv i σ H → g x σ H fun σ2 H2 => tb { D with nx := Pv (i + 1), ct := Pv (i + 1), bk := D.nx } σ2 H2) (hd : ∀ σ H, Pv xs.length σ H → D.nx σ H) :
    ((∃ xs, SqL K H a xs) ∧ ∃ W : Nat → Nat → L2.St → Hp → Prop, (∃ m, W 0 m σ H) ∧ ∀ i m σ H, W i m σ H →
      ((Itl K a).stop i H ∧ D.nx σ H) ∨ ((Itl K a).go i H ∧ ∃ N : L2.St → Hp → Prop, (∀ σ' H', N σ' H' → ∃ m', m' < m ∧ W (i + 1) m' σ' H') ∧ ∀ x H', (Itl K a).yld i H x H' → g x σ H' fun σ2 H2 => tb { D with nx := N, ct := N, bk := D.nx } σ2 H2)) ∨
    ((∃ xs, SqT K H a xs) ∧ ∃ W : Nat → Nat → L2.St → Hp → Prop, (∃ m, W 0 m σ H) ∧ ∀ i m σ H, W i m σ H →
      ((Itt K a).stop i H ∧ D.nx σ H) ∨ ((Itt K a).go i H ∧ ∃ N : L2.St → Hp → Prop, (∀ σ' H', N σ' H' → ∃ m', m' < m ∧ W (i + 1) m' σ' H') ∧ ∀ x H', (Itt K a).yld i H x H' → g x σ H' fun σ2 H2 => tb { D with nx := N, ct := N, bk := D.nx } σ2 H2)) := by
  cases b with
  | true => exact .inl ⟨⟨xs, e⟩, for_list Pv h0 hl hs hd⟩
  | false => exact .inr ⟨⟨xs, e⟩, for_tup Pv h0 hl hs hd⟩
theorem sort_lt {K : PySem.W.Frag} {β : Type} {v : β → V} {d : β → PyData} {a : Addr} {bs : List β} {b : Bool} {H : Hp} {Q : VK} (h : Sq2 K H a (bs.map v) b) (hd : ∀ y ∈ bs, Dp K H (v y) (d y) ∧ (d y).depth ≤ 50) (al : PySem.W.AllAlike (bs.map d)) (so : PySem.W.Sortable (bs.map d)) (q : ∀ p, H p = none → Q (.ref p) (upd H p (.lst ((bs.mergeSort (PySem.W.dataLe false d)).map v)))) : rSortLT K [.ref a] H Q := by
  cases b with
  | true => exact .inl ⟨β, v, d, a, bs, rfl, h, hd, al, so, q⟩
  | false => exact .inr ⟨β, v, d, a, bs, rfl, h, hd, al, so, q⟩
/-! ### set(xs), xs a tuple of tuples of ints -/
section
variable {P : Program} {w : World} {A : Around} {E : Value → Shared → Prop} {s : Shared}
abbrev newS (w : World) : Obj := { cls := .type "set", dict := none, data := .set #[] 0 (.fresh 0 0 (!w.params.followText "set-order")) }
theorem set_of_tup {a : Addr} {items : Array Value} (ks : List (Addr × List Int)) {Q : Value → Shared → Prop} (hh : A.handled = none) (ht : s.heap.IsTuple a items) (hit : items.toList = ks.map fun p => Value.ref p.1)
    (hk : ∀ p ∈ ks, IsT P w s.heap p.2 p.1) (hfew : ks.length < 64) (hu : A.units + 3 < cLine)
    (q : ∀ (h' : Heap) (tk : Nat) L es ep t, SetTR P w h' s.heap.objs.size L es ep t → Got ks ks.length L → (∀ b o, s.heap.get? b = some o → h'.get? b = some o) → Q (.ref s.heap.objs.size) { s with heap := h', toks := tk }) :
    wpAny (model P w) A (call (.type "set") [.ref a]) Q E s := by
  have hsz : items.size = ks.length := by
    have z := congrArg List.length hit
    rwa [Array.length_toList, List.length_map] at z
  obtain ⟨c, tl, hmro⟩ := F.called_set.mro
  have hmade := F.called_set.made
  have hsub := F.called_set.sub
  have h1 := F.called_set.notType
  have h2 := F.called_set.canCreate
  have hct := F.typeCall_set_1 (.ref a)
  refine wpAny_call (codeAny_of_tree ?_)
  show wpAny _ _ (callAny (.type "set") _) _ _ _
  refine wpAny_pure ⟨Code.quiet_builtin _ (by decide +kernel), ?_⟩
  refine codeAny_builtin F.entry_type_call ?_
  rw [Around.under_plain (weight_type_call_type "set" [.ref a] []) rfl]
  repeat (any_goals (first
    | assumption
    | wp_step))
  refine codeAny_mono (code_set_led1 (.ref a) (E := E) (Q₁ := fun obj s₁ => obj = .ref s.heap.objs.size ∧ s₁ = { s with heap := s.heap.push (newS w) }) ⟨rfl, rfl⟩) fun r s₁ hr => ?_
  cases r with
  | error e => exact hr
  | ok fl =>
    cases fl with
    | ret obj =>
      obtain ⟨rfl, rfl⟩ := hr
      have hS : (s.heap.push (newS w)).get? s.heap.objs.size = some (newS w) := Heap.get?_push_size _ rfl
      have hT : Shared.TypeIs { s with heap := s.heap.push (newS w) } (.ref s.heap.objs.size) "set" := ⟨_, hS, rfl⟩
      have hli := F.called_set.init.lookup
      have hbi := F.called_set.init.bind (.ref s.heap.objs.size)
      repeat (any_goals (first
        | assumption
        | wp_step))
      refine codeAny_mono (codeAny_call_builtin (R := wants (fun r s₂ => r = .none ∧ ∃ h' tk L es ep t, s₂ = { s with heap := h', toks := tk } ∧ SetTR P w h' s.heap.objs.size L es ep t ∧ Got ks ks.length L ∧ (∀ b o, s.heap.get? b = some o → h'.get? b = some o)) E)
        F.called_set.init.plain F.entry_set_init (check_set_init_1 hT ?_)) fun r₂ s₂ hr₂ => ?_
      · have ht1 : (s.heap.push (newS w)).IsTuple a items := ht.push _
        obtain ⟨ob, hob, hcl, nl, hda⟩ := id ht1
        obtain ⟨ocls, odict, odata, oslots⟩ := ob
        simp only at hcl hda
        subst hcl; subst hda
        have hsls := PySem.F.sub_tuple_set
        have hslf := PySem.F.sub_tuple_frozenset
        have hne : (Value.type "tuple" == Value.type "dict") = false := by decide
        unfold Builtin.«set.__init__» noKeywords Builtin.Frozenset.updateFrom
        generalize hPI : pyIter = PI
        wp_walk
        subst hPI
        refine wpAny_pyIter_tuple ht1 ?_
        refine wpAny_bind (wpAny_runValue ?_)
        obtain ⟨ob0, hob0, _⟩ := ht
        have hlt : a < s.heap.objs.size := Heap.lt_size hob0
        have hin : A.in1.in1.in1.handled = none := by simp [hh]
        have hz1 : (s.heap.push (newS w)).objs.size = s.heap.objs.size + 1 := Heap.size_push ..
        have hneI : a ≠ (s.heap.push (newS w)).objs.size := by
          rw [hz1]
          exact Nat.ne_of_lt (Nat.lt_succ_of_lt hlt)
        have hSf : s.heap.objs.size ∉ [(s.heap.push (newS w)).objs.size, a] := fun hm => by
          rw [hz1] at hm
          rcases List.mem_cons.mp hm with e | hm
          · exact absurd e (Nat.ne_of_lt (Nat.lt_succ_self _))
          · exact absurd (List.mem_singleton.mp hm) (Nat.ne_of_gt hlt)
        have hval : ∀ (i : Nat) (v : Value), items[i]? = some v → ∃ p, ks[i]? = some p ∧ v = .ref p.1 := fun i v hv => by
          rw [← Array.getElem?_toList, hit, List.getElem?_map] at hv
          obtain ⟨p, hp, e⟩ := Option.map_eq_some_iff.mp hv
          exact ⟨p, hp, e.symm⟩
        have gone : ∀ b, s.heap.objs.size ≤ b → s.heap.get? b = none := fun b hb => by
          cases z : s.heap.get? b with
          | none => rfl
          | some o => exact absurd (Nat.lt_of_lt_of_le (Heap.lt_size z) hb) (Nat.lt_irrefl _)
        have hgone : ∀ b ∈ [(s.heap.push (newS w)).objs.size], s.heap.get? b = none := fun b hb => gone b (by
          rw [List.mem_singleton.mp hb, hz1]
          exact Nat.le_succ _)
        refine set_update_tups ((Walks.tuple hin _ a hneI items).toS) s.heap.objs.size hSf ks hsz hfew hval s.heap hk (gone _ (Nat.le_refl _)) hgone hu (items.size - 0) 0 _ (by omega) (Nat.zero_le _)
          ⟨⟨_, Heap.get?_push_size _ rfl, rfl, rfl⟩, ht1.push _⟩ (fun b o e => Heap.get?_push_of_some _ (Heap.get?_push_of_some _ e)) ⟨[], #[], 0, _, setTR_fresh (Heap.get?_push_of_some _ hS), Got.zero ks⟩ fun s' L es ep t hm hS' g' hkp => ?_
        obtain ⟨h', g2, d', tk', os'⟩ := s'
        have eg : g2 = s.gens := hm.gens
        have ed : d' = s.drawn := hm.drawn
        have eo : os' = s.os := hm.os
        subst eg ed eo
        rw [hsz] at g'
        show wpAny _ _ _ _ _ _
        refine wpAny_pure ?_
        show wpAny _ _ (ret Value.none) _ _ _
        exact wpAny_pure ⟨rfl, h', tk', L, es, ep, t, rfl, hS', g', hkp⟩
      · cases r₂ with
        | error e => exact hr₂
        | ok fl₂ =>
          cases fl₂ with
          | ret r =>
            obtain ⟨rfl, h', tk, L, es, ep, t, rfl, hS', g', hk'⟩ := hr₂
            repeat (any_goals (first
              | assumption
              | wp_step))
            exact q _ _ _ _ _ _ hS' g' hk'
          | _ => exact hr₂.elim
    | _ => exact hr.elim
end
def rSetT (K : PySem.W.Frag) (P : Program) (w : World) : List V → Hp → VK → Prop := fun xs H Q => ∃ (l : Addr) (ks : List (Addr × List Int)), xs = [V.ref l] ∧ SqT K H l (ks.map fun p => V.ref p.1) ∧ (∀ p ∈ ks, SqT K H p.1 (p.2.map V.int)) ∧ ks.length < 64 ∧
  ∀ a L, H a = none → (∀ p ∈ L, p ∈ ks) → (∀ p ∈ ks, p.2 ∈ L.map (·.2)) → Q (.ref a) (upd H a (SetTO P w a L))
/-- set(xs), xs a tuple of fewer than 64 tuples of ints -/
theorem cr_setT {X : Cx} (hc : X.calm = true) (hu : X.A.units + 64 < cLine) : CallR X (.type "set") (rSetT X.K X.prog X.w) := by
  intro pins s σ H xs us Q I r h
  obtain ⟨l, ks, rfl, hl, hk, hf, q⟩ := h
  rw [Vals.ref1 r]
  obtain ⟨its, rv, ht, hz⟩ := I.tuple hl
  refine set_of_tup (P := X.prog) (w := X.w) ks (I.ok.hd hc) (show s.heap.IsTuple l its.toArray from ht) (by simpa using refs_of_vals rv) (fun p hp => I.isT (hk p hp)) hf (by omega) fun h' tk L es ep t R g k => ?_
  have hn : H s.heap.objs.size = none := I.hok.fresh (Nat.le_refl _)
  exact ⟨.ref s.heap.objs.size, upd H s.heap.objs.size (SetTO X.prog X.w s.heap.objs.size L), I.laid (t' := tk) k (Nat.le_refl _) (setTO_new R.t0), rfl, q _ L hn (fun p hp => List.mem_of_mem_take (g.sub p hp)) fun p hp => g.all p (by rw [List.take_length]; exact hp)⟩
theorem setT {X : Cx} {P : Program} {w : World} (K : PySem.W.Frag) (hc : X.calm = true) (hu : X.A.units + 64 < cLine) (h1 : X.K = K := by rfl) (h2 : X.prog = P := by rfl) (h3 : X.w = w := by rfl) : CallR X (.type "set") (rSetT K P w) := by
  subst h1 h2 h3
  exact cr_setT hc hu
theorem sortedT {X : Cx} {P : Program} {w : World} (K : PySem.W.Frag) (hc : X.calm = true) (h1 : X.K = K := by rfl) (h2 : X.prog = P := by rfl) (h3 : X.w = w := by rfl) : CallR X (.builtin "sorted") (rSortedT K P w) := by
  subst h1 h2 h3
  exact cr_sortedT hc
end Pf


namespace Pf
open PySem PySem.Spec PyProof.Rows L2
theorem eqvTw (a b : Int × Int) : PyData.eqv (dTwo a) (dTwo b) = decide (a = b) := by
  obtain ⟨a1, a2⟩ := a
  obtain ⟨b1, b2⟩ := b
  simp [dTwo, PyData.eqv, PyData.eqvAll, Prod.ext_iff]
  by_cases h1 : a1 = b1 <;> by_cases h2 : a2 = b2 <;> simp [h1, h2]
theorem shapedTw (y : Int × Int) : SeqAt.shaped (dTwo y) = true := by
  show (PyData.canLay0 (dTwo y) && decide (PyData.depth (dTwo y) ≤ 64)) = true
  simp [dTwo, PyData.canLay0, PyData.canLayAll0, PyData.depth, PyData.depthAll]
theorem inR_int {i : Int} {ns : List Int} : inV (.int i) (ns.map V.int) = ns.contains i := by
  unfold inV
  rw [List.any_map]
  rw [Bool.eq_iff_iff, List.any_eq_true, List.contains_iff_mem]
  constructor
  · rintro ⟨y, hy, e⟩
    have e : (y == i) = true := e
    rw [beq_iff_eq] at e
    exact e ▸ hy
  · intro h
    exact ⟨i, h, by show (i == i) = true; exact beq_self_eq_true i⟩
theorem flat_ints (ns : List Int) : (ns.map V.int).all flatV = true := by
  rw [List.all_map]
  exact List.all_eq_true.mpr fun z _ => rfl
def dTw (v : V × (Int × Int)) : PyData := dTwo v.2
/-- sorted(t) of a tuple of pairs -/
theorem sort_tws {K : PySem.W.Frag} {H : Hp} {a : Addr} {us : List V} {L : Fo} {Q : VK} (hA : H a = some (.tup us)) (hP : Paired (TwoAt H) us L) (q : ∀ (p : Addr) (ws : List V) (H' : Hp), H p = none → H' p = some (.lst ws) → Paired (TwoAt H') ws (L.mergeSort (PySem.W.dataLe false dTwo)) → Ext H H' → Q (.ref p) H') : rSortTD K [.ref a] H Q := by
  have hz := paired_len hP
  have e1 : (us.zip L).map (·.1) = us := List.map_fst_zip (by omega)
  have e2 : (us.zip L).map (·.2) = L := List.map_snd_zip (by omega)
  have hall : ∀ b ∈ us.zip L, TwoAt H b.1 b.2 := by
    clear e1 e2 hz q hA
    induction hP with
    | nil => intro b hb; cases hb
    | cons r _ ih =>
      intro b hb
      rw [List.zip_cons_cons] at hb
      rcases List.mem_cons.mp hb with rfl | hb
      · exact r
      · exact ih b hb
  refine ⟨V × (Int × Int), fun b => b.1, dTw, a, us.zip L, rfl, SqT.of (by rw [e1]; exact hA), fun b hb => ?_, ?_, .inl ?_, fun p hp => ?_⟩
  · obtain ⟨b1, e, h⟩ := hall b hb
    have h1 : b.1 = .ref b1 := e
    show Dp _ H b.1 (dTw b) ∧ _
    rw [h1]
    refine ⟨.tup (SqT.of h) (.cons (.int _) (.cons (.int _) .nil)), ?_⟩
    simp [dTw, dTwo, PyData.depth, PyData.depthAll]
  · intro d1 h1 d2 h2
    obtain ⟨b1, _, rfl⟩ := List.mem_map.mp h1
    obtain ⟨b2, _, rfl⟩ := List.mem_map.mp h2
    simp [dTw, dTwo, PySem.W.alike, PySem.W.alikeAll]
  · intro d1 h1
    obtain ⟨b1, _, rfl⟩ := List.mem_map.mp h1
    exact ⟨_, _, rfl⟩
  · have x1 := Ext.new (o := .lst (((us.zip L).mergeSort (PySem.W.dataLe false dTw)).map fun b => b.1)) hp
    refine q p _ _ hp upd_same ?_ x1
    have es : ((us.zip L).mergeSort (PySem.W.dataLe false dTw)).map (·.2) = L.mergeSort (PySem.W.dataLe false dTwo) := by
      have hm := List.map_mergeSort (r := PySem.W.dataLe false dTw) (s := PySem.W.dataLe false dTwo) (f := fun b : V × (Int × Int) => b.2) (l := us.zip L) (fun a _ b _ => rfl)
      rw [e2] at hm
      exact hm
    rw [← es]
    have hm : ∀ b ∈ (us.zip L).mergeSort (PySem.W.dataLe false dTw), TwoAt H b.1 b.2 := fun b hb => hall b ((List.mergeSort_perm _ _).mem_iff.mp hb)
    generalize (us.zip L).mergeSort (PySem.W.dataLe false dTw) = S at hm x1
    have : ∀ {T : List (V × (Int × Int))} {H2 : Hp}, (∀ b ∈ T, TwoAt H b.1 b.2) → Ext H H2 → Paired (TwoAt H2) (T.map (·.1)) (T.map (·.2)) := by
      intro T H2 hT hx
      induction T with
      | nil => exact .nil
      | cons b T ih => exact .cons (TwoAt.mono _ _ _ _ (TupK.ext hx) (hT b (List.mem_cons_self ..))) (ih fun c hc => hT c (List.mem_cons_of_mem _ hc))
    exact this hm x1
theorem plc_take {q : Fo} {i : Nat} {y : Int × Int} (h : q[i]? = some y) : plcF (q.take (i + 1)) = plcF (q.take i) ++ [y.1, y.2] := by
  unfold plcF
  rw [List.take_add_one, h, List.flatMap_append]
  simp
theorem plcF_len (q : Fo) : (plcF q).length = 2 * q.length := by
  unfold plcF
  induction q with
  | nil => rfl
  | cons y q ih => rw [List.flatMap_cons, List.length_append, ih, List.length_cons, List.length_cons]; simp; omega
def frT (n : Nat) (q : Fo) : List Int := ((List.range n).map fun (i : Nat) => (i : Int)).filter fun p => !(plcF q).contains p
theorem frT_step (n : Nat) (q : Fo) : frT (n + 1) q = frT n q ++ if (!(plcF q).contains (n : Int)) = true then [(n : Int)] else [] := by
  unfold frT
  rw [List.range_succ, List.map_append, List.filter_append]
  congr 1
  show List.filter _ [(n : Int)] = _
  rw [List.filter_cons, List.filter_nil]
def moT (r : Rl) (x : Str) (q : Fo) (fr : List Int) (L : List Int) : List Fo := L.flatMap fun i => (fr.filter fun j => mayC r x i j).map fun j => insP q (i, j)
theorem moT_step {r : Rl} {x : Str} {q : Fo} {fr L : List Int} {c : Nat} {i : Int} (h : L[c]? = some i) : moT r x q fr (L.take (c + 1)) = moT r x q fr (L.take c) ++ (fr.filter fun j => mayC r x i j).map fun j => insP q (i, j) := by
  unfold moT
  rw [List.take_add_one, h, List.flatMap_append]
  simp
theorem moT_len {r : Rl} {x : Str} {q : Fo} {fr L : List Int} : (moT r x q fr L).length ≤ L.length * fr.length := by
  unfold moT
  induction L with
  | nil => exact Nat.zero_le _
  | cons i L ih =>
    rw [List.flatMap_cons, List.length_append, List.length_map, List.length_cons, Nat.succ_mul]
    have := List.length_filter_le (fun j => mayC r x i j) fr
    omega
section
variable {P : Program} {w : World} {K : PySem.W.Frag} {mg : Str → Option Value} {base : Heap}
def spMPa : Sp := fun vs H Q _ => ∃ (v : V) (r : Rl) (x : Str) (i j : Int), vs = [v, .str x, .int i, .int j] ∧ RulesW H v r ∧ 0 ≤ r.span ∧ x.length ≤ 1000 ∧ 0 ≤ i ∧ i < x.length ∧ 0 ≤ j ∧ j < x.length ∧ ∀ H', Ext H H' → Q (.bl (mayC r x i j)) H'
theorem ok_mpa {f : Addr} {fd : FuncData} (F : Fun K "may_pair" "may_pair" s_may_pair f fd) (ctext_of : CTx P w K mg base) (cpair_worth : CPW P w K mg base) (mlen : mg "len" = none) : FnOk P w K mg base CX0 2 f fd ["rules", "string", "i", "j"] spMPa := by
  refine F.ok sc_may_pair (fun vs H Q E h => ?_) (fun cdv A outer s H vs Q E hr h => ?_)
  · obtain ⟨v, r, x, i, j, rfl, _⟩ := h
    rfl
  · obtain ⟨v, r, x, i, j, rfl, hR, hsp, hx, e1, e1', e2', e3, q⟩ := h
    obtain ⟨a, vp, vl, vs, rfl, hA, hp, hl, hs⟩ := id hR
    refine ⟨_, (pss_cons (ps_if (pt_not (pt_chain3 op_le op_lt op_lt pe_int (pv 2) (pv 3) (pe_callB call_len_str (by rfl) mlen (by decide +kernel) (pa_cons (pv 1) pa_nil)))) (pss_one (ps_ret pe_bl)) pss_nil)
      (pss_cons (ps_if (pt_cmpR op_lt (pe_op op_sub (pe_op op_sub (pv 3) (pv 2)) pe_int) (pe_ix (ixT K) (pv 0) pe_int (fun _ _ => rfl)) (nomark _)) (pss_one (ps_ret pe_bl)) pss_nil)
      (pss_one (ps_ret (pe_cmpR op_notN (pe_ca cpair_worth (hr.mono (by decide)) (by rfl) (pa_cons (pv 0) (pa_cons (pe_ca ctext_of (hr.mono (by decide)) (by rfl) (pa_cons (pv 1) (pa_cons (pe_tup (pa_cons (pv 2) (pa_cons (pv 3) pa_nil))) pa_nil))) pa_nil))) pe_non (nomark _)))))), ?_⟩
    refine ⟨_, rfl, 0, i, rfl, rfl, _, rfl, ?_⟩
    rw [decide_eq_true e1]
    refine iteT ⟨_, rfl, i, j, rfl, rfl, _, rfl, ?_⟩
    by_cases e2 : i < j
    · rw [decide_eq_true e2]
      refine iteT ⟨_, rfl, x, rfl, szL (by omega), _, _, rfl, rfl, _, rfl, ?_⟩
      rw [decide_eq_true e3]
      refine iteF ⟨_, rfl, _, rfl, _, _, rfl, rfl, _, 1, rfl, rfl, _, rfl, a, _, 2, _, rfl, rfl, SqT.of hA, rfl, _, _, rfl, rfl, _, rfl, ite2 (fun e4 => ?_) (fun e4 => ?_)⟩
      · have e4 : j - i - 1 < r.span := of_decide_eq_true e4
        have e : mayC r x i j = false := by
          unfold mayC
          rw [decide_eq_false (show ¬ r.span < j - i by omega), Bool.false_and]
        have := q H Ext.refl
        rw [e] at this
        exact this
      · have e4 : ¬ j - i - 1 < r.span := fun z => e4 (decide_eq_true z)
        refine ⟨_, rfl, _, rfl, _, rfl, _, rfl, szL (show 2 ≤ 1000000 by decide), fun t ht => ?_⟩
        refine ⟨x, t, (i, j), rfl, upd_same, hx, e1, (show i < x.length by omega), (show 0 ≤ j by omega), e3, ?_⟩
        refine ⟨_, r, _, rfl, RulesW.mono _ _ _ _ (TupK.new ht) hR, rfl, ?_⟩
        have e : mayC r x i j = !decide (pwV r.prs (tx2 x (i, j)) = .non) := by
          unfold mayC
          rw [decide_eq_true (show r.span < j - i by omega), Bool.true_and, pwV_is]
        have := q _ (Ext.new (o := .tup [.int i, .int j]) ht)
        rw [e] at this
        exact this
    · rw [decide_eq_false e2]
      have e : mayC r x i j = false := by
        unfold mayC
        rw [decide_eq_false (show ¬ r.span < j - i by omega), Bool.false_and]
      have := q H Ext.refl
      rw [e] at this
      exact iteF ⟨_, rfl, iteT this⟩
abbrev CMPa (P : Program) (w : World) (K : PySem.W.Frag) (mg : Str → Option Value) (base : Heap) : Prop := Ca P w K mg base 2 "may_pair" ["rules", "string", "i", "j"] spMPa
abbrev s_steps_from : Stmt := topS 22
theorem sc_steps_from : FnScope ["rules", "string", "folding", "fewer", "taken", "free", "more", "left", "pair", "place", "i", "j", "made"] ["rules", "string", "folding"] (defScope s_steps_from) :=
  ⟨rfl, rfl, rfl, by decide +kernel, rfl, by decide +kernel, by decide +kernel⟩
def spSteps : Sp := fun vs H Q _ => ∃ (v : V) (b : Addr) (r : Rl) (x : Str) (q0 : Fo), vs = [v, .str x, .ref b] ∧ RulesW H v r ∧ RlOk r ∧ x.length ≤ 12 ∧ FkT H b q0 ∧ q0 ∈ AL r x ∧
  ∀ (p : Addr) (ws : List V) (H' : Hp), H p = none → H' p = some (.lst ws) → Paired (FoAt H') ws (SF (nb r x q0)) → Ext H H' → Q (.ref p) H'
theorem ok_steps {f : Addr} {fd : FuncData} (F : Fun K "steps_from" "steps_from" s_steps_from f fd) (cmay_pairA : CMPa P w K mg base) (cis_folding : CIF P w K mg base) (mlen : mg "len" = none) (mtuple : mg "tuple" = none) (mrange : mg "range" = none) (msorted : mg "sorted" = none) : FnOk P w K mg base CX0 5 f fd ["rules", "string", "folding"] spSteps := by
  refine F.ok sc_steps_from (fun vs H Q E h => ?_) (fun cdv A outer s H vs Q E hr h => ?_)
  · obtain ⟨v, b, r, x, q0, rfl, _⟩ := h
    rfl
  · obtain ⟨v, b, r, x, q0, rfl, hR, ok, hx, hb, hq, q⟩ := h
    refine ⟨_, (pss_cons (ps_setLc (i := 3) (own := [("left", 7)]) (g := gName 7) (by rfl) sc_steps_from.nd rfl rfl (sw_true rfl rfl rfl (by decide +kernel)) (pi_tup (pv 2)) (blkOk_by (own := [("left", 7)]) (N := ["rules", "string", "folding", "fewer", "taken", "free", "more", "left", "pair", "place", "i", "j", "made"]) (sc := defScope s_steps_from) (by decide +kernel)) (fun _ _ _ _ _ => (pg_name (i := 7) sc_steps_from.nd rfl (.inr rfl))) (fun _ _ _ _ _ => pts_nil) (fun _ _ _ _ _ => (pe_callTy (tupleOf K) (by rfl) mtuple (by decide +kernel) (pa_cons (pe_lc (own := [("pair", 8)]) (g := gName 8) (by rfl) sc_steps_from.nd (piT K (pv 2)) (blkOk_by (own := [("pair", 8)]) (N := ["rules", "string", "folding", "fewer", "taken", "free", "more", "left", "pair", "place", "i", "j", "made"]) (sc := relS _ (defScope s_steps_from)) (by decide +kernel)) (fun _ _ _ _ _ => (pg_name (i := 8) sc_steps_from.nd rfl (.inl rfl))) (fun _ _ _ _ _ => (pts_one (pt_cmpR (neD K hr.units) (pv 8) (pv 7) (nomark _)))) (fun _ _ _ _ _ => (pv 8))) pa_nil))))
      (pss_cons (ps_set (i := 4) sc_steps_from.nd rfl (.inr rfl) (pe_lc2 (own := [("pair", 8), ("place", 9)]) (vs1 := [9]) (g := gName 8) (g1 := gName 9) (by rfl) sc_steps_from.nd (pi_tup (pv 2)) (blkOk_by (own := [("pair", 8), ("place", 9)]) (N := ["rules", "string", "folding", "fewer", "taken", "free", "more", "left", "pair", "place", "i", "j", "made"]) (sc := defScope s_steps_from) (by decide +kernel)) (by decide) (fun _ _ _ _ _ => (pg_name (i := 8) sc_steps_from.nd rfl (.inl rfl))) (fun _ _ _ _ _ => pts_nil) (fun _ _ _ _ _ => (piT K (pv 8))) (fun _ _ _ _ _ => (pg_name (i := 9) sc_steps_from.nd rfl (.inl rfl))) (fun _ _ _ _ _ => pts_nil) (fun _ _ _ _ _ => (pv 9))))
      (pss_cons (ps_set (i := 5) sc_steps_from.nd rfl (.inr rfl) (pe_lc (own := [("place", 9)]) (g := gName 9) (by rfl) sc_steps_from.nd (pi_range1 (by rfl) mrange (pa_cons (pe_callB call_len_str (by rfl) mlen (by decide +kernel) (pa_cons (pv 1) pa_nil)) pa_nil)) (blkOk_by (own := [("place", 9)]) (N := ["rules", "string", "folding", "fewer", "taken", "free", "more", "left", "pair", "place", "i", "j", "made"]) (sc := defScope s_steps_from) (by decide +kernel)) (fun _ _ _ _ _ => (pg_name (i := 9) sc_steps_from.nd rfl (.inl rfl))) (fun _ _ _ _ _ => (pts_one (pt_cmpR (notInSeq K) (pv 9) (pv 4) (by rfl)))) (fun _ _ _ _ _ => (pv 9))))
      (pss_cons (ps_setLc2 (i := 6) (own := [("i", 10), ("j", 11)]) (vs1 := [11]) (g := gName 10) (g1 := gName 11) (by rfl) sc_steps_from.nd rfl rfl (sw_true rfl rfl rfl (by decide +kernel)) (pi_list (pv 5)) (blkOk_by (own := [("i", 10), ("j", 11)]) (N := ["rules", "string", "folding", "fewer", "taken", "free", "more", "left", "pair", "place", "i", "j", "made"]) (sc := defScope s_steps_from) (by decide +kernel)) (by decide) (fun _ _ _ _ _ => (pg_name (i := 10) sc_steps_from.nd rfl (.inl rfl))) (fun _ _ _ _ _ => pts_nil) (fun _ _ _ _ _ => (piL K (pv 5))) (fun _ _ _ _ _ => (pg_name (i := 11) sc_steps_from.nd rfl (.inl rfl))) (fun _ _ _ _ _ => (pts_one (pt_val (pe_ca cmay_pairA (hr.mono (by decide)) (by rfl) (pa_cons (pv 0) (pa_cons (pv 1) (pa_cons (pv 10) (pa_cons (pv 11) pa_nil)))))))) (fun _ _ _ _ _ => (pe_callTy (tupleOf K) (by rfl) mtuple (by decide +kernel) (pa_cons (pe_callB (cr_sortTD K hr.units) (by rfl) msorted (by decide +kernel) (pa_cons (pe_op (catE K) (pv 2) (pe_tup (pa_cons (pe_tup (pa_cons (pv 10) (pa_cons (pv 11) pa_nil))) pa_nil))) pa_nil)) pa_nil))))
      (pss_one (ps_ret (pe_callB (cr_sortX K hr.units) (by rfl) msorted (by decide +kernel) (pa_cons (pe_op op_cat (pv 3) (pe_lc (own := [("made", 12)]) (g := gName 12) (by rfl) sc_steps_from.nd (pi_list (pv 6)) (blkOk_by (own := [("made", 12)]) (N := ["rules", "string", "folding", "fewer", "taken", "free", "more", "left", "pair", "place", "i", "j", "made"]) (sc := defScope s_steps_from) (by decide +kernel)) (fun _ _ _ _ _ => (pg_name (i := 12) sc_steps_from.nd rfl (.inl rfl))) (fun _ _ _ _ _ => (pts_one (pt_val (pe_ca cis_folding (hr.mono (by decide)) (by rfl) (pa_cons (pv 0) (pa_cons (pv 1) (pa_cons (pv 12) pa_nil))))))) (fun _ _ _ _ _ => (pv 12)))) pa_nil)))))))), ?_⟩
    have h4 := AL_fo hq
    have hqin := h4.inn
    have hql : 2 * q0.length ≤ 12 := by
      have := (WA_in r x x.length 0 q0 (AL_mem.mp hq)).2
      omega
    obtain ⟨_, fs, eb, hB, hP⟩ := id hb
    cases eb
    have hfl := paired_len hP
    -- fewer
    refine ⟨_, rfl, b, rfl, ⟨_, SqT.of hB⟩, fun D hD => lc_tup (K := K) (xs := fs) (GenP FoAt D H (fewL q0)) (gen_new hD) (fun i H2 _ h => SqT.of (h.ext _ _ hB)) (fun i u H2 hi hv => ?_) (fun H2 hv => ?_)⟩
    · obtain ⟨y, hy, a1, rfl, ha1⟩ := paired_get hP hi
      have k2 := hv.ext
      refine ⟨rfl, _, rfl, b, rfl, ⟨_, SqT.of (k2 _ _ hB)⟩, fun E1 hE1 => lc_tup (K := K) (xs := fs) (fun c H3 => KeepL E1 H2 ((q0.take c).filter fun p => !decide (p = y)) c H3)
        (KeepL.new hE1) (fun c H3 _ h => SqT.of (h.ext _ _ (k2 _ _ hB))) (fun c u H3 hc hw => ?_) (fun H3 hw => ?_)⟩
      · obtain ⟨z, hz, a2, rfl, ha2⟩ := paired_get hP hc
        have cl : c < fs.length := (List.getElem?_eq_some_iff.mp hc).1
        have k3 := k2.trans hw.ext
        rw [take_filt hz]
        refine ⟨rfl, _, rfl, _, rfl, dTwo z, dTwo y, .tup (SqT.of (k3 _ _ ha2)) (.cons (.int _) (.cons (.int _) .nil)), .tup (SqT.of (k3 _ _ ha1)) (.cons (.int _) (.cons (.int _) .nil)), shapedTw z, shapedTw y, _, rfl, ?_⟩
        rw [eqvTw]
        by_cases c1 : z = y
        · rw [decide_eq_true c1]
          refine iteF ?_
          show KeepL E1 H2 (_ ++ if (!true) = true then [z] else []) (c + 1) H3
          rw [if_neg (by decide), List.append_nil]
          exact hw.skip Ext.refl
        · rw [decide_eq_false c1]
          refine iteT ⟨_, rfl, ?_⟩
          show ∃ acc, _ ∧ _ ∧ KeepL E1 H2 (_ ++ if (!false) = true then [z] else []) (c + 1) _
          rw [if_pos (by decide)]
          exact KeepL.add hE1 hw Ext.refl (k3 _ _ ha2) (by omega)
      obtain ⟨vs3, hL3, hP3, hl3, k3⟩ := hw
      rw [hfl, List.take_length] at hP3
      refine ⟨E1, _, rfl, .inl ⟨SqL.of hL3, fun t ht => ?_⟩⟩
      have x4 := Ext.new (o := .tup vs3) ht
      refine gen_step FoAt.mono hD hv (k3.trans x4) (b := q0.filter fun p => !decide (p = y)) ⟨t, vs3, rfl, upd_same, paired_imp (fun _ _ => TwoAt.mono _ _ _ _ (TupK.ext x4)) hP3⟩ ?_ ?_
      · unfold fewL
        rw [List.getElem?_map, hy]
        rfl
      · unfold fewL
        rw [List.length_map]
        omega
    obtain ⟨ws1, hL1, hP1, k1⟩ := gen_end hv (by unfold fewL; rw [List.length_map]; omega)
    have hfwl : (fewL q0).length = q0.length := by unfold fewL; rw [List.length_map]
    have hwl1 := paired_len hP1
    clear hv
    -- taken
    refine ⟨_, rfl, b, rfl, ⟨_, SqT.of (k1 _ _ hB)⟩, fun T hT => lc_two (walk_tup (xs := fs)) (fun i H3 => H3 T = some (.lst ((plcF (q0.take i)).map V.int)) ∧ Ext H2 H3)
      ⟨upd_same, Ext.new hT⟩ (fun i H3 _ ⟨_, k⟩ => SqT.of ((k1.trans k) _ _ hB)) (fun i u H3 H3' hi hv hy => ?_) (fun H3 hv => ?_)⟩
    · obtain ⟨hL, k3⟩ := hv
      obtain ⟨e0, hu⟩ := hy
      subst e0
      obtain ⟨y, hy, a1, rfl, ha1⟩ := paired_get hP hu
      have ha3 := (k1.trans k3) _ _ ha1
      refine ⟨rfl, _, rfl, a1, rfl, ⟨_, SqT.of ha3⟩, lc_in (walk_tup (xs := [V.int y.1, V.int y.2])) (fun j H4 => H4 T = some (.lst ((plcF (q0.take i) ++ [y.1, y.2].take j).map V.int)) ∧ Ext H2 H4)
        ⟨?_, k3⟩ (fun j H4 _ ⟨_, k⟩ => SqT.of ((k1.trans k) _ _ ha1)) (fun j u H4 H5 hj hv hy2 => ?_) (fun H4 hv => ?_)⟩
      · rw [List.take_zero, List.append_nil]
        exact hL
      · obtain ⟨hL4, k4⟩ := hv
        obtain ⟨e0, hu2⟩ := hy2
        subst e0
        have hu2 : ([y.1, y.2].map V.int)[j]? = some u := hu2
        rw [List.getElem?_map] at hu2
        obtain ⟨n, hn, rfl⟩ := Option.map_eq_some_iff.mp hu2
        refine ⟨rfl, _, rfl, _, hL4, szLt ?_, ?_, k4.put hT⟩
        · rw [List.length_map, List.length_append, plcF_len, List.length_take, List.length_take]
          show _ + min j 2 < _
          omega
        · rw [upd_same, List.take_add_one, hn, List.map_append, List.map_append, List.map_append, List.append_assoc]
          rfl
      · obtain ⟨hL4, k4⟩ := hv
        refine ⟨?_, k4⟩
        rw [plc_take hy]
        exact hL4
    obtain ⟨hT3, k3⟩ := hv
    rw [hfl, List.take_length] at hT3
    -- free
    refine ⟨_, rfl, x, rfl, szL (by omega), (x.length : Int), rfl, by omega, by omega, fun R hRn => lc_range (lo := 0) (n := x.length) (fun i H4 => H4 R = some (.lst ((frT i q0).map V.int)) ∧ (frT i q0).length ≤ i ∧ Ext H3 H4)
      ⟨upd_same, Nat.zero_le _, Ext.new hRn⟩ (fun i H4 hi hv => ?_) (fun H4 hv => ?_)⟩
    · obtain ⟨hR4, hl4, k4⟩ := hv
      refine ⟨rfl, _, rfl, _, rfl, T, _, rfl, .inl (SqL.of (k4 _ _ hT3)), rfl, flat_ints _, ?_⟩
      rw [show (0 : Int) + (i : Int) = (i : Int) by omega, inR_int, frT_step]
      by_cases c : (!(plcF q0).contains (i : Int)) = true
      · rw [if_pos c]
        have c' : (if (true : Bool) = true then !(plcF q0).contains (i : Int) else (plcF q0).contains (i : Int)) = true := c
        refine ⟨_, rfl, ?_⟩
        rw [c']
        refine iteT ⟨_, rfl, _, hR4, szLt (by rw [List.length_map]; omega), ?_, ?_, k4.put hRn⟩
        · rw [upd_same, List.map_append]
          rfl
        · rw [List.length_append, List.length_singleton]
          omega
      · rw [if_neg c, List.append_nil]
        have c := Bool.eq_false_iff.mpr c
        have c' : (if (true : Bool) = true then !(plcF q0).contains (i : Int) else (plcF q0).contains (i : Int)) = false := c
        refine ⟨_, rfl, ?_⟩
        rw [c']
        exact iteF ⟨hR4, by omega, k4⟩
    obtain ⟨hR4, hfrl, k4⟩ := hv
    obtain ⟨fr, hfr⟩ : ∃ fr, fr = frP x.length q0 := ⟨_, rfl⟩
    have hR4 : H4 R = some (.lst (fr.map V.int)) := hfr ▸ hR4
    have hfrl : fr.length ≤ 12 := by
      have : (frP x.length q0).length ≤ x.length := hfrl
      rw [hfr]
      omega
    have hfrm : ∀ p ∈ fr, 0 ≤ p ∧ p < x.length := fun p hp => by
      rw [hfr] at hp
      have := mem_frP.mp hp
      omega
    have k14 := (k1.trans k3).trans k4
    have hmoL : moT r x q0 fr fr = moreL r x q0 := by rw [hfr]; rfl
    -- more
    refine ⟨_, rfl, R, rfl, ⟨_, SqL.of hR4⟩, fun M hM => lc_two (walk_list (xs := fr.map V.int)) (fun c H5 => GenL FoAt M H4 (moT r x q0 fr (fr.take c)) H5)
      (genl_new hM) (fun c H5 _ h => SqL.of (h.ext _ _ hR4)) (fun c u H5 H5' hc hv hy => ?_) (fun H5 hv => ?_)⟩
    · obtain ⟨e0, hu⟩ := hy
      subst e0
      rw [List.getElem?_map] at hu
      obtain ⟨i, hi, rfl⟩ := Option.map_eq_some_iff.mp hu
      have hib := hfrm i (List.mem_of_getElem? hi)
      refine ⟨rfl, _, rfl, R, rfl, ⟨_, SqL.of (hv.ext _ _ hR4)⟩, lc_in (walk_list (xs := fr.map V.int)) (fun d H6 => GenL FoAt M H4 (moT r x q0 fr (fr.take c) ++ ((fr.take d).filter fun j => mayC r x i j).map fun j => insP q0 (i, j)) H6)
        (by rw [List.take_zero, List.filter_nil, List.map_nil, List.append_nil]; exact hv) (fun d H6 _ h => SqL.of (h.ext _ _ hR4)) (fun d u H6 H6' hd hw hy2 => ?_) (fun H6 hw => ?_)⟩
      · obtain ⟨e0, hu2⟩ := hy2
        subst e0
        rw [List.getElem?_map] at hu2
        obtain ⟨j, hj, rfl⟩ := Option.map_eq_some_iff.mp hu2
        have hjb := hfrm j (List.mem_of_getElem? hj)
        have k6 := k14.trans hw.ext
        refine ⟨rfl, _, rfl, _, rfl, _, rfl, _, rfl, v, r, x, i, j, rfl, RulesW.mono _ _ _ _ (TupK.ext k6) hR, ok.sp0, by omega, hib.1, hib.2, hjb.1, hjb.2, fun H7 k7 => ⟨_, rfl, ?_⟩⟩
        have k67 := k6.trans k7
        have etake : ((fr.take (d + 1)).filter fun j => mayC r x i j) = ((fr.take d).filter fun j => mayC r x i j) ++ if mayC r x i j = true then [j] else [] := by
          rw [List.take_add_one, hj, List.filter_append]
          congr 1
          show List.filter _ [j] = _
          rw [List.filter_cons, List.filter_nil]
        rw [etake]
        by_cases cm : mayC r x i j = true
        · rw [cm, if_pos rfl, List.map_append, ← List.append_assoc]
          refine iteT ⟨_, rfl, _, rfl, _, rfl, szL (show 2 ≤ 1000000 by decide), fun t1 ht1 => ⟨szL (show 1 ≤ 1000000 by decide), fun t2 ht2 => ?_⟩⟩
          have y1 := Ext.new (o := .tup [.int i, .int j]) ht1
          have y2 := Ext.new (o := .tup [.ref t1]) ht2
          have k68 := k67.trans (y1.trans y2)
          refine ⟨b, t2, fs, _, rfl, rfl, k68 _ _ hB, upd_same, szL (by rw [List.length_singleton]; omega), fun p8 H8 k8 hp8 => ?_⟩
          have hP8 : Paired (TwoAt H8) (fs ++ [.ref t1]) (q0 ++ [(i, j)]) := paired_app (paired_imp (fun _ _ => TwoAt.mono _ _ _ _ (TupK.ext (k68.trans k8))) hP) (.cons ⟨t1, rfl, (y2.trans k8) _ _ upd_same⟩ .nil)
          delta tNil
          refine sort_tws hp8 hP8 fun p9 ws9 H9 hp9 hL9 hP9 k9 => ?_
          refine ⟨p9, _, rfl, .inl ⟨SqL.of hL9, fun t10 ht10 => ?_⟩⟩
          have x10 := Ext.new (o := .tup ws9) ht10
          have kk := (k7.trans (y1.trans y2)).trans ((k8.trans k9).trans x10)
          refine genl_step FoAt.mono hM hw kk ⟨t10, ws9, rfl, upd_same, paired_imp (fun _ _ => TwoAt.mono _ _ _ _ (TupK.ext x10)) hP9⟩ ?_
          rw [List.length_append, List.length_map]
          have h1 := moT_len (r := r) (x := x) (q := q0) (fr := fr) (L := fr.take c)
          have h2 : (fr.take c).length * fr.length ≤ 12 * 12 := Nat.mul_le_mul (by rw [List.length_take]; omega) hfrl
          have h3 := List.length_filter_le (fun j => mayC r x i j) (fr.take d)
          rw [List.length_take] at h3
          omega
        · have cm := Bool.eq_false_iff.mpr cm
          rw [cm, if_neg Bool.false_ne_true, List.append_nil]
          exact iteF (hw.keep FoAt.mono k7)
      · rw [List.length_map, List.take_length] at hw
        rw [moT_step hi]
        exact hw
    rw [List.length_map, List.take_length, hmoL] at hv
    obtain ⟨ws5, hL5, hP5, k5⟩ := hv
    have hmol : (moreL r x q0).length ≤ 144 := by
      rw [← hmoL]
      have h1 := moT_len (r := r) (x := x) (q := q0) (fr := fr) (L := fr)
      have h2 : fr.length * fr.length ≤ 12 * 12 := Nat.mul_le_mul hfrl hfrl
      omega
    have hwl5 := paired_len hP5
    have k15 := k14.trans k5
    -- the answer
    refine ⟨_, rfl, _, rfl, M, rfl, ⟨_, SqL.of hL5⟩, fun N hN => lc_list (K := K) (xs := ws5) (fun c H6 => GenL FoAt N H5 (((moreL r x q0).take c).filter (isF r x)) H6)
      (genl_new hN) (fun c H6 _ h => SqL.of (h.ext _ _ hL5)) (fun c u H6 hc hv => ?_) (fun H6 hv => ?_)⟩
    · obtain ⟨z, hz, a1, zs, rfl, ha1, hPz⟩ := paired_get hP5 hc
      have hzm := List.mem_of_getElem? hz
      have hzi := more_in ok hq hzm
      have k6 := hv.ext
      have cl : c < ws5.length := (List.getElem?_eq_some_iff.mp hc).1
      refine ⟨rfl, _, rfl, _, rfl, _, rfl, v, .ref a1, r, x, z, rfl, RulesW.mono _ _ _ _ (TupK.ext (k15.trans k6)) hR, by omega, TupOf.mono TwoAt.mono _ _ _ _ (TupK.ext k6) ⟨a1, zs, rfl, ha1, hPz⟩, by omega, hzi.1, fun H7 k7 => ⟨_, rfl, ?_⟩⟩
      have etake : ((moreL r x q0).take (c + 1)).filter (isF r x) = ((moreL r x q0).take c).filter (isF r x) ++ if isF r x z = true then [z] else [] := by
        rw [List.take_add_one, hz, List.filter_append]
        congr 1
        show List.filter _ [z] = _
        rw [List.filter_cons, List.filter_nil]
      rw [etake]
      by_cases cf : isF r x z = true
      · rw [cf, if_pos rfl]
        refine iteT ⟨_, rfl, genl_step FoAt.mono hN hv k7 (FoAt.mono _ _ _ _ (TupK.ext (k6.trans k7)) ⟨a1, zs, rfl, ha1, hPz⟩) ?_⟩
        have h3 := List.length_filter_le (isF r x) ((moreL r x q0).take c)
        rw [List.length_take] at h3
        omega
      · have cf := Bool.eq_false_iff.mpr cf
        rw [cf, if_neg Bool.false_ne_true, List.append_nil]
        exact iteF (hv.keep FoAt.mono k7)
    obtain ⟨ws6, hL6, hP6, k6⟩ := hv
    rw [hwl5, List.take_length] at hP6
    have hwl6 := paired_len hP6
    have hfl6 := List.length_filter_le (isF r x) (moreL r x q0)
    refine ⟨D, N, ws1, ws6, rfl, rfl, (((k3.trans k4).trans k5).trans k6) _ _ hL1, hL6, szL (by omega), fun p7 hp7 => ?_⟩
    have x7 := Ext.new (o := .lst (ws1 ++ ws6)) hp7
    have hP7 : Paired (FoAt (upd H6 p7 (.lst (ws1 ++ ws6)))) (ws1 ++ ws6) (allSt r x q0) := paired_app (paired_imp (fun _ _ => FoAt.mono _ _ _ _ (TupK.ext ((((k3.trans k4).trans k5).trans k6).trans x7))) hP1) (paired_imp (fun _ _ => FoAt.mono _ _ _ _ (TupK.ext x7)) hP6)
    have hL7 : (upd H6 p7 (.lst (ws1 ++ ws6))) p7 = some (.lst (ws1 ++ ws6)) := upd_same
    have k17 := (k15.trans k6).trans x7
    generalize upd H6 p7 (.lst (ws1 ++ ws6)) = H7 at hP7 hL7 k17 ⊢
    delta tNil
    refine sort_R FoAt.mono dp_fo hL7 hP7 fun p8 ws8 H8 hp8 hL8 hP8 k8 => ?_
    rw [SF_eq (all_perm ok hq)] at hP8
    exact q p8 ws8 H8 (k17.none hp8) hL8 hP8 (k17.trans k8)
abbrev CSteps (P : Program) (w : World) (K : PySem.W.Frag) (mg : Str → Option Value) (base : Heap) : Prop := Ca P w K mg base 5 "steps_from" ["rules", "string", "folding"] spSteps
end
end Pf


namespace Pf
open PySem PySem.Spec PyProof.Rows L2
/-! ### foldings as data -/
theorem eqv_map {α : Type} {d : α → PyData} [DecidableEq α] (h : ∀ a b, PyData.eqv (d a) (d b) = decide (a = b)) : ∀ l m : List α, PyData.eqvAll (l.map d) (m.map d) = decide (l = m)
  | [], [] => by simp [PyData.eqvAll]
  | [], _ :: _ => by simp [PyData.eqvAll]
  | _ :: _, [] => by simp [PyData.eqvAll]
  | a :: l, b :: m => by
    rw [List.map_cons, List.map_cons, PyData.eqvAll, h, eqv_map h l m]
    rw [Bool.eq_iff_iff]
    simp
theorem eqv_fo (p q : Fo) : PyData.eqv (dFo p) (dFo q) = decide (p = q) := by
  unfold dFo
  rw [PyData.eqv]
  exact eqv_map eqvTw p q
theorem eqv_fos (l m : List Fo) : PyData.eqv (.list (l.map dFo)) (.list (m.map dFo)) = decide (l = m) := by
  rw [PyData.eqv]
  exact eqv_map eqv_fo l m
theorem lay_fo (q : Fo) : PyData.canLay0 (dFo q) = true := by
  unfold dFo
  rw [PyData.canLay0]
  exact lay_twos q
theorem lay_fos : ∀ L : List Fo, PyData.canLayAll0 (L.map dFo) = true
  | [] => by simp [PyData.canLayAll0]
  | y :: L => by
    rw [List.map_cons, PyData.canLayAll0, lay_fo, lay_fos L]
    rfl
theorem dep_fos : ∀ L : List Fo, PyData.depthAll (L.map dFo) ≤ 2
  | [] => by simp [PyData.depthAll]
  | y :: L => by
    rw [List.map_cons, PyData.depthAll]
    have h1 := dep_fo y
    have h2 := dep_fos L
    omega
theorem shaped_fo (q : Fo) : SeqAt.shaped (dFo q) = true := by
  show (PyData.canLay0 (dFo q) && decide (PyData.depth (dFo q) ≤ 64)) = true
  rw [lay_fo, decide_eq_true (Nat.le_trans (dep_fo q) (by decide))]
  rfl
theorem shaped_fos (L : List Fo) : SeqAt.shaped (.list (L.map dFo)) = true := by
  show (PyData.canLay0 (.list (L.map dFo)) && decide (PyData.depth (.list (L.map dFo)) ≤ 64)) = true
  have h1 : PyData.canLay0 (.list (L.map dFo)) = true := by
    rw [PyData.canLay0]
    exact lay_fos L
  have h2 : PyData.depth (.list (L.map dFo)) ≤ 64 := by
    rw [PyData.depth]
    have := dep_fos L
    omega
  rw [h1, decide_eq_true h2]
  rfl
theorem any_fos (q : Fo) (L : List Fo) : ((L.map dFo).any fun z => PyData.eqv z (dFo q)) = decide (q ∈ L) := by
  rw [List.any_map, Bool.eq_iff_iff, List.any_eq_true, decide_eq_true_iff]
  constructor
  · rintro ⟨z, hz, e⟩
    have e : PyData.eqv (dFo z) (dFo q) = true := e
    rw [eqv_fo, decide_eq_true_iff] at e
    exact e ▸ hz
  · intro h
    exact ⟨q, h, by show PyData.eqv (dFo q) (dFo q) = true; rw [eqv_fo, decide_eq_true rfl]⟩
theorem AL_len8 (r : Rl) {x : Str} (hx : x.length ≤ 8) : (AL r x).length ≤ 323 := by
  rw [(AL_perm r x).length_eq]
  have h1 := ws_len r x x.length x.length 0
  have h2 : ∀ m : Nat, m < 9 → mz m m ≤ 323 := by decide +kernel
  exact Nat.le_trans h1 (h2 x.length (by omega))
theorem AL_sm {r : Rl} {x : Str} (hx : x.length ≤ 12) {q : Fo} (h : q ∈ AL r x) : Sm 78 2 (dFo q) := by
  have h1 := WA_in _ _ _ _ q (AL_mem.mp h)
  exact sm_fo (by omega) fun y hy => by
    have := h1.1 y hy
    omega
theorem sm_AL {r : Rl} {x : Str} (hx : x.length ≤ 12) {L : List Fo} (hL : ∀ q ∈ L, q ∈ AL r x) (hn : L.length ≤ 400) : Sm 40000 3 (.list (L.map dFo)) :=
  Sm.lst (n := 400) (m := 78) (k := 2) (by rw [List.length_map]; exact hn) (fun d hd => by
    obtain ⟨q, hq, rfl⟩ := List.mem_map.mp hd
    exact AL_sm hx (hL q hq)) (by decide)
theorem nb_sub {r : Rl} {x : Str} {q z : Fo} (h : z ∈ nb r x q) : z ∈ AL r x := (List.mem_filter.mp h).1
theorem nb_len {r : Rl} {x : Str} {q : Fo} : (nb r x q).length ≤ (AL r x).length := List.length_filter_le _ _
theorem SF_mem {L : List Fo} {z : Fo} : z ∈ SF L ↔ z ∈ L := (SF_perm L).mem_iff
theorem SF_len (L : List Fo) : (SF L).length = L.length := (SF_perm L).length_eq
theorem nb_sym {r : Rl} {x : Str} {q z : Fo} (hq : q ∈ AL r x) (h : z ∈ nb r x q) : q ∈ nb r x z := by
  obtain ⟨_, h2⟩ := List.mem_filter.mp h
  refine List.mem_filter.mpr ⟨hq, ?_⟩
  unfold stepB at h2 ⊢
  rw [decide_eq_true_iff] at h2 ⊢
  exact h2.symm
/-- the list of a folding's steps -/
theorem stps_at {H : Hp} {ss : List (Fq × V)} {C : Fo → List Fo} (h : Stps H ss C) (hn : (ss.map (·.1)).Nodup) {q : Fo} (hq : q ∈ ss.map (·.1)) : ∃ l us, valV ss q = some (.ref l) ∧ H l = some (.lst us) ∧ Paired (FoAt H) us (C q) := by
  obtain ⟨z, hz, rfl⟩ := List.mem_map.mp hq
  obtain ⟨l, us, e, hl, hp⟩ := h z hz
  exact ⟨l, us, val_memF hn (by rw [← e]; exact hz), hl, hp⟩
end Pf


namespace Pf
open PySem PySem.Spec PyProof.Rows L2
/-! ### ways from step to step -/
inductive Way (r : Rl) (x : Str) : Fo → Fo → List Fo → Prop
  | one {a : Fo} (h : a ∈ AL r x) : Way r x a a [a]
  | cons {a c b : Fo} {W : List Fo} (h : a ∈ AL r x) (s : c ∈ nb r x a) (t : Way r x c b W) : Way r x a b (a :: W)
section
variable {r : Rl} {x : Str} {a b c : Fo} {W U : List Fo}
theorem Way.mem (h : Way r x a b W) : ∀ q ∈ W, q ∈ AL r x := by
  induction h with
  | one h => intro q hq; rw [List.mem_singleton.mp hq]; exact h
  | cons h _ _ ih =>
    intro q hq
    rcases List.mem_cons.mp hq with rfl | hq
    · exact h
    · exact ih q hq
theorem Way.fst (h : Way r x a b W) : a ∈ W := by
  cases h with
  | one h => exact List.mem_cons_self ..
  | cons h s t => exact List.mem_cons_self ..
theorem Way.lst (h : Way r x a b W) : b ∈ W := by
  induction h with
  | one h => exact List.mem_cons_self ..
  | cons h _ _ ih => exact List.mem_cons_of_mem _ ih
theorem Way.head (h : Way r x a b W) : W.head? = some a := by
  cases h with
  | one h => rfl
  | cons h s t => rfl
theorem Way.ne (h : Way r x a b W) : W ≠ [] := by
  cases h with
  | one h => intro z; cases z
  | cons h s t => intro z; cases z
theorem Way.last (h : Way r x a b W) : W.getLast? = some b := by
  induction h with
  | one h => rfl
  | cons h _ t ih =>
    rw [List.getLast?_cons, ih]
    rfl
theorem Way.app (h : Way r x a b W) (hs : c ∈ nb r x b) (hc : c ∈ AL r x) : Way r x a c (W ++ [c]) := by
  induction h with
  | one h => exact .cons h hs (.one hc)
  | cons h s t ih => exact .cons h s (ih hs)
theorem Way.rev (h : Way r x a b W) : Way r x b a W.reverse := by
  induction h with
  | one h => exact .one h
  | cons h s t ih =>
    rw [List.reverse_cons]
    exact ih.app (nb_sym h s) h
theorem Way.join (h : Way r x a b W) (g : Way r x b c U) : ∃ V, Way r x a c V ∧ ∀ q ∈ V, q ∈ W ∨ q ∈ U := by
  induction h with
  | one h => exact ⟨U, g, fun q hq => .inr hq⟩
  | cons h s t ih =>
    obtain ⟨V, h1, h2⟩ := ih g
    refine ⟨_, .cons h s h1, fun q hq => ?_⟩
    rcases List.mem_cons.mp hq with rfl | hq
    · exact .inl (List.mem_cons_self ..)
    · rcases h2 q hq with h | h
      · exact .inl (List.mem_cons_of_mem _ h)
      · exact .inr h
theorem way_nil : ∀ (n : Nat) (q : Fo), q.length = n → q ∈ AL r x → ∃ W, Way r x q [] W
  | 0, q, hn, h => by
    obtain rfl := List.eq_nil_of_length_eq_zero hn
    exact ⟨_, .one h⟩
  | n + 1, q, hn, h => by
    have hz : q.eraseIdx 0 ∈ lessL q := List.mem_map.mpr ⟨0, List.mem_range.mpr (by omega), rfl⟩
    have hA := less_in h hz
    have hl := less_len hz
    obtain ⟨W, hW⟩ := way_nil n (q.eraseIdx 0) (by omega) hA
    exact ⟨_, .cons h (List.mem_filter.mpr ⟨hA, by unfold stepB; exact decide_eq_true (.inl hz)⟩) hW⟩
theorem way_any (ha : a ∈ AL r x) (hb : b ∈ AL r x) : ∃ W, Way r x a b W := by
  obtain ⟨W, hW⟩ := way_nil _ a rfl ha
  obtain ⟨U, hU⟩ := way_nil _ b rfl hb
  obtain ⟨V, hV, _⟩ := hW.join hU.rev
  exact ⟨V, hV⟩
theorem Way.cross {D K : List Fo} (h : Way r x a b W) (ha : a ∈ D) (hb : b ∉ D) (hD : ∀ d ∈ D, ∀ z ∈ nb r x d, z ∈ K) : ∃ z ∈ W, z ∈ K ∧ z ∉ D := by
  induction h with
  | one h => exact absurd ha hb
  | @cons a c b W h s t ih =>
    by_cases e : c ∈ D
    · obtain ⟨z, h1, h2⟩ := ih e hb
      exact ⟨z, List.mem_cons_of_mem _ h1, h2⟩
    · exact ⟨c, List.mem_cons_of_mem _ t.fst, hD a ha c s, e⟩
end
def Low (r : Rl) (x : Str) (a b p : Fo) : Prop := ∀ W, Way r x a b W → ∃ q ∈ W, woV r x p ≤ woV r x q
def Peak (r : Rl) (x : Str) (a b : Fo) (m : Int) : Prop := (∃ W, Way r x a b W ∧ (∀ q ∈ W, woV r x q ≤ m) ∧ ∃ q ∈ W, woV r x q = m) ∧ ∀ W, Way r x a b W → ∃ q ∈ W, m ≤ woV r x q
section
variable {r : Rl} {x : Str} {a b : Fo} {m n : Int}
theorem Peak.uniq (h : Peak r x a b m) (g : Peak r x a b n) : m = n := by
  obtain ⟨⟨W, h1, h2, _⟩, h3⟩ := h
  obtain ⟨⟨U, g1, g2, _⟩, g3⟩ := g
  obtain ⟨q, q1, q2⟩ := h3 U g1
  obtain ⟨p, p1, p2⟩ := g3 W h1
  have := g2 q q1
  have := h2 p p1
  omega
theorem Peak.sym (h : Peak r x a b m) : Peak r x b a m := by
  obtain ⟨⟨W, h1, h2, q, h4, h5⟩, h3⟩ := h
  refine ⟨⟨W.reverse, h1.rev, fun q hq => h2 q (List.mem_reverse.mp hq), q, List.mem_reverse.mpr h4, h5⟩, fun U hU => ?_⟩
  obtain ⟨q, hq, e⟩ := h3 _ hU.rev
  exact ⟨q, List.mem_reverse.mp hq, e⟩
end
/-! ### where one came from -/
inductive Back (T : List (Fo × Option Fo)) : Fo → List Fo → Prop
  | root {k : Fo} (h : (k, none) ∈ T) : Back T k [k]
  | step {k c : Fo} {W : List Fo} (h : (k, some c) ∈ T) (t : Back T c W) : Back T k (W ++ [k])
theorem Back.way {r : Rl} {x : Str} {T : List (Fo × Option Fo)} {a k : Fo} {W : List Fo} (h : Back T k W) (ha : a ∈ AL r x) (h0 : ∀ k, (k, none) ∈ T → k = a) (h1 : ∀ k c, (k, some c) ∈ T → k ∈ nb r x c) : Way r x a k W := by
  induction h with
  | root h => exact h0 _ h ▸ .one (h0 _ h ▸ ha)
  | step h t ih => exact ih.app (h1 _ _ h) (nb_sub (h1 _ _ h))
theorem Back.all {T : List (Fo × Option Fo)} {k : Fo} {W : List Fo} {P : Fo → Prop} (h : Back T k W) (hk : P k) (h1 : ∀ k c, (k, some c) ∈ T → P c) : ∀ q ∈ W, P q := by
  induction h with
  | root h => intro q hq; rw [List.mem_singleton.mp hq]; exact hk
  | step h t ih =>
    intro q hq
    rcases List.mem_append.mp hq with hq | hq
    · exact ih (h1 _ _ h) q hq
    · rw [List.mem_singleton.mp hq]; exact hk
def Rooted (T : List (Fo × Option Fo)) : Prop := ∀ (i : Nat) (k c : Fo), T[i]? = some (k, some c) → ∃ (j : Nat) (o : Option Fo), j < i ∧ T[j]? = some (c, o)
theorem Rooted.app {T : List (Fo × Option Fo)} {k c : Fo} (h : Rooted T) (hc : c ∈ T.map (·.1)) : Rooted (T ++ [(k, some c)]) := by
  intro i k' c' e
  by_cases hi : i < T.length
  · rw [List.getElem?_append_left hi] at e
    obtain ⟨j, o, hj, hT⟩ := h i k' c' e
    exact ⟨j, o, hj, by rw [List.getElem?_append_left (by omega)]; exact hT⟩
  · rw [List.getElem?_append_right (by omega)] at e
    have e2 := List.getElem?_eq_some_iff.mp e
    obtain ⟨h3, h4⟩ := e2
    have hi0 : i - T.length = 0 := by simpa using h3
    simp only [hi0, List.getElem_cons_zero, Prod.mk.injEq, Option.some.injEq] at h4
    obtain ⟨z, hz, e3⟩ := List.mem_map.mp hc
    obtain ⟨j, hj, e4⟩ := List.mem_iff_getElem.mp hz
    refine ⟨j, z.2, by omega, ?_⟩
    rw [List.getElem?_append_left hj, List.getElem?_eq_getElem hj, e4, ← h4.2, ← e3]
end Pf


namespace Pf
open PySem PySem.Spec PyProof.Rows L2
theorem nodup_len_le {α : Type} [DecidableEq α] : ∀ {L M : List α}, L.Nodup → (∀ q ∈ L, q ∈ M) → L.length ≤ M.length
  | [], _, _, _ => Nat.zero_le _
  | y :: L, M, hn, h => by
    rw [List.nodup_cons] at hn
    have hy := h y (List.mem_cons_self ..)
    have ih := nodup_len_le (L := L) (M := M.erase y) hn.2 fun q hq => (List.mem_erase_of_ne (fun (e : q = y) => hn.1 (e ▸ hq))).mpr (h q (List.mem_cons_of_mem _ hq))
    have := List.length_erase_of_mem hy
    have := List.length_pos_of_mem hy
    rw [List.length_cons]
    omega
theorem alike_fo (p q : Fo) : PySem.W.alike (dFo p) (dFo q) = true := by
  show PySem.W.alike (.tuple _) (.tuple _) = true
  rw [PySem.W.alike]
  exact alike_twos _ _
/-! ### a search for the lowest way -/
/-- T: all that were met, with what they came from; Dn: from which all steps were met; Pp: those that were taken; Wt: those that wait -/
structure Sch (r : Rl) (x : Str) (a b : Fo) (T : List (Fo × Option Fo)) (Dn Pp Wt : List Fo) : Prop where
  nd : (T.map (·.1)).Nodup
  sub : ∀ q ∈ T.map (·.1), q ∈ AL r x
  per : (T.map (·.1)).Perm (Pp ++ Wt)
  ful : ∀ d ∈ Dn, ∀ z ∈ nb r x d, z ∈ T.map (·.1)
  low : ∀ p ∈ Pp, Low r x a b p
  ro : Rooted T
  h0 : ∀ k, (k, none) ∈ T → k = a
  h1 : ∀ k c, (k, some c) ∈ T → k ∈ nb r x c ∧ c ∈ Pp
  sta : a ∈ Pp
section
variable {r : Rl} {x : Str} {a b : Fo} {T : List (Fo × Option Fo)} {Dn Pp Wt : List Fo}
theorem Sch.start (ha : a ∈ AL r x) : Sch r x a b [(a, none)] [] ([] ++ [a]) [] where
  nd := List.nodup_cons.mpr ⟨List.not_mem_nil, List.nodup_nil⟩
  sub := fun q hq => by rw [List.mem_singleton.mp hq]; exact ha
  per := List.Perm.refl _
  ful := fun d hd => by cases hd
  low := fun p hp W hW => by
    rw [List.nil_append, List.mem_singleton] at hp
    exact ⟨a, hW.fst, by rw [hp]; exact Int.le_refl _⟩
  ro := fun i k c e => by
    match i, e with
    | 0, e => cases e
    | i + 1, e => cases e
  h0 := fun k hk => by
    have := List.mem_singleton.mp hk
    exact congrArg (·.1) this
  h1 := fun k c hk => by
    have := congrArg (·.2) (List.mem_singleton.mp hk)
    cases this
  sta := List.mem_cons_self ..
theorem Sch.add (S : Sch r x a b T Dn Pp Wt) {z now : Fo} (hz : z ∉ T.map (·.1)) (hn : z ∈ nb r x now) (hp : now ∈ Pp) : Sch r x a b (T ++ [(z, some now)]) Dn Pp (Wt ++ [z]) where
  nd := by
    rw [List.map_append]
    exact List.nodup_append.mpr ⟨S.nd, List.nodup_cons.mpr ⟨List.not_mem_nil, List.nodup_nil⟩, fun y hy w hw e => by
      rw [List.mem_singleton.mp hw] at e
      exact hz ((show y = z from e) ▸ hy)⟩
  sub := fun q hq => by
    rw [List.map_append] at hq
    rcases List.mem_append.mp hq with hq | hq
    · exact S.sub q hq
    · rw [List.mem_singleton.mp hq]
      exact nb_sub hn
  per := by
    rw [List.map_append, ← List.append_assoc]
    exact S.per.append_right _
  ful := fun d hd y hy => by
    rw [List.map_append]
    exact List.mem_append_left _ (S.ful d hd y hy)
  low := S.low
  ro := S.ro.app (S.per.mem_iff.mpr (List.mem_append_left _ hp))
  h0 := fun k hk => by
    rcases List.mem_append.mp hk with hk | hk
    · exact S.h0 k hk
    · have := congrArg (·.2) (List.mem_singleton.mp hk)
      cases this
  h1 := fun k c hk => by
    rcases List.mem_append.mp hk with hk | hk
    · exact S.h1 k c hk
    · have := List.mem_singleton.mp hk
      cases this
      exact ⟨hn, hp⟩
  sta := S.sta
theorem Sch.full {D0 : List Fo} {now : Fo} (S : Sch r x a b T D0 (D0 ++ [now]) Wt) (h : ∀ z ∈ nb r x now, z ∈ T.map (·.1)) : Sch r x a b T (D0 ++ [now]) (D0 ++ [now]) Wt where
  nd := S.nd
  sub := S.sub
  per := S.per
  ful := fun d hd y hy => by
    rcases List.mem_append.mp hd with hd | hd
    · exact S.ful d hd y hy
    · rw [List.mem_singleton.mp hd] at hy
      exact h y hy
  low := S.low
  ro := S.ro
  h0 := S.h0
  h1 := S.h1
  sta := S.sta
theorem Sch.wait (S : Sch r x a b T Pp Pp Wt) (hb : b ∉ Pp) {W : List Fo} (hW : Way r x a b W) : ∃ z ∈ W, z ∈ Wt := by
  obtain ⟨z, h1, h2, h3⟩ := hW.cross S.sta hb S.ful
  rcases List.mem_append.mp (S.per.mem_iff.mp h2) with h | h
  · exact absurd h h3
  · exact ⟨z, h1, h⟩
theorem Sch.ne (S : Sch r x a b T Pp Pp Wt) (hb : b ∉ Pp) (ha : a ∈ AL r x) (hbA : b ∈ AL r x) : Wt ≠ [] := fun e => by
  obtain ⟨W, hW⟩ := way_any ha hbA
  obtain ⟨z, _, h⟩ := S.wait hb hW
  rw [e] at h
  cases h
theorem perm_pick {α : Type} : ∀ {L : List α} {j : Nat} {l : α}, L[j]? = some l → L.Perm (l :: L.eraseIdx j)
  | [], j, l, h => by simp at h
  | y :: L, 0, l, h => by
    cases h
    exact List.Perm.refl _
  | y :: L, j + 1, l, h => by
    have ih := perm_pick (L := L) (j := j) (l := l) (by simpa using h)
    show (y :: L).Perm (l :: y :: L.eraseIdx j)
    exact (ih.cons y).trans (List.Perm.swap l y _)
theorem Sch.pop (S : Sch r x a b T Pp Pp Wt) (hb : b ∉ Pp) {j : Nat} {l : Fo} (hj : Wt[j]? = some l) (hm : ∀ q ∈ Wt, woV r x l ≤ woV r x q) : Sch r x a b T Pp (Pp ++ [l]) (Wt.eraseIdx j) where
  nd := S.nd
  sub := S.sub
  per := by
    rw [List.append_assoc]
    exact S.per.trans ((perm_pick hj).append_left _)
  ful := S.ful
  low := fun p hp => by
    rcases List.mem_append.mp hp with hp | hp
    · exact S.low p hp
    · intro W hW
      rw [List.mem_singleton.mp hp]
      obtain ⟨z, h1, h2⟩ := S.wait hb hW
      exact ⟨z, h1, hm z h2⟩
  ro := S.ro
  h0 := S.h0
  h1 := fun k c hk => ⟨(S.h1 k c hk).1, List.mem_append_left _ (S.h1 k c hk).2⟩
  sta := List.mem_append_left _ S.sta
theorem Sch.len (S : Sch r x a b T Dn Pp Wt) : Pp.length + Wt.length ≤ (AL r x).length ∧ T.length ≤ (AL r x).length := by
  have h1 : (T.map (·.1)).length ≤ (AL r x).length := nodup_len_le S.nd S.sub
  have h2 := S.per.length_eq
  rw [List.length_append] at h2
  rw [List.length_map] at h1 h2
  omega
theorem Sch.wnd (S : Sch r x a b T Dn Pp Wt) : Wt.Nodup := (List.nodup_append.mp (S.per.nodup_iff.mp S.nd)).2.1
theorem Sch.wsub (S : Sch r x a b T Dn Pp Wt) : ∀ q ∈ Wt, q ∈ AL r x := fun q hq => S.sub q (S.per.mem_iff.mpr (List.mem_append_right _ hq))
theorem Sch.found (S : Sch r x a b T Dn Pp Wt) (ha : a ∈ AL r x) (hb : b ∈ Pp) {W : List Fo} (h : Back T b W) : Way r x a b W ∧ ∀ q ∈ W, Low r x a b q :=
  ⟨h.way ha S.h0 fun k c hk => (S.h1 k c hk).1, fun q hq => S.low q (h.all (P := fun q => q ∈ Pp) hb (fun k c hk => (S.h1 k c hk).2) q hq)⟩
end
/-! ### rows of what waits -/
def dRw (r : Rl) (x : Str) (q : Fo) : PyData := .tuple [.int (woV r x q), dFo q]
theorem eqv_rw (r : Rl) (x : Str) (p q : Fo) : PyData.eqv (dRw r x p) (dRw r x q) = decide (p = q) := by
  unfold dRw
  rw [PyData.eqv, PyData.eqvAll, PyData.eqvAll, PyData.eqvAll, eqv_fo, PyData.eqv]
  by_cases e : p = q
  · subst e
    simp
  · simp [e]
theorem le_rw {r : Rl} {x : Str} {p q : Fo} (h : PySem.W.dataLe false (dRw r x) p q = true) : woV r x p ≤ woV r x q := by
  rw [PySem.W.dataLe_eq] at h
  have h : (!PySem.W.dataLt (dRw r x q) (dRw r x p)) = true := h
  refine Int.not_lt.mp fun hlt => ?_
  unfold dRw at h
  rw [PySem.W.dataLt_pair (by simp [PySem.W.alike]) (alike_fo _ _), if_neg (by rw [PyData.eqv]; simp; omega), PySem.W.dataLt_int, decide_eq_true hlt] at h
  cases h
theorem alike_rw (r : Rl) (x : Str) (p q : Fo) : PySem.W.alike (dRw r x p) (dRw r x q) = true := by
  unfold dRw
  rw [PySem.W.alike, PySem.W.alikeAll, PySem.W.alikeAll, PySem.W.alikeAll, alike_fo]
  simp [PySem.W.alike]
theorem shaped_rw (r : Rl) (x : Str) (q : Fo) : SeqAt.shaped (dRw r x q) = true := by
  show (PyData.canLay0 (dRw r x q) && decide (PyData.depth (dRw r x q) ≤ 64)) = true
  have h1 : PyData.depth (dRw r x q) ≤ 64 := by
    have := dep_fo q
    simp only [dRw, PyData.depth, PyData.depthAll]
    omega
  rw [decide_eq_true h1]
  simp [dRw, PyData.canLay0, PyData.canLayAll0, lay_fo]
theorem shaped_rws (r : Rl) (x : Str) (L : List Fo) : SeqAt.shaped (.list (L.map (dRw r x))) = true := by
  show (PyData.canLay0 (.list (L.map (dRw r x))) && decide (PyData.depth (.list (L.map (dRw r x))) ≤ 64)) = true
  have h1 : PyData.canLayAll0 (L.map (dRw r x)) = true := by
    induction L with
    | nil => simp [PyData.canLayAll0]
    | cons q L ih =>
      rw [List.map_cons, PyData.canLayAll0, ih]
      simp [dRw, PyData.canLay0, PyData.canLayAll0, lay_fo]
  have h2 : PyData.depthAll (L.map (dRw r x)) ≤ 3 := by
    induction L with
    | nil => simp [PyData.depthAll]
    | cons q L ih =>
      have ih := ih (by
        rw [List.map_cons, PyData.canLayAll0, Bool.and_eq_true] at h1
        exact h1.2)
      have := dep_fo q
      rw [List.map_cons, PyData.depthAll]
      simp only [dRw, PyData.depth, PyData.depthAll] at ih ⊢
      omega
  rw [PyData.canLay0, h1, PyData.depth, decide_eq_true (by omega)]
  rfl
end Pf


/-! min(xs, default=d) of a list of whole numbers, which may be empty -/
namespace Pf
open PySem PySem.Spec PyProof.Rows L2
theorem minD_args (a v : Value) : argsOk "min" ⟨[a], [(Str.ofString "default", v)]⟩ := by unfold argsOk; kernel_rfl
section
variable {prog : Program} {w : World} {A : Around} {R : Result → Shared → Prop} {I S : Addr} {fp wr : List Addr} {n : Nat} {P : Nat → Value → Prop} {St : Nat → Heap → Prop} {d : Value} {bt : Nat → Nat → Bool}
abbrev mlName : (toString "min" ++ toString ".loop" : String) = "min.loop" := by decide
/-- what the loop holds behind j of them: the best so far, twice -/
def Hold (h : Heap) (S : Addr) (l : List Value) : Prop := ∃ c, h.get? S = some { cls := .type "list", dict := none, data := .seq l.toArray c, slots := #[] }
theorem minD_loop (W : Walks prog w A.in1 I fp wr n P St) (hcmp : CmpOf prog w A.in1 .Lt P bt) (hSf : S ∉ fp) : ∀ (k j : Nat) (s : Shared) (vb : Value), n = j + 1 + k → St (j + 1) s.heap → P (argBest bt j) vb → Hold s.heap S [vb, vb] →
    (∀ v h' tk, P (argBest bt (n - 1)) v → (∀ b o, b ∉ wr → b ≠ S → s.heap.get? b = some o → h'.get? b = some o) → R (.ok (.ret v)) { s with heap := h', toks := tk }) →
    codeAny (model prog w) A (.builtin "min.loop" ⟨[.ref I, .none, .ref S], [(Str.ofString "default", d)]⟩) R s := by
  have hSw : S ∉ wr := fun h => hSf (W.sub _ h)
  intro k
  induction k with
  | zero =>
    intro j s vb hn hst hb ⟨c, hS⟩ hR
    refine codeAny_builtin PySem.F.entry_min_loop ?_
    rw [Around.under_plainId PySem.F.plain_min_loop _]
    show wpAny _ A.in1 (seqItems? (.ref S) >>= _) _ _ s
    refine wpAny_bind (wpAny_seqItems hS rfl ?_)
    show wpAny _ A.in1 (tryCatch (pyNext (.ref I)) _ >>= _) _ _ s
    refine wpAny_bind (wpAny_tryCatch (W.done s _ _ ((show j + 1 = n by omega) ▸ hst) fun h' tk hk => ?_))
    show wpAny _ A.in1 (updateSeq S (fun _ => #[]) >>= _) _ _ _
    refine wpAny_bind (wpAny_updateSeq (hk S _ hSw hS) rfl (wpAny_bind (wpAny_letGo (wpAny_pure ?_))))
    exact hR vb _ tk ((show j = n - 1 by omega) ▸ hb) fun b o h1 h2 e => (Heap.get?_update_other _ _ (Ne.symm h2)).trans (hk b o h1 e)
  | succ k ih =>
    intro j s vb hn hst hb ⟨c, hS⟩ hR
    refine codeAny_builtin PySem.F.entry_min_loop ?_
    rw [Around.under_plainId PySem.F.plain_min_loop _]
    show wpAny _ A.in1 (seqItems? (.ref S) >>= _) _ _ s
    refine wpAny_bind (wpAny_seqItems hS rfl ?_)
    show wpAny _ A.in1 (tryCatch (pyNext (.ref I)) _ >>= _) _ _ s
    refine wpAny_bind (wpAny_tryCatch (W.item (j + 1) s _ _ (by omega) hst fun v h' tk hv hst' hk => ?_))
    have hS' := hk S _ hSw hS
    show wpAny _ A.in1 (tryCatch (holding [v, v] (richCompare .Lt v vb >>= _)) _ >>= _) _ _ _
    refine wpAny_bind (wpAny_tryCatch (wpAny_holding (wpAny_bind (hcmp (j + 1) (argBest bt j) v vb _ _ _ hv hb ?_))))
    refine wpAny_bind (wpAny_holding (wpAny_truthy_bool ?_))
    refine wpAny_bind (wpAny_letGo (wpAny_pure ?_))
    by_cases e : bt (j + 1) (argBest bt j) = true
    · rw [if_pos e]
      refine wpAny_bind (wpAny_updateSeq hS' rfl (wpAny_bind (wpAny_letGo ?_)))
      rw [mlName]
      refine wpAny_pure ⟨plainId_quiet PySem.F.plain_min_loop _, ih (j + 1) _ v (by omega) (W.frame _ _ _ hst' fun b hbf o e1 => ?_) ?_ ⟨_, Heap.get?_update_self _ hS' rfl⟩ fun v' h2 tk2 hv2 hk2 => ?_⟩
      · exact (Heap.get?_update_other _ _ (fun h : S = b => hSf (by rw [h]; exact hbf))).trans e1
      · unfold argBest
        rw [if_pos e]
        exact hv
      · exact hR v' h2 tk2 hv2 fun b o h1 h3 e1 => hk2 b o h1 h3 ((Heap.get?_update_other _ _ (Ne.symm h3)).trans (hk b o h1 e1))
    · rw [if_neg e]
      refine wpAny_bind (wpAny_letGo ?_)
      rw [mlName]
      refine wpAny_pure ⟨plainId_quiet PySem.F.plain_min_loop _, ih (j + 1) _ vb (by omega) hst' ?_ ⟨c, hS'⟩ fun v' h2 tk2 hv2 hk2 => ?_⟩
      · unfold argBest
        rw [if_neg e]
        exact hb
      · exact hR v' h2 tk2 hv2 fun b o h1 h3 e1 => hk2 b o h1 h3 (hk b o h1 e1)
/-- the first turn: the default where there is none -/
theorem minD_first (W : Walks prog w A.in1 I fp wr n P St) (hcmp : CmpOf prog w A.in1 .Lt P bt) (hSf : S ∉ fp) {s : Shared} (hst : St 0 s.heap) (hS : Hold s.heap S [])
    (h0 : n = 0 → ∀ h' tk, (∀ b o, b ∉ wr → b ≠ S → s.heap.get? b = some o → h'.get? b = some o) → R (.ok (.ret d)) { s with heap := h', toks := tk })
    (hR : 0 < n → ∀ v h' tk, P (argBest bt (n - 1)) v → (∀ b o, b ∉ wr → b ≠ S → s.heap.get? b = some o → h'.get? b = some o) → R (.ok (.ret v)) { s with heap := h', toks := tk }) :
    codeAny (model prog w) A (.builtin "min.loop" ⟨[.ref I, .none, .ref S], [(Str.ofString "default", d)]⟩) R s := by
  have hSw : S ∉ wr := fun h => hSf (W.sub _ h)
  obtain ⟨c, hS⟩ := hS
  refine codeAny_builtin PySem.F.entry_min_loop ?_
  rw [Around.under_plainId PySem.F.plain_min_loop _]
  show wpAny _ A.in1 (seqItems? (.ref S) >>= _) _ _ s
  refine wpAny_bind (wpAny_seqItems hS rfl ?_)
  show wpAny _ A.in1 (tryCatch (pyNext (.ref I)) _ >>= _) _ _ s
  by_cases hn : n = 0
  · refine wpAny_bind (wpAny_tryCatch (W.done s _ _ (hn ▸ hst) fun h' tk hk => ?_))
    show wpAny _ A.in1 (rule _ >>= _) _ _ _
    refine wpAny_bind (wpAny_rule ?_)
    exact wpAny_pure (h0 hn _ _ fun b o h1 _ e => hk b o h1 e)
  · refine wpAny_bind (wpAny_tryCatch (W.item 0 s _ _ (by omega) hst fun v h' tk hv hst' hk => ?_))
    have hS' := hk S _ hSw hS
    show wpAny _ A.in1 (updateSeq S (fun _ => #[v, v]) >>= _) _ _ _
    refine wpAny_bind (wpAny_updateSeq hS' rfl ?_)
    rw [mlName]
    refine wpAny_pure ⟨plainId_quiet PySem.F.plain_min_loop _, minD_loop W hcmp hSf (n - 1) 0 _ v (by omega) (W.frame _ _ _ hst' fun b hbf o e1 => ?_) hv ⟨_, Heap.get?_update_self _ hS' rfl⟩ fun v' h2 tk2 hv2 hk2 => ?_⟩
    · exact (Heap.get?_update_other _ _ (fun h : S = b => hSf (by rw [h]; exact hbf))).trans e1
    · exact hR (by omega) v' h2 tk2 hv2 fun b o h1 h3 e1 => hk2 b o h1 h3 ((Heap.get?_update_other _ _ (Ne.symm h3)).trans (hk b o h1 e1))
end
section
variable {prog : Program} {w : World} {A : Around} {E : Value → Shared → Prop} {s : Shared} {l : Addr} {its : List Value} {ns : List Int} {d : Value} {Q : Value → Shared → Prop}
theorem minD_raw (hh : A.handled = none) (hl : s.heap.IsList l its.toArray) (hi : IntsAre its ns)
    (h0 : ns = [] → ∀ h' tk, (∀ b o, s.heap.get? b = some o → h'.get? b = some o) → Q d { s with heap := h', toks := tk })
    (h : ∀ h' tk M t', (∀ b o, s.heap.get? b = some o → h'.get? b = some o) → M ∈ ns → (∀ a, a ∈ ns → M ≤ a) → Q (.int M t') { s with heap := h', toks := tk }) :
    wpAny (model prog w) A (call (.builtin "min") [.ref l] [(Str.ofString "default", d)]) Q E s := by
  obtain ⟨xs, e⟩ := hi.allInts.items
  have hn : numsOf (intItems xs).toList = ns := by rw [← e]; exact hi.numsOf
  rw [nums_intItems] at hn
  subst hn
  rw [e] at hl
  have hlen : (xs.toList.map (·.1)).length = xs.size := by rw [List.length_map, Array.length_toList]
  refine kmk_tree PySem.F.kind_min PySem.F.plain_min PySem.F.entry_min (minD_args _ _) ?_
  show wpAny _ A.in1 (Builtin.Builtins.bindParams "min" ["key", "default"] 0 ⟨[], [(Str.ofString "default", d)]⟩ >>= _) _ _ s
  refine wpAny_bind (wpAny_of_eq (show Builtin.Builtins.bindParams "min" ["key", "default"] 0 ⟨[], [(Str.ofString "default", d)]⟩ = pure [none, some d] from rfl) ?_)
  refine wpAny_bind (wpAny_pure ?_)
  refine wpAny_bind (iter_intList hl fun s₂ e2 st hfp hlI => ?_)
  subst e2
  refine wpAny_bind (wpAny_newObj_type ?_)
  rw [mlName]
  have hsz : (intItems xs).size = xs.size := by simp [intItems]
  refine wpAny_pure ⟨plainId_quiet PySem.F.plain_min_loop _, minD_first (bt := fun i j => decide (numAt xs i < numAt xs j)) (Walks.list (A := A.in1) hh _ l hlI (intItems xs)) (CmpOf.ints_lt (numAt xs) (fun _ _ => intItems_at)) (fun hm => Nat.lt_irrefl _ (hfp _ hm)) ?_ ⟨_, Heap.get?_push_size _ rfl⟩ (fun hn h' tk hk => ?_) (fun hn v h' tk hv hk => ?_)⟩
  · exact (Walks.list (prog := prog) (w := w) (A := A.in1) hh _ l hlI (intItems xs)).frame _ _ _ st fun b _ o e => Heap.get?_push_of_some _ e
  · refine h0 ?_ h' tk (old_kept fun b o hb e1 => hk b o hb (Nat.ne_of_lt (Heap.lt_size e1)) (Heap.get?_push_of_some _ e1))
    rw [hsz] at hn
    exact List.eq_nil_of_length_eq_zero (by rw [hlen]; exact hn)
  · obtain ⟨t, rfl⟩ := intItems_at hv
    rw [hsz] at hn
    obtain ⟨h1, h2⟩ := argBest_lt (numAt xs) ((intItems xs).size - 1)
    rw [hsz] at h1 h2 ⊢
    refine h h' tk _ t (old_kept fun b o hb e1 => hk b o hb (Nat.ne_of_lt (Heap.lt_size e1)) (Heap.get?_push_of_some _ e1)) ?_ fun a ha => ?_
    · rw [numAt_eq]
      exact PySem.getD_mem (by rw [hlen]; omega)
    · obtain ⟨j, hj, rfl⟩ := mem_getD ha
      rw [hlen] at hj
      rw [← numAt_eq]
      exact h2 j (by omega)
end
/-- min(xs, default=d) -/
def rMinD (K : PySem.W.Frag) : List V → List V → Hp → VK → Prop := fun vs zs H Q => ∃ (a : Addr) (ns : List Int) (z : V), vs = [V.ref a] ∧ zs = [z] ∧ SqL K H a (ns.map V.int) ∧ (ns = [] → Q z H) ∧ ∀ m, m ∈ ns → (∀ y, y ∈ ns → m ≤ y) → Q (.int m) H
theorem cr_minD {X : Cx} (hc : X.calm = true) : CallRK X (.builtin "min") [Str.ofString "default"] (rMinD X.K) := by
  intro pins s σ H xs zs us ws Q I r rz h
  obtain ⟨a, ns, z, rfl, rfl, hs, q0, q⟩ := h
  obtain ⟨its, rv, hl, _⟩ := I.list hs
  rw [Vals.ref1 r]
  obtain ⟨u, rfl, ru⟩ : ∃ u, ws = [u] ∧ RelV z u := by
    cases rz with
    | cons h t => cases t with
      | nil => exact ⟨_, rfl, h⟩
  exact minD_raw (I.ok.hd hc) hl.isList rv.ints (fun e h' tk hk => ⟨z, H, I.kept hk, ru, q0 e⟩) fun h' tk m t' hk h1 h2 => ⟨.int _, H, I.kept hk, ⟨_, rfl⟩, q m h1 h2⟩
theorem minL (K : PySem.W.Frag) {X : Cx} (hc : X.calm = true) (h : X.K = K := by rfl) : CallR X (.builtin "min") (rMin K) := h ▸ cr_min hc
theorem minD (K : PySem.W.Frag) {X : Cx} (hc : X.calm = true) (h : X.K = K := by rfl) : CallRK X (.builtin "min") [Str.ofString "default"] (rMinD K) := h ▸ cr_minD hc
end Pf


/-! min of a list of tuples, list.remove of data, {k: v} where the key is a folding -/
namespace Pf
open PySem PySem.Spec PyProof.Rows L2
section
variable {prog : Program} {w : World} {A : Around} {R : Result → Shared → Prop} {I S : Addr} {fp wr : List Addr} {n : Nat} {P : Nat → Value → Prop} {St : Nat → Heap → Prop} {bt : Nat → Nat → Bool} {h0 : Heap}
/-- the heap has all that stood in h0 -/
def Old (h0 h : Heap) : Prop := ∀ b o, h0.get? b = some o → h.get? b = some o
/-- a comparison that looks at what stood in h0 -/
def CmpIn (prog : Program) (w : World) (A : Around) (h0 : Heap) (P : Nat → Value → Prop) (bt : Nat → Nat → Bool) : Prop :=
  ∀ i j vi vj (s : Shared) (Q : Value → Shared → Prop) (E : Value → Shared → Prop), Old h0 s.heap → P i vi → P j vj → Q (.bool (bt i j)) s → wpAny (model prog w) A (richCompare .Lt vi vj) Q E s
theorem minT_loop (W : Walks prog w A.in1 I fp wr n P St) (hcmp : CmpIn prog w A.in1 h0 P bt) (hSf : S ∉ fp) (hw0 : ∀ b ∈ wr, h0.get? b = none) (hS0 : h0.get? S = none) : ∀ (k j : Nat) (s : Shared) (vb : Value), n = j + 1 + k → Old h0 s.heap → St (j + 1) s.heap → P (argBest bt j) vb → Hold s.heap S [vb, vb] →
    (∀ v h' tk, P (argBest bt (n - 1)) v → (∀ b o, b ∉ wr → b ≠ S → s.heap.get? b = some o → h'.get? b = some o) → R (.ok (.ret v)) { s with heap := h', toks := tk }) →
    codeAny (model prog w) A (.builtin "min.loop" ⟨[.ref I, .none, .ref S], []⟩) R s := by
  have hSw : S ∉ wr := fun h => hSf (W.sub _ h)
  have nw : ∀ {b : Addr} {o : Obj}, h0.get? b = some o → b ∉ wr := fun e h => by rw [hw0 _ h] at e; cases e
  have nS : ∀ {b : Addr} {o : Obj}, h0.get? b = some o → S ≠ b := fun e h => by rw [← h, hS0] at e; cases e
  intro k
  induction k with
  | zero =>
    intro j s vb hn ho hst hb ⟨c, hS⟩ hR
    refine codeAny_builtin PySem.F.entry_min_loop ?_
    rw [Around.under_plainId PySem.F.plain_min_loop _]
    show wpAny _ A.in1 (seqItems? (.ref S) >>= _) _ _ s
    refine wpAny_bind (wpAny_seqItems hS rfl ?_)
    show wpAny _ A.in1 (tryCatch (pyNext (.ref I)) _ >>= _) _ _ s
    refine wpAny_bind (wpAny_tryCatch (W.done s _ _ ((show j + 1 = n by omega) ▸ hst) fun h' tk hk => ?_))
    show wpAny _ A.in1 (updateSeq S (fun _ => #[]) >>= _) _ _ _
    refine wpAny_bind (wpAny_updateSeq (hk S _ hSw hS) rfl (wpAny_bind (wpAny_letGo (wpAny_pure ?_))))
    exact hR vb _ tk ((show j = n - 1 by omega) ▸ hb) fun b o h1 h2 e => (Heap.get?_update_other _ _ (Ne.symm h2)).trans (hk b o h1 e)
  | succ k ih =>
    intro j s vb hn ho hst hb ⟨c, hS⟩ hR
    refine codeAny_builtin PySem.F.entry_min_loop ?_
    rw [Around.under_plainId PySem.F.plain_min_loop _]
    show wpAny _ A.in1 (seqItems? (.ref S) >>= _) _ _ s
    refine wpAny_bind (wpAny_seqItems hS rfl ?_)
    show wpAny _ A.in1 (tryCatch (pyNext (.ref I)) _ >>= _) _ _ s
    refine wpAny_bind (wpAny_tryCatch (W.item (j + 1) s _ _ (by omega) hst fun v h' tk hv hst' hk => ?_))
    have hS' := hk S _ hSw hS
    have ho' : Old h0 h' := fun b o e => hk b o (nw e) (ho b o e)
    show wpAny _ A.in1 (tryCatch (holding [v, v] (richCompare .Lt v vb >>= _)) _ >>= _) _ _ _
    refine wpAny_bind (wpAny_tryCatch (wpAny_holding (wpAny_bind (hcmp (j + 1) (argBest bt j) v vb _ _ _ ho' hv hb ?_))))
    refine wpAny_bind (wpAny_holding (wpAny_truthy_bool ?_))
    refine wpAny_bind (wpAny_letGo (wpAny_pure ?_))
    by_cases e : bt (j + 1) (argBest bt j) = true
    · rw [if_pos e]
      refine wpAny_bind (wpAny_updateSeq hS' rfl (wpAny_bind (wpAny_letGo ?_)))
      rw [mlName]
      refine wpAny_pure ⟨plainId_quiet PySem.F.plain_min_loop _, ih (j + 1) _ v (by omega) (fun b o e1 => (Heap.get?_update_other _ _ (nS e1)).trans (ho' b o e1)) (W.frame _ _ _ hst' fun b hbf o e1 => ?_) ?_ ⟨_, Heap.get?_update_self _ hS' rfl⟩ fun v' h2 tk2 hv2 hk2 => ?_⟩
      · exact (Heap.get?_update_other _ _ (fun h : S = b => hSf (by rw [h]; exact hbf))).trans e1
      · unfold argBest
        rw [if_pos e]
        exact hv
      · exact hR v' h2 tk2 hv2 fun b o h1 h3 e1 => hk2 b o h1 h3 ((Heap.get?_update_other _ _ (Ne.symm h3)).trans (hk b o h1 e1))
    · rw [if_neg e]
      refine wpAny_bind (wpAny_letGo ?_)
      rw [mlName]
      refine wpAny_pure ⟨plainId_quiet PySem.F.plain_min_loop _, ih (j + 1) _ vb (by omega) ho' hst' ?_ ⟨c, hS'⟩ fun v' h2 tk2 hv2 hk2 => ?_⟩
      · unfold argBest
        rw [if_neg e]
        exact hb
      · exact hR v' h2 tk2 hv2 fun b o h1 h3 e1 => hk2 b o h1 h3 (hk b o h1 e1)
theorem minT_first (W : Walks prog w A.in1 I fp wr n P St) (hcmp : CmpIn prog w A.in1 h0 P bt) (hSf : S ∉ fp) (hw0 : ∀ b ∈ wr, h0.get? b = none) (hS0 : h0.get? S = none) {s : Shared} (ho : Old h0 s.heap) (hst : St 0 s.heap) (hS : Hold s.heap S []) (hn : 0 < n)
    (hR : ∀ v h' tk, P (argBest bt (n - 1)) v → (∀ b o, b ∉ wr → b ≠ S → s.heap.get? b = some o → h'.get? b = some o) → R (.ok (.ret v)) { s with heap := h', toks := tk }) :
    codeAny (model prog w) A (.builtin "min.loop" ⟨[.ref I, .none, .ref S], []⟩) R s := by
  have hSw : S ∉ wr := fun h => hSf (W.sub _ h)
  have nw : ∀ {b : Addr} {o : Obj}, h0.get? b = some o → b ∉ wr := fun e h => by rw [hw0 _ h] at e; cases e
  have nS : ∀ {b : Addr} {o : Obj}, h0.get? b = some o → S ≠ b := fun e h => by rw [← h, hS0] at e; cases e
  obtain ⟨c, hS⟩ := hS
  refine codeAny_builtin PySem.F.entry_min_loop ?_
  rw [Around.under_plainId PySem.F.plain_min_loop _]
  show wpAny _ A.in1 (seqItems? (.ref S) >>= _) _ _ s
  refine wpAny_bind (wpAny_seqItems hS rfl ?_)
  show wpAny _ A.in1 (tryCatch (pyNext (.ref I)) _ >>= _) _ _ s
  refine wpAny_bind (wpAny_tryCatch (W.item 0 s _ _ (by omega) hst fun v h' tk hv hst' hk => ?_))
  have hS' := hk S _ hSw hS
  show wpAny _ A.in1 (updateSeq S (fun _ => #[v, v]) >>= _) _ _ _
  refine wpAny_bind (wpAny_updateSeq hS' rfl ?_)
  rw [mlName]
  refine wpAny_pure ⟨plainId_quiet PySem.F.plain_min_loop _, minT_loop W hcmp hSf hw0 hS0 (n - 1) 0 _ v (by omega) (fun b o e1 => (Heap.get?_update_other _ _ (nS e1)).trans (hk b o (nw e1) (ho b o e1))) (W.frame _ _ _ hst' fun b hbf o e1 => ?_) hv ⟨_, Heap.get?_update_self _ hS' rfl⟩ fun v' h2 tk2 hv2 hk2 => ?_⟩
  · exact (Heap.get?_update_other _ _ (fun h : S = b => hSf (by rw [h]; exact hbf))).trans e1
  · exact hR v' h2 tk2 hv2 fun b o h1 h3 e1 => hk2 b o h1 h3 ((Heap.get?_update_other _ _ (Ne.symm h3)).trans (hk b o h1 e1))
end
theorem argBest_min {le : Nat → Nat → Bool} (tr : ∀ a b c, le a b = true → le b c = true → le a c = true) (to : ∀ a b, (le a b || le b a) = true) : ∀ k, argBest (fun i j => !le j i) k ≤ k ∧ ∀ j, j ≤ k → le (argBest (fun i j => !le j i) k) j = true
  | 0 => ⟨Nat.le_refl _, fun j hj => by
    obtain rfl : j = 0 := by omega
    have := to 0 0
    rw [Bool.or_self] at this
    exact this⟩
  | k + 1 => by
    obtain ⟨h1, h2⟩ := argBest_min tr to k
    unfold argBest
    cases e : le (argBest (fun i j => !le j i) k) (k + 1) with
    | true =>
      rw [Bool.not_true, if_neg Bool.false_ne_true]
      refine ⟨by omega, fun j hj => ?_⟩
      by_cases c : j = k + 1
      · rw [c]; exact e
      · exact h2 j (by omega)
    | false =>
      rw [Bool.not_false, if_pos rfl]
      have h3 : le (k + 1) (argBest (fun i j => !le j i) k) = true := by
        have := to (k + 1) (argBest (fun i j => !le j i) k)
        rw [e, Bool.or_false] at this
        exact this
      refine ⟨Nat.le_refl _, fun j hj => ?_⟩
      by_cases c : j = k + 1
      · rw [c]
        have := to (k + 1) (k + 1)
        rw [Bool.or_self] at this
        exact this
      · exact tr _ _ _ h3 (h2 j (by omega))
section
open PySem.W
variable {prog : Program} {w : World} {A : Around} {E : Value → Shared → Prop} {s : Shared} {l : Addr} {its : List Value} {Q : Value → Shared → Prop} {β : Type} {d : β → PyData}
theorem each_get {α γ : Type} {R : α → γ → Prop} : ∀ {as : List α} {bs : List γ}, EachIs R as bs → ∀ {i : Nat} {a : α}, as[i]? = some a → ∃ b, bs[i]? = some b ∧ R a b
  | _, _, .nil, i, a, h => by simp at h
  | _, _, .cons r t, 0, a, h => by
    cases h
    exact ⟨_, rfl, r⟩
  | _, _, .cons r t, i + 1, a, h => each_get t (i := i) (by simpa using h)
theorem minT_raw (hh : A.handled = none) (hl : s.heap.IsList l its.toArray) {bs : List β} (er : EachIs (fun u b => ∃ as, Reads s.heap u (d b) as) its bs) (al : AllAlike (bs.map d)) (hnn : ∀ b ∈ bs, d b ≠ .none) (hu : ∀ b ∈ bs, A.units + 1 + (d b).depth < cLine) (hne : 0 < bs.length)
    (h : ∀ (h' : Heap) (tk : Nat) (j : Nat) (u : Value) (b : β), (∀ b o, s.heap.get? b = some o → h'.get? b = some o) → its[j]? = some u → bs[j]? = some b → (∀ c ∈ bs, dataLe false d b c = true) → Q u { s with heap := h', toks := tk }) :
    wpAny (model prog w) A (call (.builtin "min") [.ref l]) Q E s := by
  have hlen := er.length
  refine call_function_tree PySem.F.kind_min PySem.F.plain_min PySem.F.entry_min (PySem.F.args_min1 _) ?_
  show wpAny _ A.in1 (Builtin.Builtins.bindParams "min" ["key", "default"] 0 ⟨[], []⟩ >>= _) _ _ s
  refine wpAny_bind (wpAny_of_eq (show Builtin.Builtins.bindParams "min" ["key", "default"] 0 ⟨[], []⟩ = pure [none, none] from rfl) ?_)
  refine wpAny_bind (wpAny_pure ?_)
  have hlt : l < s.heap.objs.size := by obtain ⟨_, e, _⟩ := hl; exact Heap.lt_size e
  refine wpAny_bind (wpAny_pyIter_list hl ?_)
  refine wpAny_bind (wpAny_newObj_type ?_)
  rw [mlName]
  have hz : its.toArray.size = bs.length := by rw [List.size_toArray]; exact hlen
  let D : Nat → PyData := fun i => (bs[i]?.map d).getD .none
  let le : Nat → Nat → Bool := fun i j => !dataLt (D j) (D i)
  have hD : ∀ {i : Nat} {b : β}, bs[i]? = some b → D i = d b := fun e => by show (Option.map d _).getD _ = _; rw [e]; rfl
  have T := PySem.W.sortLe_total (listOrd itemOrd) false fun i : Nat => PySem.W.keyToks (D i)
  obtain ⟨m1, m2⟩ := argBest_min (le := le) T.trans (fun a b => by
    rcases T.total a b with h | h
    · rw [show le a b = true from h]
      rfl
    · rw [show le b a = true from h, Bool.or_true]) (bs.length - 1)
  have hfi : s.heap.get? s.heap.objs.size = none := Heap.get?_none_of_le (Nat.le_refl _)
  refine wpAny_pure ⟨plainId_quiet PySem.F.plain_min_loop _, minT_first (h0 := s.heap) (bt := fun i j => !le j i) (Walks.list (A := A.in1) hh s.heap.objs.size l (Nat.ne_of_lt hlt) its.toArray) (fun i j vi vj s' Q' E' ho hi hj hq => ?_) ?_ ?_ ?_ ?_ ?_ ⟨_, Heap.get?_push_size _ rfl⟩ (by omega) (fun v h' tk hv hk => ?_)⟩
  · have hi : its[i]? = some vi := by simpa using hi
    have hj : its[j]? = some vj := by simpa using hj
    obtain ⟨bi, hbi, as, ri⟩ := each_get er hi
    obtain ⟨bj, hbj, as', rj⟩ := each_get er hj
    have mi := List.mem_of_getElem? hbi
    have mj := List.mem_of_getElem? hbj
    have hq : Q' (.bool (dataLt (d bi) (d bj))) s' := by
      have : (!le j i) = dataLt (d bi) (d bj) := by
        show (!!dataLt (D i) (D j)) = _
        rw [Bool.not_not, hD hbi, hD hbj]
      rw [← this]
      exact hq
    have := hu _ mi
    exact lt_data (PyProof.Rows.Reads.keeps ho ri) (PyProof.Rows.Reads.keeps ho rj) (al _ (List.mem_map.mpr ⟨_, mi, rfl⟩) _ (List.mem_map.mpr ⟨_, mj, rfl⟩)) (hnn _ mi) (show A.units + 1 + _ < cLine by omega) hq
  · intro hm
    rw [Heap.size_push] at hm
    rcases List.mem_cons.mp hm with e | hm
    · exact absurd e (Nat.succ_ne_self _)
    · rw [List.mem_singleton] at hm
      exact absurd hlt (by rw [← hm]; exact Nat.not_lt.mpr (Nat.le_succ _))
  · intro b hb
    rw [List.mem_singleton.mp hb]
    exact hfi
  · rw [Heap.size_push]
    exact Heap.get?_none_of_le (Nat.le_succ _)
  · exact fun b o e => Heap.get?_push_of_some _ (Heap.get?_push_of_some _ e)
  · exact ⟨⟨_, Heap.get?_push_of_some _ (Heap.get?_push_size _ rfl), rfl, rfl⟩, (hl.push _).push _⟩
  · rw [hz] at hv
    have hv : its[argBest (fun i j => !le j i) (bs.length - 1)]? = some v := by simpa using hv
    obtain ⟨b, hb, _⟩ := each_get er hv
    refine h h' tk _ v b (fun c o e => hk c o (fun hm => ?_) (fun z => ?_) (Heap.get?_push_of_some _ (Heap.get?_push_of_some _ e))) hv hb fun c hc => ?_
    · have := Heap.lt_size e
      rw [List.mem_singleton.mp hm] at this
      exact absurd this (Nat.lt_irrefl _)
    · have := Heap.lt_size e
      rw [z, Heap.size_push] at this
      exact absurd this (Nat.not_lt.mpr (Nat.le_succ _))
    · obtain ⟨i, hi, rfl⟩ := List.mem_iff_getElem.mp hc
      have := m2 i (by omega)
      show (!dataLt (d bs[i]) (d b)) = true
      rw [← hD hb, ← hD (List.getElem?_eq_getElem hi)]
      exact this
end
/-- min of a list of tuples that may all be compared -/
def rMinT (K : PySem.W.Frag) : List V → Hp → VK → Prop := fun vs H Q => ∃ (β : Type) (v : β → V) (d : β → PyData) (a : Addr) (bs : List β), vs = [.ref a] ∧ SqL K H a (bs.map v) ∧ (∀ b ∈ bs, Dp K H (v b) (d b) ∧ (d b).depth ≤ 50 ∧ d b ≠ .none) ∧
  PySem.W.AllAlike (bs.map d) ∧ 0 < bs.length ∧ ∀ b, b ∈ bs → (∀ c ∈ bs, PySem.W.dataLe false d b c = true) → Q (v b) H
theorem minT (K : PySem.W.Frag) {X : Cx} (hc : X.calm = true) (hu : X.A.units + 64 < cLine) (hK : X.K = K := by rfl) : CallR X (.builtin "min") (rMinT K) := by
  subst hK
  intro pins s σ H vs us Q I r h
  obtain ⟨β, v, d, a, bs, rfl, hs, hd, al, hne, q⟩ := h
  obtain ⟨u, rfl, rfl⟩ := vals1 r
  obtain ⟨its, rv, hl, hz⟩ := I.list hs
  refine minT_raw (I.ok.hd hc) hl.isList (each_reads I rv fun b hb => (hd b hb).1) al (fun b hb => (hd b hb).2.2) (fun b hb => ?_) hne fun h' tk j u b hk hj hb hm => ?_
  · have := (hd b hb).2.1
    omega
  · obtain ⟨b', hb', r'⟩ := each_get (each_vals rv) hj
    rw [hb] at hb'
    cases hb'
    exact ⟨v b, H, I.kept hk, r', q b (List.mem_of_getElem? hb) hm⟩
/-! ### list.remove -/
section
open PySem.MeetsSeq PySem.SeqAt
open AutoSeq1 (wpAny_loadPart')
theorem remT_loop (l : Addr) (items : Array Value) (n : Nat) (x : Value) (e : Value → Bool) (j : Nat) (hj : j < items.size) (hit : e items[j] = true) (hs1 : items.size ≤ sizeLine) : ∀ (k i : Nat), j - i = k → i ≤ j → (∀ m (hm : m < items.size), i ≤ m → m < j → e items[m] = false) → Meets (Builtin.«list.remove.loop» ⟨[.ref l, x, rawInt i], []⟩)
      (fun A R s => s.heap.get? l = some { cls := .type "list", dict := none, data := .seq items n, slots := #[] } ∧ (∀ y, y ∈ items → EqAt A.in1 s y x (e y)) ∧ R (.ok (.ret .none)) { s with heap := s.heap.update l (Obj.mapSeq fun xs => xs.eraseIdxIfInBounds j) }) := by
  intro k
  induction k with
  | zero =>
    intro i hk hij hno prog w A R s h
    obtain ⟨hp, g, d, tk, os⟩ := s
    obtain ⟨hl, he, h⟩ := h
    obtain rfl : i = j := by omega
    wp_walk using wpAny_loadPart' hl
    rw [show items[((i : Nat) : Int).toNat]? = some items[i] by simp [hj]]
    refine wpAny_bind (he _ (Array.getElem_mem hj) prog w _ _ ?_)
    rw [hit]
    have hz' : (items.eraseIdxIfInBounds i).size ≤ sizeLine + 1 := Nat.le_trans (size_erased items _) (Nat.le_succ_of_le hs1)
    wp_walk using (wpAny_updateSeq hl rfl (hz := hs1) (_hz' := hz')), wpAny_loadPart' hl
    simpa using h
  | succ k ih =>
    intro i hk hij hno prog w A R s h
    obtain ⟨hp, g, d, tk, os⟩ := s
    obtain ⟨hl, he, h⟩ := h
    have hlt : i < items.size := by omega
    wp_walk using wpAny_loadPart' hl
    rw [show items[((i : Nat) : Int).toNat]? = some items[i] by simp [hlt]]
    refine wpAny_bind (he _ (Array.getElem_mem hlt) prog w _ _ ?_)
    rw [hno i hlt (Nat.le_refl _) (by omega)]
    wp_walk
    rw [show ((i : Int) + 1) = ((i + 1 : Nat) : Int) by push_cast; rfl]
    exact ⟨plainId_quiet plain_remove_loop _, codeAny_builtin entry_remove_loop (by
      rw [Around.under_plainId plain_remove_loop _]
      exact ih (i + 1) (by omega) (by omega) (fun m hm h1 h2 => hno m hm (by omega) h2) prog w A R _ ⟨hl, he, h⟩)⟩
theorem list_remT (l : Addr) (items : Array Value) (n : Nat) (x : Value) (e : Value → Bool) (j : Nat) (hj : j < items.size) (hit : e items[j] = true) (hno : ∀ m (hm : m < items.size), m < j → e items[m] = false) (hs1 : items.size ≤ sizeLine) :
    Meets (Builtin.«list.remove» ⟨[.ref l, x], []⟩) (fun A R s => s.heap.get? l = some { cls := .type "list", dict := none, data := .seq items n, slots := #[] } ∧ (∀ y, y ∈ items → EqAt A.in1 s y x (e y)) ∧ R (.ok (.ret .none)) { s with heap := s.heap.update l (Obj.mapSeq fun xs => xs.eraseIdxIfInBounds j) }) := by
  intro prog w A R s h
  obtain ⟨hp, g, d, tk, os⟩ := s
  obtain ⟨hl, he, h⟩ := h
  wp_walk using wpAny_loadPart' hl
  exact ⟨plainId_quiet plain_remove_loop _, codeAny_builtin entry_remove_loop (by
    rw [Around.under_plainId plain_remove_loop _]
    exact remT_loop l items n x e j hj hit hs1 _ 0 rfl (Nat.zero_le _) (fun m hm _ h2 => hno m hm h2) prog w A R _ ⟨hl, he, h⟩)⟩
end
theorem erase_map {β : Type} (v : β → V) : ∀ (l : List β) (j : Nat), (l.map v).eraseIdx j = (l.eraseIdx j).map v
  | [], j => by simp
  | a :: r, 0 => by simp
  | a :: r, j + 1 => by
    have ih := erase_map v r j
    simp [ih]
/-- l.remove(x): the first that is equal goes -/
def rRemT (K : PySem.W.Frag) : V → List V → Hp → VK → Prop := fun x xs H Q => ∃ (l : Addr) (vs : List V) (ds : List PyData) (y : V) (d : PyData) (j : Nat) (z : PyData), x = .ref l ∧ xs = [y] ∧ H l = some (.lst vs) ∧ DpAll K H vs ds ∧ Dp K H y d ∧
  SeqAt.shaped (.list ds) = true ∧ SeqAt.shaped d = true ∧ ds[j]? = some z ∧ PyData.eqv z d = true ∧ (∀ (m : Nat) (z' : PyData), m < j → ds[m]? = some z' → PyData.eqv z' d = false) ∧ Q .non (upd H l (.lst (vs.eraseIdx j)))
theorem mt_remT (K : PySem.W.Frag) {X : Cx} (hu : X.A.units + 65 < cLine) (hK : X.K = K := by rfl) : MtM X "list.remove" (rRemT K) := by
  subst hK
  intro pins s σ H x xs v us Q I rx rxs h
  obtain ⟨l, vs, ds, y, d, j, z, rfl, rfl, hH, ha, hy, sl, sd, hz, hzj, hno, q⟩ := h
  cases rx
  obtain ⟨u, rfl, ru⟩ := rxs.one
  obtain ⟨bs, r1⟩ := Dp.reads I d y u hy ru
  have hxs : PyData.canLayAll0 ds = true := SeqAt.canLay_of_shaped sl
  have hroom : X.A.units + 1 + min (PyData.depthAll ds) d.depth < cLine := room_in_shaped sd hu
  obtain ⟨zz, its, n, r, hl, e⟩ := I.lstM hH
  obtain ⟨as, h4⟩ := Dp.readsAll I ds _ its ha r
  have hn : its.length = ds.length := SeqAt.ReadsAll.length ds its as h4
  have hmap : its.map (SeqAt.readOf s.heap) = ds := SeqAt.readsAll_map ds its as hxs h4
  have hvl := r.length
  obtain ⟨hjd, _⟩ := List.getElem?_eq_some_iff.mp hz
  have hjl : j < its.length := by omega
  have at_ : ∀ (m : Nat) (hm : m < its.toArray.size) (z' : PyData), ds[m]? = some z' → SeqAt.readOf s.heap its.toArray[m] = z' := by
    intro m hm z' hz'
    have hml : m < its.length := by simpa using hm
    rw [← hmap, List.getElem?_map, List.getElem?_eq_getElem hml] at hz'
    have e1 : SeqAt.readOf s.heap its[m] = z' := Option.some.inj (show some (SeqAt.readOf s.heap its[m]) = some z' from hz')
    simpa using e1
  refine call_meets PySem.F.slot_list_remove ⟨_, e, rfl⟩ PySem.F.entry_list_remove (PySem.F.args_list_remove_2 _ _)
    (list_remT l its.toArray n u (fun a => PyData.eqv (SeqAt.readOf s.heap a) d) j (by simpa using hjl) ?_ ?_ (by rw [List.size_toArray]; omega)) ⟨e, SeqAt.items_eqAt (vs := its.toArray) (show ReadsAll s.heap its.toArray.toList ds as from h4) r1 hxs (SeqAt.canLay_of_shaped sd) hroom, ?_⟩
  · show PyData.eqv (SeqAt.readOf s.heap its.toArray[j]) d = true
    rw [at_ j _ z hz]
    exact hzj
  · intro m hm hmj
    have hz' : ds[m]? = some ds[m] := List.getElem?_eq_getElem (by omega)
    show PyData.eqv (SeqAt.readOf s.heap its.toArray[m]) d = false
    rw [at_ m hm _ hz']
    exact hno m _ hmj hz'
  · refine ⟨.non, _, I.lset (its' := its.eraseIdx j) (t' := s.toks) hH e ?_ (r.eraseIdx j) ?_, rfl, q⟩
    · show its.toArray.eraseIdxIfInBounds j = (its.eraseIdx j).toArray
      rw [List.eraseIdxIfInBounds_toArray]
    · have z2 : (its.eraseIdx j).length ≤ its.length := List.length_eraseIdx_le ..
      have z3 : (vs.eraseIdx j).length ≤ vs.length := List.length_eraseIdx_le ..
      omega
/-! ### {k: v}, k a folding -/
def tDispF (P : Program) (w : World) (tk tv : TE) : TE := fun σ H Q => ∀ p, H p = none → tk σ (upd H p (.dK [])) fun x H1 => tv σ H1 fun y H2 => H2 p = some (.dK []) ∧ ∃ (R : Hp → Addr → Fq → Prop) (_ : KeyR R) (a : Addr) (q : Fq), x = .ref a ∧ R H2 a q ∧ ∀ o, DF P w R (upd H2 p o) p [(q, y)] → Q (.ref p) (upd H2 p o)
theorem pe_dispF {X : Cx} {k v : Expr} {pos : Pos} {tk tv : TE} {P : Program} {w : World} (hu : X.A.units + 64 < cLine) (hk : PE X k tk) (hv : PE X v tv) (hP : X.prog = P := by rfl) (hw : X.w = w := by rfl) : PE X (.Dict [some k] [v] pos) (tDispF P w tk tv) := by
  subst hP hw
  refine ⟨fun pins s σ H Q I q => ?_⟩
  have hn := I.hok.fresh (Nat.le_refl s.heap.objs.size)
  have I1 := I.laid (a := s.heap.objs.size) (o := .dK []) (h' := s.heap.push { cls := .type "dict", data := .dict #[] }) (t' := s.toks) (fun _ _ q => Heap.get?_push_of_some _ q) (Nat.le_refl _) (dk_empty s.heap I.big)
  have hshape := zip_pairTrees [some k] [v] X.env pos rfl rfl
  rw [arm_eval_Dict, hshape, dictDisplay_pairs (pairTrees [some k] [v] X.env pos) (by intro z; cases z) (show 1 < 17 by decide)]
  have room : (fqK X.prog X.w).room X.A := by
    show X.A.units + (0 + 1) < cLine
    omega
  refine wpAny_bind (wpAny_standAt (wpAny_bind (wpAny_subDictH (knd := fqK X.prog X.w) (Q := fun d s' => wpAny (model X.prog X.w) X.A (pure (Value.ref d)) _ _ s') room (show 1 ≤ 15 by decide) ?_)))
  refine thn ((pps_cons hk hv pps_nil).run pins _ σ _ (fun ps H2 => match ps with
    | [(x, y)] => H2 s.heap.objs.size = some (.dK []) ∧ ∃ (R : Hp → Addr → Fq → Prop) (_ : KeyR R) (a : Addr) (q : Fq), x = .ref a ∧ R H2 a q ∧ ∀ o, DF X.prog X.w R (upd H2 s.heap.objs.size o) s.heap.objs.size [(q, y)] → Q (.ref s.heap.objs.size) (upd H2 s.heap.objs.size o)
    | _ => False) I1 (q _ hn)) fun ws s2 ⟨ps, H2, I2, rel, hq⟩ => ?_
  match ps, rel, hq with
  | [], _, hq => exact hq.elim
  | _ :: _ :: _, _, hq => exact hq.elim
  | [(x, y)], rel, ⟨e, R, m, a, k0, ex, hR, q2⟩ =>
    cases rel with
    | @cons _ b _ bs hr t =>
      cases t
      obtain ⟨b1, b2⟩ := b
      obtain ⟨r1, r2⟩ := hr
      subst ex
      obtain rfl : b1 = Value.ref a := r1
      obtain ⟨y0, d0⟩ := df_nil (P := X.prog) (w := X.w) I2.hok (.inl e)
      refine ⟨[(k0, a, b2)], ⟨rfl, rfl, fk_is I2.hok (m.imp hR), trivial⟩, d0, fun h' tk dd' hs => wpAny_pure ?_⟩
      have mu : Mut (H2 s.heap.objs.size) := by rw [e]; exact True.intro
      have tk2 : TupK H2 (upd H2 s.heap.objs.size (dfO X.prog X.w s.heap.objs.size [(k0, a, b2)])) := mut_tk mu
      have he : ∃ q, h'.get? s.heap.objs.size = some q := let ⟨q, _, _, hq, _⟩ := dd'; ⟨q, hq⟩
      have hsl : [(k0, a, b2)].length ≤ sizeLine := by rw [sizeLine_eq]; show 1 ≤ _; omega
      exact ⟨.ref s.heap.objs.size, _, d_write I2 mu hs he (df_obj hsl y0 dd'), rfl, q2 _ ⟨_, upd_same, .cons ⟨rfl, m.mono tk2 hR, r2⟩ .nil⟩⟩
end Pf


namespace Pf
open PySem PySem.Spec PyProof.Rows L2
/-! ### a list is made longer by a tuple -/
theorem list_extend_tuple (l : Addr) (items : Array Value) (n : Nat) (b : Addr) (items2 : Array Value) (n2 : Nat) (dd : Option Addr) (sls : Array (Option Value)) (hs0 : ¬(!items.isEmpty && Builtin.List.listTooLong (items.size + items2.size)) = true) (hs1 : items.size ≤ sizeLine) (hs2 : items.size + items2.size ≤ sizeLine + 1) :
    Meets (Builtin.«list.extend» ⟨[.ref l, .ref b], []⟩) (fun _ R s => s.heap.get? l = some { cls := .type "list", dict := none, data := .seq items n, slots := #[] } ∧ s.heap.get? b = some { cls := .type "tuple", dict := dd, data := .seq items2 n2, slots := sls } ∧ R (.ok (.ret Value.none)) { s with heap := s.heap.update l (Obj.mapSeq fun x => x ++ items2), toks := s.toks }) :=
  .of_wp fun prog w A R s h => by
    obtain ⟨hp, g, d, tk, os⟩ := s; obtain ⟨hl, hb, h⟩ := h; have f1 := AutoSeq1.idx_int; have f2 := AutoSeq1.sub_tuple_tuple; have f3 := AutoSeq1.sub_list_list; have f4 := AutoSeq1.sub_tuple_list; have f5 := AutoSeq1.sub_list_tuple
    have hz' : (items ++ items2).size ≤ sizeLine + 1 := by rw [Array.size_append]; exact hs2
    wp_walk using (wpAny_updateSeq hl rfl (hz := hs1) (_hz' := hz')), AutoSeq1.wpAny_loadPart' hl, AutoSeq1.wpAny_loadPart' hb
    exact ⟨_, rfl, h⟩
def rExtT (K : PySem.W.Frag) : V → List V → Hp → VK → Prop := fun x vs H Q => ∃ l b xs zs, x = .ref l ∧ vs = [.ref b] ∧ H l = some (.lst xs) ∧ SqT K H b zs ∧ xs.length + zs.length ≤ sizeLine ∧ Q .non (upd H l (.lst (xs ++ zs)))
theorem mt_extT (K : PySem.W.Frag) {X : Cx} (hK : X.K = K := by rfl) : MtM X "list.extend" (rExtT K) := by
  subst hK
  intro pins s σ H x vs v us Q I rx rv h
  obtain ⟨l, b, xs, zs, rfl, rfl, hH, hB, hz, q⟩ := h
  cases rx
  obtain ⟨u, rfl, ru⟩ := rv.one
  cases ru
  obtain ⟨z, its, n, r, hl, e⟩ := I.lstM hH
  obtain ⟨its2, r2, ⟨⟨cls, dd, data, sls⟩, e2, hc, n2, hd⟩, hl2⟩ := I.tuple hB
  simp only at hc hd
  subst hc hd
  have hrl := r2.length
  have hrl1 := r.length
  have hsz : its.toArray.size + its2.toArray.size ≤ sizeLine := by rw [List.size_toArray, List.size_toArray]; omega
  have hlong : ¬ (!its.toArray.isEmpty && Builtin.List.listTooLong (its.toArray.size + its2.toArray.size)) = true := by
    rw [notLongL hsz, Bool.and_false]
    exact Bool.false_ne_true
  refine call_meets F.slot_list_extend ⟨_, e, rfl⟩ F.entry_list_extend (F.args_list_extend_2 _ _)
    (list_extend_tuple l its.toArray n b its2.toArray n2 dd sls hlong (by rw [List.size_toArray]; omega) (by omega)) ⟨e, e2, ?_⟩
  refine ⟨.non, _, I.lset (its' := its ++ its2) hH e (by simp) (r.append r2) ?_, rfl, q⟩
  rw [List.length_append]
  omega
/-! ### a thing in a list of data -/
theorem notInD (K : PySem.W.Frag) {X : Cx} (hu : X.A.units + 65 < cLine) (h : X.K = K := by rfl) : OpR X (compareOp .NotIn) (rNotInD K) := h ▸ op_notInD hu
end Pf


namespace Pf
open PySem PySem.Spec PyProof.Rows L2
theorem val_world {a b c d e : V} : valV [((.inr "book" : Key), a), (.inr "line", b), (.inr "worths", c), (.inr "steps", d), (.inr "every", e)] (.inr "book") = some a ∧ valV [((.inr "book" : Key), a), (.inr "line", b), (.inr "worths", c), (.inr "steps", d), (.inr "every", e)] (.inr "line") = some b ∧
    valV [((.inr "book" : Key), a), (.inr "line", b), (.inr "worths", c), (.inr "steps", d), (.inr "every", e)] (.inr "worths") = some c ∧ valV [((.inr "book" : Key), a), (.inr "line", b), (.inr "worths", c), (.inr "steps", d), (.inr "every", e)] (.inr "steps") = some d ∧ valV [((.inr "book" : Key), a), (.inr "line", b), (.inr "worths", c), (.inr "steps", d), (.inr "every", e)] (.inr "every") = some e := by
  have n1 : ¬ (.inr "book" : Key) = .inr "every" := by decide +kernel
  have n2 : ¬ (.inr "line" : Key) = .inr "every" := by decide +kernel
  have n3 : ¬ (.inr "worths" : Key) = .inr "every" := by decide +kernel
  have n4 : ¬ (.inr "steps" : Key) = .inr "every" := by decide +kernel
  have m1 : ¬ (.inr "book" : Key) = .inr "steps" := by decide +kernel
  have m2 : ¬ (.inr "line" : Key) = .inr "steps" := by decide +kernel
  have m3 : ¬ (.inr "worths" : Key) = .inr "steps" := by decide +kernel
  have k1 : ¬ (.inr "book" : Key) = .inr "worths" := by decide +kernel
  have k2 : ¬ (.inr "line" : Key) = .inr "worths" := by decide +kernel
  have j1 : ¬ (.inr "book" : Key) = .inr "line" := by decide +kernel
  exact ⟨by rw [valV_pos rfl], by rw [valV_neg j1, valV_pos rfl], by rw [valV_neg k1, valV_neg k2, valV_pos rfl], by rw [valV_neg m1, valV_neg m2, valV_neg m3, valV_pos rfl], by rw [valV_neg n1, valV_neg n2, valV_neg n3, valV_neg n4, valV_pos rfl]⟩
/-- what a world says, wherever the pen is -/
structure Wld (P : Program) (w : World) (H : Hp) (W : Addr) (v : V) (r : Rl) (x : Str) (Dw Ds E : Addr) (es : List V) (ss : List (Fq × V)) (C : Fo → List Fo) : Prop where
  bk : DGet H W (.str "book") (some v)
  ln : DGet H W (.str "line") (some (.str x))
  ws : DGet H W (.str "worths") (some (.ref Dw))
  sp : DGet H W (.str "steps") (some (.ref Ds))
  ev : DGet H W (.str "every") (some (.ref E))
  hw : DF P w FkT H Dw ((AL r x).map (enW r x))
  hs : DF P w FkT H Ds ss
  ks : ss.map (·.1) = AL r x
  st : Stps H ss C
  pm : ∀ q ∈ AL r x, (C q).Perm (nb r x q)
  he : H E = some (.lst es)
  pe : Paired (FoAt H) es (AL r x)
theorem WorldAt.wld {P : Program} {w : World} {p : Addr} {H : Hp} {W : Addr} {v : V} {r : Rl} {x : Str} (h : WorldAt P w p H W v r x) : ∃ Dw Ds E es ss C, Wld P w H W v r x Dw Ds E es ss C := by
  obtain ⟨Dw, Ds, E, es, ss, C, h1, h2, h3, h4, h5, h6, h7, h8, _⟩ := h
  exact ⟨Dw, Ds, E, es, ss, C, by rw [← val_world.1]; exact DGet.k (k := .inr "book") h1, by rw [← val_world.2.1]; exact DGet.k (k := .inr "line") h1, by rw [← val_world.2.2.1]; exact DGet.k (k := .inr "worths") h1, by rw [← val_world.2.2.2.1]; exact DGet.k (k := .inr "steps") h1, by rw [← val_world.2.2.2.2]; exact DGet.k (k := .inr "every") h1, h2, h3, h4, h5, h6, h7, h8⟩
theorem dget_ext {H H' : Hp} (k : Ext H H') {a : Addr} {y : V} {o : Option V} (h : DGet H a y o) : DGet H' a y o := by
  rcases h with ⟨kvs, c, e, h1, h2⟩ | ⟨kvs, c, b, e, h1, h2, h3⟩
  · exact .inl ⟨kvs, c, e.elim (fun e => .inl (k _ _ e)) (fun ⟨o, e⟩ => .inr ⟨o, k _ _ e⟩), h1, h2⟩
  · exact .inr ⟨kvs, c, b, e.elim (fun e => .inl (k _ _ e)) (fun ⟨o, e⟩ => .inr ⟨o, k _ _ e⟩), h1, k _ _ h2, h3⟩
theorem Wld.ext {P : Program} {w : World} {H H' : Hp} {W : Addr} {v : V} {r : Rl} {x : Str} {Dw Ds E : Addr} {es : List V} {ss : List (Fq × V)} {C : Fo → List Fo} (h : Wld P w H W v r x Dw Ds E es ss C) (k : Ext H H') : Wld P w H' W v r x Dw Ds E es ss C :=
  ⟨dget_ext k h.bk, dget_ext k h.ln, dget_ext k h.ws, dget_ext k h.sp, dget_ext k h.ev, h.hw.ext keyT k, h.hs.ext keyT k, h.ks, h.st.mono k, h.pm, k _ _ h.he, paired_imp (fun _ _ => FoAt.mono _ _ _ _ (TupK.ext k)) h.pe⟩
/-! ### what is reached -/
def Rch (r : Rl) (x : Str) (u : Int) (a q : Fo) : Prop := ∃ W, Way r x a q W ∧ ∀ z ∈ W, z = a ∨ woV r x z ≤ u
structure Fnd (r : Rl) (x : Str) (u : Int) (a : Fo) (F Dn Sk : List Fo) : Prop where
  nd : F.Nodup
  per : F.Perm (Dn ++ Sk)
  rch : ∀ q ∈ F, q ∈ AL r x ∧ Rch r x u a q
  ful : ∀ d ∈ Dn, ∀ z ∈ nb r x d, woV r x z ≤ u → z ∈ F
  sta : a ∈ F
section
variable {r : Rl} {x : Str} {u : Int} {a : Fo} {F Dn Sk : List Fo}
theorem Fnd.start (ha : a ∈ AL r x) : Fnd r x u a [a] [] [a] :=
  ⟨List.nodup_cons.mpr ⟨List.not_mem_nil, List.nodup_nil⟩, List.Perm.refl _, fun q hq => by
    rw [List.mem_singleton.mp hq]
    exact ⟨ha, [a], .one ha, fun z hz => .inl (List.mem_singleton.mp hz)⟩, fun d hd => (by cases hd), List.mem_cons_self ..⟩
theorem Fnd.add (S : Fnd r x u a F Dn (h :: Sk)) {z : Fo} (hz : z ∉ F) (hn : z ∈ nb r x h) (hu : woV r x z ≤ u) : Fnd r x u a (F ++ [z]) Dn (h :: (Sk ++ [z])) where
  nd := List.nodup_append.mpr ⟨S.nd, List.nodup_cons.mpr ⟨List.not_mem_nil, List.nodup_nil⟩, fun y hy w hw e => by
    rw [List.mem_singleton.mp hw] at e
    exact hz ((show y = z from e) ▸ hy)⟩
  per := by
    have := S.per.append_right [z]
    rw [List.append_assoc] at this
    exact this
  rch := fun q hq => by
    rcases List.mem_append.mp hq with hq | hq
    · exact S.rch q hq
    · rw [List.mem_singleton.mp hq]
      obtain ⟨_, W, hW, hall⟩ := S.rch h (S.per.mem_iff.mpr (List.mem_append_right _ (List.mem_cons_self ..)))
      refine ⟨nb_sub hn, W ++ [z], hW.app hn (nb_sub hn), fun y hy => ?_⟩
      rcases List.mem_append.mp hy with hy | hy
      · exact hall y hy
      · rw [List.mem_singleton.mp hy]
        exact .inr hu
  ful := fun d hd y hy hyu => List.mem_append_left _ (S.ful d hd y hy hyu)
  sta := List.mem_append_left _ S.sta
theorem Fnd.full (S : Fnd r x u a F Dn (h :: Sk)) (hh : ∀ z ∈ nb r x h, woV r x z ≤ u → z ∈ F) : Fnd r x u a F (Dn ++ [h]) Sk where
  nd := S.nd
  per := by
    rw [List.append_assoc]
    exact S.per
  rch := S.rch
  ful := fun d hd y hy hyu => by
    rcases List.mem_append.mp hd with hd | hd
    · exact S.ful d hd y hy hyu
    · rw [List.mem_singleton.mp hd] at hy
      exact hh y hy hyu
  sta := S.sta
theorem Fnd.perS (S : Fnd r x u a F Dn Sk) {Sk' : List Fo} (p : Sk.Perm Sk') : Fnd r x u a F Dn Sk' := ⟨S.nd, S.per.trans (p.append_left _), S.rch, S.ful, S.sta⟩
theorem Fnd.done (S : Fnd r x u a F Dn []) {q : Fo} : q ∈ F ↔ q ∈ AL r x ∧ Rch r x u a q := by
  refine ⟨S.rch q, fun ⟨_, W, hW, hall⟩ => ?_⟩
  have key : ∀ {c q : Fo} {W : List Fo}, Way r x c q W → c ∈ F → (∀ z ∈ W, z = a ∨ woV r x z ≤ u) → q ∈ F := by
    intro c q W hW
    induction hW with
    | one h => exact fun h _ => h
    | @cons c d q W hc s t ih =>
      intro hcF hall
      refine ih ?_ fun z hz => hall z (List.mem_cons_of_mem _ hz)
      rcases hall d (List.mem_cons_of_mem _ t.fst) with e | e
      · rw [e]
        exact S.sta
      · have : c ∈ Dn := by
          have := S.per.mem_iff.mp hcF
          rwa [List.append_nil] at this
        exact S.ful c this d s e
  exact key hW S.sta hall
theorem Fnd.len (S : Fnd r x u a F Dn Sk) : Dn.length + Sk.length ≤ (AL r x).length ∧ F.length ≤ (AL r x).length := by
  have h1 : F.length ≤ (AL r x).length := nodup_len_le S.nd fun q hq => (S.rch q hq).1
  have h2 := S.per.length_eq
  rw [List.length_append] at h2
  omega
end
end Pf


/-! sorted(set(xs)), xs a list of whole numbers, up to 4000 -/
namespace Pf
open PySem PySem.Spec PyProof.Rows L2
section
variable {P : Program} {w : World} {A : Around} {E : Value → Shared → Prop} {s : Shared}
theorem call_set_listI {l : Addr} {items : Array Value} (ns : List Int) {Q : Value → Shared → Prop} (hh : A.handled = none) (hl : s.heap.IsList l items) (hit : IntsAre items.toList ns) (hb : ns.length + 1 < scanBound)
    (h : ∀ (h' : Heap) (tk c : Nat), SetR w h' s.heap.objs.size (fun j => decide (j ∈ ns)) c → c ≤ ns.length → (∀ b o, s.heap.get? b = some o → h'.get? b = some o) → Q (.ref s.heap.objs.size) { s with heap := h', toks := tk }) : wpAny (model P w) A (call (.type "set") [.ref l]) Q E s := by
  have hisz : items.size = ns.length := by rw [← Array.length_toList]; exact IntsAre.length hit
  obtain ⟨c, tl, hmro⟩ := F.called_set.mro
  have hmade := F.called_set.made
  have hsub := F.called_set.sub
  refine wpAny_call (codeAny_of_tree ?_)
  show wpAny _ _ (callAny (.type "set") _) _ _ _
  refine wpAny_pure ⟨Code.quiet_builtin _ (by decide +kernel), codeAny_builtin F.entry_type_call ?_⟩
  rw [Around.under_plain (weight_type_call_type "set" [.ref l] []) rfl]
  have h1 := F.called_set.notType
  have h2 := F.called_set.canCreate
  have hct := F.typeCall_set_1 (.ref l)
  repeat (any_goals (first | assumption | wp_step))
  refine codeAny_mono (code_set_led1 (.ref l) (E := E) (Q₁ := fun obj s₁ => obj = .ref s.heap.objs.size ∧ s₁ = { s with heap := s.heap.push (freshSet w) }) ⟨rfl, rfl⟩) fun r s₁ hr => ?_
  cases r with
  | error e => exact hr
  | ok fl =>
    cases fl with
    | ret obj =>
      obtain ⟨rfl, rfl⟩ := hr
      have hS : (s.heap.push (freshSet w)).get? s.heap.objs.size = some (freshSet w) := Heap.get?_push_size _ rfl
      have hT : Shared.TypeIs { s with heap := s.heap.push (freshSet w) } (.ref s.heap.objs.size) "set" := ⟨_, hS, rfl⟩
      have hli := F.called_set.init.lookup
      have hbi := F.called_set.init.bind (.ref s.heap.objs.size)
      repeat (any_goals (first | assumption | wp_step))
      refine codeAny_mono (codeAny_call_builtin (R := wants (fun r s₂ => r = .none ∧ ∃ h' tk c, s₂ = { s with heap := h', toks := tk } ∧ SetR w h' s.heap.objs.size (fun j => decide (j ∈ ns)) c ∧ c ≤ ns.length ∧ (∀ b o, s.heap.get? b = some o → h'.get? b = some o)) E) F.called_set.init.plain F.entry_set_init (check_set_init_1 hT ?_)) fun r₂ s₂ hr₂ => ?_
      · obtain ⟨ol, hol, hcl, nl, hdl⟩ := hl
        obtain ⟨ocls, odict, odata, oslots⟩ := ol
        simp only at hcl hdl
        subst hcl; subst hdl
        have hol' : (s.heap.push (freshSet w)).get? l = some { cls := .type "list", dict := odict, data := .seq items nl, slots := oslots } := Heap.get?_push_of_some _ hol
        have hsls := F.sub_list_set
        have hslf := F.sub_list_frozenset
        have hne : (Value.type "list" == Value.type "dict") = false := by decide
        have hl1 : (s.heap.push (freshSet w)).IsList l items := ⟨_, hol', rfl, nl, rfl⟩
        unfold Builtin.«set.__init__» noKeywords Builtin.Frozenset.updateFrom
        generalize hPI : pyIter = PI
        wp_walk
        subst hPI
        refine wpAny_pyIter_list hl1 ?_
        refine wpAny_bind (wpAny_runValue ?_)
        have hlS : l < s.heap.objs.size := Heap.lt_size hol
        have hh3 : A.in1.in1.in1.handled = none := by simp [hh]
        have psz : (s.heap.push (freshSet w)).objs.size = s.heap.objs.size + 1 := Heap.size_push ..
        refine set_update_ints ((Walks.list hh3 (s.heap.push (freshSet w)).objs.size l (by rw [psz]; exact Nat.ne_of_lt (Nat.lt_succ_of_lt hlS)) items).toS) s.heap.objs.size (by rw [psz]; simp only [List.mem_cons, List.not_mem_nil, or_false, not_or]; exact ⟨Nat.ne_of_lt (Nat.lt_succ_self _), Nat.ne_of_gt hlS⟩) ns hisz hb (fun i v hv => ?_)
          (items.size - 0) 0 _ (by omega) (Nat.zero_le _) ⟨⟨_, Heap.get?_push_size _ rfl, rfl, rfl⟩, (hl1.push _)⟩ ⟨0, Nat.le_refl _, setR_new_at (Heap.get?_push_of_some _ hS)⟩ ?hR
        · have hi : i < ns.length := by rw [← hisz]; exact (Array.getElem?_eq_some_iff.mp hv).1
          obtain ⟨t, ht⟩ := hit.get i _ (List.getElem?_eq_getElem hi)
          have q : items.toList[i]? = some v := (Array.getElem?_toList ..).trans hv
          rw [q] at ht
          exact ⟨_, t, List.getElem?_eq_getElem hi, Option.some.inj ht⟩
        case hR =>
          intro s' c hm hc' hS'
          have hkp : ∀ b o, s.heap.get? b = some o → s'.heap.get? b = some o := fun b o e => hm.heap b o (fun hb => by
            have h3 := Heap.lt_size e
            rcases List.mem_cons.mp hb with rfl | hb
            · exact Nat.lt_irrefl _ h3
            · rw [List.mem_singleton.mp hb, psz] at h3
              exact absurd h3 (Nat.not_lt.mpr (Nat.le_succ _))) (Heap.get?_push_of_some _ (Heap.get?_push_of_some _ e))
          obtain ⟨h', g2, d', tk', os'⟩ := s'
          have eg : g2 = s.gens := hm.gens
          have ed : d' = s.drawn := hm.drawn
          have eo : os' = s.os := hm.os
          subst eg; subst ed; subst eo
          show wpAny _ _ _ _ _ _
          refine wpAny_pure ?_
          show wpAny _ _ (ret Value.none) _ _ _
          exact wpAny_pure ⟨rfl, h', tk', c, rfl, hS', by omega, hkp⟩
      · cases r₂ with
        | error e => exact hr₂
        | ok fl₂ =>
          cases fl₂ with
          | ret r =>
            obtain ⟨rfl, h', tk, c, rfl, hS', hc', hk'⟩ := hr₂
            repeat (any_goals (first | assumption | wp_step))
            exact h _ _ _ hS' hc' hk'
          | _ => exact hr₂.elim
    | _ => exact hr.elim
end
theorem vals_ints : ∀ {vs : List Value} {ks : List Int}, IntsAre vs ks → Vals (ks.map V.int) vs
  | _, _, .nil => .nil
  | _, _, .cons k t h => .cons ⟨t, rfl⟩ (vals_ints h)
theorem dataLe_ints (ks : List Int) : (ks.mergeSort (PySem.W.dataLe false PyData.int)).Pairwise (· ≤ ·) := by
  have e : PySem.W.dataLe false PyData.int = fun a b : Int => decide (a ≤ b) := PySem.W.dataLe_int id
  rw [e]
  have := List.pairwise_mergeSort (le := fun a b : Int => decide (a ≤ b)) (fun a b c h1 h2 => by simp at *; omega) (fun a b => by simp; omega) ks
  exact this.imp fun h => by simpa using h
section
variable {X : Cx}
/-- sorted(set(xs)), xs whole numbers -/
theorem pe_sortSetI {K : PySem.W.Frag} {a : Expr} {ta : TE} {p p2 q pos : Pos} (hc : X.calm = true) (hu : X.A.units + 64 < cLine) (hg : Gl X "sorted") (hm : X.mg "sorted" = none) (hg2 : Gl X "set") (hm2 : X.mg "set" = none) (ha : PE X a ta) (hK : X.K = K := by rfl)
    (na : starEach [a] X.env = (false, eval a X.env) :: starEach [] X.env := by rfl) : PE X (.Call (.Name "sorted" p) [.Call (.Name "set" p2) [a] [] q] [] pos) (fun σ H Q => ta σ H fun x H1 => ∃ (l : Addr) (ns : List Int), x = .ref l ∧ SqL K H1 l (ns.map V.int) ∧ ns.length < 4000 ∧
      ∀ (b : Addr) (ls : List Int), ls.Pairwise (· < ·) → (∀ k, k ∈ ls ↔ k ∈ ns) → H1 b = none → Q (.ref b) (upd H1 b (.lst (ls.map V.int)))) := by
  subst hK
  refine ⟨fun pins s σ H Q I h => ?_⟩
  refine Call_ (ld_blt I hg hm (u := .builtin "sorted") (by decide +kernel) (PyProof.Rows.callWith_builtin1 (PyProof.Rows.args_cons ?_ rfl) rfl rfl))
  refine Call_ (ld_blt I hg2 hm2 PyProof.Rows.boot_set ?_)
  refine PyProof.Rows.callWith_type1 (PyProof.Rows.args_cons (thn (ha.run pins s σ H _ I h) fun v s1 ⟨x, H1, I1, r1, q1⟩ => PyProof.Rows.args_nil ?_) na) na rfl
  obtain ⟨l, ns, rfl, hL, hz, qq⟩ := q1
  cases r1
  obtain ⟨its, r, pl, _⟩ := I1.list hL
  refine call_set_listI ns (I1.ok.hd hc) pl.isList (by simpa using r.ints) (by unfold scanBound; omega) fun h' tk c R hcl hk => ?_
  have I2 : Inv X pins σ H1 { s1 with heap := h', toks := tk } := I1.kept hk
  refine PyProof.Rows.args_nil ?_
  obtain ⟨o, es, ep, t, ho, hex, hd, g, nd, hmm, hb, hf, hn, hr, hl⟩ := R
  refine Calls.call_function_entry PyProof.Rows.kind_sorted PyProof.Rows.plain_sorted PyProof.Rows.entry_sorted (PyProof.Rows.args_sorted1 _) ?_
  unfold Builtin.«sorted»
  refine wpAny_bind (m := checkCount "sorted" 1 1 _) (wpAny_pure ?_)
  refine wpAny_bind (collect_set (A := X.A.in1) (I2.ok.hd hc) ⟨o, ho, hex.1, hd⟩ hf hb hr hl fun s2 out k2 _ g2 o2 pm2 => ?_)
  have hI : IntsAre out (out.map Builtin.Re.reRawOf) := L2.ints_of out fun v hv => by
    obtain ⟨e, he, q⟩ := List.mem_map.mp (pm2.mem_iff.mp hv)
    obtain ⟨k, tk, h1, _⟩ := g e he
    exact ⟨k, tk, by rw [← q]; exact h1⟩
  have pk : (out.map Builtin.Re.reRawOf).Perm (es.toList.map keyOf) := by
    have q := pm2.map Builtin.Re.reRawOf
    rw [List.map_map] at q
    exact q
  generalize out.map Builtin.Re.reRawOf = ks at hI pk
  have I3 : Inv X pins σ H1 s2 := by
    obtain ⟨h2, gg, dr, tt, os⟩ := s2
    have eg : gg = s1.gens := g2
    have eo : os = s1.os := o2
    subst eg eo
    exact I1.call (ch := []) (Un.kept fun b u e => k2 b u (hk b u e)) (I1.hok.kept fun b u e => k2 b u (hk b u e)) I1.bare (fun _ z => nomatch z)
  have hkl : ks.length ≤ ns.length := by
    rw [pk.length_eq, List.length_map, Array.length_toList]
    omega
  refine sort_tail I3 hu (v := V.int) (dd := PyData.int) (ys := ks) (vals_ints hI) (fun y hy => ⟨.int _, by simp [PyData.depth]⟩) (fun d1 h1 d2 h2 => ?_) ?_ (by rw [sizeLine_eq]; omega) (fun b hb => qq b _ (lt_of_le_nodup _ (dataLe_ints ks) ?_) (fun k => ?_) hb) fun l s' h => ⟨_, rfl, h⟩
  · obtain ⟨k1, _, rfl⟩ := List.mem_map.mp h1
    obtain ⟨k2, _, rfl⟩ := List.mem_map.mp h2
    simp [PySem.W.alike]
  · exact .inr fun d hd => by
      obtain ⟨k1, _, rfl⟩ := List.mem_map.mp hd
      exact ⟨by simp, by simp⟩
  · exact ((List.mergeSort_perm _ _).trans pk).nodup_iff.mpr nd
  · rw [((List.mergeSort_perm _ _).trans pk).mem_iff, ← hmm k]
    exact decide_eq_true_iff
end
end Pf


namespace Pf
open PySem PySem.Spec PyProof.Rows L2
theorem room65 {k : Nat} {A : Around} (r : Room k A) : A.units + 65 < cLine := by have := r.un; omega
/-- what one came from, as it stands in the heap -/
def CmV (H : Hp) (v : V) : Option Fo → Prop
  | none => v = .non
  | some c => FoAt H v c
theorem CmV.mono {H H' : Hp} {v : V} {o : Option Fo} (t : TupK H H') (h : CmV H v o) : CmV H' v o := by
  cases o with
  | none => exact h
  | some c => exact FoAt.mono _ _ _ _ t h
def Came (P : Program) (w : World) (H : Hp) (D : Addr) (T : List (Fo × Option Fo)) : Prop := ∃ kvs : List (Fq × V), DF P w FkT H D kvs ∧ Paired (fun kv t => kv.1 = t.1 ∧ CmV H kv.2 t.2) kvs T
theorem Came.ext {P : Program} {w : World} {H H' : Hp} {D : Addr} {T : List (Fo × Option Fo)} (h : Came P w H D T) (k : Ext H H') : Came P w H' D T := by
  obtain ⟨kvs, d, p⟩ := h
  exact ⟨kvs, d.ext keyT k, paired_imp (fun _ _ z => ⟨z.1, z.2.mono (TupK.ext k)⟩) p⟩
theorem paired_fst {H : Hp} : ∀ {kvs : List (Fq × V)} {T : List (Fo × Option Fo)}, Paired (fun kv t => kv.1 = t.1 ∧ CmV H kv.2 t.2) kvs T → kvs.map (·.1) = T.map (·.1)
  | _, _, .nil => rfl
  | _, _, .cons h t => by rw [List.map_cons, List.map_cons, h.1, paired_fst t]
theorem Came.get {P : Program} {w : World} {H : Hp} {D : Addr} {T : List (Fo × Option Fo)} (h : Came P w H D T) (hn : (T.map (·.1)).Nodup) {i : Nat} {k : Fo} {o : Option Fo} (e : T[i]? = some (k, o)) : ∃ (kvs : List (Fq × V)) (v : V), DF P w FkT H D kvs ∧ valV kvs k = some v ∧ CmV H v o := by
  obtain ⟨kvs, d, p⟩ := h
  have hl : kvs.length = T.length := Paired.length p
  have hi := (List.getElem?_eq_some_iff.mp e).1
  obtain ⟨u, hu⟩ : ∃ u, kvs[i]? = some u := ⟨_, List.getElem?_eq_getElem (by omega)⟩
  obtain ⟨t, ht, h1, h2⟩ := paired_get p hu
  rw [e] at ht
  cases ht
  refine ⟨kvs, u.2, d, val_memF (by rw [paired_fst p]; exact hn) (List.mem_of_getElem? (i := i) (by rw [hu]; exact congrArg some (Prod.ext h1 rfl))), h2⟩
theorem atI_end {xs : List V} (h : 0 < xs.length) : atI xs (-1) = xs[xs.length - 1]? := by
  obtain ⟨ys, v, rfl⟩ : ∃ ys v, xs = ys ++ [v] := ⟨xs.dropLast, xs.getLast (List.ne_nil_of_length_pos h), (List.dropLast_concat_getLast _).symm⟩
  rw [atI_last ys v, List.length_append, List.length_singleton, Nat.add_sub_cancel, List.getElem?_append_right (Nat.le_refl _), Nat.sub_self]
  rfl
theorem paired_rev {α β : Type} {R : α → β → Prop} : ∀ {xs : List α} {ys : List β}, Paired R xs ys → Paired R xs.reverse ys.reverse
  | _, _, .nil => .nil
  | _, _, .cons r t => by
    rw [List.reverse_cons, List.reverse_cons]
    exact paired_app (paired_rev t) (.cons r .nil)
section
variable {P : Program} {w : World} {K : PySem.W.Frag} {mg : Str → Option Value} {base : Heap}
abbrev s_way_back : Stmt := topS 23
theorem sc_way_back : FnScope ["came", "folding", "way"] ["came", "folding"] (defScope s_way_back) :=
  ⟨rfl, rfl, rfl, by decide +kernel, rfl, by decide +kernel, by decide +kernel⟩
def spBack (P : Program) (w : World) : Sp := fun vs H Q _ => ∃ (D b : Addr) (T : List (Fo × Option Fo)) (q0 : Fo), vs = [.ref D, .ref b] ∧ Came P w H D T ∧ FkT H b q0 ∧ q0 ∈ T.map (·.1) ∧ (T.map (·.1)).Nodup ∧ Rooted T ∧ T.length ≤ 15511 ∧
  ∀ (p : Addr) (ws : List V) (W : List Fo) (H' : Hp), H p = none → H' p = some (.lst ws) → Paired (FoAt H') ws W → Back T q0 W → W.length ≤ 15511 → Ext H H' → Q (.ref p) H'
theorem ok_back {f : Addr} {fd : FuncData} {n : Nat} (F : Fun K "way_back" "way_back" s_way_back f fd) : FnOk P w K mg base CX0 (n + 1) f fd ["came", "folding"] (spBack P w) := by
  refine F.ok sc_way_back (fun vs H Q E h => ?_) (fun cdv A outer s H vs Q E hr h => ?_)
  · obtain ⟨D, b, T, q0, rfl, _⟩ := h
    rfl
  · obtain ⟨D, b, T, q0, rfl, hT, hb, hq, hnd, hro, hTl, q⟩ := h
    refine ⟨_, (pss_cons (ps_set (i := 2) sc_way_back.nd rfl (.inl rfl) (pe_lst (pa_cons (pv 1) pa_nil)))
      (pss_cons (ps_while PassesOwn.never (pt_cmpR op_notN (pe_fget (P := P) (w := w) hr.units (pv 0) (pe_ix (ixL K) (pv 2) (pe_un un_neg pe_int) (fun _ _ => rfl)) (fun _ _ => rfl)) pe_non (nomark _)) (pss_one (ps_expr (pe_bm PySem.F.plainAttrs_list PySem.F.slot_list_append PySem.F.type_list_append mt_append (pv 2) (pa_cons (pe_fget (P := P) (w := w) hr.units (pv 0) (pe_ix (ixL K) (pv 2) (pe_un un_neg pe_int) (fun _ _ => rfl)) (fun _ _ => rfl)) pa_nil)))))
      (pss_one (ps_ret (pe_revL (pv 2)))))), ?_⟩
    refine ⟨_, rfl, szL (show 1 ≤ 1000000 by decide), fun l hl => ?_⟩
    have x1 := Ext.new (o := .lst [.ref b]) hl
    obtain ⟨z0, hz0, ez0⟩ := List.mem_map.mp hq
    obtain ⟨i0, hi0, e0⟩ := List.mem_iff_getElem.mp hz0
    refine ⟨fun m σ Hc => ∃ (L : List Fo) (k : Fo) (o : Option Fo) (ws : List V), T[m]? = some (k, o) ∧ σ = [some (.ref D), some (.ref b), some (.ref l)] ∧ Hc l = some (.lst ws) ∧ Paired (FoAt Hc) ws (L ++ [k]) ∧ (∀ W, Back T k W → Back T q0 (W ++ L.reverse)) ∧ L.length + m < T.length ∧ Ext H Hc,
      ⟨i0, [], q0, z0.2, [.ref b], by rw [List.getElem?_eq_getElem hi0, e0, ← ez0], rfl, upd_same, .cons (FoAt.mono _ _ _ _ (TupK.ext x1) hb) .nil, fun W h => by rw [List.reverse_nil, List.append_nil]; exact h, by rw [List.length_nil]; omega, x1⟩, fun m σ Hc hW => ?_⟩
    obtain ⟨L, k, o, ws, hk, rfl, hw, hP, hB, hlen, kx⟩ := hW
    have hB' := hP
    have hwl := paired_len hP
    rw [List.length_append, List.length_singleton] at hwl
    obtain ⟨u, hu⟩ : ∃ u, ws[L.length]? = some u := ⟨_, List.getElem?_eq_getElem (by omega)⟩
    obtain ⟨k', hk', hF⟩ := paired_get hP hu
    rw [List.getElem?_append_right (Nat.le_refl _), Nat.sub_self] at hk'
    cases hk'
    obtain ⟨bk, bks, rfl, hbk⟩ := id hF
    have hTc := hT.ext kx
    obtain ⟨kvs, v, hD, hv, hc⟩ := hTc.get hnd hk
    have hlast : atI ws (-1) = some (.ref bk) := by
      rw [atI_end (by omega), ← hu]
      exact congrArg (ws[·]?) (by omega)
    refine ⟨_, rfl, _, rfl, 1, rfl, l, ws, -1, _, rfl, rfl, SqL.of hw, hlast, D, bk, kvs, k, v, rfl, rfl, hD.r keyT, keyT.imp hF, hv, rfl, _, rfl, ?_⟩
    cases o with
    | none =>
      have hc : v = .non := hc
      subst hc
      refine iteF ⟨_, rfl, l, ws, rfl, SqL.of hw, fun p hp => ?_⟩
      have x2 := Ext.new (o := .lst ws.reverse) hp
      refine q p ws.reverse (L ++ [k]).reverse _ (Ext.none kx hp) upd_same (paired_rev (paired_imp (fun _ _ => FoAt.mono _ _ _ _ (TupK.ext x2)) hB')) ?_ (by rw [List.length_reverse, List.length_append, List.length_singleton]; omega) (kx.trans x2)
      rw [List.reverse_append]
      exact hB _ (.root (List.mem_of_getElem? hk))
    | some c =>
      obtain ⟨bc, bcs, rfl, hbc⟩ := id hc
      refine iteT ⟨fun σ' H' => ∃ (L' : List Fo) (j : Nat) (o : Option Fo) (ws' : List V), j < m ∧ T[j]? = some (c, o) ∧ σ' = [some (.ref D), some (.ref b), some (.ref l)] ∧ H' l = some (.lst ws') ∧ Paired (FoAt H') ws' (L' ++ [c]) ∧ (∀ W, Back T c W → Back T q0 (W ++ L'.reverse)) ∧ L'.length + j < T.length ∧ Ext H H',
        fun σ' H' ⟨L', j, o, ws', h1, h2, h3, h4, h5, h6, h7, h8⟩ => ⟨j, h1, L', c, o, ws', h2, h3, h4, h5, h6, h7, h8⟩, ?_⟩
      obtain ⟨j, o', hj, hTj⟩ := hro m k c hk
      refine ⟨_, rfl, .inl ⟨rfl, _, SqL.of hw⟩, _, rfl, _, rfl, 1, rfl, l, ws, -1, _, rfl, rfl, SqL.of hw, hlast, D, bk, kvs, k, _, rfl, rfl, hD.r keyT, keyT.imp hF, hv, l, ws, _, rfl, rfl, hw, szLt (by omega), ?_⟩
      have tk : TupK Hc (upd Hc l (.lst (ws ++ [.ref bc]))) := TupK.lst hw
      refine ⟨L ++ [k], j, o', ws ++ [.ref bc], hj, hTj, rfl, upd_same, paired_app (paired_imp (fun _ _ => FoAt.mono _ _ _ _ tk) hB') (.cons (FoAt.mono Hc _ _ _ tk (show FoAt Hc (.ref bc) c from hc)) .nil), fun W h => ?_, by rw [List.length_append, List.length_singleton]; omega, kx.put hl⟩
      rw [List.reverse_append]
      have := hB _ (.step (List.mem_of_getElem? hk) h)
      rw [List.append_assoc] at this
      exact this
end
end Pf


namespace Pf
open PySem PySem.Spec PyProof.Rows L2 HT
/-! ### great numbers multiplied and halved in their place -/
def ipMW : TIp := fun x y H Q => ∃ i j, x = .int i ∧ y = .int j ∧ CMulW i j ∧ Q (.int (i * j)) H
theorem ip_mulW {X : Cx} : PIp X .Mult ipMW := by
  intro pins s σ H x y v u Q I r1 r2 h
  obtain ⟨i, j, e1, e2, hc, q⟩ := h
  subst e1; subst e2
  obtain ⟨t, rfl⟩ := r1
  obtain ⟨t', rfl⟩ := r2
  exact imul_int ⟨.int _, H, I.tok _, ⟨_, rfl⟩, q⟩ hc.ok
def ipFW : TIp := fun x y H Q => ∃ i j, x = .int i ∧ y = .int j ∧ j ≠ 0 ∧ j.natAbs.log2 < 9000 ∧ Q (.int (i.fdiv j)) H
theorem ip_fdW {X : Cx} : PIp X .FloorDiv ipFW := by
  intro pins s σ H x y v u Q I r1 r2 h
  obtain ⟨i, j, e1, e2, h0, hc, q⟩ := h
  subst e1; subst e2
  obtain ⟨t, rfl⟩ := r1
  obtain ⟨t', rfl⟩ := r2
  exact ifloordiv_int h0 ⟨.int _, H, I.tok _, ⟨_, rfl⟩, q⟩ (.inl (PyProof.noPylong_of_log2 hc))
theorem maxL (K : PySem.W.Frag) {X : Cx} (hc : X.calm = true) (h : X.K = K := by rfl) : CallR X (.builtin "max") (rMax K) := h ▸ cr_max hc
/-- a dict comprehension over a list that stays -/
theorem dc_list {K : PySem.W.Frag} {a : Addr} {xs : List V} {g : TG} {tt : TT} {tk tv : TE} {vs : List Nat} {σ : L2.St} {H1 : Hp} {D : Addr} {Qd : Hp → Prop} (Pv : Nat → Hp → Prop) (h0 : Pv 0 (upd H1 D (.dK []))) (hl : ∀ i H, i ≤ xs.length → Pv i H → SqL K H a xs)
    (hs : ∀ i x H, xs[i]? = some x → Pv i H → g x (wipe σ vs) H fun σ2 H2 => wipe σ2 vs = wipe σ vs ∧ tt σ2 H2 fun b H3 =>
      if b = true then tk σ2 H3 fun y H4 => tv σ2 H4 fun z H5 => ∃ kvs k, y = kV k ∧ H5 D = some (.dK kvs) ∧ kvs.length < sizeLine ∧ Pv (i + 1) (upd H5 D (.dK (putK kvs k z))) else Pv (i + 1) H3) (hd : ∀ H, Pv xs.length H → Qd H) :
    ∃ W : Nat → Nat → Hp → Prop, (∃ m, W 0 m (upd H1 D (.dK []))) ∧ ∀ i m H, W i m H →
      ((Itl K a).stop i H ∧ Qd H) ∨ ((Itl K a).go i H ∧ ∃ Nx : Hp → Prop, (∀ H', Nx H' → ∃ m', m' < m ∧ W (i + 1) m' H') ∧ ∀ x H', (Itl K a).yld i H x H' → g x (wipe σ vs) H' fun σ2 H2 => wipe σ2 vs = wipe σ vs ∧ tt σ2 H2 fun b H3 =>
        if b = true then tk σ2 H3 fun y H4 => tv σ2 H4 fun z H5 => ∃ kvs k, y = kV k ∧ H5 D = some (.dK kvs) ∧ kvs.length < sizeLine ∧ Nx (upd H5 D (.dK (putK kvs k z))) else Nx H3) := by
  refine ⟨fun i m H => m = xs.length - i ∧ i ≤ xs.length ∧ Pv i H, ⟨xs.length, by simp, Nat.zero_le _, h0⟩, ?_⟩
  rintro i m H ⟨rfl, hi, p⟩
  have q := hl i H hi p
  by_cases hlt : i < xs.length
  · refine .inr ⟨⟨xs, xs[i], q, by simp [hlt]⟩, Pv (i + 1), fun H' p' => ⟨xs.length - (i + 1), by omega, rfl, hlt, p'⟩, fun x H' y => ?_⟩
    obtain ⟨e, y⟩ := y
    subst e
    exact hs i x _ (y xs q) p
  · have e : i = xs.length := by omega
    subst e
    exact .inl ⟨⟨xs, q, Nat.le_refl _⟩, hd H p⟩
end Pf


namespace Pf
open PySem PySem.Spec PyProof.Rows L2
/-- a row of what waits: its worth and the folding -/
def WtAt (r : Rl) (x : Str) (H : Hp) (v : V) (q : Fo) : Prop := ∃ t bq, v = .ref t ∧ H t = some (.tup [.int (woV r x q), .ref bq]) ∧ FkT H bq q
theorem WtAt.mono {r : Rl} {x : Str} : Mono (WtAt r x) := fun H H' v q t ⟨a, b, e, h1, h2⟩ => ⟨a, b, e, t.tup _ _ h1, FoAt.mono _ _ _ _ t h2⟩
theorem WtAt.dp {K : PySem.W.Frag} {r : Rl} {x : Str} {H : Hp} {v : V} {q : Fo} (h : WtAt r x H v q) : Dp K H v (dRw r x q) := by
  obtain ⟨a, b, rfl, h1, h2⟩ := h
  exact .tup (SqT.of h1) (.cons (.int _) (.cons (dp_fo (v := .ref b) h2) .nil))
theorem dpWts {K : PySem.W.Frag} {r : Rl} {x : Str} {H : Hp} : ∀ {vs : List V} {L : List Fo}, Paired (WtAt r x H) vs L → DpAll K H vs (L.map (dRw r x))
  | _, _, .nil => .nil
  | _, _, .cons h t => .cons h.dp (dpWts t)
theorem paired_erase {α β : Type} {R : α → β → Prop} : ∀ {xs : List α} {ys : List β} (j : Nat), Paired R xs ys → Paired R (xs.eraseIdx j) (ys.eraseIdx j)
  | _, _, _, .nil => .nil
  | _, _, 0, .cons _ t => t
  | _, _, j + 1, .cons r t => .cons r (paired_erase j t)
theorem may_prR {r : Rl} {x : Str} {i j : Int} (h : mayC r x i j = true) : tx2 x (i, j) ∈ r.prs.map (·.1) := by
  unfold mayC at h
  rw [Bool.and_eq_true] at h
  exact of_decide_eq_true h.2
theorem Back.len {T : List (Fo × Option Fo)} {k : Fo} {W : List Fo} (h : Back T k W) : ∃ n, W.length = n := ⟨_, rfl⟩
theorem Came.is {P : Program} {w : World} {H : Hp} {D : Addr} {T : List (Fo × Option Fo)} (h : Came P w H D T) : ∃ kvs : List (Fq × V), DF P w FkT H D kvs ∧ kvs.length = T.length ∧ (∀ k, (valV kvs k).isSome = decide (k ∈ T.map (·.1))) ∧ Paired (fun kv t => kv.1 = t.1 ∧ CmV H kv.2 t.2) kvs T := by
  obtain ⟨kvs, d, p⟩ := h
  refine ⟨kvs, d, Paired.length p, fun k => ?_, p⟩
  rw [← paired_fst p]
  clear p d
  induction kvs with
  | nil => rfl
  | cons y t ih =>
    by_cases e : y.1 = k
    · rw [valV_pos e]
      simp [e]
    · rw [valV_neg e, ih, List.map_cons]
      refine decide_eq_decide.mpr ⟨fun h => List.mem_cons_of_mem _ h, fun h => ?_⟩
      rcases List.mem_cons.mp h with z | z
      · exact absurd z.symm e
      · exact z
theorem Came.put {P : Program} {w : World} {H : Hp} {D : Addr} {T : List (Fo × Option Fo)} {kvs : List (Fq × V)} (p : Paired (fun kv t => kv.1 = t.1 ∧ CmV H kv.2 t.2) kvs T) {k : Fo} (hk : k ∉ T.map (·.1)) {v : V} {c : Fo} {o : HO} (hv : FoAt H v c) (tk : TupK H (upd H D o)) (d : DF P w FkT (upd H D o) D (putK kvs k v)) : Came P w (upd H D o) D (T ++ [(k, some c)]) := by
  refine ⟨putK kvs k v, d, ?_⟩
  have e : putK kvs k v = kvs ++ [(k, v)] := by
    unfold putK
    rw [if_neg]
    intro h
    obtain ⟨y, hy, e⟩ := List.any_eq_true.mp h
    rw [← paired_fst p] at hk
    exact hk (List.mem_map.mpr ⟨y, hy, of_decide_eq_true e⟩)
  rw [e]
  exact paired_app (paired_imp (fun _ _ z => ⟨z.1, z.2.mono tk⟩) p) (.cons ⟨rfl, FoAt.mono _ _ _ _ tk hv⟩ .nil)
theorem Came.keeps {P : Program} {w : World} {H H' : Hp} {D : Addr} {T : List (Fo × Option Fo)} (h : Came P w H D T) (t : TupK H H') (e : H' D = H D) : Came P w H' D T := by
  obtain ⟨kvs, d, p⟩ := h
  exact ⟨kvs, d.keeps keyT t e, paired_imp (fun _ _ z => ⟨z.1, z.2.mono t⟩) p⟩
section
variable {P : Program} {w : World} {K : PySem.W.Frag} {mg : Str → Option Value} {base : Heap}
abbrev CBack (P : Program) (w : World) (K : PySem.W.Frag) (mg : Str → Option Value) (base : Heap) : Prop := Ca P w K mg base 1 "way_back" ["came", "folding"] (spBack P w)
abbrev s_lowest_way : Stmt := topS 24
theorem sc_lowest_way : FnScope ["rules", "string", "folding", "other", "came", "now", "waiting", "after", "lowest"] ["rules", "string", "folding", "other"] (defScope s_lowest_way) :=
  ⟨rfl, rfl, rfl, by decide +kernel, rfl, by decide +kernel, by decide +kernel⟩
def spLow : Sp := fun vs H Q _ => ∃ (v : V) (a b : Addr) (r : Rl) (x : Str) (qa qb : Fo), vs = [v, .str x, .ref a, .ref b] ∧ RulesW H v r ∧ RlOk r ∧ x.length ≤ 12 ∧ FkT H a qa ∧ FkT H b qb ∧ qa ∈ AL r x ∧ qb ∈ AL r x ∧
  ∀ (p : Addr) (ws : List V) (W : List Fo) (H' : Hp), H p = none → H' p = some (.lst ws) → Paired (FoAt H') ws W → Way r x qa qb W → (∀ q ∈ W, Low r x qa qb q) → W.length ≤ 15511 → (qa = qb → W = [qa]) → Ext H H' → Q (.ref p) H'
theorem ok_low {f : Addr} {fd : FuncData} (F : Fun K "lowest_way" "lowest_way" s_lowest_way f fd) (csteps_from : CSteps P w K mg base) (cworth_of : CWO P w K mg base) (cway_back : CBack P w K mg base) (mmin : mg "min" = none) : FnOk P w K mg base CX0 6 f fd ["rules", "string", "folding", "other"] spLow := by
  refine F.ok sc_lowest_way (fun vs H Q E h => ?_) (fun cdv A outer s H vs Q E hr h => ?_)
  · obtain ⟨v, a, b, r, x, qa, qb, rfl, _⟩ := h
    rfl
  · obtain ⟨v, a, b, r, x, qa, qb, rfl, hR, ok, hx, hFa, hFb, haA, hbA, q⟩ := h
    refine ⟨_, (pss_cons (ps_set (i := 4) sc_lowest_way.nd rfl (.inl rfl) (pe_dispF (P := P) (w := w) hr.units (pv 2) pe_non))
      (pss_cons (ps_set (i := 5) sc_lowest_way.nd rfl (.inl rfl) (pv 2))
      (pss_cons (ps_set (i := 6) sc_lowest_way.nd rfl (.inl rfl) (pe_lst pa_nil))
      (pss_cons (ps_while PassesOwn.never (pt_cmpR (neD K hr.units) (pv 5) (pv 3) (nomark _)) (pss_cons (ps_for PassesOwn.never rfl (pi_list (pe_ca csteps_from (hr.mono (by decide)) (by rfl) (pa_cons (pv 0) (pa_cons (pv 1) (pa_cons (pv 5) pa_nil))))) (pg_name (i := 7) sc_lowest_way.nd rfl (.inl rfl)) (pss_one (ps_if (pt_cmp (pc_fnotin (P := P) (w := w) hr.units (pv 7) (pv 4)) rfl) (pss_cons (ps_fput (P := P) (w := w) hr.units (pv 4) (pv 7) (pv 5) rfl)
      (pss_one (ps_expr (pe_bm PySem.F.plainAttrs_list PySem.F.slot_list_append PySem.F.type_list_append mt_append (pv 6) (pa_cons (pe_tup (pa_cons (pe_ca cworth_of (hr.mono (by decide)) (by rfl) (pa_cons (pv 0) (pa_cons (pv 1) (pa_cons (pv 7) pa_nil)))) (pa_cons (pv 7) pa_nil))) pa_nil))))) pss_nil)))
      (pss_cons (ps_set (i := 8) sc_lowest_way.nd rfl (.inl rfl) (pe_callB (minT K rfl hr.units) (by rfl) mmin (by decide +kernel) (pa_cons (pv 6) pa_nil)))
      (pss_cons (ps_expr (pe_bm PySem.F.plainAttrs_list PySem.F.slot_list_remove PySem.F.type_list_remove (mt_remT K (room65 hr)) (pv 6) (pa_cons (pv 8) pa_nil)))
      (pss_one (ps_set (i := 5) sc_lowest_way.nd rfl (.inl rfl) (pe_ix (ixT K) (pv 8) pe_int (fun _ _ => rfl))))))))
      (pss_one (ps_ret (pe_ca cway_back (hr.mono (by decide)) (by rfl) (pa_cons (pv 4) (pa_cons (pv 3) pa_nil))))))))), ?_⟩
    have hAl := AL_len r hx
    have hWk : ∀ z ∈ AL r x, z ∈ WA r x x.length 0 ∧ ∀ y ∈ z, tx2 x y ∈ r.prs.map (·.1) := fun z hz => ⟨AL_mem.mp hz, fun y hy => may_prR ((AL_fo hz).may y hy)⟩
    refine fun C hC => ?_
    have x0 := Ext.new (o := .dK []) hC
    refine ⟨_, rfl, upd_same, FkT, keyT, a, qa, rfl, keyT.mono (TupK.ext x0) hFa, fun o hD => ?_⟩
    have x1 := x0.put (o := o) hC
    generalize upd (upd H C (.dK [])) C o = H1 at hD x1 ⊢
    have hT1 : Came P w H1 C [(qa, none)] := ⟨_, hD, .cons ⟨rfl, rfl⟩ .nil⟩
    refine ⟨_, rfl, Nat.zero_le _, fun wl hwl => ?_⟩
    have x2 := Ext.new (o := .lst []) hwl
    have nCw : C ≠ wl := fun e => by
      obtain ⟨u, hu⟩ := hD.there
      rw [e, hwl] at hu
      cases hu
    have hwlH : H wl = none := Ext.none x1 hwl
    have hFb1 := keyT.mono (TupK.ext (x1.trans x2)) hFb
    refine ⟨fun m σ Hc => ∃ (T : List (Fo × Option Fo)) (Dn : List Fo) (now : Fo) (bn : Addr) (Wt : List Fo) (ws : List V) (y7 y8 : Option V), m + Dn.length = (AL r x).length ∧ σ = [some v, some (.str x), some (.ref a), some (.ref b), some (.ref C), some (.ref bn), some (.ref wl), y7, y8] ∧
        Sch r x qa qb T Dn (Dn ++ [now]) Wt ∧ (qa = qb → now = qa ∧ T = [(qa, none)]) ∧ qb ∉ Dn ∧ FkT Hc bn now ∧ Came P w Hc C T ∧ Hc wl = some (.lst ws) ∧ Paired (WtAt r x Hc) ws Wt ∧ Ext H Hc,
      ⟨_, _, [], qa, a, [], [], none, none, rfl, rfl, Sch.start haA, fun _ => ⟨rfl, rfl⟩, List.not_mem_nil, keyT.mono (TupK.ext (x1.trans x2)) hFa, hT1.ext x2, upd_same, .nil, x1.trans x2⟩, fun m σ Hc hW => ?_⟩
    obtain ⟨T, Dn, now, bn, Wt, ws, y7, y8, hm, rfl, S, hsame, hbD, hFn, hT, hw, hPw, kx⟩ := hW
    have hFbc := keyT.mono (TupK.ext kx) hFb
    have hRc := RulesW.mono _ _ _ _ (TupK.ext kx) hR
    refine ⟨_, rfl, _, rfl, _, _, dp_fo hFn, dp_fo hFbc, shaped_fo _, shaped_fo _, _, rfl, ?_⟩
    rw [eqv_fo]
    by_cases hnow : now = qb
    · rw [decide_eq_true hnow]
      have hbP : qb ∈ Dn ++ [now] := List.mem_append_right _ (List.mem_singleton.mpr hnow.symm)
      refine iteF ⟨_, rfl, _, rfl, C, b, T, qb, rfl, hT, hFbc, S.per.mem_iff.mpr (List.mem_append_left _ hbP), S.nd, S.ro, Nat.le_trans S.len.2 hAl, fun p fs W H' hp hL hP hB hWl k => ?_⟩
      obtain ⟨h1, h2⟩ := S.found haA hbP hB
      exact q p fs W H' (Ext.none kx hp) hL hP h1 h2 hWl (fun e => by
        have hTe := (hsame e).2
        rw [hTe] at hB
        cases hB with
        | root h => exact congrArg (fun z => [z]) e.symm
        | step h t =>
          have := congrArg (·.2) (List.mem_singleton.mp h)
          cases this) (kx.trans k)
    · rw [decide_eq_false hnow]
      refine iteT ⟨fun σ' H' => ∃ (T : List (Fo × Option Fo)) (Dn' : List Fo) (now' : Fo) (bn : Addr) (Wt : List Fo) (ws : List V) (y7 y8 : Option V), Dn'.length = Dn.length + 1 ∧ Dn'.length ≤ (AL r x).length ∧ σ' = [some v, some (.str x), some (.ref a), some (.ref b), some (.ref C), some (.ref bn), some (.ref wl), y7, y8] ∧
        Sch r x qa qb T Dn' (Dn' ++ [now']) Wt ∧ (qa = qb → now' = qa ∧ T = [(qa, none)]) ∧ qb ∉ Dn' ∧ FkT H' bn now' ∧ Came P w H' C T ∧ H' wl = some (.lst ws) ∧ Paired (WtAt r x H') ws Wt ∧ Ext H H',
        fun σ' H' ⟨T, Dn', now', bn, Wt, ws, y7, y8, h0, h1, h2, h3, h10, h4, h5, h6, h7, h8, h9⟩ => ⟨(AL r x).length - Dn'.length, by omega, T, Dn', now', bn, Wt, ws, y7, y8, by omega, h2, h3, h10, h4, h5, h6, h7, h8, h9⟩, ?_⟩
      have hnA : now ∈ AL r x := S.sub _ (S.per.mem_iff.mpr (List.mem_append_left _ (List.mem_append_right _ (List.mem_singleton.mpr rfl))))
      -- the steps
      refine ⟨_, rfl, _, rfl, _, rfl, v, bn, r, x, now, rfl, hRc, ok, hx, hFn, hnA, fun pf fs H2 hpf hLf hPf k2 => ?_⟩
      have npC : pf ≠ C := fun e => by
        obtain ⟨kvs, hd, _⟩ := hT
        obtain ⟨u, hu⟩ := hd.there
        rw [e, hu] at hpf
        cases hpf
      have npw : pf ≠ wl := fun e => by rw [e, hw] at hpf; cases hpf
      have hfl := paired_len hPf
      have hNl : (SF (nb r x now)).length ≤ 15511 := by
        rw [SF_len]
        exact Nat.le_trans nb_len hAl
      refine ⟨pf, rfl, ⟨_, SqL.of hLf⟩, for_list (K := K) (xs := fs) (fun i σ H3 => ∃ (T' : List (Fo × Option Fo)) (Wt' : List Fo) (ws' : List V) (y7 : Option V), σ = [some v, some (.str x), some (.ref a), some (.ref b), some (.ref C), some (.ref bn), some (.ref wl), y7, y8] ∧ Sch r x qa qb T' Dn (Dn ++ [now]) Wt' ∧
          (∀ z ∈ (SF (nb r x now)).take i, z ∈ T'.map (·.1)) ∧ Came P w H3 C T' ∧ H3 wl = some (.lst ws') ∧ Paired (WtAt r x H3) ws' Wt' ∧ H3 pf = some (.lst fs) ∧ TupK H2 H3 ∧ Ext H H3)
        ⟨T, Wt, ws, y7, rfl, S, (fun z hz => by rw [List.take_zero] at hz; cases hz), hT.ext k2, k2 _ _ hw, paired_imp (fun _ _ => WtAt.mono _ _ _ _ (TupK.ext k2)) hPw, hLf, TupK.refl, kx.trans k2⟩ (fun i σ H3 _ h => by obtain ⟨_, _, _, _, _, _, _, _, _, _, h, _⟩ := h; exact SqL.of h) (fun i u σ H3 hi hv => ?_) (fun σ H3 hv => ?_)⟩
      · obtain ⟨T', Wt', ws', y7, rfl, S', hN, hT', hw', hPw', hpf', tk3, kx3⟩ := hv
        obtain ⟨z, hz, hzF⟩ := paired_get hPf hi
        have hzF3 := FoAt.mono _ _ _ _ tk3 hzF
        obtain ⟨bz, bzs, rfl, hbz⟩ := id hzF3
        have hzn : z ∈ nb r x now := SF_mem.mp (List.mem_of_getElem? hz)
        have hFn3 := keyT.mono (TupK.trans (TupK.ext k2) tk3) hFn
        have hzt : (SF (nb r x now)).take (i + 1) = (SF (nb r x now)).take i ++ [z] := by rw [List.take_add_one, hz]; rfl
        obtain ⟨kvs, hD', hkl, hks, hkp⟩ := hT'.is
        refine ⟨_, rfl, _, rfl, C, bz, kvs, z, rfl, rfl, keyT.imp hzF3, hD'.r keyT, _, rfl, ?_⟩
        rw [hks]
        by_cases hzT : z ∈ T'.map (·.1)
        · rw [decide_eq_true hzT]
          refine iteF ⟨T', Wt', ws', _, rfl, S', fun y hy => ?_, hT', hw', hPw', hpf', tk3, kx3⟩
          rw [hzt] at hy
          rcases List.mem_append.mp hy with hy | hy
          · exact hN y hy
          · rw [List.mem_singleton.mp hy]
            exact hzT
        · rw [decide_eq_false hzT]
          have S4 := S'.add hzT hzn (List.mem_append_right _ (List.mem_singleton.mpr rfl))
          have hl4 := S4.len
          have hwl' := paired_len hPw'
          simp only [List.length_append, List.length_singleton] at hl4
          have hT'l := S'.len.2
          refine iteT ⟨_, rfl, _, rfl, _, rfl, FkT, keyT, C, bz, kvs, z, rfl, rfl, .inl hD', hzF3, szLt (by omega), fun o hDo => ?_⟩
          have tk4 : TupK H3 (upd H3 C o) := mut_tk hD'.mut
          have hT4 := Came.put hkp hzT hFn3 tk4 hDo
          have hw4 : upd H3 C o wl = some (.lst ws') := by rw [upd_ne nCw.symm]; exact hw'
          have hp4 : upd H3 C o pf = some (.lst fs) := by rw [upd_ne npC]; exact hpf'
          have kx4 : Ext H (upd H3 C o) := kx3.put hC
          have hz4 : FoAt (upd H3 C o) (.ref bz) z := FoAt.mono _ _ _ _ tk4 hzF3
          have hPw4 := paired_imp (fun _ _ => WtAt.mono _ _ _ _ tk4) hPw'
          have tk24 := tk3.trans tk4
          generalize upd H3 C o = H4 at hT4 hw4 hp4 kx4 hz4 hPw4 tk24 ⊢
          clear hDo tk4 hkp hks hD' hT' hw' hPw' hpf' hzF3 hFn3
          refine ⟨_, rfl, .inl ⟨rfl, _, SqL.of hw4⟩, _, rfl, _, rfl, _, rfl, v, .ref bz, r, x, z, r, rfl, RulesW.mono _ _ _ _ (TupK.ext kx4) hR, ok, by omega, hz4, hx, (hWk z (nb_sub hzn)).1, (hWk z (nb_sub hzn)).2, fun H5 k5 => ?_⟩
          refine ⟨_, rfl, szL (show 2 ≤ 1000000 by decide), fun t ht => ⟨wl, ws', .ref t, rfl, rfl, Ext.new ht _ _ (k5 _ _ hw4), szLt (by omega), ?_⟩⟩
          have x5 := k5.trans (Ext.new (o := .tup [.int (woV r x z), .ref bz]) ht)
          have hw5 := x5 _ _ hw4
          have hzF5 := FoAt.mono _ _ _ _ (TupK.ext x5) hz4
          have hT5 := hT4.ext x5
          have hPw5 := paired_imp (fun _ _ => WtAt.mono _ _ _ _ (TupK.ext x5)) hPw4
          have ht5 : upd H5 t (.tup [.int (woV r x z), .ref bz]) t = some (.tup [.int (woV r x z), .ref bz]) := upd_same
          have hp5 := x5 _ _ hp4
          have tk25 := tk24.trans (TupK.ext x5)
          have kx5 := kx4.trans x5
          generalize upd H5 t (.tup [.int (woV r x z), .ref bz]) = H6 at hw5 hzF5 hT5 hPw5 ht5 hp5 tk25 kx5 ⊢
          have tk6 : TupK H6 (upd H6 wl (.lst (ws' ++ [.ref t]))) := TupK.lst hw5
          refine ⟨T' ++ [(z, some now)], Wt' ++ [z], ws' ++ [.ref t], _, rfl, S4, fun y hy => ?_, hT5.keeps tk6 (upd_ne nCw), upd_same, paired_app (paired_imp (fun _ _ => WtAt.mono _ _ _ _ tk6) hPw5) (.cons ⟨t, bz, rfl, tk6.tup _ _ ht5, FoAt.mono _ _ _ _ tk6 hzF5⟩ .nil), by rw [upd_ne npw]; exact hp5, tk25.trans tk6, kx5.put hwlH⟩
          rw [hzt] at hy
          rw [List.map_append]
          rcases List.mem_append.mp hy with hy | hy
          · exact List.mem_append_left _ (hN y hy)
          · rw [List.mem_singleton.mp hy]
            exact List.mem_append_right _ (List.mem_singleton.mpr rfl)
      · obtain ⟨T', Wt', ws', y7, rfl, S', hN, hT', hw', hPw', hpf', tk3, kx3⟩ := hv
        have hfl2 : fs.length = (SF (nb r x now)).length := hfl
        have S2 := S'.full fun z hz => hN z (by rw [hfl2, List.take_length]; exact SF_mem.mpr hz)
        have hbD2 : qb ∉ Dn ++ [now] := fun h => by
          rcases List.mem_append.mp h with h | h
          · exact hbD h
          · exact hnow (List.mem_singleton.mp h).symm
        have hne := S2.ne hbD2 haA hbA
        have hwl' := paired_len hPw'
        have hpos : 0 < Wt'.length := List.length_pos_iff.mpr hne
        have hl2 := S2.len
        have e1 : (ws'.zip Wt').map (·.1) = ws' := List.map_fst_zip (by omega)
        have e2 : (ws'.zip Wt').map (·.2) = Wt' := List.map_snd_zip (by omega)
        have hall : ∀ i (p : V × Fo), (ws'.zip Wt')[i]? = some p → ws'[i]? = some p.1 ∧ Wt'[i]? = some p.2 ∧ WtAt r x H3 p.1 p.2 := fun i p hp => by
          obtain ⟨h1, h2⟩ := List.getElem?_zip_eq_some.mp hp
          obtain ⟨z, hz, hzF⟩ := paired_get hPw' h1
          rw [h2] at hz
          cases hz
          exact ⟨h1, h2, hzF⟩
        have hallm : ∀ p ∈ ws'.zip Wt', WtAt r x H3 p.1 p.2 := fun p hp => by
          obtain ⟨i, hi, rfl⟩ := List.mem_iff_getElem.mp hp
          exact (hall i _ (List.getElem?_eq_getElem hi)).2.2
        -- the lowest
        refine ⟨_, rfl, V × Fo, fun p => p.1, fun p => dRw r x p.2, wl, ws'.zip Wt', rfl, SqL.of (by rw [e1]; exact hw'), fun p hp => ⟨(hallm p hp).dp, ?_, fun z => by cases z⟩, fun d1 h1 d2 h2 => ?_, by rw [List.length_zip]; omega, fun p hp hmin => ?_⟩
        · have := dep_fo p.2
          simp only [dRw, PyData.depth, PyData.depthAll]
          omega
        · obtain ⟨p1, _, rfl⟩ := List.mem_map.mp h1
          obtain ⟨p2, _, rfl⟩ := List.mem_map.mp h2
          exact alike_rw r x _ _
        · obtain ⟨j, hj, rfl⟩ := List.mem_iff_getElem.mp hp
          obtain ⟨hj1, hj2, hjW⟩ := hall j _ (List.getElem?_eq_getElem hj)
          generalize (ws'.zip Wt')[j] = p at hmin hj1 hj2 hjW ⊢
          obtain ⟨pv, l⟩ := p
          dsimp only at hj1 hj2 hjW hmin ⊢
          obtain ⟨t, bl, rfl, ht, hbl⟩ := id hjW
          have hmn : ∀ z ∈ Wt', woV r x l ≤ woV r x z := fun z hz => by
            rw [← e2] at hz
            obtain ⟨p2, hp2, rfl⟩ := List.mem_map.mp hz
            exact le_rw (hmin p2 hp2)
          have S3 := S2.pop hbD2 hj2 hmn
          -- removed
          refine ⟨_, rfl, .inl ⟨rfl, _, SqL.of hw'⟩, _, rfl, wl, ws', Wt'.map (dRw r x), .ref t, dRw r x l, j, dRw r x l, rfl, rfl, hw', dpWts hPw', hjW.dp, shaped_rws r x Wt', shaped_rw r x l, by rw [List.getElem?_map, hj2]; rfl, by rw [eqv_rw, decide_eq_true rfl], fun i z' hij hz' => ?_, ?_⟩
          · rw [List.getElem?_map] at hz'
            obtain ⟨y, hy, rfl⟩ := Option.map_eq_some_iff.mp hz'
            rw [eqv_rw]
            refine decide_eq_false fun e => ?_
            rw [e] at hy
            have h1 := List.getElem?_eq_some_iff.mp hy
            have h2 := List.getElem?_eq_some_iff.mp hj2
            exact List.pairwise_iff_getElem.mp S2.wnd i j h1.1 h2.1 hij (h1.2.trans h2.2.symm)
          · have tk4 : TupK H3 (upd H3 wl (.lst (ws'.eraseIdx j))) := TupK.lst hw'
            refine ⟨_, rfl, t, _, 1, _, rfl, rfl, SqT.of (tk4.tup _ _ ht), rfl, ?_⟩
            exact ⟨T', Dn ++ [now], l, bl, Wt'.eraseIdx j, ws'.eraseIdx j, _, _, by rw [List.length_append]; rfl, by have := S3.len; simp only [List.length_append, List.length_singleton] at this ⊢; omega, rfl, S3, fun e => absurd ((hsame e).1.trans e) hnow, hbD2, FoAt.mono _ _ _ _ tk4 hbl, hT'.keeps tk4 (upd_ne nCw), upd_same, paired_erase j (paired_imp (fun _ _ => WtAt.mono _ _ _ _ tk4) hPw'), kx3.put hwlH⟩
abbrev CLow (P : Program) (w : World) (K : PySem.W.Frag) (mg : Str → Option Value) (base : Heap) : Prop := Ca P w K mg base 6 "lowest_way" ["rules", "string", "folding", "other"] spLow
abbrev s_ridge : Stmt := topS 25
theorem sc_ridge : FnScope ["rules", "string", "folding", "other", "way", "met"] ["rules", "string", "folding", "other"] (defScope s_ridge) :=
  ⟨rfl, rfl, rfl, by decide +kernel, rfl, by decide +kernel, by decide +kernel⟩
def spRidge : Sp := fun vs H Q _ => ∃ (v : V) (a b : Addr) (r : Rl) (x : Str) (qa qb : Fo), vs = [v, .str x, .ref a, .ref b] ∧ RulesW H v r ∧ RlOk r ∧ x.length ≤ 12 ∧ FkT H a qa ∧ FkT H b qb ∧ qa ∈ AL r x ∧ qb ∈ AL r x ∧
  ∀ (t l : Addr) (ws : List V) (W : List Fo) (m : Int) (H' : Hp), H l = none → H' t = some (.tup [.int m, .ref l]) → H' l = some (.lst ws) → Paired (FoAt H') ws W → Way r x qa qb W → (∀ q ∈ W, woV r x q ≤ m) → (∃ q ∈ W, woV r x q = m) → Peak r x qa qb m → W.length ≤ 15511 → (qa = qb → W = [qa]) → Ext H H' → Q (.ref t) H'
theorem ok_ridge {f : Addr} {fd : FuncData} (F : Fun K "ridge" "ridge" s_ridge f fd) (cworth_of : CWO P w K mg base) (clowest_way : CLow P w K mg base) (mmax : mg "max" = none) : FnOk P w K mg base CX0 7 f fd ["rules", "string", "folding", "other"] spRidge := by
  refine F.ok sc_ridge (fun vs H Q E h => ?_) (fun cdv A outer s H vs Q E hr h => ?_)
  · obtain ⟨v, a, b, r, x, qa, qb, rfl, _⟩ := h
    rfl
  · obtain ⟨v, a, b, r, x, qa, qb, rfl, hR, ok, hx, hFa, hFb, haA, hbA, q⟩ := h
    refine ⟨_, (pss_cons (ps_set (i := 4) sc_ridge.nd rfl (.inl rfl) (pe_ca clowest_way (hr.mono (by decide)) (by rfl) (pa_cons (pv 0) (pa_cons (pv 1) (pa_cons (pv 2) (pa_cons (pv 3) pa_nil))))))
      (pss_one (ps_ret (pe_tup (pa_cons (pe_callB (maxL K rfl) (by rfl) mmax (by decide +kernel) (pa_cons (pe_lc (own := [("met", 5)]) (g := gName 5) (by rfl) sc_ridge.nd (pi_list (pv 4)) (blkOk_by (own := [("met", 5)]) (N := ["rules", "string", "folding", "other", "way", "met"]) (sc := defScope s_ridge) (by decide +kernel)) (fun _ _ _ _ _ => (pg_name (i := 5) sc_ridge.nd rfl (.inl rfl))) (fun _ _ _ _ _ => pts_nil) (fun _ _ _ _ _ => (pe_ca cworth_of (hr.mono (by decide)) (by rfl) (pa_cons (pv 0) (pa_cons (pv 1) (pa_cons (pv 5) pa_nil)))))) pa_nil)) (pa_cons (pv 4) pa_nil)))))), ?_⟩
    have hWk : ∀ z ∈ AL r x, z ∈ WA r x x.length 0 ∧ ∀ y ∈ z, tx2 x y ∈ r.prs.map (·.1) := fun z hz => ⟨AL_mem.mp hz, fun y hy => may_prR ((AL_fo hz).may y hy)⟩
    refine ⟨_, rfl, _, rfl, _, rfl, _, rfl, v, a, b, r, x, qa, qb, rfl, hR, ok, hx, hFa, hFb, haA, hbA, fun l ws W H1 hl hL hP hW hLow hWl hsm k1 => ?_⟩
    have hwl := paired_len hP
    refine ⟨_, rfl, l, rfl, ⟨_, SqL.of hL⟩, fun D hD => lc_list (K := K) (xs := ws) (fun i H2 => H2 D = some (.lst (((W.take i).map (woV r x)).map V.int)) ∧ Ext H1 H2) ⟨upd_same, Ext.new hD⟩ (fun i H2 _ h => SqL.of (h.2 _ _ hL)) (fun i u H2 hi hv => ?_) (fun H2 hv => ?_)⟩
    · obtain ⟨hDD, k2⟩ := hv
      obtain ⟨z, hz, hzF⟩ := paired_get hP hi
      have hzA := hW.mem z (List.mem_of_getElem? hz)
      have hil : i < ws.length := (List.getElem?_eq_some_iff.mp hi).1
      refine ⟨rfl, _, rfl, _, rfl, _, rfl, v, u, r, x, z, r, rfl, RulesW.mono _ _ _ _ (TupK.ext (k1.trans k2)) hR, ok, by omega, FoAt.mono _ _ _ _ (TupK.ext k2) hzF, hx, (hWk z hzA).1, (hWk z hzA).2, fun H3 k3 => ?_⟩
      refine ⟨_, k3 _ _ hDD, szLt (by rw [List.length_map, List.length_map, List.length_take]; omega), ?_, (k2.trans k3).put hD⟩
      rw [upd_same, List.take_add_one, hz, List.map_append, List.map_append]
      rfl
    · obtain ⟨hDD, k2⟩ := hv
      rw [hwl, List.take_length] at hDD
      have hWpos : 0 < W.length := List.length_pos_iff.mpr hW.ne
      refine ⟨D, _, rfl, SqL.of hDD, by rw [List.length_map]; exact hWpos, fun m hm hmax => ⟨_, rfl, szL (show 2 ≤ 1000000 by decide), fun t ht => ?_⟩⟩
      have x3 := k2.trans (Ext.new (o := .tup [.int m, .ref l]) ht)
      have hall : ∀ z ∈ W, woV r x z ≤ m := fun z hz => hmax _ (List.mem_map.mpr ⟨z, hz, rfl⟩)
      obtain ⟨z0, hz0, e0⟩ := List.mem_map.mp hm
      refine q t l ws W m _ hl upd_same (x3 _ _ hL) (paired_imp (fun _ _ => FoAt.mono _ _ _ _ (TupK.ext x3)) hP) hW hall ⟨z0, hz0, e0⟩ ⟨⟨W, hW, hall, z0, hz0, e0⟩, fun U hU => ?_⟩ hWl hsm (k1.trans x3)
      rw [← e0]
      exact hLow z0 hz0 U hU
abbrev CRidge (P : Program) (w : World) (K : PySem.W.Frag) (mg : Str → Option Value) (base : Heap) : Prop := Ca P w K mg base 7 "ridge" ["rules", "string", "folding", "other"] spRidge
end
end Pf


namespace Pf
open PySem PySem.Spec PyProof.Rows L2
theorem pair_splitR {α β : Type} {R : α → β → Prop} : ∀ {as : List α} {bs cs : List β}, Paired R as (bs ++ cs) → ∃ a1 a2, as = a1 ++ a2 ∧ Paired R a1 bs ∧ Paired R a2 cs
  | as, [], cs, h => ⟨[], as, rfl, .nil, h⟩
  | _, b :: bs, cs, .cons h t => by
    obtain ⟨a1, a2, e, h1, h2⟩ := pair_splitR t
    exact ⟨_ :: a1, a2, by rw [e]; rfl, .cons h h1, h2⟩
theorem val_in : ∀ {kvs : List (Fq × V)} {k : Fq}, (valV kvs k).isSome = true ↔ k ∈ kvs.map (·.1)
  | [], k => Iff.intro (fun h => absurd (show false = true from h) Bool.false_ne_true) (fun h => absurd h List.not_mem_nil)
  | y :: t, k => by
    rw [List.map_cons, List.mem_cons]
    by_cases e : y.1 = k
    · rw [valV_pos e]
      exact ⟨fun _ => .inl e.symm, fun _ => rfl⟩
    · rw [valV_neg e, val_in (kvs := t)]
      exact ⟨.inr, fun h => h.elim (fun z => absurd z.symm e) id⟩
section
variable {P : Program} {w : World} {K : PySem.W.Frag} {mg : Str → Option Value} {base : Heap}
abbrev s_law_reached : Stmt := topS 41
theorem sc_law_reached : FnScope ["_law_world_here", "_law_one", "_law_upto", "_law_found", "_law_waiting", "_law_here", "_law_later"] ["_law_world_here", "_law_one", "_law_upto"] (defScope s_law_reached) :=
  ⟨rfl, rfl, rfl, by decide +kernel, rfl, by decide +kernel, by decide +kernel⟩
def spReached (P : Program) (w : World) : Sp := fun vs H Q _ => ∃ (W a : Addr) (u : Int) (v : V) (r : Rl) (x : Str) (qa : Fo) (p : Addr), vs = [.ref W, .ref a, .int u] ∧ WorldAt P w p H W v r x ∧ x.length ≤ 12 ∧ FkT H a qa ∧ qa ∈ AL r x ∧
  ∀ (D : Addr) (kvs : List (Fq × V)) (H' : Hp), H D = none → DF P w FkT H' D kvs → (kvs.map (·.1)).Nodup → (∀ q, q ∈ kvs.map (·.1) ↔ q ∈ AL r x ∧ Rch r x u qa q) → Ext H H' → Q (.ref D) H'
theorem ok_reached {f : Addr} {fd : FuncData} {n : Nat} (F : Fun K "_law_reached" "_law_reached" s_law_reached f fd) : FnOk P w K mg base CX0 (n + 1) f fd ["_law_world_here", "_law_one", "_law_upto"] (spReached P w) := by
  refine F.ok sc_law_reached (fun vs H Q E h => ?_) (fun cdv A outer s H vs Q E hr h => ?_)
  · obtain ⟨W, a, u, v, r, x, qa, p, rfl, _⟩ := h
    rfl
  · obtain ⟨W, a, u, v, r, x, qa, p, rfl, hWp, hx, hFa, haA, q⟩ := h
    obtain ⟨Dw, Ds, E, es, ss, C, hW⟩ := hWp.wld
    refine ⟨_, (pss_cons (ps_set (i := 3) sc_law_reached.nd rfl (.inl rfl) (pe_dispF (P := P) (w := w) hr.units (pv 1) pe_bl))
      (pss_cons (ps_set (i := 4) sc_law_reached.nd rfl (.inl rfl) (pe_lst (pa_cons (pv 1) pa_nil)))
      (pss_cons (ps_while PassesOwn.never (pt_cmpR (neD K hr.units) (pv 4) (pe_lst pa_nil) (nomark _)) (pss_cons (ps_set (i := 5) sc_law_reached.nd rfl (.inl rfl) (pe_bm0 PySem.F.plainAttrs_list PySem.F.slot_list_pop PySem.F.type_list_pop mt_pop (pv 4)))
      (pss_one (ps_for PassesOwn.never rfl (pi_list (pe_fget (P := P) (w := w) hr.units (pe_dget (hu_of hr) (pv 0) pe_str (fun _ _ => rfl)) (pv 5) (fun _ _ => rfl))) (pg_name (i := 6) sc_law_reached.nd rfl (.inl rfl)) (pss_one (ps_if (PW.pt (pw_and (pt_cmp (pc_fnotin (P := P) (w := w) hr.units (pv 6) (pv 3)) rfl) (pw_and1 (pt_cmpR op_le (pe_fget (P := P) (w := w) hr.units (pe_dget (hu_of hr) (pv 0) pe_str (fun _ _ => rfl)) (pv 6) (fun _ _ => rfl)) (pv 2) (nomark _))))) (pss_cons (ps_fput (P := P) (w := w) hr.units (pv 3) (pv 6) pe_bl rfl)
      (pss_one (ps_expr (pe_bm PySem.F.plainAttrs_list PySem.F.slot_list_append PySem.F.type_list_append mt_append (pv 4) (pa_cons (pv 6) pa_nil))))) pss_nil))))))
      (pss_one (ps_ret (pv 3)))))), ?_⟩
    have hAl := AL_len r hx
    refine fun D hD => ?_
    have x0 := Ext.new (o := .dK []) hD
    refine ⟨_, rfl, upd_same, FkT, keyT, a, qa, rfl, keyT.mono (TupK.ext x0) hFa, fun o hDF => ?_⟩
    have x1 := x0.put (o := o) hD
    generalize upd (upd H D (.dK [])) D o = H1 at hDF x1 ⊢
    refine ⟨_, rfl, szL (show 1 ≤ 1000000 by decide), fun sl hsl => ?_⟩
    have x2 := Ext.new (o := .lst [.ref a]) hsl
    have nDs : D ≠ sl := fun e => by
      obtain ⟨z, hz⟩ := hDF.there
      rw [e, hsl] at hz
      cases hz
    have hslH : H sl = none := Ext.none x1 hsl
    refine ⟨fun m σ Hc => ∃ (kvs : List (Fq × V)) (Dn Sk : List Fo) (ws : List V) (y5 y6 : Option V), m + Dn.length = (AL r x).length ∧ σ = [some (.ref W), some (.ref a), some (.int u), some (.ref D), some (.ref sl), y5, y6] ∧ Fnd r x u qa (kvs.map (·.1)) Dn Sk ∧ DF P w FkT Hc D kvs ∧ Hc sl = some (.lst ws) ∧ Paired (FoAt Hc) ws Sk ∧ Ext H Hc,
      ⟨_, _, [], [qa], [.ref a], none, none, rfl, rfl, Fnd.start haA, hDF.ext keyT x2, upd_same, .cons (keyT.mono (TupK.ext (x1.trans x2)) hFa) .nil, x1.trans x2⟩, fun m σ Hc hv => ?_⟩
    obtain ⟨kvs, Dn, Sk, ws, y5, y6, hm, rfl, S, hDc, hs, hPs, kx⟩ := hv
    have hwl := paired_len hPs
    refine ⟨_, rfl, Nat.zero_le _, fun l0 hl0 => ⟨_, _, .lst (SqL.of (Ext.new hl0 _ _ hs)) (dpFos (paired_imp (fun _ _ => FoAt.mono _ _ _ _ (TupK.ext (Ext.new hl0))) hPs)), .lst (SqL.of upd_same) .nil, shaped_fos _, by decide +kernel, _, rfl, ?_⟩⟩
    have kx0 := kx.trans (Ext.new (o := .lst []) hl0)
    have hD0 := hDc.ext keyT (Ext.new (o := .lst []) hl0)
    have hs0 := Ext.new (o := .lst []) hl0 _ _ hs
    have hPs0 := paired_imp (fun _ _ => FoAt.mono _ _ _ _ (TupK.ext (Ext.new (o := .lst []) hl0))) hPs
    generalize upd Hc l0 (.lst []) = H3 at kx0 hD0 hs0 hPs0 ⊢
    clear hDc hs hPs kx hl0
    rw [show PyData.eqv (.list (Sk.map dFo)) (.list []) = Sk.isEmpty by cases Sk <;> simp [PyData.eqv, PyData.eqvAll]]
    rcases List.eq_nil_or_concat Sk with hSt | ⟨Sk0, here, hSt⟩
    · subst hSt
      exact iteF ⟨_, rfl, q D kvs H3 hD hD0 S.nd (fun z => S.done) kx0⟩
    · rw [List.concat_eq_append] at hSt
      subst hSt
      rw [show (!(Sk0 ++ [here]).isEmpty) = true by cases Sk0 <;> rfl]
      refine iteT ⟨fun σ' H' => ∃ (kvs : List (Fq × V)) (Dn' Sk : List Fo) (ws : List V) (y5 y6 : Option V), Dn'.length = Dn.length + 1 ∧ Dn'.length ≤ (AL r x).length ∧ σ' = [some (.ref W), some (.ref a), some (.int u), some (.ref D), some (.ref sl), y5, y6] ∧ Fnd r x u qa (kvs.map (·.1)) Dn' Sk ∧ DF P w FkT H' D kvs ∧ H' sl = some (.lst ws) ∧ Paired (FoAt H') ws Sk ∧ Ext H H',
        fun σ' H' ⟨kvs, Dn', Sk, ws, y5, y6, h0, h1, h2, h3, h4, h5, h6, h7⟩ => ⟨(AL r x).length - Dn'.length, by omega, kvs, Dn', Sk, ws, y5, y6, by omega, h2, h3, h4, h5, h6, h7⟩, ?_⟩
      have S1 : Fnd r x u qa (kvs.map (·.1)) Dn (here :: Sk0) := S.perS List.perm_append_comm
      obtain ⟨ws0, hv, hwe, hP0, hFh⟩ : ∃ (ws0 : List V) (hv : V), ws = ws0 ++ [hv] ∧ Paired (FoAt H3) ws0 Sk0 ∧ FoAt H3 hv here := by
        obtain ⟨a1, a2, e, h1, h2⟩ := pair_splitR hPs0
        cases h2 with
        | cons hh t =>
          cases t
          exact ⟨a1, _, e, h1, hh⟩
      subst hwe
      obtain ⟨bh, bhs, rfl, hbh⟩ := id hFh
      have hhA : here ∈ AL r x := (S1.rch here (S1.per.mem_iff.mpr (List.mem_append_right _ (List.mem_cons_self ..)))).1
      refine ⟨_, rfl, .inl ⟨rfl, _, SqL.of hs0⟩, sl, ws0 ++ [.ref bh], .ref bh, rfl, rfl, hs0, by rw [List.length_append, List.length_singleton, Nat.add_sub_cancel, List.getElem?_append_right (Nat.le_refl _), Nat.sub_self]; rfl, ?_⟩
      rw [List.dropLast_concat]
      have tk4 : TupK H3 (upd H3 sl (.lst ws0)) := TupK.lst hs0
      have kx4 : Ext H (upd H3 sl (.lst ws0)) := kx0.put hslH
      have hD4 := hD0.keeps keyT tk4 (upd_ne nDs)
      have hs4 : upd H3 sl (.lst ws0) sl = some (.lst ws0) := upd_same
      have hP4 := paired_imp (fun _ _ => FoAt.mono _ _ _ _ tk4) hP0
      have hF4 := FoAt.mono _ _ _ _ tk4 hFh
      generalize upd H3 sl (.lst ws0) = H4 at kx4 hD4 hs4 hP4 hF4 ⊢
      have hW4 := hW.ext kx4
      obtain ⟨l, us, hvl, hl, hpl⟩ := stps_at hW.st (by rw [hW.ks]; exact AL_nd r x) (by rw [hW.ks]; exact hhA)
      have hul := paired_len hpl
      refine ⟨_, rfl, W, _, rfl, hW4.sp, _, rfl, Ds, bh, ss, here, .ref l, rfl, rfl, hW4.hs.r keyT, keyT.imp hF4, hvl, l, rfl, ⟨_, SqL.of (kx4 _ _ hl)⟩, for_list (K := K) (xs := us) (fun i σ H5 => ∃ (kvs' : List (Fq × V)) (Sk' : List Fo) (ws' : List V) (y6 : Option V), σ = [some (.ref W), some (.ref a), some (.int u), some (.ref D), some (.ref sl), some (.ref bh), y6] ∧ Fnd r x u qa (kvs'.map (·.1)) Dn (here :: Sk') ∧
          (∀ z ∈ (C here).take i, woV r x z ≤ u → z ∈ kvs'.map (·.1)) ∧ DF P w FkT H5 D kvs' ∧ H5 sl = some (.lst ws') ∧ Paired (FoAt H5) ws' Sk' ∧ Ext H H5)
        ⟨kvs, Sk0, ws0, _, rfl, S1, (fun z hz => by rw [List.take_zero] at hz; cases hz), hD4, hs4, hP4, kx4⟩ (fun i σ H5 _ h => by obtain ⟨_, _, _, _, _, _, _, _, _, _, k⟩ := h; exact SqL.of (k _ _ hl)) (fun i uv σ H5 hi hv => ?_) (fun σ H5 hv => ?_)⟩
      · obtain ⟨kvs', Sk', ws', y6, rfl, S5, hN, hD5, hs5, hP5, kx5⟩ := hv
        obtain ⟨z, hz, hzF⟩ := paired_get hpl hi
        have hzF5 := FoAt.mono _ _ _ _ (TupK.ext kx5) hzF
        obtain ⟨bz, bzs, rfl, hbz⟩ := id hzF5
        have hzn : z ∈ nb r x here := (hW.pm here hhA).mem_iff.mp (List.mem_of_getElem? hz)
        have hW5 := hW.ext kx5
        have hzt : (C here).take (i + 1) = (C here).take i ++ [z] := by rw [List.take_add_one, hz]; rfl
        have hzA := nb_sub hzn
        refine ⟨_, rfl, _, rfl, D, bz, kvs', z, rfl, rfl, keyT.imp hzF5, hD5.r keyT, _, rfl, ?_⟩
        have stay : z ∈ kvs'.map (·.1) ∨ ¬ woV r x z ≤ u → ∀ y ∈ (C here).take (i + 1), woV r x y ≤ u → y ∈ kvs'.map (·.1) := fun h y hy hyu => by
          rw [hzt] at hy
          rcases List.mem_append.mp hy with hy | hy
          · exact hN y hy hyu
          · rw [List.mem_singleton.mp hy] at hyu ⊢
            exact h.elim id fun h => absurd hyu h
        by_cases hzT : z ∈ kvs'.map (·.1)
        · rw [show (valV kvs' z).isSome = true from val_in.mpr hzT]
          exact iteF (iteF ⟨kvs', Sk', ws', _, rfl, S5, stay (.inl hzT), hD5, hs5, hP5, kx5⟩)
        · have hno : (valV kvs' z).isSome = false := Bool.eq_false_iff.mpr fun h => hzT (val_in.mp h)
          rw [hno]
          refine iteT ⟨_, rfl, W, _, rfl, hW5.ws, _, rfl, Dw, bz, _, z, _, rfl, rfl, hW5.hw.r keyT, keyT.imp hzF5, val_enW (AL_nd r x) hzA, _, rfl, _, _, rfl, rfl, _, rfl, ?_⟩
          by_cases hzu : woV r x z ≤ u
          · rw [decide_eq_true hzu]
            have S6 := S5.add hzT hzn hzu
            have hl6 := S6.len
            have hl5 := S5.len
            have hwl5 := paired_len hP5
            simp only [List.length_append, List.length_map, List.length_cons, List.length_nil] at hl6 hl5
            refine iteT ⟨_, rfl, _, rfl, FkT, keyT, D, bz, kvs', z, rfl, rfl, .inl hD5, hzF5, szLt (by omega), fun o hDo => ?_⟩
            have tk6 : TupK H5 (upd H5 D o) := mut_tk hD5.mut
            have hs6 : upd H5 D o sl = some (.lst ws') := by rw [upd_ne nDs.symm]; exact hs5
            have kx6 : Ext H (upd H5 D o) := kx5.put hD
            have hz6 : FoAt (upd H5 D o) (.ref bz) z := FoAt.mono _ _ _ _ tk6 hzF5
            have hP6 := paired_imp (fun _ _ => FoAt.mono _ _ _ _ tk6) hP5
            rw [putK_new _ (by cases e : valV kvs' z with
              | none => rfl
              | some y =>
                rw [e] at hno
                cases hno)] at hDo
            generalize upd H5 D o = H6 at hDo hs6 kx6 hz6 hP6 ⊢
            refine ⟨_, rfl, .inl ⟨rfl, _, SqL.of hs6⟩, _, rfl, sl, ws', .ref bz, rfl, rfl, hs6, szLt (by omega), ?_⟩
            have tk7 : TupK H6 (upd H6 sl (.lst (ws' ++ [.ref bz]))) := TupK.lst hs6
            refine ⟨kvs' ++ [(z, .bl true)], Sk' ++ [z], ws' ++ [.ref bz], _, rfl, by rw [List.map_append]; exact S6, fun y hy hyu => ?_, hDo.keeps keyT tk7 (upd_ne nDs), upd_same, paired_app (paired_imp (fun _ _ => FoAt.mono _ _ _ _ tk7) hP6) (.cons (FoAt.mono _ _ _ _ tk7 hz6) .nil), kx6.put hslH⟩
            rw [hzt] at hy
            rw [List.map_append]
            rcases List.mem_append.mp hy with hy | hy
            · exact List.mem_append_left _ (hN y hy hyu)
            · rw [List.mem_singleton.mp hy]
              exact List.mem_append_right _ (List.mem_singleton.mpr rfl)
          · rw [decide_eq_false hzu]
            exact iteF ⟨kvs', Sk', ws', _, rfl, S5, stay (.inr hzu), hD5, hs5, hP5, kx5⟩
      · obtain ⟨kvs', Sk', ws', y6, rfl, S5, hN, hD5, hs5, hP5, kx5⟩ := hv
        have S6 := S5.full fun z hz hzu => hN z (by rw [hul, List.take_length]; exact (hW.pm here hhA).mem_iff.mpr hz) hzu
        exact ⟨kvs', Dn ++ [here], Sk', ws', _, _, by rw [List.length_append]; rfl, by have := S6.len; omega, rfl, S6, hD5, hs5, hP5, kx5⟩
abbrev CReached (P : Program) (w : World) (K : PySem.W.Frag) (mg : Str → Option Value) (base : Heap) : Prop := Ca P w K mg base 1 "_law_reached" ["_law_world_here", "_law_one", "_law_upto"] (spReached P w)
end
end Pf


namespace Pf
open PySem PySem.Spec PyProof.Rows L2
theorem max_wo (r : Rl) (x : Str) : ∀ {W : List Fo}, W ≠ [] → ∃ z ∈ W, ∀ q ∈ W, woV r x q ≤ woV r x z
  | [], h => absurd rfl h
  | [y], _ => ⟨y, List.mem_cons_self .., fun q hq => by rw [List.mem_singleton.mp hq]; exact Int.le_refl _⟩
  | y :: z :: t, _ => by
    obtain ⟨m, h1, h2⟩ := max_wo r x (W := z :: t) (fun e => by cases e)
    by_cases c : woV r x m ≤ woV r x y
    · refine ⟨y, List.mem_cons_self .., fun q hq => ?_⟩
      rcases List.mem_cons.mp hq with rfl | hq
      · exact Int.le_refl _
      · exact Int.le_trans (h2 q hq) c
    · refine ⟨m, List.mem_cons_of_mem _ h1, fun q hq => ?_⟩
      rcases List.mem_cons.mp hq with rfl | hq
      · omega
      · exact h2 q hq
section
variable {r : Rl} {x : Str} {a b : Fo} {ls : List Int}
theorem peak_of (hlt : ls.Pairwise (· < ·)) (hmem : ∀ k, k ∈ ls ↔ ∃ z ∈ AL r x, woV r x z = k) {i : Nat} {k : Int} (hi : ls[i]? = some k) (ha : woV r x a ≤ k) (hr : Rch r x k a b) (hpre : ∀ k' ∈ ls.take i, ¬ (woV r x a ≤ k' ∧ woV r x b ≤ k' ∧ Rch r x k' a b)) : Peak r x a b k := by
  have h2 : ∀ U, Way r x a b U → ∃ q ∈ U, k ≤ woV r x q := fun U hU => by
    obtain ⟨z, h1, h2⟩ := max_wo r x hU.ne
    by_cases c : k ≤ woV r x z
    · exact ⟨z, h1, c⟩
    · have hz := (hmem _).mpr ⟨z, hU.mem z h1, rfl⟩
      obtain ⟨j, hj, e⟩ := List.mem_iff_getElem.mp hz
      obtain ⟨hi1, hi2⟩ := List.getElem?_eq_some_iff.mp hi
      have hji : j < i := by
        refine Nat.lt_of_not_le fun h => ?_
        rcases Nat.lt_or_eq_of_le h with h | h
        · have := List.pairwise_iff_getElem.mp hlt i j hi1 hj h
          omega
        · subst h
          omega
      refine absurd ⟨h2 a hU.fst, h2 b hU.lst, U, hU, fun q hq => .inr (h2 q hq)⟩ (hpre (woV r x z) ?_)
      rw [← e]
      exact List.mem_iff_getElem.mpr ⟨j, by rw [List.length_take]; omega, by rw [List.getElem_take]⟩
  obtain ⟨W, hW, hall⟩ := hr
  have hall2 : ∀ q ∈ W, woV r x q ≤ k := fun q hq => (hall q hq).elim (fun e => by rw [e]; exact ha) id
  obtain ⟨q, hq, e⟩ := h2 W hW
  have := hall2 q hq
  exact ⟨⟨W, hW, hall2, q, hq, by omega⟩, h2⟩
theorem peak_is (hmem : ∀ k, k ∈ ls ↔ ∃ z ∈ AL r x, woV r x z = k) (ha : a ∈ AL r x) (hb : b ∈ AL r x) (hpre : ∀ k' ∈ ls, ¬ (woV r x a ≤ k' ∧ woV r x b ≤ k' ∧ Rch r x k' a b)) : False := by
  obtain ⟨W, hW⟩ := way_any ha hb
  obtain ⟨z, h1, h2⟩ := max_wo r x hW.ne
  exact hpre _ ((hmem _).mpr ⟨z, hW.mem z h1, rfl⟩) ⟨h2 a hW.fst, h2 b hW.lst, W, hW, fun q hq => .inr (h2 q hq)⟩
end
section
variable {P : Program} {w : World} {K : PySem.W.Frag} {mg : Str → Option Value} {base : Heap}
abbrev s_law_lowest : Stmt := topS 42
theorem sc_law_lowest : FnScope ["_law_world_here", "_law_one", "_law_two", "_law_high", "_law_upto", "_law_here"] ["_law_world_here", "_law_one", "_law_two"] (defScope s_law_lowest) :=
  ⟨rfl, rfl, rfl, by decide +kernel, rfl, by decide +kernel, by decide +kernel⟩
def spLowest (P : Program) (w : World) : Sp := fun vs H Q _ => ∃ (W a b : Addr) (v : V) (r : Rl) (x : Str) (qa qb : Fo) (p : Addr), vs = [.ref W, .ref a, .ref b] ∧ WorldAt P w p H W v r x ∧ x.length ≤ 8 ∧ FkT H a qa ∧ FkT H b qb ∧ qa ∈ AL r x ∧ qb ∈ AL r x ∧
  ∀ (m : Int) H', Peak r x qa qb m → Ext H H' → Q (.int m) H'
theorem ok_lowest {f : Addr} {fd : FuncData} (F : Fun K "_law_lowest" "_law_lowest" s_law_lowest f fd) (c_law_reached : CReached P w K mg base) (msorted : mg "sorted" = none) (mset : mg "set" = none) (mmax : mg "max" = none) : FnOk P w K mg base CX0 2 f fd ["_law_world_here", "_law_one", "_law_two"] (spLowest P w) := by
  refine F.ok sc_law_lowest (fun vs H Q E h => ?_) (fun cdv A outer s H vs Q E hr h => ?_)
  · obtain ⟨W, a, b, v, r, x, qa, qb, p, rfl, _⟩ := h
    rfl
  · obtain ⟨W, a, b, v, r, x, qa, qb, p, rfl, hWp, hx8, hFa, hFb, haA, hbA, q⟩ := h
    obtain ⟨Dw, Ds, E, es, ss, C, hW⟩ := hWp.wld
    refine ⟨_, (pss_cons (ps_set (i := 3) sc_law_lowest.nd rfl (.inl rfl) (pe_callB (call_max2 rfl) (by rfl) mmax (by decide +kernel) (pa_cons (pe_fget (P := P) (w := w) hr.units (pe_dget (hu_of hr) (pv 0) pe_str (fun _ _ => rfl)) (pv 1) (fun _ _ => rfl)) (pa_cons (pe_fget (P := P) (w := w) hr.units (pe_dget (hu_of hr) (pv 0) pe_str (fun _ _ => rfl)) (pv 2) (fun _ _ => rfl)) pa_nil))))
      (pss_cons (ps_for PassesOwn.never rfl (pi_list (pe_sortSetI rfl hr.units (by rfl) msorted (by rfl) mset (pe_lc (own := [("_law_here", 5)]) (g := gName 5) (by rfl) sc_law_lowest.nd (pi_list (pe_dget (hu_of hr) (pv 0) pe_str (fun _ _ => rfl))) (blkOk_by (own := [("_law_here", 5)]) (N := ["_law_world_here", "_law_one", "_law_two", "_law_high", "_law_upto", "_law_here"]) (sc := defScope s_law_lowest) (by decide +kernel)) (fun _ _ _ _ _ => (pg_name (i := 5) sc_law_lowest.nd rfl (.inl rfl))) (fun _ _ _ _ _ => pts_nil) (fun _ _ _ _ _ => (pe_fget (P := P) (w := w) hr.units (pe_dget (hu_of hr) (pv 0) pe_str (fun _ _ => rfl)) (pv 5) (fun _ _ => rfl)))))) (pg_name (i := 4) sc_law_lowest.nd rfl (.inl rfl)) (pss_one (ps_if (PW.pt (pw_and (pt_cmpR op_ge (pv 4) (pv 3) (nomark _)) (pw_and1 (pt_cmp (pc_fin (P := P) (w := w) hr.units (pv 2) (pe_ca c_law_reached (hr.mono (by decide)) (by rfl) (pa_cons (pv 0) (pa_cons (pv 1) (pa_cons (pv 4) pa_nil))))) rfl)))) (pss_one (ps_ret (pv 4))) pss_nil)))
      (pss_one (ps_ret pe_non)))), ?_⟩
    have hAl := AL_len8 r hx8
    have hel := paired_len hW.pe
    have hnd := AL_nd r x
    refine ⟨_, rfl, W, _, rfl, hW.ws, _, rfl, Dw, a, _, qa, _, rfl, rfl, hW.hw.r keyT, keyT.imp hFa, val_enW hnd haA, ?_⟩
    refine ⟨_, rfl, W, _, rfl, hW.ws, _, rfl, Dw, b, _, qb, _, rfl, rfl, hW.hw.r keyT, keyT.imp hFb, val_enW hnd hbA, _, _, rfl, ?_⟩
    obtain ⟨hi, hhi⟩ : ∃ hi : Int, (if woV r x qb > woV r x qa then woV r x qb else woV r x qa) = hi := ⟨_, rfl⟩
    rw [hhi]
    have hhi2 : ∀ k : Int, hi ≤ k ↔ woV r x qa ≤ k ∧ woV r x qb ≤ k := fun k => by
      rw [← hhi]
      split <;> omega
    refine ⟨_, rfl, W, _, rfl, hW.ev, E, rfl, ⟨_, SqL.of hW.he⟩, fun D hD => lc_list (K := K) (xs := es) (fun i H2 => H2 D = some (.lst ((((AL r x).take i).map (woV r x)).map V.int)) ∧ Ext H H2) ⟨upd_same, Ext.new hD⟩ (fun i H2 _ h => SqL.of (h.2 _ _ hW.he)) (fun i u H2 hi hv => ?_) (fun H2 hv => ?_)⟩
    · obtain ⟨hDD, k2⟩ := hv
      obtain ⟨z, hz, hzF⟩ := paired_get hW.pe hi
      obtain ⟨bz, bzs, rfl, hbz⟩ := id hzF
      have hW2 := hW.ext k2
      have hil : i < es.length := (List.getElem?_eq_some_iff.mp hi).1
      refine ⟨rfl, _, rfl, W, _, rfl, hW2.ws, _, rfl, Dw, bz, _, z, _, rfl, rfl, hW2.hw.r keyT, keyT.imp (FoAt.mono _ _ _ _ (TupK.ext k2) hzF), val_enW hnd (List.mem_of_getElem? hz), _, hDD, szLt (by rw [List.length_map, List.length_map, List.length_take]; omega), ?_, k2.put hD⟩
      rw [upd_same, List.take_add_one, hz, List.map_append, List.map_append]
      rfl
    · obtain ⟨hDD, k2⟩ := hv
      rw [hel, List.take_length] at hDD
      refine ⟨D, _, rfl, SqL.of hDD, by rw [List.length_map]; omega, fun bL ls hlt hmem hbL => ?_⟩
      have k3 := k2.trans (Ext.new (o := .lst (ls.map V.int)) hbL)
      have hL : upd H2 bL (.lst (ls.map V.int)) bL = some (.lst (ls.map V.int)) := upd_same
      generalize upd H2 bL (.lst (ls.map V.int)) = H3 at k3 hL ⊢
      have hmem2 : ∀ k, k ∈ ls ↔ ∃ z ∈ AL r x, woV r x z = k := fun k => by rw [hmem k, List.mem_map]
      refine ⟨bL, rfl, ⟨_, SqL.of hL⟩, for_list (K := K) (xs := ls.map V.int) (fun i σ H4 => ∃ (y4 y5 : Option V), σ = [some (.ref W), some (.ref a), some (.ref b), some (.int hi), y4, y5] ∧ (∀ k' ∈ ls.take i, ¬ (woV r x qa ≤ k' ∧ woV r x qb ≤ k' ∧ Rch r x k' qa qb)) ∧ Ext H3 H4)
        ⟨_, _, rfl, (fun k' hk => by rw [List.take_zero] at hk; cases hk), Ext.refl⟩ (fun i σ H4 _ h => by obtain ⟨_, _, _, _, k⟩ := h; exact SqL.of (k _ _ hL)) (fun i u σ H4 hi' hv => ?_) (fun σ H4 hv => ?_)⟩
      · obtain ⟨y4, y5, rfl, hpre, k4⟩ := hv
        rw [List.getElem?_map] at hi'
        obtain ⟨k, hk, rfl⟩ := Option.map_eq_some_iff.mp hi'
        have k04 := k3.trans k4
        have hkt : ls.take (i + 1) = ls.take i ++ [k] := by rw [List.take_add_one, hk]; rfl
        have stay : ¬ (woV r x qa ≤ k ∧ woV r x qb ≤ k ∧ Rch r x k qa qb) → ∀ k' ∈ ls.take (i + 1), ¬ (woV r x qa ≤ k' ∧ woV r x qb ≤ k' ∧ Rch r x k' qa qb) := fun h k' hk' => by
          rw [hkt] at hk'
          rcases List.mem_append.mp hk' with hk' | hk'
          · exact hpre k' hk'
          · rw [List.mem_singleton.mp hk']
            exact h
        refine ⟨_, rfl, _, rfl, _, _, rfl, rfl, _, rfl, ?_⟩
        by_cases hh : hi ≤ k
        · rw [decide_eq_true hh]
          refine iteT ⟨_, rfl, _, rfl, _, rfl, _, rfl, W, a, k, v, r, x, qa, p, rfl, hWp.kp (Kp.ext k04) (TupK.ext k04), by omega, keyT.mono (TupK.ext k04) hFa, haA, fun Df kvs H5 hDf hDF hnd5 hkeys k5 => ?_⟩
          have k05 := k04.trans k5
          refine ⟨Df, b, kvs, qb, rfl, rfl, keyT.imp (keyT.mono (TupK.ext k05) hFb), hDF.r keyT, _, rfl, ?_⟩
          by_cases hf : qb ∈ kvs.map (·.1)
          · rw [val_in.mpr hf]
            have hR := ((hkeys qb).mp hf).2
            exact iteT ⟨_, rfl, q k H5 (peak_of hlt hmem2 hk ((hhi2 k).mp hh).1 hR hpre) k05⟩
          · rw [Bool.eq_false_iff.mpr fun h => hf (val_in.mp h)]
            exact iteF ⟨_, _, rfl, stay fun h => hf ((hkeys qb).mpr ⟨hbA, h.2.2⟩), k4.trans k5⟩
        · rw [decide_eq_false hh]
          exact iteF (iteF ⟨_, _, rfl, stay fun h => hh ((hhi2 k).mpr ⟨h.1, h.2.1⟩), k4⟩)
      · obtain ⟨y4, y5, rfl, hpre, k4⟩ := hv
        rw [List.length_map, List.take_length] at hpre
        exact (peak_is hmem2 haA hbA hpre).elim
abbrev CLowest (P : Program) (w : World) (K : PySem.W.Frag) (mg : Str → Option Value) (base : Heap) : Prop := Ca P w K mg base 2 "_law_lowest" ["_law_world_here", "_law_one", "_law_two"] (spLowest P w)
end
end Pf


/-! sorted of a set or a dict of tuples, an empty one among them -/
namespace Pf
open PySem PySem.Spec PyProof.Rows L2
theorem sort_tailX {X : Cx} {pins : List (Addr × Obj)} {σ : L2.St} {H : Hp} {s : Shared} {Q : VK} (I : Inv X pins σ H s) (hu : X.A.units + 64 < cLine) {β : Type} {v : β → V} {dd : β → PyData} {ys : List β} {acc : List Value} (rv : Vals (ys.map v) acc) (hy : ∀ y ∈ ys, Dp X.K H (v y) (dd y) ∧ (dd y).depth ≤ 50)
    (al : PySem.W.AllAlike (ys.map dd)) (ht : ∀ d ∈ ys.map dd, ∃ xs, d = .tuple xs) (hn : ys.length ≤ sizeLine) (qq : ∀ p, H p = none → Q (.ref p) (upd H p (.lst ((ys.mergeSort (PySem.W.dataLe false dd)).map v)))) {R : PySem.Fin → Shared → Prop} {E : Value → Shared → Prop}
    (hR : ∀ l s', EP X pins σ Q l s' → R (.done (.ret l)) s') :
    wpAny (model X.prog X.w) X.A.in1 (do let l ← newList acc; let _ ← holding [l] (call (.builtin "list.sort") [l] []); ret l) R E s := by
  have hz2 : acc.length ≤ sizeLine := by
    rw [← rv.length, List.length_map]
    exact hn
  refine wpAny_bind (wpAny_newList ?_ hz2)
  have hat : (s.heap.push (seqObj "list" acc.toArray 0)).get? s.heap.objs.size = some (seqObj "list" acc.toArray 0) := Heap.get?_push_size _ rfl
  have hlt : ∀ b ob, s.heap.get? b = some ob → b ≠ s.heap.objs.size := fun b ob e => Nat.ne_of_lt (Heap.lt_size e)
  have old : ∀ b ob, s.heap.get? b = some ob → (s.heap.push (seqObj "list" acc.toArray 0)).get? b = some ob := fun b ob e => Heap.get?_push_of_some _ e
  have rel : PySem.W.EachIs (fun (u : Value) (y : β) => RelV (v y) u) acc ys := each_vals (v := v) rv
  have rd : PySem.W.EachIs (fun (u : Value) (y : β) => ∃ as, Reads (PySem.W.sortingHeap (s.heap.push (seqObj "list" acc.toArray 0)) s.heap.objs.size acc) u (dd y) as) acc ys := (each_reads (v := v) I rv fun y hy' => (hy y hy').1).mono fun _ _ ⟨as, w⟩ => ⟨as, PyProof.Rows.Reads.keeps (fun b ob e => PySem.W.sortingHeap_old (hlt b ob e) (old b ob e)) w⟩
  have hub : ∀ y ∈ ys, X.A.in1.in1.units + (dd y).depth < cLine := fun y hy' => by
    have := (hy y hy').2
    show X.A.units + 2 + (dd y).depth < cLine
    omega
  have S := sorts_tups (prog := X.prog) (w := X.w) (A := X.A.in1.in1) (s := { s with heap := PySem.W.sortingHeap (s.heap.push (seqObj "list" acc.toArray 0)) s.heap.objs.size acc }) (PySem.W.each_map (R := fun v d => ∃ as, Reads (PySem.W.sortingHeap (s.heap.push (seqObj "list" acc.toArray 0)) s.heap.objs.size acc) v d as) dd rd) al ht (PySem.W.bound_map hub)
  refine wpAny_bind (wpAny_holding (wpAny_call_entry slot_list_sort ⟨_, hat, rfl⟩ entry_list_sort ?body (args_list_sort _)))
  case body =>
    refine PySem.W.list_sort_vals (s := { s with heap := s.heap.push (seqObj "list" acc.toArray 0) }) hat S hz2 ⟨_, rfl, wpAny_pure (hR _ _ ?_)⟩
    have each := PySem.W.sortVals_data false rel rd al
    generalize PySem.W.sortVals (PySem.W.dataKind (PySem.W.sortingHeap (s.heap.push (seqObj "list" acc.toArray 0)) s.heap.objs.size acc) (ys.map dd)) false acc acc = out at each ⊢
    obtain ⟨ee, he'⟩ := PyProof.Rows.sortedHeap_at (vs := acc) (out := out.toArray) hat
    have hl2 : ((ys.mergeSort (PySem.W.dataLe false dd)).map v).length ≤ sizeLine := by
      rw [List.length_map, List.length_mergeSort]
      omega
    have free : H s.heap.objs.size = none := I.hok.fresh (Nat.le_refl _)
    have gone : s.heap.get? s.heap.objs.size = none := by
      cases e : s.heap.get? s.heap.objs.size with
      | none => rfl
      | some ob => exact absurd rfl (hlt _ ob e)
    exact ⟨.ref s.heap.objs.size, upd H s.heap.objs.size (.lst ((ys.mergeSort (PySem.W.dataLe false dd)).map v)), I.laidN (t' := s.toks) (fun b ob e => by rw [PyProof.Rows.sortedHeap_old (hlt b ob e) (Heap.lt_size (old b ob e))]; exact old b ob e) gone free ⟨hl2, out, ee, vals_each (v := v) each, by simpa using he'⟩, rfl, qq _ free⟩
section
variable {α : Type} [DecidableEq α] {X : Cx}
/-- sorted(set(xs)) -/
theorem pe_sortSetNX {K : PySem.W.Frag} {P : Program} {w : World} (D : Kd P w α) (dd : α → PyData) {a : Expr} {ta : TE} {p p2 q pos : Pos} (hc : X.calm = true) (hu : X.A.units + 64 < cLine) (hg : Gl X "sorted") (hm : X.mg "sorted" = none) (hg2 : Gl X "set") (hm2 : X.mg "set" = none) (ha : PE X a ta) (hK : X.K = K := by rfl) (hP : X.prog = P := by rfl) (hw : X.w = w := by rfl)
    (na : starEach [a] X.env = (false, eval a X.env) :: starEach [] X.env := by rfl) : PE X (.Call (.Name "sorted" p) [.Call (.Name "set" p2) [a] [] q] [] pos) (fun σ H Q => tSetIn D K ta (fun ks H1 => (∀ p ∈ ks, Dp K H1 (.ref p.1) (dd p.2) ∧ (dd p.2).depth ≤ 50) ∧ (∀ ls : List (Addr × α), ls.Perm ks → PySem.W.AllAlike (ls.map fun p => dd p.2) ∧ ∀ d ∈ ls.map fun p => dd p.2, ∃ xs, d = .tuple xs) ∧
      ∀ (b : Addr) (ls : List (Addr × α)), ls.Perm ks → H1 b = none → Q (.ref b) (upd H1 b (.lst ((ls.mergeSort (PySem.W.dataLe false fun p => dd p.2)).map fun p => V.ref p.1)))) σ H) := by
  subst hK hP hw
  refine ⟨fun pins s σ H Q I h => ?_⟩
  refine Call_ (ld_blt I hg hm (u := .builtin "sorted") (by decide +kernel) (PyProof.Rows.callWith_builtin1 (PyProof.Rows.args_cons ?_ rfl) rfl rfl))
  refine Call_ (ld_blt I hg2 hm2 PyProof.Rows.boot_set ?_)
  refine PyProof.Rows.callWith_type1 (PyProof.Rows.args_cons (thn (ha.run pins s σ H _ I h) fun v s1 ⟨x, H1, I1, r1, q1⟩ => PyProof.Rows.args_nil ?_) na) na rfl
  obtain ⟨l, ks, rfl, hL, hz, nd, hat, hdp, hal, qq⟩ := q1
  cases r1
  obtain ⟨its, r, pl, _⟩ := I1.list hL
  refine call_set_n D.S D.h8 ks (I1.ok.hd hc) pl.isList (by simpa using vals_refsA r) (fun p hp => D.sound I1.hok (hat p hp)) hz nd (by have : (64 : Nat) ≤ 64 := Nat.le_refl _; omega) fun h' tk L es ep t R pm hk => ?_
  have I2 : Inv X pins σ H1 { s1 with heap := h', toks := tk } := I1.kept hk
  refine PyProof.Rows.args_nil ?_
  obtain ⟨o, ho, hex, hd⟩ := R.ob
  have es_sz : es.size = ks.length := (rows_size R.rows).trans pm.length_eq
  refine Calls.call_function_entry PyProof.Rows.kind_sorted PyProof.Rows.plain_sorted PyProof.Rows.entry_sorted (PyProof.Rows.args_sorted1 _) ?_
  unfold Builtin.«sorted»
  refine wpAny_bind (m := checkCount "sorted" 1 1 _) (wpAny_pure ?_)
  refine wpAny_bind (collect_set (A := X.A.in1) (I2.ok.hd hc) ⟨o, ho, hex.1, hd⟩ R.fits (by unfold scanBound; omega) R.tb.ris R.led fun s2 out k2 _ g2 o2 pm2 => ?_)
  have e2 : es.toList.map (·.2) = L.map fun p => Value.ref p.1 := by
    rw [R.rows]
    unfold rowsN
    rw [List.map_map]
    rfl
  rw [e2] at pm2
  obtain ⟨Ls, p1, p2⟩ := perm_unmap pm2 L rfl
  have pk := p1.trans pm
  have I3 : Inv X pins σ H1 s2 := by
    have e : s2 = { s2 with os := s2.os } := rfl
    obtain ⟨h2, gg, dr, tt, os⟩ := s2
    have eg : gg = s1.gens := g2
    have eo : os = s1.os := o2
    subst eg eo
    exact I1.call (ch := []) (Un.kept fun b u e => k2 b u (hk b u e)) (I1.hok.kept fun b u e => k2 b u (hk b u e)) I1.bare (fun _ z => nomatch z)
  refine sort_tailX I3 hu (v := fun p : Addr × α => V.ref p.1) (dd := fun p => dd p.2) (ys := Ls) (by rw [p2]; exact refs_valsA Ls) (fun y hy => hdp y (pk.mem_iff.mp hy)) (hal Ls pk).1 (hal Ls pk).2 (by rw [pk.length_eq, sizeLine_eq]; omega) (fun b hb => qq b Ls pk hb) fun l s' h => ⟨_, rfl, h⟩
theorem inD (K : PySem.W.Frag) (hu : X.A.units + 65 < cLine) (h : X.K = K := by rfl) : OpR X (compareOp .In) (rInD K) := h ▸ op_inD hu
/-- sorted of a dict by foldings -/
def rSortF (P : Program) (w : World) (K : PySem.W.Frag) : List V → Hp → VK → Prop := fun vs H Q => ∃ (d : Addr) (kvs : List (Fq × V)), vs = [.ref d] ∧ DF P w FkT H d kvs ∧
  ∀ bs : List Addr, Paired (fun kv b => FkT H b kv.1) kvs bs → ∃ (β : Type) (ad : β → Addr) (dd : β → PyData) (ys : List β), bs = ys.map ad ∧ (∀ y ∈ ys, Dp K H (.ref (ad y)) (dd y) ∧ (dd y).depth ≤ 50) ∧ PySem.W.AllAlike (ys.map dd) ∧ (∀ d ∈ ys.map dd, ∃ xs, d = .tuple xs) ∧
  ∀ p, H p = none → Q (.ref p) (upd H p (.lst ((ys.mergeSort (PySem.W.dataLe false dd)).map fun y => .ref (ad y))))
theorem cr_sortF (P : Program) (w : World) (K : PySem.W.Frag) (calm : X.calm = true) (hu : X.A.units + 64 < cLine) (hP : X.prog = P := by rfl) (hw : X.w = w := by rfl) (hK : X.K = K := by rfl) : CallR X (.builtin "sorted") (rSortF P w K) := by
  subst hP hw hK
  intro pins s σ H vs us Q I r h
  obtain ⟨d, kvs, rfl, ⟨ks, hd, pr⟩, q⟩ := h
  obtain ⟨u, rfl, er⟩ := vals1 r
  cases er
  obtain ⟨⟨z, hs, o, es, ep, ho, hx, hdt, he, hn⟩, _⟩ := (show ObjOk X.prog X.w H s.heap d (dfO X.prog X.w d ks) from (show Rd H d (dfO X.prog X.w d ks) from .inl hd).ok I.hok)
  have l1 : es.size = ks.length := size_of_entries he
  obtain ⟨β, ad, dd, ys, eys, hy, al, ht, qq⟩ := q _ (isFks_of pr)
  have hyl : ys.length = ks.length := by
    have := congrArg List.length eys
    rw [List.length_map, List.length_map] at this
    exact this.symm
  refine Calls.call_function_entry kind_sorted plain_sorted entry_sorted (args_sorted1 _) ?_
  unfold Builtin.«sorted»
  refine wpAny_bind (m := checkCount "sorted" 1 1 _) (wpAny_pure ?_)
  refine wpAny_bind (PySem.W.kdu_collect (kdl_raw hs hx hdt) (I.ok.hd calm) ho (by omega) fun h1 tk acc kp items => ?_)
  have ea := keys_read (X := X) he items.1 items.2
  rw [eys] at ea
  have I2 : Inv X pins σ H { s with heap := h1, toks := tk } := I.kept kp
  have rv : Vals (ys.map fun y => V.ref (ad y)) acc.toList := by
    rw [ea, List.map_map]
    have := vals_refs (ys.map ad)
    rw [List.map_map, List.map_map] at this
    exact this
  exact sort_tailX I2 hu (v := fun y => V.ref (ad y)) (dd := dd) (ys := ys) rv hy al ht (by omega) qq fun l s' h => ⟨_, rfl, h⟩
end
end Pf


namespace Pf
open PySem PySem.Spec PyProof.Rows L2
/-- what is shut in below a height -/
structure Shut (r : Rl) (x : Str) (a b : Fo) (m : Int) (L : List Fo) : Prop where
  pk : Peak r x a b m
  no : m ≤ woV r x a → L = []
  yes : woV r x a < m → (∀ q, q ∈ L ↔ q ∈ AL r x ∧ Rch r x (m - 1) a q)
  srt : SF L = L
  nd : L.Nodup
  sub : ∀ q ∈ L, q ∈ AL r x
theorem fks_zip {H : Hp} : ∀ {kvs : List (Fq × V)} {bs : List Addr}, Paired (fun kv b => FkT H b kv.1) kvs bs → (∀ y ∈ bs.zip (kvs.map (·.1)), FkT H y.1 y.2) ∧ bs.length = kvs.length
  | _, _, .nil => ⟨(fun y hy => by cases hy), rfl⟩
  | _, _, .cons h t => by
    obtain ⟨h1, h2⟩ := fks_zip t
    refine ⟨fun y hy => ?_, by rw [List.length_cons, List.length_cons, h2]⟩
    rw [List.map_cons, List.zip_cons_cons] at hy
    rcases List.mem_cons.mp hy with rfl | hy
    · exact h
    · exact h1 y hy
theorem sort_F {P : Program} {w : World} {K : PySem.W.Frag} {H : Hp} {D : Addr} {kvs : List (Fq × V)} {Q : VK} (hD : DF P w FkT H D kvs) (q : ∀ (p : Addr) (ws : List V) (H' : Hp), H p = none → H' p = some (.lst ws) → Paired (FoAt H') ws (SF (kvs.map (·.1))) → Ext H H' → Q (.ref p) H') : rSortF P w K [.ref D] H Q := by
  refine ⟨D, kvs, rfl, hD, fun bs hbs => ?_⟩
  obtain ⟨hz, hbl⟩ := fks_zip hbs
  have e1 : (bs.zip (kvs.map (·.1))).map (·.1) = bs := List.map_fst_zip (by rw [List.length_map]; omega)
  have e2 : (bs.zip (kvs.map (·.1))).map (·.2) = kvs.map (·.1) := List.map_snd_zip (by rw [List.length_map]; omega)
  refine ⟨Addr × Fo, fun y => y.1, fun y => dFo y.2, bs.zip (kvs.map (·.1)), e1.symm, fun y hy => ⟨dp_fo (v := .ref y.1) (hz y hy), Nat.le_trans (dep_fo _) (by decide)⟩, fun d1 h1 d2 h2 => ?_, fun d hd => ?_, fun p hp => ?_⟩
  · obtain ⟨y1, _, rfl⟩ := List.mem_map.mp h1
    obtain ⟨y2, _, rfl⟩ := List.mem_map.mp h2
    exact alike_fo _ _
  · obtain ⟨y, _, rfl⟩ := List.mem_map.mp hd
    exact ⟨_, rfl⟩
  · have x1 := Ext.new (o := .lst (((bs.zip (kvs.map (·.1))).mergeSort (PySem.W.dataLe false fun y => dFo y.2)).map fun y => V.ref y.1)) hp
    refine q p _ _ hp upd_same ?_ x1
    have es : ((bs.zip (kvs.map (·.1))).mergeSort (PySem.W.dataLe false fun y => dFo y.2)).map (·.2) = SF (kvs.map (·.1)) := by
      have hm := List.map_mergeSort (r := PySem.W.dataLe false fun y : Addr × Fo => dFo y.2) (s := PySem.W.dataLe false dFo) (f := fun y : Addr × Fo => y.2) (l := bs.zip (kvs.map (·.1))) (fun a _ b _ => rfl)
      rw [e2] at hm
      exact hm
    rw [← es]
    have hm : ∀ y ∈ (bs.zip (kvs.map (·.1))).mergeSort (PySem.W.dataLe false fun y => dFo y.2), FkT H y.1 y.2 := fun y hy => hz y ((List.mergeSort_perm _ _).mem_iff.mp hy)
    generalize (bs.zip (kvs.map (·.1))).mergeSort (PySem.W.dataLe false fun y => dFo y.2) = S at hm x1
    have : ∀ {T : List (Addr × Fo)} {H2 : Hp}, (∀ y ∈ T, FkT H y.1 y.2) → Ext H H2 → Paired (FoAt H2) (T.map fun y => V.ref y.1) (T.map (·.2)) := by
      intro T H2 hT hx
      induction T with
      | nil => exact .nil
      | cons y T ih => exact .cons (keyT.mono (TupK.ext hx) (hT y (List.mem_cons_self ..))) (ih fun c hc => hT c (List.mem_cons_of_mem _ hc))
    exact this hm x1
section
variable {P : Program} {w : World} {K : PySem.W.Frag} {mg : Str → Option Value} {base : Heap}
abbrev s_lower_steps : Stmt := topS 27
theorem sc_lower_steps : FnScope ["rules", "string", "folding", "height", "steps", "after"] ["rules", "string", "folding", "height"] (defScope s_lower_steps) :=
  ⟨rfl, rfl, rfl, by decide +kernel, rfl, by decide +kernel, by decide +kernel⟩
def spLower : Sp := fun vs H Q _ => ∃ (v : V) (b : Addr) (r : Rl) (x : Str) (q0 : Fo) (h : Int), vs = [v, .str x, .ref b, .int h] ∧ RulesW H v r ∧ RlOk r ∧ x.length ≤ 12 ∧ FkT H b q0 ∧ q0 ∈ AL r x ∧
  ∀ (p : Addr) (ws : List V) (H' : Hp), H p = none → H' p = some (.lst ws) → Paired (FoAt H') ws ((SF (nb r x q0)).filter fun z => decide (woV r x z < h)) → Ext H H' → Q (.ref p) H'
theorem ok_lower {f : Addr} {fd : FuncData} (F : Fun K "lower_steps" "lower_steps" s_lower_steps f fd) (csteps_from : CSteps P w K mg base) (cworth_of : CWO P w K mg base) : FnOk P w K mg base CX0 6 f fd ["rules", "string", "folding", "height"] spLower := by
  refine F.ok sc_lower_steps (fun vs H Q E h => ?_) (fun cdv A outer s H vs Q E hr h => ?_)
  · obtain ⟨v, b, r, x, q0, h, rfl, _⟩ := h
    rfl
  · obtain ⟨v, b, r, x, q0, h, rfl, hR, ok, hx, hF, hA, q⟩ := h
    refine ⟨_, (pss_cons (ps_set (i := 4) sc_lower_steps.nd rfl (.inl rfl) (pe_ca csteps_from (hr.mono (by decide)) (by rfl) (pa_cons (pv 0) (pa_cons (pv 1) (pa_cons (pv 2) pa_nil)))))
      (pss_one (ps_ret (pe_lc (own := [("after", 5)]) (g := gName 5) (by rfl) sc_lower_steps.nd (pi_list (pv 4)) (blkOk_by (own := [("after", 5)]) (N := ["rules", "string", "folding", "height", "steps", "after"]) (sc := defScope s_lower_steps) (by decide +kernel)) (fun _ _ _ _ _ => (pg_name (i := 5) sc_lower_steps.nd rfl (.inl rfl))) (fun _ _ _ _ _ => (pts_one (pt_cmpR op_lt (pe_ca cworth_of (hr.mono (by decide)) (by rfl) (pa_cons (pv 0) (pa_cons (pv 1) (pa_cons (pv 5) pa_nil)))) (pv 3) (nomark _)))) (fun _ _ _ _ _ => (pv 5)))))), ?_⟩
    refine ⟨_, rfl, _, rfl, _, rfl, v, b, r, x, q0, rfl, hR, ok, hx, hF, hA, fun pf fs H1 hpf hL hP k1 => ?_⟩
    have hfl := paired_len hP
    have hNl : (SF (nb r x q0)).length ≤ 15511 := by
      rw [SF_len]
      exact Nat.le_trans nb_len (AL_len r hx)
    refine ⟨_, rfl, pf, rfl, ⟨_, SqL.of hL⟩, fun D hD => lc_list (K := K) (xs := fs) (fun i H2 => GenL FoAt D H1 (((SF (nb r x q0)).take i).filter fun z => decide (woV r x z < h)) H2) (genl_new hD) (fun i H2 _ hv => SqL.of (hv.ext _ _ hL)) (fun i u H2 hi hv => ?_) (fun H2 hv => ?_)⟩
    · obtain ⟨z, hz, hzF⟩ := paired_get hP hi
      have hzA := nb_sub (SF_mem.mp (List.mem_of_getElem? hz))
      have hzF2 := FoAt.mono _ _ _ _ (TupK.ext hv.ext) hzF
      have hlt : (((SF (nb r x q0)).take i).filter fun z => decide (woV r x z < h)).length < 1000000 := by
        have h1 := List.length_filter_le (fun z => decide (woV r x z < h)) ((SF (nb r x q0)).take i)
        rw [List.length_take] at h1
        omega
      refine ⟨rfl, _, rfl, _, rfl, _, rfl, v, u, r, x, z, r, rfl, RulesW.mono _ _ _ _ (TupK.ext (k1.trans hv.ext)) hR, ok, by omega, hzF2, hx, AL_mem.mp hzA, fun y hy => may_prR ((AL_fo hzA).may y hy), fun H3 k3 => ?_⟩
      refine ⟨_, rfl, _, _, rfl, rfl, _, rfl, ?_⟩
      have et : ((SF (nb r x q0)).take (i + 1)) = (SF (nb r x q0)).take i ++ [z] := by rw [List.take_add_one, hz]; rfl
      rw [et, List.filter_append]
      by_cases e : woV r x z < h
      · rw [decide_eq_true e]
        obtain ⟨acc, h1, h2, h3⟩ := genl_step FoAt.mono hD hv k3 (v := u) (b := z) (FoAt.mono _ _ _ _ (TupK.ext k3) hzF2) hlt
        refine iteT ⟨_, rfl, acc, h1, h2, ?_⟩
        rw [show List.filter (fun z => decide (woV r x z < h)) [z] = [z] by simp [e]]
        exact h3
      · rw [decide_eq_false e]
        refine iteF ?_
        rw [show List.filter (fun z => decide (woV r x z < h)) [z] = [] by simp [e], List.append_nil]
        exact hv.keep FoAt.mono k3
    · rw [hfl, List.take_length] at hv
      obtain ⟨ws, h1, h2, h3⟩ := hv
      exact q D ws H2 (Ext.none k1 hD) h1 h2 (k1.trans h3)
abbrev CLower (P : Program) (w : World) (K : PySem.W.Frag) (mg : Str → Option Value) (base : Heap) : Prop := Ca P w K mg base 6 "lower_steps" ["rules", "string", "folding", "height"] spLower
abbrev s_wall : Stmt := topS 28
theorem sc_wall : FnScope ["rules", "string", "folding", "other", "height", "met", "waiting", "now", "after"] ["rules", "string", "folding", "other"] (defScope s_wall) :=
  ⟨rfl, rfl, rfl, by decide +kernel, rfl, by decide +kernel, by decide +kernel⟩
def spWall : Sp := fun vs H Q _ => ∃ (v : V) (a b : Addr) (r : Rl) (x : Str) (qa qb : Fo), vs = [v, .str x, .ref a, .ref b] ∧ RulesW H v r ∧ RlOk r ∧ x.length ≤ 12 ∧ FkT H a qa ∧ FkT H b qb ∧ qa ∈ AL r x ∧ qb ∈ AL r x ∧
  ∀ (p : Addr) (ws : List V) (L : List Fo) (m : Int) (H' : Hp), H p = none → H' p = some (.lst ws) → Paired (FoAt H') ws L → Shut r x qa qb m L → Ext H H' → Q (.ref p) H'
theorem ok_wall {f : Addr} {fd : FuncData} (F : Fun K "wall" "wall" s_wall f fd) (cridge : CRidge P w K mg base) (cworth_of : CWO P w K mg base) (clower_steps : CLower P w K mg base) (msorted : mg "sorted" = none) : FnOk P w K mg base CX0 8 f fd ["rules", "string", "folding", "other"] spWall := by
  refine F.ok sc_wall (fun vs H Q E h => ?_) (fun cdv A outer s H vs Q E hr h => ?_)
  · obtain ⟨v, a, b, r, x, qa, qb, rfl, _⟩ := h
    rfl
  · obtain ⟨v, a, b, r, x, qa, qb, rfl, hR, ok, hx, hFa, hFb, haA, hbA, q⟩ := h
    refine ⟨_, (pss_cons (ps_set (i := 4) sc_wall.nd rfl (.inl rfl) (pe_ix (ixT K) (pe_ca cridge (hr.mono (by decide)) (by rfl) (pa_cons (pv 0) (pa_cons (pv 1) (pa_cons (pv 2) (pa_cons (pv 3) pa_nil))))) pe_int (fun _ _ => rfl)))
      (pss_cons (ps_if (pt_cmpR op_ge (pe_ca cworth_of (hr.mono (by decide)) (by rfl) (pa_cons (pv 0) (pa_cons (pv 1) (pa_cons (pv 2) pa_nil)))) (pv 4) (nomark _)) (pss_one (ps_ret (pe_lst pa_nil))) pss_nil)
      (pss_cons (ps_set (i := 5) sc_wall.nd rfl (.inl rfl) (pe_dispF (P := P) (w := w) hr.units (pv 2) pe_bl))
      (pss_cons (ps_set (i := 6) sc_wall.nd rfl (.inl rfl) (pe_lst (pa_cons (pv 2) pa_nil)))
      (pss_cons (ps_while PassesOwn.never (pt_truth (pv 6) (by intro _; rfl)) (pss_cons (ps_set (i := 7) sc_wall.nd rfl (.inl rfl) (pe_bm0 PySem.F.plainAttrs_list PySem.F.slot_list_pop PySem.F.type_list_pop mt_pop (pv 6)))
      (pss_one (ps_for PassesOwn.never rfl (pi_list (pe_ca clower_steps (hr.mono (by decide)) (by rfl) (pa_cons (pv 0) (pa_cons (pv 1) (pa_cons (pv 7) (pa_cons (pv 4) pa_nil)))))) (pg_name (i := 8) sc_wall.nd rfl (.inl rfl)) (pss_one (ps_if (pt_cmp (pc_fnotin (P := P) (w := w) hr.units (pv 8) (pv 5)) rfl) (pss_cons (ps_fput (P := P) (w := w) hr.units (pv 5) (pv 8) pe_bl rfl)
      (pss_one (ps_expr (pe_bm PySem.F.plainAttrs_list PySem.F.slot_list_append PySem.F.type_list_append mt_append (pv 6) (pa_cons (pv 8) pa_nil))))) pss_nil))))))
      (pss_one (ps_ret (pe_callB (cr_sortF P w K rfl hr.units) (by rfl) msorted (by decide +kernel) (pa_cons (pv 5) pa_nil))))))))), ?_⟩
    have hAl := AL_len r hx
    refine ⟨_, rfl, _, rfl, _, rfl, _, rfl, v, a, b, r, x, qa, qb, rfl, hR, ok, hx, hFa, hFb, haA, hbA, fun t l ws0 L0 m H1 hl0 ht hl hP0 hWay hall hmx hpk hLl hsm k1 => ?_⟩
    refine ⟨t, _, 0, _, rfl, rfl, SqT.of ht, rfl, ?_⟩
    clear hl hP0 hWay hall hmx hLl hsm hl0 ht
    refine ⟨_, rfl, _, rfl, _, rfl, v, .ref a, r, x, qa, r, rfl, RulesW.mono _ _ _ _ (TupK.ext k1) hR, ok, by omega, keyT.mono (TupK.ext k1) hFa, hx, AL_mem.mp haA, fun y hy => may_prR ((AL_fo haA).may y hy), fun H2 k2 => ?_⟩
    have k02 := k1.trans k2
    refine ⟨_, rfl, _, _, rfl, rfl, _, rfl, ?_⟩
    by_cases hlo : woV r x qa ≥ m
    · rw [decide_eq_true hlo]
      refine iteT ⟨Nat.zero_le _, fun p hp => ?_⟩
      exact q p [] [] m _ (Ext.none k02 hp) upd_same .nil ⟨hpk, fun _ => rfl, fun h => by omega, List.perm_nil.mp (SF_perm []), List.nodup_nil, fun q hq => by cases hq⟩ (k02.trans (Ext.new hp))
    · rw [decide_eq_false hlo]
      refine iteF ?_
      refine fun D hD => ?_
      have x0 := Ext.new (o := .dK []) hD
      refine ⟨_, rfl, upd_same, FkT, keyT, a, qa, rfl, keyT.mono (TupK.ext (k02.trans x0)) hFa, fun o hDF => ?_⟩
      have x1 := x0.put (o := o) hD
      generalize upd (upd H2 D (.dK [])) D o = H3 at hDF x1 ⊢
      have hDH : H D = none := Ext.none k02 hD
      have k03 := k02.trans x1
      refine ⟨_, rfl, szL (show 1 ≤ 1000000 by decide), fun sl hsl => ?_⟩
      have x2 := Ext.new (o := .lst [.ref a]) hsl
      have nDs : D ≠ sl := fun e => by
        obtain ⟨z, hz⟩ := hDF.there
        rw [e, hsl] at hz
        cases hz
      have hslH : H sl = none := Ext.none k03 hsl
      refine ⟨fun n σ Hc => ∃ (kvs : List (Fq × V)) (Dn Sk : List Fo) (ws : List V) (y7 y8 : Option V), n + Dn.length = (AL r x).length ∧ σ = [some v, some (.str x), some (.ref a), some (.ref b), some (.int m), some (.ref D), some (.ref sl), y7, y8] ∧ Fnd r x (m - 1) qa (kvs.map (·.1)) Dn Sk ∧ DF P w FkT Hc D kvs ∧ Hc sl = some (.lst ws) ∧ Paired (FoAt Hc) ws Sk ∧ Ext H Hc,
        ⟨_, _, [], [qa], [.ref a], none, none, rfl, rfl, Fnd.start haA, hDF.ext keyT x2, upd_same, .cons (keyT.mono (TupK.ext (k03.trans x2)) hFa) .nil, k03.trans x2⟩, fun n σ Hc hv => ?_⟩
      obtain ⟨kvs, Dn, Sk, ws, y7, y8, hm, rfl, S, hDc, hs, hPs, kx⟩ := hv
      have hwl := paired_len hPs
      refine ⟨_, rfl, !ws.isEmpty, .inl ⟨ws, SqL.of hs, rfl⟩, ?_⟩
      rcases List.eq_nil_or_concat Sk with hSk | ⟨Sk0, here, hSk⟩
      · subst hSk
        obtain rfl : ws = [] := List.eq_nil_of_length_eq_zero hwl
        delta tNil
        refine iteF ⟨_, rfl, sort_F hDc fun p fs H5 hp hL hP k5 => ?_⟩
        refine q p fs _ m H5 (Ext.none kx hp) hL hP ⟨hpk, fun h => absurd h hlo, fun _ z => by rw [SF_mem]; exact S.done, SF_idem _, (SF_perm _).nodup_iff.mpr S.nd, fun z hz => (S.rch z (SF_mem.mp hz)).1⟩ (kx.trans k5)
      · rw [List.concat_eq_append] at hSk
        subst hSk
        obtain ⟨ws1, hv, hwe, hP0, hFh⟩ : ∃ (ws1 : List V) (hv : V), ws = ws1 ++ [hv] ∧ Paired (FoAt Hc) ws1 Sk0 ∧ FoAt Hc hv here := by
          obtain ⟨a1, a2, e, h1, h2⟩ := pair_splitR hPs
          cases h2 with
          | cons hh t =>
            cases t
            exact ⟨a1, _, e, h1, hh⟩
        subst hwe
        rw [show (!(ws1 ++ [hv]).isEmpty) = true by cases ws1 <;> rfl]
        refine iteT ⟨fun σ' H' => ∃ (kvs : List (Fq × V)) (Dn' Sk : List Fo) (ws : List V) (y7 y8 : Option V), Dn'.length = Dn.length + 1 ∧ Dn'.length ≤ (AL r x).length ∧ σ' = [some v, some (.str x), some (.ref a), some (.ref b), some (.int m), some (.ref D), some (.ref sl), y7, y8] ∧ Fnd r x (m - 1) qa (kvs.map (·.1)) Dn' Sk ∧ DF P w FkT H' D kvs ∧ H' sl = some (.lst ws) ∧ Paired (FoAt H') ws Sk ∧ Ext H H',
          fun σ' H' ⟨kvs, Dn', Sk, ws, y5, y6, h0, h1, h2, h3, h4, h5, h6, h7⟩ => ⟨(AL r x).length - Dn'.length, by omega, kvs, Dn', Sk, ws, y5, y6, by omega, h2, h3, h4, h5, h6, h7⟩, ?_⟩
        have S1 : Fnd r x (m - 1) qa (kvs.map (·.1)) Dn (here :: Sk0) := S.perS List.perm_append_comm
        obtain ⟨bh, bhs, rfl, hbh⟩ := id hFh
        have hhA : here ∈ AL r x := (S1.rch here (S1.per.mem_iff.mpr (List.mem_append_right _ (List.mem_cons_self ..)))).1
        refine ⟨_, rfl, .inl ⟨rfl, _, SqL.of hs⟩, sl, ws1 ++ [.ref bh], .ref bh, rfl, rfl, hs, by rw [List.length_append, List.length_singleton, Nat.add_sub_cancel, List.getElem?_append_right (Nat.le_refl _), Nat.sub_self]; rfl, ?_⟩
        rw [List.dropLast_concat]
        have tk4 : TupK Hc (upd Hc sl (.lst ws1)) := TupK.lst hs
        have kx4 : Ext H (upd Hc sl (.lst ws1)) := kx.put hslH
        have hD4 := hDc.keeps keyT tk4 (upd_ne nDs)
        have hs4 : upd Hc sl (.lst ws1) sl = some (.lst ws1) := upd_same
        have hP4 := paired_imp (fun _ _ => FoAt.mono _ _ _ _ tk4) hP0
        have hF4 := FoAt.mono _ _ _ _ tk4 hFh
        generalize upd Hc sl (.lst ws1) = H4 at kx4 hD4 hs4 hP4 hF4 ⊢
        refine ⟨_, rfl, _, rfl, _, rfl, _, rfl, v, bh, r, x, here, m, rfl, RulesW.mono _ _ _ _ (TupK.ext kx4) hR, ok, hx, hF4, hhA, fun pf fs H5 hpf hLf hPf k5 => ?_⟩
        have hfl := paired_len hPf
        have npD : pf ≠ D := fun e => by
          obtain ⟨z, hz⟩ := hD4.there
          rw [e, hz] at hpf
          cases hpf
        have nps : pf ≠ sl := fun e => by rw [e, hs4] at hpf; cases hpf
        generalize hN : (SF (nb r x here)).filter (fun z => decide (woV r x z < m)) = N at hPf hfl
        have hNm : ∀ z, z ∈ N ↔ z ∈ nb r x here ∧ woV r x z ≤ m - 1 := fun z => by
          rw [← hN, List.mem_filter, SF_mem, decide_eq_true_iff]
          exact ⟨fun h => ⟨h.1, by omega⟩, fun h => ⟨h.1, by omega⟩⟩
        refine ⟨pf, rfl, ⟨_, SqL.of hLf⟩, for_list (K := K) (xs := fs) (fun i σ H6 => ∃ (kvs' : List (Fq × V)) (Sk' : List Fo) (ws' : List V) (y8 : Option V), σ = [some v, some (.str x), some (.ref a), some (.ref b), some (.int m), some (.ref D), some (.ref sl), some (.ref bh), y8] ∧ Fnd r x (m - 1) qa (kvs'.map (·.1)) Dn (here :: Sk') ∧
            (∀ z ∈ N.take i, z ∈ kvs'.map (·.1)) ∧ DF P w FkT H6 D kvs' ∧ H6 sl = some (.lst ws') ∧ Paired (FoAt H6) ws' Sk' ∧ H6 pf = some (.lst fs) ∧ TupK H5 H6 ∧ Ext H H6)
          ⟨kvs, Sk0, ws1, _, rfl, S1, (fun z hz => by rw [List.take_zero] at hz; cases hz), hD4.ext keyT k5, k5 _ _ hs4, paired_imp (fun _ _ => FoAt.mono _ _ _ _ (TupK.ext k5)) hP4, hLf, TupK.refl, kx4.trans k5⟩ (fun i σ H6 _ h => by obtain ⟨_, _, _, _, _, _, _, _, _, _, h, _⟩ := h; exact SqL.of h) (fun i uv σ H6 hi hv => ?_) (fun σ H6 hv => ?_)⟩
        · obtain ⟨kvs', Sk', ws', y8, rfl, S6, hNt, hD6, hs6, hP6, hpf6, tk6, kx6⟩ := hv
          obtain ⟨z, hz, hzF⟩ := paired_get hPf hi
          have hzF6 := FoAt.mono _ _ _ _ tk6 hzF
          obtain ⟨bz, bzs, rfl, hbz⟩ := id hzF6
          have hzN := (hNm z).mp (List.mem_of_getElem? hz)
          have hzt : N.take (i + 1) = N.take i ++ [z] := by rw [List.take_add_one, hz]; rfl
          refine ⟨_, rfl, _, rfl, D, bz, kvs', z, rfl, rfl, keyT.imp hzF6, hD6.r keyT, _, rfl, ?_⟩
          by_cases hzT : z ∈ kvs'.map (·.1)
          · rw [show (valV kvs' z).isSome = true from val_in.mpr hzT]
            refine iteF ⟨kvs', Sk', ws', _, rfl, S6, fun y hy => ?_, hD6, hs6, hP6, hpf6, tk6, kx6⟩
            rw [hzt] at hy
            rcases List.mem_append.mp hy with hy | hy
            · exact hNt y hy
            · rw [List.mem_singleton.mp hy]
              exact hzT
          · have hno : (valV kvs' z).isSome = false := Bool.eq_false_iff.mpr fun h => hzT (val_in.mp h)
            rw [hno]
            have S7 := S6.add hzT hzN.1 hzN.2
            have hl6 := S7.len
            have hl5 := S6.len
            have hwl5 := paired_len hP6
            simp only [List.length_append, List.length_map, List.length_cons, List.length_nil] at hl6 hl5
            refine iteT ⟨_, rfl, _, rfl, FkT, keyT, D, bz, kvs', z, rfl, rfl, .inl hD6, hzF6, szLt (by omega), fun o hDo => ?_⟩
            have tk7 : TupK H6 (upd H6 D o) := mut_tk hD6.mut
            have hs7 : upd H6 D o sl = some (.lst ws') := by rw [upd_ne nDs.symm]; exact hs6
            have hp7 : upd H6 D o pf = some (.lst fs) := by rw [upd_ne npD]; exact hpf6
            have kx7 : Ext H (upd H6 D o) := kx6.put hDH
            have hz7 : FoAt (upd H6 D o) (.ref bz) z := FoAt.mono _ _ _ _ tk7 hzF6
            have hP7 := paired_imp (fun _ _ => FoAt.mono _ _ _ _ tk7) hP6
            have tk57 := tk6.trans tk7
            rw [putK_new _ (by cases e : valV kvs' z with
              | none => rfl
              | some y =>
                rw [e] at hno
                cases hno)] at hDo
            generalize upd H6 D o = H7 at hDo hs7 hp7 kx7 hz7 hP7 tk57 ⊢
            refine ⟨_, rfl, .inl ⟨rfl, _, SqL.of hs7⟩, _, rfl, sl, ws', .ref bz, rfl, rfl, hs7, szLt (by omega), ?_⟩
            have tk8 : TupK H7 (upd H7 sl (.lst (ws' ++ [.ref bz]))) := TupK.lst hs7
            refine ⟨kvs' ++ [(z, .bl true)], Sk' ++ [z], ws' ++ [.ref bz], _, rfl, by rw [List.map_append]; exact S7, fun y hy => ?_, hDo.keeps keyT tk8 (upd_ne nDs), upd_same, paired_app (paired_imp (fun _ _ => FoAt.mono _ _ _ _ tk8) hP7) (.cons (FoAt.mono _ _ _ _ tk8 hz7) .nil), by rw [upd_ne nps]; exact hp7, tk57.trans tk8, kx7.put hslH⟩
            rw [hzt] at hy
            rw [List.map_append]
            rcases List.mem_append.mp hy with hy | hy
            · exact List.mem_append_left _ (hNt y hy)
            · rw [List.mem_singleton.mp hy]
              exact List.mem_append_right _ (List.mem_singleton.mpr rfl)
        · obtain ⟨kvs', Sk', ws', y8, rfl, S6, hNt, hD6, hs6, hP6, hpf6, tk6, kx6⟩ := hv
          have S7 := S6.full fun z hz hzu => hNt z (by rw [hfl, List.take_length]; exact (hNm z).mpr ⟨hz, hzu⟩)
          exact ⟨kvs', Dn ++ [here], Sk', ws', _, _, by rw [List.length_append]; rfl, by have := S7.len; omega, rfl, S7, hD6, hs6, hP6, kx6⟩
abbrev CWall (P : Program) (w : World) (K : PySem.W.Frag) (mg : Str → Option Value) (base : Heap) : Prop := Ca P w K mg base 8 "wall" ["rules", "string", "folding", "other"] spWall
end
end Pf


namespace Pf
open PySem PySem.Spec PyProof.Rows L2
/-! ### zip of two texts -/
def ItZS (x y : Str) : It :=
  ⟨fun i _ => i < x.cps.size ∧ i < y.cps.size, fun i H v H' => ∃ T c d, v = .ref T ∧ H T = none ∧ H' = upd H T (.tup [.str ⟨#[c]⟩, .str ⟨#[d]⟩]) ∧ x.cps[i]? = some c ∧ y.cps[i]? = some d, fun i _ => i ≤ x.cps.size ∧ i ≤ y.cps.size ∧ (i = x.cps.size ∨ i = y.cps.size)⟩
theorem turn_zs {P : Program} {w : World} {K : PySem.W.Frag} {elts : List Expr} {kk : Nat} {tpos : Pos} (x y : Str) (t1 t2 : Tok) {z TI TO j1 j2 : Addr} (S : ZipSep2 z TI TO j1 j2 [j1] [j2]) :
    Turn P w K (.Tuple elts kk tpos) (ItZS x y) [z, TI, TO, j1, j2] z (fun i h => IsZip h z TI TO .none ∧ IsTupOf2 h TI (.ref j1) (.ref j2) ∧ (∃ a b, IsTupOf2 h TO a b) ∧ h.IsStrIter j1 (strIterType x) x t1 i ∧ h.IsStrIter j2 (strIterType y) y t2 i) where
  mem := by simp
  obj := fun i h st b hb => by
    obtain ⟨hz, hTI, ⟨_, _, hTO⟩, ⟨o1, e1, _, d1⟩, ⟨o2, e2, _, d2⟩⟩ := st
    have hb : b = z ∨ b = TI ∨ b = TO ∨ b = j1 ∨ b = j2 := by simpa using hb
    rcases hb with rfl | rfl | rfl | rfl | rfl
    · exact ⟨_, hz, fun v q => nomatch q⟩
    · exact ⟨_, hTI, fun v q => nomatch q⟩
    · exact ⟨_, hTO, fun v q => nomatch q⟩
    · exact ⟨o1, e1, fun v q => by rw [d1] at q; cases q⟩
    · exact ⟨o2, e2, fun v q => by rw [d2] at q; cases q⟩
  keep := fun i h h' st k => by
    obtain ⟨hz, hTI, ⟨a, b, hTO⟩, ⟨o1, e1, r1⟩, ⟨o2, e2, r2⟩⟩ := st
    exact ⟨k z (by simp) _ hz, k TI (by simp) _ hTI, ⟨a, b, k TO (by simp) _ hTO⟩, ⟨o1, k j1 (by simp) _ e1, r1⟩, ⟨o2, k j2 (by simp) _ e2, r2⟩⟩
  item := by
    intro X hP hw hK hc i pins s σ H E I hf st hg
    subst hP hw hK
    obtain ⟨hz, hTI, ⟨_, _, hTO⟩, h1, h2⟩ := st
    have lz := Heap.lt_size hz
    have lTI := Heap.lt_size hTI
    have lTO := Heap.lt_size hTO
    have l1 : j1 < s.heap.objs.size := by
      obtain ⟨_, e, _⟩ := h1
      exact Heap.lt_size e
    have l2 : j2 < s.heap.objs.size := by
      obtain ⟨_, e, _⟩ := h2
      exact Heap.lt_size e
    have hd : X.A.in1.handled = none := I.ok.hd hc
    have D1 := Draws.text (prog := X.prog) (w := X.w) (A := X.A.in1) hd j1 x t1
    have D2 := Draws.text (prog := X.prog) (w := X.w) (A := X.A.in1) hd j2 y t2
    refine wpAny_pyNext_zipD2_item S D1 D2 hz hTI hTO h1 h2 hg.1 hg.2 fun u v h' tk hu hv z' TO' h1' h2' hT hsz hk => ?_
    obtain ⟨c, tc, hcx, rfl⟩ := hu
    obtain ⟨d, td, hdy, rfl⟩ := hv
    refine ⟨_, rfl, wpAny_letOwnedTupleGo_zip (s := { s with heap := h', toks := tk }) z' fun h'' z'' sb => ?_⟩
    have hT2 := (sb.2 _ (Nat.ne_of_gt lz)).trans hT
    have new : ObjOk X.prog X.w (upd H s.heap.objs.size (.tup [.str ⟨#[c]⟩, .str ⟨#[d]⟩])) h'' s.heap.objs.size (.tup [.str ⟨#[c]⟩, .str ⟨#[d]⟩]) :=
      ⟨by show 2 ≤ sizeLine; decide, [.str ⟨#[c]⟩ tc, .str ⟨#[d]⟩ td], .cons ⟨_, rfl⟩ (.cons ⟨_, rfl⟩ .nil), ⟨_, hT2, rfl, _, rfl⟩⟩
    have I1 : Inv X pins σ (upd H s.heap.objs.size (.tup [.str ⟨#[c]⟩, .str ⟨#[d]⟩])) { s with heap := h'', toks := tk } :=
      I.turnedNew (ch := [z, TI, TO, j1, j2]) (fun b ob hb q => (sb.2 b (fun e => hb (by simp [e]))).trans (hk b ob (fun e => hb (by simp [e])) (fun e => hb (by simp [e])) (fun e => hb (by simp [e])) (fun e => hb (by simp [e])) q)) hf (Nat.le_refl _) new
    obtain ⟨o1, e1, r1⟩ := h1'
    obtain ⟨o2, e2, r2⟩ := h2'
    refine ⟨.ref s.heap.objs.size, _, I1, rfl, ⟨_, c, d, rfl, I.hok.fresh (Nat.le_refl _), rfl, hcx, hdy⟩, ⟨z'', ?_, ⟨_, _, (sb.2 _ S.TOz).trans TO'⟩, ⟨o1, (sb.2 _ (fun e => S.zf1 (by simp [e]))).trans e1, r1⟩, ⟨o2, (sb.2 _ (fun e => S.zf2 (by simp [e]))).trans e2, r2⟩⟩, fun b hb => ?_⟩
    · exact (sb.2 _ S.TIz).trans (hk _ _ S.TIz S.TITO S.TIi1 S.TIi2 hTI)
    · have hlt : b < s.heap.objs.size := by
        have hb' : b = z ∨ b = TI ∨ b = TO ∨ b = j1 ∨ b = j2 := by simpa using hb
        rcases hb' with rfl | rfl | rfl | rfl | rfl <;> assumption
      rw [upd_ne (Nat.ne_of_lt hlt)]
      exact (hf b hb).1
  done := by
    intro X hP hw hK hc i pins s σ H E I hf st hg
    subst hP hw hK
    obtain ⟨hz, hTI, ⟨_, _, hTO⟩, h1, h2⟩ := st
    have hd : X.A.in1.handled = none := I.ok.hd hc
    have D1 := Draws.text (prog := X.prog) (w := X.w) (A := X.A.in1) hd j1 x t1
    have D2 := Draws.text (prog := X.prog) (w := X.w) (A := X.A.in1) hd j2 y t2
    exact wpAny_pyNext_zipD2_end S D1 D2 hz hTI hTO h1 h2 hg.1 hg.2.1 hg.2.2 fun h' tk hk => ⟨rfl, I.turnedL (t' := tk) (ch := [z, TI, TO, j1, j2]) (fun b o hb q => hk b o (fun e => hb (by simp [e])) (fun e => hb (by simp [e])) (fun e => hb (by simp [e])) (fun e => hb (by simp [e])) q) hf⟩
  self := fun A i s Q E st h => wpAny_pyIter_zip st.1 h
/-- zip of two texts, or of two lists -/
def iZipB (K : PySem.W.Frag) (ta : TA) : TI := fun σ H R => ta σ H fun vs H1 => (∃ x y, vs = [.str x, .str y] ∧ R (ItZS x y) H1) ∨ (∃ a b xs ys, vs = [.ref a, .ref b] ∧ SqL K H1 a xs ∧ SqL K H1 b ys ∧ R (Itz K a b) H1)
theorem pi_zipB (K : PySem.W.Frag) {X : Cx} {e e2 : Expr} {ta : TA} {p pos tpos : Pos} {elts : List Expr} {kk : Nat} (hg : Gl X "zip") (hm : X.mg "zip" = none) (ha : PA X [e, e2] ta)
    (hK : X.K = K := by rfl) (hs : starEach [e, e2] X.env = (false, eval e X.env) :: starEach [e2] X.env := by rfl) (hpl : (backTo pos (starEach [e2] X.env)).any (·.1) = false := by rfl) :
    PI X (.Tuple elts kk tpos) (.Call (.Name "zip" p) [e, e2] [] pos) (iZipB K ta) := by
  subst hK
  refine ⟨fun pins s σ H R I h => ?_⟩
  refine Call_ (ld_blt I hg hm PyProof.Rows.boot_zip (PyProof.Rows.callWith_type1 (thn (ha.run pos pins s σ H _ I h) fun us s1 ⟨vs, H1, I1, r1, q1⟩ => ?_) hs hpl))
  have new5 : ∀ c, c ∈ [s1.heap.objs.size + 4, s1.heap.objs.size + 2, s1.heap.objs.size + 3, s1.heap.objs.size, s1.heap.objs.size + 1] → FpOk X pins H1 c := fun c hcm => by
    have hcm : c = s1.heap.objs.size + 4 ∨ c = s1.heap.objs.size + 2 ∨ c = s1.heap.objs.size + 3 ∨ c = s1.heap.objs.size ∨ c = s1.heap.objs.size + 1 := by simpa using hcm
    have hle : s1.heap.objs.size ≤ c := by
      rcases hcm with rfl | rfl | rfl | rfl | rfl
      · exact Nat.le_add_right _ _
      · exact Nat.le_add_right _ _
      · exact Nat.le_add_right _ _
      · exact Nat.le_refl _
      · exact Nat.le_add_right _ _
    exact I1.fpOk hle (I1.hok.fresh hle)
  rcases q1 with ⟨x, y, rfl, q⟩ | ⟨a, b, xs, ys, rfl, hqx, hqy, q⟩
  · obtain ⟨u, us2, rfl, ⟨t1, rfl⟩, r2⟩ : ∃ u us2, us = u :: us2 ∧ RelV (.str x) u ∧ Vals [.str y] us2 := by
      cases r1 with
      | cons r rr => exact ⟨_, _, rfl, r, rr⟩
    obtain ⟨u2, rfl, t2, rfl⟩ := vals1 r2
    refine zip_begins2 (begins_text x t1) (begins_text y t2) trivial trivial fun h' hz hTI hTO h1 h2 hsz hk => wpAny_pyIter_zip hz ?_
    have S : ZipSep2 (s1.heap.objs.size + 4) (s1.heap.objs.size + 2) (s1.heap.objs.size + 3) s1.heap.objs.size (s1.heap.objs.size + 1) [s1.heap.objs.size] [s1.heap.objs.size + 1] := by
      constructor <;> simp
    exact ⟨s1.heap.objs.size + 4, [s1.heap.objs.size + 4, s1.heap.objs.size + 2, s1.heap.objs.size + 3, s1.heap.objs.size, s1.heap.objs.size + 1], _, _, H1, rfl, I1.kept (t' := s1.toks) hk, turn_zs x y t1 t2 S, ⟨hz, hTI, ⟨_, _, hTO⟩, ⟨_, h1, rfl, rfl⟩, ⟨_, h2, rfl, rfl⟩⟩, new5, q⟩
  · have R : Vals [V.ref a, .ref b] us := r1
    cases r1 with
    | cons r rr =>
      cases rr with
      | cons r' rr =>
        cases rr
        cases r
        cases r'
        obtain ⟨its, rv, p1, _⟩ := I1.list hqx
        obtain ⟨its2, rv2, p2, _⟩ := I1.list hqy
        refine call_zip_2 p1.isList p2.isList fun h' hz hTI hTO h1 h2 hsz hk => wpAny_pyIter_zip hz ?_
        exact ⟨s1.heap.objs.size + 4, [s1.heap.objs.size + 4, s1.heap.objs.size + 2, s1.heap.objs.size + 3, s1.heap.objs.size, s1.heap.objs.size + 1], _, _, H1, rfl, I1.kept (t' := s1.toks) hk, turn_zip (PySem.W.ktu_apart s1.heap.objs.size a b p1.lt p2.lt), ⟨hz, hTI, ⟨_, _, hTO⟩, h1, h2⟩, new5, q⟩
end Pf


namespace Pf
open PySem PySem.Spec PyProof.Rows L2
section
variable {P : Program} {w : World} {K : PySem.W.Frag} {mg : Str → Option Value} {base : Heap}
abbrev s_law_any : Stmt := topS 43
theorem sc_law_any : FnScope ["_law_pen_here", "_law_world_here", "_law_every", "_law_some", "_law_far", "_law_one"] ["_law_pen_here", "_law_world_here"] (defScope s_law_any) :=
  ⟨rfl, rfl, rfl, by decide +kernel, rfl, by decide +kernel, by decide +kernel⟩
def spAny (P : Program) (w : World) : Sp := fun vs H Q _ => ∃ (p c W : Addr) (v : V) (r : Rl) (x : Str) (n : Nat), vs = [.ref p, .ref W] ∧ WorldAt P w p H W v r x ∧ x.length ≤ 12 ∧ Pen H p c n ∧ n + 2 < 1000000 ∧
  ∀ (b : Addr) (q : Fo) H', FkT H' b q → q ∈ AL r x → Kp p H H' → Pen H' p c (n + 2) → Q (.ref b) H'
theorem ok_any {f : Addr} {fd : FuncData} (F : Fun K "_law_any" "_law_any" s_law_any f fd) (c_law_take : CDraw P w K mg base) (mlen : mg "len" = none) (msorted : mg "sorted" = none) : FnOk P w K mg base CX0 2 f fd ["_law_pen_here", "_law_world_here"] (spAny P w) := by
  refine F.ok sc_law_any (fun vs H Q E h => ?_) (fun cdv A outer s H vs Q E hr h => ?_)
  · obtain ⟨p, c, W, v, r, x, n, rfl, _⟩ := h
    rfl
  · obtain ⟨p, c, W, v, r, x, n, rfl, hWp, hx, hP, hn, q⟩ := h
    obtain ⟨Dw, Ds, E, es, ss, C, hW⟩ := hWp.wld
    have hEp : E ≠ p := by
      obtain ⟨_, _, _, hp, _⟩ := hP
      have key : ∀ {us : List V} {L : List Fo} {c : Addr} {y z : Int}, Paired (FoAt H) us L → us = [.ref c, .int y, .int z] → False := by
        intro us L c y z h e
        subst e
        cases h with
        | cons _ t => cases t with
          | cons h2 _ =>
            obtain ⟨_, _, e, _⟩ := h2
            cases e
      intro e
      have he := hW.he
      rw [e, hp] at he
      injection he with he
      injection he with he
      exact key hW.pe he.symm
    refine ⟨_, (pss_cons (ps_set (i := 2) sc_law_any.nd rfl (.inl rfl) (pe_dget (hu_of hr) (pv 1) pe_str (fun _ _ => rfl)))
      (pss_cons (ps_set (i := 3) sc_law_any.nd rfl (.inl rfl) (pe_callB (cr_sortD K hr.units) (by rfl) msorted (by decide +kernel) (pa_cons (pe_lc (own := [("_law_one", 5)]) (g := gName 5) (by rfl) sc_law_any.nd (pi_list (pv 2)) (blkOk_by (own := [("_law_one", 5)]) (N := ["_law_pen_here", "_law_world_here", "_law_every", "_law_some", "_law_far", "_law_one"]) (sc := defScope s_law_any) (by decide +kernel)) (fun _ _ _ _ _ => (pg_name (i := 5) sc_law_any.nd rfl (.inl rfl))) (fun _ _ _ _ _ => pts_nil) (fun _ _ _ _ _ => (pe_tup (pa_cons (pe_fget (P := P) (w := w) hr.units (pe_dget (hu_of hr) (pv 1) pe_str (fun _ _ => rfl)) (pv 5) (fun _ _ => rfl)) (pa_cons (pv 5) pa_nil))))) pa_nil)))
      (pss_cons (ps_set (i := 4) sc_law_any.nd rfl (.inl rfl) (pe_ix (ixL K) (pv 2) (pe_ca c_law_take (hr.mono (by decide)) (by rfl) (pa_cons (pv 0) (pa_cons (pe_callB (lenQ K) (by rfl) mlen (by decide +kernel) (pa_cons (pv 2) pa_nil)) pa_nil))) (fun _ _ => rfl)))
      (pss_one (ps_ret (pe_ix (ixL K) (pe_lst (pa_cons (pv 4) (pa_cons (pv 4) (pa_cons (pe_ix (ixT K) (pe_ix (ixL K) (pv 3) pe_int (fun _ _ => rfl)) pe_int (fun _ _ => rfl)) (pa_cons (pe_ix (ixT K) (pe_ix (ixL K) (pv 3) (pe_un un_neg pe_int) (fun _ _ => rfl)) pe_int (fun _ _ => rfl)) (pa_cons (pe_tup pa_nil) pa_nil)))))) (pe_ca c_law_take (hr.mono (by decide)) (by rfl) (pa_cons (pv 0) (pa_cons pe_int pa_nil))) (fun _ _ => rfl))))))), ?_⟩
    have hAl := AL_len r hx
    have hel := paired_len hW.pe
    have hnd := AL_nd r x
    refine ⟨_, rfl, W, _, rfl, hW.ev, ?_⟩
    refine ⟨_, rfl, E, rfl, ⟨_, SqL.of hW.he⟩, fun D hD => lc_list (K := K) (xs := es) (fun i H2 => ∃ ws, H2 D = some (.lst ws) ∧ Paired (WtAt r x H2) ws ((AL r x).take i) ∧ Ext H H2) ⟨[], upd_same, .nil, Ext.new hD⟩ (fun i H2 _ h => by obtain ⟨_, _, _, k⟩ := h; exact SqL.of (k _ _ hW.he)) (fun i u H2 hi hv => ?_) (fun H2 hv => ?_)⟩
    · obtain ⟨ws, hDD, hPw, k2⟩ := hv
      obtain ⟨z, hz, hzF⟩ := paired_get hW.pe hi
      obtain ⟨bz, bzs, rfl, hbz⟩ := id hzF
      have hW2 := hW.ext k2
      have hwl := paired_len hPw
      have hil : i < es.length := (List.getElem?_eq_some_iff.mp hi).1
      refine ⟨rfl, _, rfl, W, _, rfl, hW2.ws, _, rfl, Dw, bz, _, z, _, rfl, rfl, hW2.hw.r keyT, keyT.imp (FoAt.mono _ _ _ _ (TupK.ext k2) hzF), val_enW hnd (List.mem_of_getElem? hz), _, rfl, szL (show 2 ≤ 1000000 by decide), fun t ht => ?_⟩
      have x3 := Ext.new (o := .tup [.int (woV r x z), .ref bz]) ht
      have hD3 := x3 _ _ hDD
      have ht3 : upd H2 t (.tup [.int (woV r x z), .ref bz]) t = some (.tup [.int (woV r x z), .ref bz]) := upd_same
      have hPw3 := paired_imp (fun _ _ => WtAt.mono _ _ _ _ (TupK.ext x3)) hPw
      have k3 := k2.trans x3
      generalize upd H2 t (.tup [.int (woV r x z), .ref bz]) = H3 at hD3 ht3 hPw3 k3 ⊢
      rw [List.length_take] at hwl
      have tk := TupK.lst (o := .lst (ws ++ [.ref t])) hD3
      refine ⟨_, hD3, szLt (by omega), ws ++ [.ref t], upd_same, ?_, k3.put hD⟩
      rw [List.take_add_one, hz]
      exact paired_app (paired_imp (fun _ _ => WtAt.mono _ _ _ _ tk) hPw3) (.cons ⟨t, bz, rfl, tk.tup _ _ ht3, FoAt.mono _ _ _ _ tk (FoAt.mono _ _ _ _ (TupK.ext k3) hzF)⟩ .nil)
    · obtain ⟨ws, hDD, hPw, k2⟩ := hv
      rw [hel, List.take_length] at hPw
      have hwl := paired_len hPw
      have hpos : 0 < (AL r x).length := List.length_pos_of_mem (AL_pos r x)
      have e1 : (ws.zip (AL r x)).map (·.1) = ws := List.map_fst_zip (by omega)
      have hall : ∀ b ∈ ws.zip (AL r x), WtAt r x H2 b.1 b.2 ∧ b.2 ∈ AL r x := fun b hb => by
        obtain ⟨i, hi, rfl⟩ := List.mem_iff_getElem.mp hb
        obtain ⟨h1, h2⟩ := List.getElem?_zip_eq_some.mp (List.getElem?_eq_getElem hi)
        obtain ⟨z, hz, hzF⟩ := paired_get hPw h1
        rw [h2] at hz
        cases hz
        exact ⟨hzF, List.mem_of_getElem? h2⟩
      delta tNil
      refine ⟨V × Fo, fun b => b.1, fun b => dRw r x b.2, D, ws.zip (AL r x), rfl, SqL.of (by rw [e1]; exact hDD), fun b hb => ⟨(hall b hb).1.dp, ?_⟩, fun d1 h1 d2 h2 => ?_, .inl fun d1 h1 => ?_, fun ps hps => ?_⟩
      · have := dep_fo b.2
        simp only [dRw, PyData.depth, PyData.depthAll]
        omega
      · obtain ⟨b1, _, rfl⟩ := List.mem_map.mp h1
        obtain ⟨b2, _, rfl⟩ := List.mem_map.mp h2
        exact alike_rw r x _ _
      · obtain ⟨b1, _, rfl⟩ := List.mem_map.mp h1
        exact ⟨_, _, rfl⟩
      have hSm : ∀ b ∈ (ws.zip (AL r x)).mergeSort (PySem.W.dataLe false fun b => dRw r x b.2), WtAt r x H2 b.1 b.2 ∧ b.2 ∈ AL r x := fun b hb => hall b ((List.mergeSort_perm _ _).mem_iff.mp hb)
      have hSl : ((ws.zip (AL r x)).mergeSort (PySem.W.dataLe false fun b => dRw r x b.2)).length = (AL r x).length := by
        rw [(List.mergeSort_perm _ _).length_eq, List.length_zip]
        omega
      generalize (ws.zip (AL r x)).mergeSort (PySem.W.dataLe false fun b => dRw r x b.2) = S at hSm hSl ⊢
      have x3 := Ext.new (o := .lst (S.map fun b => b.1)) hps
      have hps3 : upd H2 ps (.lst (S.map fun b => b.1)) ps = some (.lst (S.map fun b => b.1)) := upd_same
      have k3 := k2.trans x3
      have hSm3 : ∀ b ∈ S, WtAt r x (upd H2 ps (.lst (S.map fun b => b.1))) b.1 b.2 ∧ b.2 ∈ AL r x := fun b hb => ⟨WtAt.mono _ _ _ _ (TupK.ext x3) (hSm b hb).1, (hSm b hb).2⟩
      generalize upd H2 ps (.lst (S.map fun b => b.1)) = H3 at hps3 k3 hSm3 ⊢
      have hP3 := hP.ext k3
      have hpp : ps ≠ p := fun z => by
        obtain ⟨_, _, _, hp, _⟩ := hP
        rw [z, k2 _ _ hp] at hps
        cases hps
      -- far
      refine ⟨_, rfl, _, rfl, _, rfl, E, es, rfl, .inl (SqL.of (k3 _ _ hW.he)), p, c, (es.length : Int), n, rfl, hP3, by omega, by omega, by omega, fun d H4 d0 d1 k4 hP4 => ?_⟩
      have tk4 := TupK.of k4 hP3
      obtain ⟨d, rfl⟩ := Int.eq_ofNat_of_zero_le d0
      obtain ⟨u, hu⟩ : ∃ u, es[d]? = some u := ⟨_, List.getElem?_eq_getElem (by omega)⟩
      obtain ⟨qf, hqf, hfF⟩ := paired_get hW.pe hu
      obtain ⟨bf, bfs, rfl, hbf⟩ := id hfF
      have hat : atI es (d : Int) = some (.ref bf) := by
        rw [atI_get (by omega) (by omega), ← hu, List.getElem?_eq_getElem]
        rfl
      refine ⟨E, es, _, _, rfl, rfl, SqL.of (k4 _ _ hEp (k3 _ _ hW.he)), hat, ?_⟩
      have hF4 : FkT H4 bf qf := FoAt.mono _ _ _ _ tk4 (FoAt.mono _ _ _ _ (TupK.ext k3) hfF)
      have hSm4 : ∀ b ∈ S, WtAt r x H4 b.1 b.2 ∧ b.2 ∈ AL r x := fun b hb => ⟨WtAt.mono _ _ _ _ tk4 (hSm3 b hb).1, (hSm3 b hb).2⟩
      have hps4 := k4 _ _ hpp hps3
      have hSl2 : (S.map fun b => b.1).length = S.length := List.length_map ..
      obtain ⟨v0, hv0, ha0⟩ := atI_mem (xs := S.map fun b => b.1) (i := 0) (by omega) (by omega)
      obtain ⟨s0, hs0, rfl⟩ := List.mem_map.mp hv0
      obtain ⟨⟨t0, b0, et0, ht0, hb0⟩, hs0A⟩ := hSm4 s0 hs0
      rw [et0] at ha0
      obtain ⟨v1, hv1, ha1⟩ : ∃ v1, v1 ∈ (S.map fun b => b.1) ∧ atI (S.map fun b => b.1) (-1) = some v1 := by
        rw [atI_end (by omega)]
        exact ⟨_, List.getElem_mem (by omega), List.getElem?_eq_getElem (by omega)⟩
      obtain ⟨s1, hs1, rfl⟩ := List.mem_map.mp hv1
      obtain ⟨⟨t1, b1, et1, ht1, hb1⟩, hs1A⟩ := hSm4 s1 hs1
      rw [et1] at ha1
      refine ⟨_, rfl, _, rfl, _, rfl, ps, _, 0, _, rfl, rfl, SqL.of hps4, ha0, t0, _, 1, _, rfl, rfl, SqT.of ht0, rfl, ?_⟩
      refine ⟨_, rfl, 1, rfl, ps, _, -1, _, rfl, rfl, SqL.of hps4, ha1, t1, _, 1, _, rfl, rfl, SqT.of ht1, rfl, ?_⟩
      refine ⟨Nat.zero_le _, fun t5 ht5 => ?_⟩
      have x5 := Ext.new (o := .tup []) ht5
      refine ⟨szL (show 5 ≤ 1000000 by decide), fun l6 hl6 => ?_⟩
      have x6 := Ext.new (o := .lst [.ref bf, .ref bf, .ref b0, .ref b1, .ref t5]) hl6
      have x46 := x5.trans x6
      have hvals : ∀ u ∈ ([.ref bf, .ref bf, .ref b0, .ref b1, .ref t5] : List V), ∃ b q', u = V.ref b ∧ FkT (upd (upd H4 t5 (.tup [])) l6 (.lst [.ref bf, .ref bf, .ref b0, .ref b1, .ref t5])) b q' ∧ q' ∈ AL r x := fun u hu => by
        simp only [List.mem_cons, List.not_mem_nil, or_false] at hu
        rcases hu with rfl | rfl | rfl | rfl | rfl
        · exact ⟨_, qf, rfl, keyT.mono (TupK.ext x46) hF4, List.mem_of_getElem? hqf⟩
        · exact ⟨_, qf, rfl, keyT.mono (TupK.ext x46) hF4, List.mem_of_getElem? hqf⟩
        · exact ⟨_, _, rfl, keyT.mono (TupK.ext x46) hb0, hs0A⟩
        · exact ⟨_, _, rfl, keyT.mono (TupK.ext x46) hb1, hs1A⟩
        · exact ⟨_, [], rfl, ⟨t5, [], rfl, x6 _ _ upd_same, .nil⟩, AL_pos r x⟩
      have hl : upd (upd H4 t5 (.tup [])) l6 (.lst [.ref bf, .ref bf, .ref b0, .ref b1, .ref t5]) l6 = some (.lst [.ref bf, .ref bf, .ref b0, .ref b1, .ref t5]) := upd_same
      have hP6 := hP4.ext x46
      have hl6p : l6 ≠ p := fun z => by
        obtain ⟨_, _, _, hp, _⟩ := hP4
        rw [z, x5 _ _ hp] at hl6
        cases hl6
      generalize upd (upd H4 t5 (.tup [])) l6 (.lst [.ref bf, .ref bf, .ref b0, .ref b1, .ref t5]) = H6 at x46 hvals hl hP6 ⊢
      refine ⟨_, rfl, p, c, 5, _, rfl, hP6, by omega, by decide, by decide, fun e H7 e0 e1 k7 hP7 => ?_⟩
      obtain ⟨vv, hvv, hatv⟩ := atI_mem (xs := ([.ref bf, .ref bf, .ref b0, .ref b1, .ref t5] : List V)) e0 e1
      obtain ⟨bb, qq, rfl, hFF, hqq⟩ := hvals vv hvv
      refine ⟨l6, _, e, _, rfl, rfl, SqL.of (k7 _ _ hl6p hl), hatv, ?_⟩
      exact q bb qq H7 (keyT.mono (TupK.of k7 hP6) hFF) hqq (((Kp.ext k3).trans k4).trans ((Kp.ext x46).trans k7)) (hP7.mono (by omega))
abbrev CAny (P : Program) (w : World) (K : PySem.W.Frag) (mg : Str → Option Value) (base : Heap) : Prop := Ca P w K mg base 2 "_law_any" ["_law_pen_here", "_law_world_here"] (spAny P w)
end
end Pf


namespace Pf
open PySem PySem.Spec PyProof.Rows L2
theorem fo_nest {H : Hp} {a : Addr} {q : Fo} (h : FoAt H (.ref a) q) : NestE two2 H a q := by
  obtain ⟨t, vs, e, ht, hp⟩ := h
  cases e
  exact ⟨vs, ht, paired_imp (fun v y ⟨b, e1, e2⟩ => ⟨b, e1, e2⟩) hp⟩
/-- foldings -/
def kdFo (P : Program) (w : World) : Kd P w Fo := { kdNest P w two2 two2_inj with at_ := fun H a q => FoAt H (.ref a) q, sound := fun ok h => nestE_is ok (fo_nest h) }
/-- a list of foldings, each at its address -/
theorem fos_at {H : Hp} {ws : List V} {L : List Fo} (p : Paired (FoAt H) ws L) : ∃ ks : List (Addr × Fo), ws = ks.map (fun z => V.ref z.1) ∧ ks.map (·.2) = L ∧ ∀ z ∈ ks, FoAt H (.ref z.1) z.2 := by
  induction p with
  | nil => exact ⟨[], rfl, rfl, fun z hz => by cases hz⟩
  | @cons v q _ _ h _ ih =>
    obtain ⟨ks, e1, e2, e3⟩ := ih
    obtain ⟨t, vs, rfl, hr⟩ := id h
    refine ⟨(t, q) :: ks, by rw [List.map_cons, ← e1], by rw [List.map_cons, e2], fun z hz => ?_⟩
    rcases List.mem_cons.mp hz with rfl | hz
    · exact h
    · exact e3 z hz
section
variable {P : Program} {w : World} {K : PySem.W.Frag} {mg : Str → Option Value} {base : Heap}
abbrev s_law_is_folding : Stmt := topS 45
theorem sc_law_is_folding : FnScope ["_law_world_here", "_law_some", "_law_row", "_law_at"] ["_law_world_here", "_law_some"] (defScope s_law_is_folding) :=
  ⟨rfl, rfl, rfl, by decide +kernel, rfl, by decide +kernel, by decide +kernel⟩
def spIsFo (P : Program) (w : World) : Sp := fun vs H Q _ => ∃ (W b : Addr) (v : V) (r : Rl) (x : Str) (q0 : Fo) (p : Addr), vs = [.ref W, .ref b] ∧ WorldAt P w p H W v r x ∧ FkT H b q0 ∧ q0 ∈ AL r x ∧ ∀ H', Ext H H' → Q (.bl true) H'
theorem ok_isfo {f : Addr} {fd : FuncData} {n : Nat} (F : Fun K "_law_is_folding" "_law_is_folding" s_law_is_folding f fd) (misinstance : mg "isinstance" = none) (mtuple : mg "tuple" = none) (mint : mg "int" = none) (mbool : mg "bool" = none) : FnOk P w K mg base CX0 (n + 1) f fd ["_law_world_here", "_law_some"] (spIsFo P w) := by
  refine F.ok sc_law_is_folding (fun vs H Q E h => ?_) (fun cdv A outer s H vs Q E hr h => ?_)
  · obtain ⟨W, b, v, r, x, q0, p, rfl, _⟩ := h
    rfl
  · obtain ⟨W, b, v, r, x, q0, p, rfl, hWp, hF, hA, q⟩ := h
    obtain ⟨Dw, Ds, E, es, ss, C, hW⟩ := hWp.wld
    obtain ⟨b', bs, e, hb, hbs⟩ := id hF
    cases e
    refine ⟨_, (pss_cons (ps_if (pt_not (pt_val (pe_callB (isi1 K) (by rfl) misinstance (by decide +kernel) (pa_cons (pv 1) (pa_cons (pe_bltn (v := .ty "tuple") (by rfl) mtuple (by decide +kernel) rfl) pa_nil))))) (pss_one (ps_ret pe_bl)) pss_nil)
      (pss_cons (ps_for PassesOwn.never rfl (pi_tup (pv 1)) (pg_name (i := 2) sc_law_is_folding.nd rfl (.inl rfl)) (pss_cons (ps_if (pt_not (pt_val (pe_callB (isi1 K) (by rfl) misinstance (by decide +kernel) (pa_cons (pv 2) (pa_cons (pe_bltn (v := .ty "tuple") (by rfl) mtuple (by decide +kernel) rfl) pa_nil))))) (pss_one (ps_ret pe_bl)) pss_nil)
      (pss_one (ps_if (pt_cmpR (neD K hr.units) (pe_lc (own := [("_law_at", 3)]) (g := gName 3) (by rfl) sc_law_is_folding.nd (pi_tup (pv 2)) (blkOk_by (own := [("_law_at", 3)]) (N := ["_law_world_here", "_law_some", "_law_row", "_law_at"]) (sc := defScope s_law_is_folding) (by decide +kernel)) (fun _ _ _ _ _ => (pg_name (i := 3) sc_law_is_folding.nd rfl (.inl rfl))) (fun _ _ _ _ _ => (pts_one (PW.pt (pw_or (pt_not (pt_val (pe_callB (isi1 K) (by rfl) misinstance (by decide +kernel) (pa_cons (pv 3) (pa_cons (pe_bltn (v := .ty "int") (by rfl) mint (by decide +kernel) rfl) pa_nil))))) (pw_or1 (pt_val (pe_callB (isi1 K) (by rfl) misinstance (by decide +kernel) (pa_cons (pv 3) (pa_cons (pe_bltn (v := .ty "bool") (by rfl) mbool (by decide +kernel) rfl) pa_nil))))))))) (fun _ _ _ _ _ => (pv 3))) (pe_lst pa_nil) (nomark _)) (pss_one (ps_ret pe_bl)) pss_nil))))
      (pss_one (ps_ret (pe_cmp (pc_fin (P := P) (w := w) hr.units (pv 1) (pe_dget (hu_of hr) (pv 0) pe_str (fun _ _ => rfl))) rfl))))), ?_⟩
    refine ⟨_, rfl, .ref b, .ty "tuple", _, _, true, rfl, .ty _, .base (.tup hb), kit_ty (by decide +kernel), true, rfl, iteF ?_⟩
    refine ⟨_, rfl, b, rfl, ⟨_, SqT.of hb⟩, for_tup (K := K) (xs := bs) (fun i σ H2 => ∃ (y2 y3 : Option V), σ = [some (.ref W), some (.ref b), y2, y3] ∧ Ext H H2) ⟨_, _, rfl, Ext.refl⟩ (fun i σ H2 _ ⟨_, _, _, k⟩ => SqT.of (k _ _ hb)) (fun i u σ H2 hi hv => ?_) (fun σ H2 hv => ?_)⟩
    · obtain ⟨y2, y3, rfl, k2⟩ := hv
      obtain ⟨y, hy, b2, rfl, hb2⟩ := paired_get hbs hi
      have hb22 := k2 _ _ hb2
      refine ⟨_, rfl, .ref b2, .ty "tuple", _, _, true, rfl, .ty _, .base (.tup hb22), kit_ty (by decide +kernel), true, rfl, iteF ?_⟩
      refine ⟨_, rfl, b2, rfl, ⟨_, SqT.of hb22⟩, fun D hD => lc_tup (K := K) (xs := [V.int y.1, V.int y.2]) (fun i H3 => H3 D = some (.lst []) ∧ Ext H2 H3) ⟨upd_same, Ext.new hD⟩ (fun i H3 _ h => SqT.of (h.2 _ _ hb22)) (fun i u H3 hi hv => ?_) (fun H3 hv => ?_)⟩
      · obtain ⟨hDD, k3⟩ := hv
        obtain ⟨z, rfl⟩ : ∃ z, u = V.int z := by
          have := List.mem_of_getElem? hi
          simp only [List.mem_cons, List.not_mem_nil, or_false] at this
          rcases this with rfl | rfl
          · exact ⟨_, rfl⟩
          · exact ⟨_, rfl⟩
        refine ⟨rfl, _, rfl, .int z, .ty "int", _, _, true, rfl, .ty _, .base (.int z), kit_ty (by decide +kernel), true, rfl, iteF ?_⟩
        exact ⟨_, rfl, .int z, .ty "bool", _, _, false, rfl, .ty _, .base (.int z), kit_ty (by decide +kernel), false, rfl, iteF ⟨hDD, k3⟩⟩
      · obtain ⟨hDD, k3⟩ := hv
        refine ⟨Nat.zero_le _, fun l0 hl0 => ⟨_, _, .lst (SqL.of (Ext.new hl0 _ _ hDD)) .nil, .lst (SqL.of upd_same) .nil, by decide +kernel, by decide +kernel, ?_⟩⟩
        refine ⟨false, by rw [show PyData.eqv (.list []) (.list []) = true by simp [PyData.eqv, PyData.eqvAll]]; rfl, iteF ?_⟩
        exact ⟨_, _, rfl, (k2.trans k3).trans (Ext.new hl0)⟩
    · obtain ⟨y2, y3, rfl, k2⟩ := hv
      have hW2 := hW.ext k2
      refine ⟨_, rfl, _, rfl, W, _, rfl, hW2.ws, Dw, b, _, q0, rfl, rfl, keyT.imp (keyT.mono (TupK.ext k2) hF), hW2.hw.r keyT, ?_⟩
      rw [val_enW (AL_nd r x) hA]
      exact q _ k2
abbrev CIsFo (P : Program) (w : World) (K : PySem.W.Frag) (mg : Str → Option Value) (base : Heap) : Prop := Ca P w K mg base 1 "_law_is_folding" ["_law_world_here", "_law_some"] (spIsFo P w)
abbrev s_law_shuts_in : Stmt := topS 44
theorem sc_law_shuts_in : FnScope ["_law_world_here", "_law_one", "_law_two", "_law_upto", "_law_some", "_law_worths", "_law_here", "_law_on", "_law_later"] ["_law_world_here", "_law_one", "_law_two", "_law_upto", "_law_some"] (defScope s_law_shuts_in) :=
  ⟨rfl, rfl, rfl, by decide +kernel, rfl, by decide +kernel, by decide +kernel⟩
def spShuts (P : Program) (w : World) : Sp := fun vs H Q _ => ∃ (W a b l : Addr) (m : Int) (v : V) (r : Rl) (x : Str) (qa qb : Fo) (p : Addr) (ws : List V) (L : List Fo), vs = [.ref W, .ref a, .ref b, .int m, .ref l] ∧ WorldAt P w p H W v r x ∧ x.length ≤ 8 ∧ FkT H a qa ∧ FkT H b qb ∧ qa ∈ AL r x ∧ H l = some (.lst ws) ∧ Paired (FoAt H) ws L ∧ Shut r x qa qb m L ∧
  ∀ H', Ext H H' → Q (.bl true) H'
theorem ok_shuts {f : Addr} {fd : FuncData} (F : Fun K "_law_shuts_in" "_law_shuts_in" s_law_shuts_in f fd) (c_law_is_folding : CIsFo P w K mg base) (misinstance : mg "isinstance" = none) (mlist : mg "list" = none) (msorted : mg "sorted" = none) (mset : mg "set" = none) : FnOk P w K mg base CX0 2 f fd ["_law_world_here", "_law_one", "_law_two", "_law_upto", "_law_some"] (spShuts P w) := by
  refine F.ok sc_law_shuts_in (fun vs H Q E h => ?_) (fun cdv A outer s H vs Q E hr h => ?_)
  · obtain ⟨W, a, b, l, m, v, r, x, qa, qb, p, ws, L, rfl, _⟩ := h
    rfl
  · obtain ⟨W, a, b, l, m, v, r, x, qa, qb, p, ws, L, rfl, hWp, hx8, hFa, hFb, haA, hl, hP, hSh, q⟩ := h
    obtain ⟨Dw, Ds, E, es, ss, C, hW⟩ := hWp.wld
    refine ⟨_, (pss_cons (ps_set (i := 5) sc_law_shuts_in.nd rfl (.inr rfl) (pe_dget (hu_of hr) (pv 0) pe_str (fun _ _ => rfl)))
      (pss_cons (ps_if (PW.pt (pw_or (pt_not (pt_val (pe_callB (isi1 K) (by rfl) misinstance (by decide +kernel) (pa_cons (pv 4) (pa_cons (pe_bltn (v := .ty "list") (by rfl) mlist (by decide +kernel) rfl) pa_nil))))) (pw_or1 (pt_cmpR (neD K hr.units) (pe_lc (own := [("_law_here", 6)]) (g := gName 6) (by rfl) sc_law_shuts_in.nd (pi_list (pv 4)) (blkOk_by (own := [("_law_here", 6)]) (N := ["_law_world_here", "_law_one", "_law_two", "_law_upto", "_law_some", "_law_worths", "_law_here", "_law_on", "_law_later"]) (sc := defScope s_law_shuts_in) (by decide +kernel)) (fun _ _ _ _ _ => (pg_name (i := 6) sc_law_shuts_in.nd rfl (.inl rfl))) (fun _ _ _ _ _ => (pts_one (pt_not (pt_val (pe_ca c_law_is_folding (hr.mono (by decide)) (by rfl) (pa_cons (pv 0) (pa_cons (pv 6) pa_nil))))))) (fun _ _ _ _ _ => (pv 6))) (pe_lst pa_nil) (nomark _))))) (pss_one (ps_ret pe_bl)) pss_nil)
      (pss_cons (ps_if (pt_cmpR (eqD K hr.units) (pv 4) (pe_lst pa_nil) (nomark _)) (pss_one (ps_ret (pe_cmpR op_ge (pe_fget (P := P) (w := w) hr.units (pv 5) (pv 1) (fun _ _ => rfl)) (pv 3) (nomark _)))) pss_nil)
      (pss_cons (ps_if (PW.pt (pw_or (pt_cmpR (neD K hr.units) (pv 4) (pe_sortSetNX (kdFo P w) dFo rfl hr.units (by rfl) msorted (by rfl) mset (pv 4)) (nomark _)) (pw_or (pt_cmpR (notInD K (room65 hr)) (pv 1) (pv 4) (by rfl)) (pw_or1 (pt_cmpR (inD K (room65 hr)) (pv 2) (pv 4) (by rfl)))))) (pss_one (ps_ret pe_bl)) pss_nil)
      (pss_cons (ps_for PassesOwn.never rfl (pi_list (pv 4)) (pg_name (i := 6) sc_law_shuts_in.nd rfl (.inl rfl)) (pss_cons (ps_if (pt_cmpR op_ge (pe_fget (P := P) (w := w) hr.units (pv 5) (pv 6) (fun _ _ => rfl)) (pv 3) (nomark _)) (pss_one (ps_ret pe_bl)) pss_nil)
      (pss_cons (ps_setLc (i := 7) (own := [("_law_later", 8)]) (g := gName 8) (by rfl) sc_law_shuts_in.nd rfl rfl (sw_true rfl rfl rfl (by decide +kernel)) (pi_list (pe_fget (P := P) (w := w) hr.units (pe_dget (hu_of hr) (pv 0) pe_str (fun _ _ => rfl)) (pv 6) (fun _ _ => rfl))) (blkOk_by (own := [("_law_later", 8)]) (N := ["_law_world_here", "_law_one", "_law_two", "_law_upto", "_law_some", "_law_worths", "_law_here", "_law_on", "_law_later"]) (sc := defScope s_law_shuts_in) (by decide +kernel)) (fun _ _ _ _ _ => (pg_name (i := 8) sc_law_shuts_in.nd rfl (.inl rfl))) (fun _ _ _ _ _ => (pts_one (pt_cmpR op_lt (pe_fget (P := P) (w := w) hr.units (pv 5) (pv 8) (fun _ _ => rfl)) (pv 3) (nomark _)))) (fun _ _ _ _ _ => (pv 8)))
      (pss_one (ps_if (pt_cmpR (neD K hr.units) (pe_lc (own := [("_law_later", 8)]) (g := gName 8) (by rfl) sc_law_shuts_in.nd (pi_list (pv 7)) (blkOk_by (own := [("_law_later", 8)]) (N := ["_law_world_here", "_law_one", "_law_two", "_law_upto", "_law_some", "_law_worths", "_law_here", "_law_on", "_law_later"]) (sc := defScope s_law_shuts_in) (by decide +kernel)) (fun _ _ _ _ _ => (pg_name (i := 8) sc_law_shuts_in.nd rfl (.inl rfl))) (fun _ _ _ _ _ => (pts_one (pt_cmpR (notInD K (room65 hr)) (pv 8) (pv 4) (by rfl)))) (fun _ _ _ _ _ => (pv 8))) (pe_lst pa_nil) (nomark _)) (pss_one (ps_ret pe_bl)) pss_nil)))))
      (pss_one (ps_ret pe_bl))))))), ?_⟩
    have hwl := paired_len hP
    have hnd := AL_nd r x
    have hLl : L.length ≤ 323 := Nat.le_trans (nodup_len_le hSh.nd hSh.sub) (AL_len8 r hx8)
    refine ⟨_, rfl, W, _, rfl, hW.ws, ?_⟩
    refine ⟨_, rfl, .ref l, .ty "list", _, _, true, rfl, .ty _, .base (.lst hl), kit_ty (by decide +kernel), true, rfl, iteF ?_⟩
    refine ⟨_, rfl, l, rfl, ⟨_, SqL.of hl⟩, fun D hD => lc_list (K := K) (xs := ws) (fun i H2 => H2 D = some (.lst []) ∧ Ext H H2) ⟨upd_same, Ext.new hD⟩ (fun i H2 _ h => SqL.of (h.2 _ _ hl)) (fun i u H2 hi hv => ?_) (fun H2 hv => ?_)⟩
    · obtain ⟨hDD, k2⟩ := hv
      obtain ⟨z, hz, hzF⟩ := paired_get hP hi
      have hzF2 := FoAt.mono _ _ _ _ (TupK.ext k2) hzF
      obtain ⟨bz, bzs, rfl, hbz⟩ := id hzF2
      exact ⟨rfl, _, rfl, _, rfl, W, bz, v, r, x, z, p, rfl, hWp.kp (Kp.ext k2) (TupK.ext k2), hzF2, hSh.sub z (List.mem_of_getElem? hz), fun H3 k3 => ⟨true, rfl, iteF ⟨k3 _ _ hDD, k2.trans k3⟩⟩⟩
    obtain ⟨hDD, k2⟩ := hv
    refine ⟨Nat.zero_le _, fun l0 hl0 => ⟨_, _, .lst (SqL.of (Ext.new hl0 _ _ hDD)) .nil, .lst (SqL.of upd_same) .nil, by decide +kernel, by decide +kernel, false, by rw [show PyData.eqv (.list []) (.list []) = true by simp [PyData.eqv, PyData.eqvAll]]; rfl, iteF ?_⟩⟩
    have k3 := k2.trans (Ext.new (o := .lst []) hl0)
    generalize upd H2 l0 (.lst []) = H3 at k3 ⊢
    clear hDD k2 hl0
    have hl3 := k3 _ _ hl
    have hP3 := paired_imp (fun _ _ => FoAt.mono _ _ _ _ (TupK.ext k3)) hP
    refine ⟨_, rfl, Nat.zero_le _, fun l1 hl1 => ⟨_, _, .lst (SqL.of (Ext.new hl1 _ _ hl3)) (dpFos (paired_imp (fun _ _ => FoAt.mono _ _ _ _ (TupK.ext (Ext.new hl1))) hP3)), .lst (SqL.of upd_same) .nil, shaped_fos _, by decide +kernel, _, rfl, ?_⟩⟩
    have k4 := k3.trans (Ext.new (o := .lst []) hl1)
    generalize upd H3 l1 (.lst []) = H4 at k4 ⊢
    clear hl1 hl3 hP3 k3
    have hW4 := hW.ext k4
    have hl4 := k4 _ _ hl
    have hP4 := paired_imp (fun _ _ => FoAt.mono _ _ _ _ (TupK.ext k4)) hP
    by_cases hlo : m ≤ woV r x qa
    · have hL := hSh.no hlo
      subst hL
      rw [show PyData.eqv (.list (([] : List Fo).map dFo)) (.list []) = true by simp [PyData.eqv, PyData.eqvAll]]
      refine iteT ⟨_, rfl, _, rfl, Dw, a, _, qa, _, rfl, rfl, hW4.hw.r keyT, keyT.imp (keyT.mono (TupK.ext k4) hFa), val_enW hnd haA, _, rfl, _, _, rfl, rfl, ?_⟩
      have h := q _ k4
      rw [← decide_eq_true (show woV r x qa ≥ m from hlo)] at h
      exact h
    · have hm := hSh.yes (by omega)
      have haL : qa ∈ L := (hm qa).mpr ⟨haA, [qa], .one haA, fun z hz => .inl (List.mem_singleton.mp hz)⟩
      have hbL : qb ∉ L := fun h => by
        obtain ⟨_, U, hU, hall⟩ := (hm qb).mp h
        obtain ⟨z, hz, e⟩ := hSh.pk.2 U hU
        rcases hall z hz with e2 | e2
        · rw [e2] at e
          exact hlo e
        · omega
      rw [show PyData.eqv (.list (L.map dFo)) (.list []) = false by
        cases L with
        | nil => cases haL
        | cons y t => simp [PyData.eqv, PyData.eqvAll]]
      refine iteF ?_
      -- in order, none twice
      obtain ⟨ks, hks, hks2, hksF⟩ := fos_at hP4
      refine ⟨_, rfl, _, rfl, l, ks, rfl, SqL.of (by rw [← hks]; exact hl4), by
        have := congrArg List.length hks2
        rw [List.length_map] at this
        omega, by rw [hks2]; exact hSh.nd, hksF, fun y hy => ⟨dp_fo (hksF y hy), Nat.le_trans (dep_fo _) (by decide)⟩, fun ls _ => ⟨fun d1 h1 d2 h2 => by
        obtain ⟨y1, _, rfl⟩ := List.mem_map.mp h1
        obtain ⟨y2, _, rfl⟩ := List.mem_map.mp h2
        exact alike_fo _ _, fun d hd => by
        obtain ⟨y, _, rfl⟩ := List.mem_map.mp hd
        exact ⟨_, rfl⟩⟩, fun b2 ls hls hb2 => ?_⟩
      have x5 := Ext.new (o := .lst ((ls.mergeSort (PySem.W.dataLe false fun p => dFo p.2)).map fun p => V.ref p.1)) hb2
      have hb25 : upd H4 b2 (.lst ((ls.mergeSort (PySem.W.dataLe false fun p => dFo p.2)).map fun p => V.ref p.1)) b2 = some (.lst ((ls.mergeSort (PySem.W.dataLe false fun p => dFo p.2)).map fun p => V.ref p.1)) := upd_same
      have es : (ls.mergeSort (PySem.W.dataLe false fun p => dFo p.2)).map (·.2) = L := by
        have h1 := List.map_mergeSort (r := PySem.W.dataLe false fun y : Addr × Fo => dFo y.2) (s := PySem.W.dataLe false dFo) (f := fun y : Addr × Fo => y.2) (l := ls) (fun a _ b _ => rfl)
        rw [h1]
        have h2 : (ls.map (·.2)).Perm L := hks2 ▸ hls.map _
        exact (SF_eq h2).trans hSh.srt
      have hSm : ∀ y ∈ ls.mergeSort (PySem.W.dataLe false fun p => dFo p.2), FoAt H4 (.ref y.1) y.2 := fun y hy => hksF y (hls.mem_iff.mp ((List.mergeSort_perm _ _).mem_iff.mp hy))
      generalize ls.mergeSort (PySem.W.dataLe false fun p => dFo p.2) = S at x5 hb25 es hSm ⊢
      generalize upd H4 b2 (.lst (S.map fun p => V.ref p.1)) = H5 at x5 hb25 ⊢
      have hS5 : ∀ {T : List (Addr × Fo)}, (∀ y ∈ T, FoAt H4 (.ref y.1) y.2) → Paired (FoAt H5) (T.map fun y => V.ref y.1) (T.map (·.2)) := by
        intro T hT
        induction T with
        | nil => exact .nil
        | cons y T ih => exact .cons (FoAt.mono _ _ _ _ (TupK.ext x5) (hT y (List.mem_cons_self ..))) (ih fun c hc => hT c (List.mem_cons_of_mem _ hc))
      have hS5 := hS5 hSm
      rw [es] at hS5
      have k5 := k4.trans x5
      have hl5 := k5 _ _ hl
      have hP5 := paired_imp (fun _ _ => FoAt.mono _ _ _ _ (TupK.ext k5)) hP
      refine ⟨_, _, .lst (SqL.of hl5) (dpFos hP5), .lst (SqL.of hb25) (dpFos hS5), shaped_fos _, shaped_fos _, false, by rw [eqv_fos, decide_eq_true rfl]; rfl, iteF ?_⟩
      refine ⟨_, rfl, _, rfl, _, _, dp_fo (keyT.mono (TupK.ext k5) hFa), .lst (SqL.of hl5) (dpFos hP5), shaped_fo _, shaped_fos _, false, by rw [any_fos, decide_eq_true haL]; rfl, iteF ?_⟩
      refine ⟨_, rfl, _, rfl, _, _, dp_fo (keyT.mono (TupK.ext k5) hFb), .lst (SqL.of hl5) (dpFos hP5), shaped_fo _, shaped_fos _, false, by rw [any_fos, decide_eq_false hbL], iteF ?_⟩
      have hWz : ∀ z ∈ L, woV r x z < m := fun z hz => by
        obtain ⟨_, U, hU, hall⟩ := (hm z).mp hz
        rcases hall z hU.lst with e | e
        · rw [e]
          omega
        · omega
      refine ⟨_, rfl, l, rfl, ⟨_, SqL.of hl5⟩, for_list (K := K) (xs := ws) (fun i σ H6 => ∃ (y6 y7 y8 : Option V), σ = [some (.ref W), some (.ref a), some (.ref b), some (.int m), some (.ref l), some (.ref Dw), y6, y7, y8] ∧ Ext H H6) ⟨_, _, _, rfl, k5⟩ (fun i σ H6 _ h => by obtain ⟨_, _, _, _, k⟩ := h; exact SqL.of (k _ _ hl)) (fun i u σ H6 hi hv => ?_) (fun σ H6 hv => ?_)⟩
      · obtain ⟨y6, y7, y8, rfl, k6⟩ := hv
        obtain ⟨z, hz, hzF⟩ := paired_get hP hi
        have hzL := List.mem_of_getElem? hz
        have hzA := hSh.sub z hzL
        have hzF6 := FoAt.mono _ _ _ _ (TupK.ext k6) hzF
        obtain ⟨bz, bzs, rfl, hbz⟩ := id hzF6
        have hW6 := hW.ext k6
        refine ⟨_, rfl, _, rfl, Dw, bz, _, z, _, rfl, rfl, hW6.hw.r keyT, keyT.imp hzF6, val_enW hnd hzA, _, rfl, _, _, rfl, rfl, _, rfl, ?_⟩
        rw [decide_eq_false (show ¬ m ≤ woV r x z by have := hWz z hzL; omega)]
        refine iteF ?_
        obtain ⟨ls2, us, hvl, hls2, hps⟩ := stps_at hW.st (by rw [hW.ks]; exact hnd) (by rw [hW.ks]; exact hzA)
        have hul := paired_len hps
        have hCl : (C z).length ≤ 323 := by
          rw [(hW.pm z hzA).length_eq]
          exact Nat.le_trans nb_len (AL_len8 r hx8)
        refine ⟨_, rfl, W, _, rfl, hW6.sp, _, rfl, Ds, bz, ss, z, .ref ls2, rfl, rfl, hW6.hs.r keyT, keyT.imp hzF6, hvl, ls2, rfl, ⟨_, SqL.of (k6 _ _ hls2)⟩, fun D2 hD2 => lc_list (K := K) (xs := us) (fun j H7 => GenL FoAt D2 H6 (((C z).take j).filter fun y => decide (woV r x y < m)) H7) (genl_new hD2) (fun j H7 _ hv => SqL.of (hv.ext _ _ (k6 _ _ hls2))) (fun j u H7 hj hv => ?_) (fun H7 hv => ?_)⟩
        · obtain ⟨y, hy, hyF⟩ := paired_get hps hj
          have hyn : y ∈ nb r x z := (hW.pm z hzA).mem_iff.mp (List.mem_of_getElem? hy)
          have k7 := k6.trans hv.ext
          have hyF7 := FoAt.mono _ _ _ _ (TupK.ext k7) hyF
          obtain ⟨by_, bys, rfl, hby⟩ := id hyF7
          have hW7 := hW.ext k7
          refine ⟨rfl, _, rfl, _, rfl, Dw, by_, _, y, _, rfl, rfl, hW7.hw.r keyT, keyT.imp hyF7, val_enW hnd (nb_sub hyn), _, rfl, _, _, rfl, rfl, _, rfl, ?_⟩
          have et : (C z).take (j + 1) = (C z).take j ++ [y] := by rw [List.take_add_one, hy]; rfl
          rw [et, List.filter_append]
          by_cases e : woV r x y < m
          · rw [decide_eq_true e, show List.filter (fun y => decide (woV r x y < m)) [y] = [y] by simp [e]]
            obtain ⟨acc, h1, h2, h3⟩ := genl_step FoAt.mono hD2 hv Ext.refl (v := .ref by_) (b := y) hyF7 (by
              have h1 := List.length_filter_le (fun y => decide (woV r x y < m)) ((C z).take j)
              rw [List.length_take] at h1
              omega)
            exact iteT ⟨_, rfl, acc, h1, h2, h3⟩
          · rw [decide_eq_false e, show List.filter (fun y => decide (woV r x y < m)) [y] = [] by simp [e], List.append_nil]
            exact iteF hv
        · rw [hul, List.take_length] at hv
          obtain ⟨on, hon, hPon, k67⟩ := hv
          have k7 := k6.trans k67
          have hl7 := k7 _ _ hl
          have hP7 := paired_imp (fun _ _ => FoAt.mono _ _ _ _ (TupK.ext k7)) hP
          refine ⟨_, rfl, D2, rfl, ⟨_, SqL.of hon⟩, fun D3 hD3 => lc_list (K := K) (xs := on) (fun j H8 => H8 D3 = some (.lst []) ∧ Ext H7 H8) ⟨upd_same, Ext.new hD3⟩ (fun j H8 _ h => SqL.of (h.2 _ _ hon)) (fun j u H8 hj hv => ?_) (fun H8 hv => ?_)⟩
          · obtain ⟨hDD, k8⟩ := hv
            obtain ⟨y, hy, hyF⟩ := paired_get hPon hj
            obtain ⟨hyC, hym⟩ := List.mem_filter.mp (List.mem_of_getElem? hy)
            have hym : woV r x y < m := of_decide_eq_true hym
            have hyn : y ∈ nb r x z := (hW.pm z hzA).mem_iff.mp hyC
            have hyL : y ∈ L := by
              obtain ⟨_, U, hU, hall⟩ := (hm z).mp hzL
              refine (hm y).mpr ⟨nb_sub hyn, U ++ [y], hU.app hyn (nb_sub hyn), fun c hc => ?_⟩
              rcases List.mem_append.mp hc with hc | hc
              · exact hall c hc
              · rw [List.mem_singleton.mp hc]
                exact .inr (by omega)
            refine ⟨rfl, _, rfl, _, rfl, _, _, dp_fo (FoAt.mono _ _ _ _ (TupK.ext k8) hyF), .lst (SqL.of (k8 _ _ hl7)) (dpFos (paired_imp (fun _ _ => FoAt.mono _ _ _ _ (TupK.ext k8)) hP7)), shaped_fo _, shaped_fos _, false, by rw [any_fos, decide_eq_true hyL]; rfl, iteF ⟨hDD, k8⟩⟩
          · obtain ⟨hDD, k8⟩ := hv
            refine ⟨Nat.zero_le _, fun l9 hl9 => ⟨_, _, .lst (SqL.of (Ext.new hl9 _ _ hDD)) .nil, .lst (SqL.of upd_same) .nil, by decide +kernel, by decide +kernel, false, by rw [show PyData.eqv (.list []) (.list []) = true by simp [PyData.eqv, PyData.eqvAll]]; rfl, iteF ?_⟩⟩
            exact ⟨_, _, _, rfl, (k7.trans k8).trans (Ext.new hl9)⟩
      · obtain ⟨y6, y7, y8, rfl, k6⟩ := hv
        exact q _ k6
abbrev CShuts (P : Program) (w : World) (K : PySem.W.Frag) (mg : Str → Option Value) (base : Heap) : Prop := Ca P w K mg base 2 "_law_shuts_in" ["_law_world_here", "_law_one", "_law_two", "_law_upto", "_law_some"] (spShuts P w)
end
end Pf


namespace Pf
open PySem PySem.Spec PyProof.Rows L2
theorem join_by {c : TT} {t u : TS} {D : Ends} {σ : L2.St} {H : Hp} (G : L2.St → Hp → Prop) (R1 R2 : Hp → Prop) (hc : ∀ Q : Bool → Hp → Prop, (∀ H', R1 H' → Q true H') → (∀ H', R2 H' → Q false H') → c σ H Q)
    (h1 : ∀ H', R1 H' → ∀ N : L2.St → Hp → Prop, (∀ σ' H'', G σ' H'' → N σ' H'') → t { D with nx := N } σ H') (h2 : ∀ H', R2 H' → G σ H') (hu : ∀ σ' H', G σ' H' → u D σ' H') : tSeq (tIfS c t tNext) u D σ H := by
  refine hc _ (fun H' r => ?_) (fun H' r => ?_)
  · rw [if_pos rfl]
    exact h1 H' r _ hu
  · rw [if_neg Bool.false_ne_true]
    exact hu _ _ (h2 H' r)
section
variable {P : Program} {w : World} {K : PySem.W.Frag} {mg : Str → Option Value} {base : Heap}
abbrev CWallK (P : Program) (w : World) (K : PySem.W.Frag) (mg : Str → Option Value) (base : Heap) : Prop := CaK P w K mg base 8 "wall" ["rules", "string", "folding", "other"] ["other", "folding", "string", "rules"] (permV [3, 2, 1, 0]) spWall
abbrev s_law_right : Stmt := topS 46
theorem sc_law_right : FnScope ["_law_world_here", "_law_one", "_law_two", "_law_upto", "_law_found"] ["_law_world_here", "_law_one", "_law_two"] (defScope s_law_right) :=
  ⟨rfl, rfl, rfl, by decide +kernel, rfl, by decide +kernel, by decide +kernel⟩
def spRight (P : Program) (w : World) : Sp := fun vs H Q _ => ∃ (W a b : Addr) (v : V) (r : Rl) (x : Str) (qa qb : Fo) (p : Addr), vs = [.ref W, .ref a, .ref b] ∧ WorldAt P w p H W v r x ∧ RulesAt H v r ∧ RlOk r ∧ x.length ≤ 8 ∧ FkT H a qa ∧ FkT H b qb ∧ qa ∈ AL r x ∧ qb ∈ AL r x ∧
  ∀ H', Ext H H' → Q (.bl true) H'
theorem ok_right {f : Addr} {fd : FuncData} (F : Fun K "_law_right" "_law_right" s_law_right f fd) (c_law_lowest : CLowest P w K mg base) (cwall : CWall P w K mg base) (cwallK : CWallK P w K mg base) (c_law_shuts_in : CShuts P w K mg base) : FnOk P w K mg base CX0 9 f fd ["_law_world_here", "_law_one", "_law_two"] (spRight P w) := by
  refine F.ok sc_law_right (fun vs H Q E h => ?_) (fun cdv A outer s H vs Q E hr h => ?_)
  · obtain ⟨W, a, b, v, r, x, qa, qb, p, rfl, _⟩ := h
    rfl
  · obtain ⟨W, a, b, v, r, x, qa, qb, p, rfl, hWp, hR, ok, hx8, hFa, hFb, haA, hbA, q⟩ := h
    obtain ⟨Dw, Ds, E, es, ss, C, hW⟩ := hWp.wld
    refine ⟨_, (pss_cons (ps_set (i := 3) sc_law_right.nd rfl (.inl rfl) (pe_ca c_law_lowest (hr.mono (by decide)) (by rfl) (pa_cons (pv 0) (pa_cons (pv 1) (pa_cons (pv 2) pa_nil)))))
      (pss_cons (ps_set (i := 4) sc_law_right.nd rfl (.inl rfl) (pe_ca cwall (hr.mono (by decide)) (by rfl) (pa_cons (pe_dget (hu_of hr) (pv 0) pe_str (fun _ _ => rfl)) (pa_cons (pe_dget (hu_of hr) (pv 0) pe_str (fun _ _ => rfl)) (pa_cons (pv 1) (pa_cons (pv 2) pa_nil))))))
      (pss_cons (ps_if (PW.pt (pw_or (pt_not (pt_val (pe_ca c_law_shuts_in (hr.mono (by decide)) (by rfl) (pa_cons (pv 0) (pa_cons (pv 1) (pa_cons (pv 2) (pa_cons (pv 3) (pa_cons (pv 4) pa_nil)))))))) (pw_or1 (pt_cmpR op_ne (pe_cmpR (eqD K hr.units) (pv 4) (pe_lst pa_nil) (nomark _)) (pe_cmpR op_ge (pe_fget (P := P) (w := w) hr.units (pe_dget (hu_of hr) (pv 0) pe_str (fun _ _ => rfl)) (pv 1) (fun _ _ => rfl)) (pv 3) (nomark _)) (nomark _))))) (pss_one (ps_ret pe_bl)) pss_nil)
      (pss_cons (ps_expr (pe_bm0 PySem.F.plainAttrs_list PySem.F.slot_list_reverse PySem.F.type_list_reverse mt_reverse (pv 4)))
      (pss_cons (ps_expr (pe_bm PySem.F.plainAttrs_list PySem.F.slot_list_append PySem.F.type_list_append mt_append (pv 4) (pa_cons pe_non pa_nil)))
      (pss_cons (ps_set (i := 4) sc_law_right.nd rfl (.inl rfl) (pe_caK cwallK (hr.mono (by decide)) (by rfl) (pk_cons (pv 2) (pk_cons (pv 1) (pk_cons (pe_dget (hu_of hr) (pv 0) pe_str (fun _ _ => rfl)) (pk_cons (pe_dget (hu_of hr) (pv 0) pe_str (fun _ _ => rfl)) pk_nil))))))
      (pss_one (ps_ret (pe_ca c_law_shuts_in (hr.mono (by decide)) (by rfl) (pa_cons (pv 0) (pa_cons (pv 1) (pa_cons (pv 2) (pa_cons (pv 3) (pa_cons (pv 4) pa_nil)))))))))))))), ?_⟩
    have hx : x.length ≤ 12 := by omega
    have hnd := AL_nd r x
    refine ⟨_, rfl, _, rfl, _, rfl, W, a, b, v, r, x, qa, qb, p, rfl, hWp, hx8, hFa, hFb, haA, hbA, fun m H1 hpk k1 => ?_⟩
    have hW1 := hW.ext k1
    refine ⟨_, rfl, W, _, rfl, hW1.bk, _, rfl, W, _, rfl, hW1.ln, _, rfl, _, rfl, v, a, b, r, x, qa, qb, rfl, (RulesAt.mono _ _ _ _ (TupK.ext k1) hR).w, ok, hx, keyT.mono (TupK.ext k1) hFa, keyT.mono (TupK.ext k1) hFb, haA, hbA, fun l ws L m2 H2 hl1 hl hP hSh k2 => ?_⟩
    obtain rfl : m2 = m := hSh.pk.uniq hpk
    have k02 := k1.trans k2
    have hwl := paired_len hP
    have hLl : L.length ≤ 323 := Nat.le_trans (nodup_len_le hSh.nd hSh.sub) (AL_len8 r hx8)
    refine ⟨_, rfl, _, rfl, _, rfl, _, rfl, _, rfl, W, a, b, l, m2, v, r, x, qa, qb, p, ws, L, rfl, hWp.kp (Kp.ext k02) (TupK.ext k02), hx8, keyT.mono (TupK.ext k02) hFa, keyT.mono (TupK.ext k02) hFb, haA, hl, hP, hSh, fun H3 k3 => ⟨true, rfl, iteF ?_⟩⟩
    have k03 := k02.trans k3
    have hl3 := k3 _ _ hl
    have hP3 := paired_imp (fun _ _ => FoAt.mono _ _ _ _ (TupK.ext k3)) hP
    have hW3 := hW.ext k03
    refine ⟨_, rfl, Nat.zero_le _, fun l4 hl4 => ⟨_, _, .lst (SqL.of (Ext.new hl4 _ _ hl3)) (dpFos (paired_imp (fun _ _ => FoAt.mono _ _ _ _ (TupK.ext (Ext.new hl4))) hP3)), .lst (SqL.of upd_same) .nil, shaped_fos _, by decide +kernel, ?_⟩⟩
    have x4 := Ext.new (o := .lst []) hl4
    have hW4 := hW3.ext x4
    have k24 := k3.trans x4
    have k04 := k02.trans k24
    generalize upd H3 l4 (.lst []) = H4 at x4 hW4 k24 k04 ⊢
    refine ⟨_, rfl, W, _, rfl, hW4.ws, _, rfl, Dw, a, _, qa, _, rfl, rfl, hW4.hw.r keyT, keyT.imp (keyT.mono (TupK.ext k04) hFa), val_enW hnd haA, _, rfl, _, _, rfl, rfl, rfl, _, rfl, iteNS ?_ ?_⟩
    · refine congrArg V.bl ?_
      by_cases hlo : m2 ≤ woV r x qa
      · rw [hSh.no hlo, decide_eq_true (show woV r x qa ≥ m2 from hlo)]
        simp [PyData.eqv, PyData.eqvAll]
      · have haL : qa ∈ L := (hSh.yes (by omega) qa).mpr ⟨haA, [qa], .one haA, fun z hz => .inl (List.mem_singleton.mp hz)⟩
        rw [decide_eq_false (show ¬ woV r x qa ≥ m2 from hlo)]
        cases L with
        | nil => cases haL
        | cons y t => simp [PyData.eqv, PyData.eqvAll]
    have hl4' := k24 _ _ hl
    have k14 := k2.trans k24
    refine ⟨_, rfl, .inl ⟨rfl, _, SqL.of hl4'⟩, l, ws, rfl, rfl, hl4', ?_⟩
    have k15 := k14.put (o := .lst ws.reverse) hl1
    have hl5 : upd H4 l (.lst ws.reverse) l = some (.lst ws.reverse) := upd_same
    generalize upd H4 l (.lst ws.reverse) = H5 at k15 hl5 ⊢
    refine ⟨_, rfl, .inl ⟨rfl, _, SqL.of hl5⟩, _, _, _, rfl, rfl, hl5, szLt (by rw [List.length_reverse]; omega), ?_⟩
    have k16 := k15.put (o := .lst (ws.reverse ++ [.non])) hl1
    generalize upd H5 l (.lst (ws.reverse ++ [.non])) = H6 at k16 ⊢
    have k06 := k1.trans k16
    have hW6 := hW.ext k06
    refine ⟨_, rfl, _, rfl, _, rfl, W, _, rfl, hW6.ln, _, rfl, W, _, rfl, hW6.bk, rfl, rfl, v, a, b, r, x, qa, qb, rfl, (RulesAt.mono _ _ _ _ (TupK.ext k06) hR).w, ok, hx, keyT.mono (TupK.ext k06) hFa, keyT.mono (TupK.ext k06) hFb, haA, hbA, fun l7 ws7 L7 m7 H7 hl71 hl7 hP7 hSh7 k7 => ?_⟩
    obtain rfl : m7 = m2 := hSh7.pk.uniq hpk
    have k07 := k06.trans k7
    exact ⟨_, rfl, _, rfl, _, rfl, _, rfl, _, rfl, W, a, b, l7, m7, v, r, x, qa, qb, p, ws7, L7, rfl, hWp.kp (Kp.ext k07) (TupK.ext k07), hx8, keyT.mono (TupK.ext k07) hFa, keyT.mono (TupK.ext k07) hFb, haA, hl7, hP7, hSh7, fun H8 k8 => q _ (k07.trans k8)⟩
abbrev CRight (P : Program) (w : World) (K : PySem.W.Frag) (mg : Str → Option Value) (base : Heap) : Prop := Ca P w K mg base 9 "_law_right" ["_law_world_here", "_law_one", "_law_two"] (spRight P w)
end
end Pf


namespace Pf
open PySem PySem.Spec PyProof.Rows L2
theorem cutS_ofR {L x : Str} (h : Of L x) (lo hi : Option Int) : Of L (cutS x lo hi) := fun c hc => by
  unfold cutS at hc
  exact h c (List.mem_of_mem_drop (List.mem_of_mem_take hc))
theorem cutS_leR (x : Str) (lo hi : Option Int) : (cutS x lo hi).length ≤ x.length := by
  show (((x.cps.toList.drop (HT.sIx x.length 0 lo)).take (HT.sIx x.length x.length hi - HT.sIx x.length 0 lo)).toArray).size ≤ x.cps.size
  rw [List.size_toArray, List.length_take, List.length_drop, Array.length_toList]
  omega
section
variable {P : Program} {w : World} {K : PySem.W.Frag} {mg : Str → Option Value} {base : Heap}
abbrev s_law_short : Stmt := topS 36
theorem sc_law_short : FnScope ["_law_book_here", "_law_line_here", "_law_limit", "_law_size", "_law_count", "_law_j", "_law_i"] ["_law_book_here", "_law_line_here", "_law_limit"] (defScope s_law_short) :=
  ⟨rfl, rfl, rfl, by decide +kernel, rfl, by decide +kernel, by decide +kernel⟩
def spShort : Sp := fun vs H Q _ => ∃ (v : V) (r : Rl) (x : Str) (m : Int), vs = [v, .str x, .int m] ∧ RulesAt H v r ∧ RlOk r ∧ Of r.letters x ∧ x.length ≤ 12 ∧ 0 ≤ m ∧ ∀ (y : Str) H', Of r.letters y → y.length ≤ x.length → Ext H H' → Q (.str y) H'
theorem ok_short {f : Addr} {fd : FuncData} (F : Fun K "_law_short" "_law_short" s_law_short f fd) (c_law_may : CMayR P w K mg base) (mlen : mg "len" = none) (mrange : mg "range" = none) : FnOk P w K mg base CX0 2 f fd ["_law_book_here", "_law_line_here", "_law_limit"] spShort := by
  refine F.ok sc_law_short (fun vs H Q E h => ?_) (fun cdv A outer s H vs Q E hr h => ?_)
  · obtain ⟨v, r, x, m, rfl, _⟩ := h
    rfl
  · obtain ⟨v, r, x, m, rfl, hR, ok, hO, hx, hm, q⟩ := h
    refine ⟨_, (pss_cons (ps_set (i := 3) sc_law_short.nd rfl (.inl rfl) (pe_callB call_len_str (by rfl) mlen (by decide +kernel) (pa_cons (pv 1) pa_nil)))
      (pss_one (ps_while PassesOwn.never (pt_val pe_bl) (pss_cons (ps_set (i := 4) sc_law_short.nd rfl (.inl rfl) pe_int)
      (pss_cons (ps_for PassesOwn.never rfl (pi_range1 (by rfl) mrange (pa_cons (pv 3) pa_nil)) (pg_name (i := 5) sc_law_short.nd rfl (.inr rfl)) (pss_one (ps_set (i := 4) sc_law_short.nd rfl (.inl rfl) (pe_op op_add (pv 4) (pe_callB (lenQ K) (by rfl) mlen (by decide +kernel) (pa_cons (pe_lc (own := [("_law_i", 6)]) (g := gName 6) (by rfl) sc_law_short.nd (pi_range1 (by rfl) mrange (pa_cons (pv 5) pa_nil)) (blkOk_by (own := [("_law_i", 6)]) (N := ["_law_book_here", "_law_line_here", "_law_limit", "_law_size", "_law_count", "_law_j", "_law_i"]) (sc := defScope s_law_short) (by decide +kernel)) (fun _ _ _ _ _ => (pg_name (i := 6) sc_law_short.nd rfl (.inl rfl))) (fun _ _ _ _ _ => (pts_one (pt_val (pe_ca c_law_may (hr.mono (by decide)) (by rfl) (pa_cons (pv 0) (pa_cons (pv 1) (pa_cons (pv 6) (pa_cons (pv 5) pa_nil)))))))) (fun _ _ _ _ _ => (pv 6))) pa_nil))))))
      (pss_cons (ps_if (pt_cmpR op_le (pv 4) (pv 2) (nomark _)) (pss_one (ps_ret (pe_slice sl_str (pv 1) po_none (po_some (pv 3))))) pss_nil)
      (pss_one (ps_set (i := 3) sc_law_short.nd rfl (.inl rfl) (pe_op op_sub (pv 3) pe_int))))))))), ?_⟩
    refine ⟨_, rfl, x, rfl, szL (by omega), ?_⟩
    refine ⟨fun n σ Hc => ∃ (y4 y5 y6 : Option V), n ≤ x.length ∧ σ = [some v, some (.str x), some (.int m), some (.int (n : Int)), y4, y5, y6] ∧ Ext H Hc, ⟨x.length, none, none, none, Nat.le_refl _, rfl, Ext.refl⟩, fun n σ Hc hW => ?_⟩
    obtain ⟨y4, y5, y6, hn, rfl, kx⟩ := hW
    refine ⟨_, rfl, iteT ⟨fun σ' H' => ∃ (y4 y5 y6 : Option V), 0 < n ∧ σ' = [some v, some (.str x), some (.int m), some (.int ((n : Int) - 1)), y4, y5, y6] ∧ Ext H H', fun σ' H' ⟨y4, y5, y6, h0, h1, h2⟩ => ⟨n - 1, by omega, y4, y5, y6, by omega, by rw [h1, show ((n - 1 : Nat) : Int) = (n : Int) - 1 by omega], h2⟩, ?_⟩⟩
    refine ⟨_, rfl, n, rfl, by omega, by omega, for_range (lo := 0) (n := n) (fun j σ H2 => ∃ (c : Nat) (y5 y6 : Option V), σ = [some v, some (.str x), some (.int m), some (.int (n : Int)), some (.int (c : Int)), y5, y6] ∧ (j = 0 → c = 0) ∧ Ext H H2)
      ⟨0, y5, y6, rfl, fun _ => rfl, kx⟩ (fun j σ H2 hj hv => ?_) (fun σ H2 hv => ?_)⟩
    · obtain ⟨c, y5, y6, rfl, _, k2⟩ := hv
      refine ⟨_, rfl, _, rfl, (j : Int), by rw [Int.zero_add], by omega, by omega, fun D hD => lc_range (lo := 0) (n := j) (fun i H3 => ∃ us : List V, H3 D = some (.lst us) ∧ us.length ≤ i ∧ Ext H2 H3) ⟨[], upd_same, Nat.le_refl _, Ext.new hD⟩ (fun i H3 hi hv => ?_) (fun H3 hv => ?_)⟩
      · obtain ⟨us, hDD, hul, k3⟩ := hv
        refine ⟨rfl, _, rfl, _, rfl, _, rfl, _, rfl, v, r, x, 0 + (i : Int), 0 + (j : Int), rfl, RulesAt.mono _ _ _ _ (TupK.ext (k2.trans k3)) hR, ok, by omega, by omega, by omega, by omega, by omega, fun H4 k4 => ⟨_, rfl, ite2 (fun e => ?_) (fun e => ?_)⟩⟩
        · exact ⟨_, rfl, us, k4 _ _ hDD, szLt (by omega), _, upd_same, by rw [List.length_append, List.length_singleton]; omega, (k3.trans k4).put hD⟩
        · exact ⟨us, k4 _ _ hDD, by omega, k3.trans k4⟩
      · obtain ⟨us, hDD, hul, k3⟩ := hv
        exact ⟨D, us, rfl, .inl (SqL.of hDD), _, _, rfl, rfl, c + us.length, _, _, by rw [Int.natCast_add]; rfl, (fun z => by omega), k2.trans k3⟩
    · obtain ⟨c, y5, y6, rfl, hc, k2⟩ := hv
      refine ⟨_, rfl, _, rfl, _, _, rfl, rfl, _, rfl, ite2 (fun e => ?_) (fun e => ?_)⟩
      · exact ⟨_, rfl, _, rfl, _, rfl, x, rfl, szL (by omega), q _ _ (cutS_ofR hO _ _) (cutS_leR _ _ _) k2⟩
      · have e : ¬ (c : Int) ≤ m := fun z => e (decide_eq_true z)
        have hn0 : 0 < n := Nat.pos_of_ne_zero fun z => by
          have := hc z
          omega
        exact ⟨_, rfl, _, 1, rfl, rfl, _, _, _, hn0, rfl, k2⟩
abbrev CShort (P : Program) (w : World) (K : PySem.W.Frag) (mg : Str → Option Value) (base : Heap) : Prop := Ca P w K mg base 2 "_law_short" ["_law_book_here", "_law_line_here", "_law_limit"] spShort
end
end Pf


namespace Pf
open PySem PySem.Spec PyProof.Rows L2
section
variable {P : Program} {w : World} {K : PySem.W.Frag} {mg : Str → Option Value} {base : Heap}
abbrev CStart (P : Program) (w : World) (K : PySem.W.Frag) (mg : Str → Option Value) (base : Heap) : Prop := Ca P w K mg base 1 "_law_pen" ["_law_script"] (spStart K)
abbrev s_law : Stmt := topS 47
theorem sc_law : FnScope ["_law_script", "_law_pen_here", "_law_book_here", "_law_line_here", "_law_world_here", "_law_kept", "_law_turn", "_law_one", "_law_two"] ["_law_script"] (defScope s_law) :=
  ⟨rfl, rfl, rfl, by decide +kernel, rfl, by decide +kernel, by decide +kernel⟩
def spLaw (K : PySem.W.Frag) : Sp := fun vs H Q _ => ∃ (a : Addr) (ns : List Int), vs = [.ref a] ∧ SqL K H a (ns.map V.int) ∧ ns.length ≤ 63 ∧ ∀ H', Q (.bl true) H'
theorem ok_law {f : Addr} {fd : FuncData} (F : Fun K "law" "law" s_law f fd) (room : Room 18 callerA) (c_law_pen : CStart P w K mg base) (c_law_book : CRules P w K mg base) (c_law_line : CLine P w K mg base) (c_law_short : CShort P w K mg base) (c_law_world : CWorld P w K mg base) (c_law_any : CAny P w K mg base) (c_law_right : CRight P w K mg base)
    (mrange : mg "range" = none) (mrepr : mg "repr" = none) : FnG P w K mg base f fd ["_law_script"] (spLaw K) := by
  refine FnG.of (k := 17) F sc_law room (fun vs H Q E h => ?_) (fun cdv s H vs Q E hr hG h => ?_)
  · obtain ⟨a, ns, rfl, _⟩ := h
    rfl
  · obtain ⟨a, ns, rfl, hS, hns, q⟩ := h
    refine ⟨_, (pss_cons (ps_set (i := 1) sc_law.nd rfl (.inl rfl) (pe_ca c_law_pen (hr.mono (by decide)) (by rfl) (pa_cons (pv 0) pa_nil)))
      (pss_cons (ps_set (i := 2) sc_law.nd rfl (.inl rfl) (pe_ca c_law_book (hr.mono (by decide)) (by rfl) (pa_cons (pv 1) pa_nil)))
      (pss_cons (ps_set (i := 3) sc_law.nd rfl (.inl rfl) (pe_ca c_law_short (hr.mono (by decide)) (by rfl) (pa_cons (pv 2) (pa_cons (pe_ca c_law_line (hr.mono (by decide)) (by rfl) (pa_cons (pv 1) (pa_cons (pv 2) (pa_cons pe_int (pa_cons pe_int pa_nil))))) (pa_cons pe_int pa_nil)))))
      (pss_cons (ps_set (i := 4) sc_law.nd rfl (.inl rfl) (pe_ca c_law_world (hr.mono (by decide)) (by rfl) (pa_cons (pv 2) (pa_cons (pv 3) pa_nil))))
      (pss_cons (ps_set (i := 5) sc_law.nd rfl (.inl rfl) (pe_callB (call_show K hG hr.units) (by rfl) mrepr (by decide +kernel) (pa_cons (pv 2) pa_nil)))
      (pss_cons (ps_for PassesOwn.never rfl (pi_range1 (by rfl) mrange (pa_cons pe_int pa_nil)) (pg_name (i := 6) sc_law.nd rfl (.inl rfl)) (pss_cons (ps_par (i := 7) (j := 8) rfl sc_law.nd rfl rfl (by decide) rfl rfl (pa_cons (pe_ca c_law_any (hr.mono (by decide)) (by rfl) (pa_cons (pv 1) (pa_cons (pv 4) pa_nil))) (pa_cons (pe_ca c_law_any (hr.mono (by decide)) (by rfl) (pa_cons (pv 1) (pa_cons (pv 4) pa_nil))) pa_nil)) (by rfl))
      (pss_cons (ps_if (pt_cmpR op_eq (pv 6) pe_int (nomark _)) (pss_one (ps_set (i := 8) sc_law.nd rfl (.inl rfl) (pv 7))) pss_nil)
      (pss_one (ps_if (PW.pt (pw_or (pt_not (pt_val (pe_ca c_law_right (hr.mono (by decide)) (by rfl) (pa_cons (pv 4) (pa_cons (pv 7) (pa_cons (pv 8) pa_nil)))))) (pw_or1 (pt_cmpR op_ne (pe_callB (call_show K hG hr.units) (by rfl) mrepr (by decide +kernel) (pa_cons (pv 2) pa_nil)) (pv 5) (nomark _))))) (pss_one (ps_ret pe_bl)) pss_nil)))))
      (pss_one (ps_ret pe_bl)))))))), ?_⟩
    refine ⟨_, rfl, a, ns, rfl, hS, hns, fun p c H1 hP1 => ?_⟩
    refine ⟨_, rfl, p, c, _, rfl, hP1, by decide, fun v r H3 hr3 ok of3 k3 hP3 => ?_⟩
    refine ⟨_, rfl, _, rfl, _, rfl, p, c, v, r, 0, 8, _, rfl, hr3, ok, of3, Int.le_refl _, by decide, by decide, hP3, by decide, fun x0 H4 hx0 hxm hO0 k4 hP4 => ?_⟩
    have hr4 := RulesAt.mono _ _ _ _ (TupK.of k4 hP3) hr3
    refine ⟨v, r, x0, 9, rfl, hr4, ok, hO0, by omega, by decide, fun x H5 hO hxl k5 => ?_⟩
    have hr5 := RulesAt.mono _ _ _ _ (TupK.ext k5) hr4
    have hP5 := hP4.ext k5
    have hx8 : x.length ≤ 8 := by omega
    refine ⟨_, rfl, _, rfl, v, r, x, rfl, hr5, ok, by omega, hO, fun W H6 hWp k6 => ?_⟩
    have hW : WorldAt P w p H6 W v r x := by
      obtain ⟨_, _, _, hp, _⟩ := hP5
      exact hWp p _ hp
    have hr6 := RulesAt.mono _ _ _ _ (TupK.ext k6) hr5
    have hP6 := hP5.ext k6
    refine ⟨_, rfl, _, _, _, _, rfl, dp_rules hr6, sm_rules ok, by decide, by decide, ?_⟩
    generalize hT : (dRl r).shown = T
    refine ⟨5, rfl, by decide, by decide, for_range (n := 5) (fun i σ H7 => ∃ (y6 y7 y8 : Option V), σ = [some (.ref a), some (.ref p), some v, some (.str x), some (.ref W), some (.str T), y6, y7, y8] ∧ Kp p H6 H7 ∧ Pen H7 p c (340 + 4 * i))
      ⟨none, none, none, rfl, Kp.refl, hP6.mono (by decide)⟩ (fun i σ H7 hi hv => ?_) (fun σ H7 hv => ?_)⟩
    · obtain ⟨y6, y7, y8, rfl, k7, hP7⟩ := hv
      have tk7 := TupK.of k7 hP6
      have hW7 := hW.kp k7 tk7
      refine ⟨_, rfl, _, rfl, p, c, W, v, r, x, _, rfl, hW7, by omega, hP7, by omega, fun b1 q1 H8 hF1 hA1 k8 hP8 => ?_⟩
      have tk8 := TupK.of k8 hP7
      have hW8 := hW7.kp k8 tk8
      refine ⟨_, rfl, _, rfl, p, c, W, v, r, x, _, rfl, hW8, by omega, hP8, by omega, fun b2 q2 H9 hF2 hA2 k9 hP9 => ?_⟩
      have tk9 := TupK.of k9 hP8
      have hW9 := hW8.kp k9 tk9
      have hF19 := keyT.mono tk9 hF1
      have hr9 := RulesAt.mono _ _ _ _ ((tk7.trans tk8).trans tk9) hr6
      have k69 := (k7.trans k8).trans k9
      refine ⟨.ref b1, .ref b2, rfl, ?_⟩
      dsimp only
      refine join_by (fun σ' H' => ∃ (b : Addr) (qb : Fo), σ' = [some (.ref a), some (.ref p), some v, some (.str x), some (.ref W), some (.str T), some (.int (0 + (i : Int))), some (.ref b1), some (.ref b)] ∧ H' = H9 ∧ FkT H9 b qb ∧ qb ∈ AL r x) (fun H' => H' = H9) (fun H' => H' = H9) (fun Q q q2 => ?_) (fun H' h N hN => ?_) (fun H' h => ⟨b2, q2, rfl, h, hF2, hA2⟩) (fun σ' H' h => ?_)
      · refine ⟨_, rfl, rfl, _, rfl, ?_⟩
        by_cases e : V.int (0 + (i : Int)) = V.int 4
        · rw [decide_eq_true e]
          exact q _ rfl
        · rw [decide_eq_false e]
          exact q2 _ rfl
      · exact ⟨_, rfl, hN _ _ ⟨b1, q1, rfl, h, hF19, hA1⟩⟩
      · obtain ⟨b, qb, rfl, rfl, hFb, hAb⟩ := h
        refine ⟨_, rfl, _, rfl, _, rfl, W, b1, b, v, r, x, q1, qb, p, rfl, hW9, hr9, ok, hx8, hF19, hFb, hA1, hAb, fun H10 k10 => ⟨true, rfl, iteF ?_⟩⟩
        refine ⟨_, rfl, _, _, _, _, rfl, dp_rules (RulesAt.mono _ _ _ _ (TupK.ext k10) hr9), sm_rules ok, by decide, by decide, ?_⟩
        rw [hT]
        exact ⟨_, rfl, rfl, _, rfl, iteNS rfl ⟨_, _, _, rfl, k69.trans (Kp.ext k10), (hP9.ext k10).mono (by omega)⟩⟩
    · exact q _
end
end Pf


namespace Pf
open PySem PySem.Spec PyProof.Rows L2
/-! ### what the top has written; the law's own head -/
theorem all_mk {l : PySem.W.OpenLaw} {w : World} {K : PySem.W.Frag} {h : Heap} {mg : Str → Option Value} {fa f0 f1 f2 f3 f4 f5 f6 f7 f8 f9 f10 f11 f12 f13 f14 f15 f16 f17 f18 f19 f20 f21 f22 f23 f24 f25 f26 f27 f28 f29 f30 f31 f32 f33 f34 f35 f36 f37 f38 f39 : Addr} (X : K.In h) (G : h.Ns mainGlobals mg) (hfa : mg "law" = some (.ref fa))
    {od0 an0 od1 an1 od2 an2 od3 an3 od4 an4 od5 an5 od6 an6 od7 an7 od8 an8 od9 an9 od10 an10 od11 an11 od12 an12 od13 an13 od14 an14 od15 an15 od16 an16 od17 an17 od18 an18 od19 an19 od20 an20 od21 an21 od22 an22 od23 an23 od24 an24 od25 an25 od26 an26 od27 an27 od28 an28 od29 an29 od30 an30 od31 an31 od32 an32 od33 an33 od34 an34 od35 an35 od36 an36 od37 an37 od38 an38 od39 an39 : Option Addr} {sl0 sl1 sl2 sl3 sl4 sl5 sl6 sl7 sl8 sl9 sl10 sl11 sl12 sl13 sl14 sl15 sl16 sl17 sl18 sl19 sl20 sl21 sl22 sl23 sl24 sl25 sl26 sl27 sl28 sl29 sl30 sl31 sl32 sl33 sl34 sl35 sl36 sl37 sl38 sl39 : Array (Option Value)} {oc0 kV0 dc0 pm0 cd0 ct0 oc1 kV1 dc1 pm1 cd1 ct1 oc2 kV2 dc2 pm2 cd2 ct2 oc3 kV3 dc3 pm3 cd3 ct3 oc4 kV4 dc4 pm4 cd4 ct4 oc5 kV5 dc5 pm5 cd5 ct5 oc6 kV6 dc6 pm6 cd6 ct6 oc7 kV7 dc7 pm7 cd7 ct7 oc8 kV8 dc8 pm8 cd8 ct8 oc9 kV9 dc9 pm9 cd9 ct9 oc10 kV10 dc10 pm10 cd10 ct10 oc11 kV11 dc11 pm11 cd11 ct11 oc12 kV12 dc12 pm12 cd12 ct12 oc13 kV13 dc13 pm13 cd13 ct13 oc14 kV14 dc14 pm14 cd14 ct14 oc15 kV15 dc15 pm15 cd15 ct15 oc16 kV16 dc16 pm16 cd16 ct16 oc17 kV17 dc17 pm17 cd17 ct17 oc18 kV18 dc18 pm18 cd18 ct18 oc19 kV19 dc19 pm19 cd19 ct19 oc20 kV20 dc20 pm20 cd20 ct20 oc21 kV21 dc21 pm21 cd21 ct21 oc22 kV22 dc22 pm22 cd22 ct22 oc23 kV23 dc23 pm23 cd23 ct23 oc24 kV24 dc24 pm24 cd24 ct24 oc25 kV25 dc25 pm25 cd25 ct25 oc26 kV26 dc26 pm26 cd26 ct26 oc27 kV27 dc27 pm27 cd27 ct27 oc28 kV28 dc28 pm28 cd28 ct28 oc29 kV29 dc29 pm29 cd29 ct29 oc30 kV30 dc30 pm30 cd30 ct30 oc31 kV31 dc31 pm31 cd31 ct31 oc32 kV32 dc32 pm32 cd32 ct32 oc33 kV33 dc33 pm33 cd33 ct33 oc34 kV34 dc34 pm34 cd34 ct34 oc35 kV35 dc35 pm35 cd35 ct35 oc36 kV36 dc36 pm36 cd36 ct36 oc37 kV37 dc37 pm37 cd37 ct37 oc38 kV38 dc38 pm38 cd38 ct38 oc39 kV39 dc39 pm39 cd39 ct39 : Value} {aL : Addr} {odG : Option Addr} {slG : Array (Option Value)} {nG : Nat} {tG0 tG1 tG2 tG3 tG4 tG5 tG6 tG7 tG8 : Tok} 
    (a0 : PySem.W.nsIn K mainGlobals "_law_pen" = some (some (.ref f0))) (l0 : K.lookup f0 = some ⟨oc0, od0, .func (PySem.W.fnOf "_law_pen" "_law_pen" (defArgs s_law_pen) (defBody s_law_pen) (defScope s_law_pen) .none kV0 dc0 pm0 an0 cd0 ct0), sl0⟩) (c0 : PySem.W.codeIn K cd0 "_law_pen" = true) (k0 : PySem.W.keepIn K (.ref f0) = true)
    (a1 : PySem.W.nsIn K mainGlobals "_law_take" = some (some (.ref f1))) (l1 : K.lookup f1 = some ⟨oc1, od1, .func (PySem.W.fnOf "_law_take" "_law_take" (defArgs s_law_take) (defBody s_law_take) (defScope s_law_take) .none kV1 dc1 pm1 an1 cd1 ct1), sl1⟩) (c1 : PySem.W.codeIn K cd1 "_law_take" = true) (k1 : PySem.W.keepIn K (.ref f1) = true)
    (a2 : PySem.W.nsIn K mainGlobals "_law_small" = some (some (.ref f2))) (l2 : K.lookup f2 = some ⟨oc2, od2, .func (PySem.W.fnOf "_law_small" "_law_small" (defArgs s_law_small) (defBody s_law_small) (defScope s_law_small) .none kV2 dc2 pm2 an2 cd2 ct2), sl2⟩) (c2 : PySem.W.codeIn K cd2 "_law_small" = true) (k2 : PySem.W.keepIn K (.ref f2) = true)
    (a3 : PySem.W.nsIn K mainGlobals "_law_book" = some (some (.ref f3))) (l3 : K.lookup f3 = some ⟨oc3, od3, .func (PySem.W.fnOf "_law_book" "_law_book" (defArgs s_law_book) (defBody s_law_book) (defScope s_law_book) .none kV3 dc3 pm3 an3 cd3 ct3), sl3⟩) (c3 : PySem.W.codeIn K cd3 "_law_book" = true) (k3 : PySem.W.keepIn K (.ref f3) = true)
    (a4 : PySem.W.nsIn K mainGlobals "_law_line" = some (some (.ref f4))) (l4 : K.lookup f4 = some ⟨oc4, od4, .func (PySem.W.fnOf "_law_line" "_law_line" (defArgs s_law_line) (defBody s_law_line) (defScope s_law_line) .none kV4 dc4 pm4 an4 cd4 ct4), sl4⟩) (c4 : PySem.W.codeIn K cd4 "_law_line" = true) (k4 : PySem.W.keepIn K (.ref f4) = true)
    (a5 : PySem.W.nsIn K mainGlobals "_law_may" = some (some (.ref f5))) (l5 : K.lookup f5 = some ⟨oc5, od5, .func (PySem.W.fnOf "_law_may" "_law_may" (defArgs s_law_may) (defBody s_law_may) (defScope s_law_may) .none kV5 dc5 pm5 an5 cd5 ct5), sl5⟩) (c5 : PySem.W.codeIn K cd5 "_law_may" = true) (k5 : PySem.W.keepIn K (.ref f5) = true)
    (a6 : PySem.W.nsIn K mainGlobals "_law_lists" = some (some (.ref f6))) (l6 : K.lookup f6 = some ⟨oc6, od6, .func (PySem.W.fnOf "_law_lists" "_law_lists" (defArgs s_law_lists) (defBody s_law_lists) (defScope s_law_lists) .none kV6 dc6 pm6 an6 cd6 ct6), sl6⟩) (c6 : PySem.W.codeIn K cd6 "_law_lists" = true) (k6 : PySem.W.keepIn K (.ref f6) = true)
    (a7 : PySem.W.nsIn K mainGlobals "_law_loop" = some (some (.ref f7))) (l7 : K.lookup f7 = some ⟨oc7, od7, .func (PySem.W.fnOf "_law_loop" "_law_loop" (defArgs s_law_loop) (defBody s_law_loop) (defScope s_law_loop) .none kV7 dc7 pm7 an7 cd7 ct7), sl7⟩) (c7 : PySem.W.codeIn K cd7 "_law_loop" = true) (k7 : PySem.W.keepIn K (.ref f7) = true)
    (a8 : PySem.W.nsIn K mainGlobals "_law_worth" = some (some (.ref f8))) (l8 : K.lookup f8 = some ⟨oc8, od8, .func (PySem.W.fnOf "_law_worth" "_law_worth" (defArgs s_law_worth) (defBody s_law_worth) (defScope s_law_worth) .none kV8 dc8 pm8 an8 cd8 ct8), sl8⟩) (c8 : PySem.W.codeIn K cd8 "_law_worth" = true) (k8 : PySem.W.keepIn K (.ref f8) = true)
    (a9 : PySem.W.nsIn K mainGlobals "_law_world" = some (some (.ref f9))) (l9 : K.lookup f9 = some ⟨oc9, od9, .func (PySem.W.fnOf "_law_world" "_law_world" (defArgs s_law_world) (defBody s_law_world) (defScope s_law_world) .none kV9 dc9 pm9 an9 cd9 ct9), sl9⟩) (c9 : PySem.W.codeIn K cd9 "_law_world" = true) (k9 : PySem.W.keepIn K (.ref f9) = true)
    (a10 : PySem.W.nsIn K mainGlobals "pair_worth" = some (some (.ref f10))) (l10 : K.lookup f10 = some ⟨oc10, od10, .func (PySem.W.fnOf "pair_worth" "pair_worth" (defArgs s_pair_worth) (defBody s_pair_worth) (defScope s_pair_worth) .none kV10 dc10 pm10 an10 cd10 ct10), sl10⟩) (c10 : PySem.W.codeIn K cd10 "pair_worth" = true) (k10 : PySem.W.keepIn K (.ref f10) = true)
    (a11 : PySem.W.nsIn K mainGlobals "text_of" = some (some (.ref f11))) (l11 : K.lookup f11 = some ⟨oc11, od11, .func (PySem.W.fnOf "text_of" "text_of" (defArgs s_text_of) (defBody s_text_of) (defScope s_text_of) .none kV11 dc11 pm11 an11 cd11 ct11), sl11⟩) (c11 : PySem.W.codeIn K cd11 "text_of" = true) (k11 : PySem.W.keepIn K (.ref f11) = true)
    (a12 : PySem.W.nsIn K mainGlobals "may_pair" = some (some (.ref f12))) (l12 : K.lookup f12 = some ⟨oc12, od12, .func (PySem.W.fnOf "may_pair" "may_pair" (defArgs s_may_pair) (defBody s_may_pair) (defScope s_may_pair) .none kV12 dc12 pm12 an12 cd12 ct12), sl12⟩) (c12 : PySem.W.codeIn K cd12 "may_pair" = true) (k12 : PySem.W.keepIn K (.ref f12) = true)
    (a13 : PySem.W.nsIn K mainGlobals "is_whole" = some (some (.ref f13))) (l13 : K.lookup f13 = some ⟨oc13, od13, .func (PySem.W.fnOf "is_whole" "is_whole" (defArgs s_is_whole) (defBody s_is_whole) (defScope s_is_whole) .none kV13 dc13 pm13 an13 cd13 ct13), sl13⟩) (c13 : PySem.W.codeIn K cd13 "is_whole" = true) (k13 : PySem.W.keepIn K (.ref f13) = true)
    (a14 : PySem.W.nsIn K mainGlobals "is_row" = some (some (.ref f14))) (l14 : K.lookup f14 = some ⟨oc14, od14, .func (PySem.W.fnOf "is_row" "is_row" (defArgs s_is_row) (defBody s_is_row) (defScope s_is_row) .none kV14 dc14 pm14 an14 cd14 ct14), sl14⟩) (c14 : PySem.W.codeIn K cd14 "is_row" = true) (k14 : PySem.W.keepIn K (.ref f14) = true)
    (a15 : PySem.W.nsIn K mainGlobals "rises" = some (some (.ref f15))) (l15 : K.lookup f15 = some ⟨oc15, od15, .func (PySem.W.fnOf "rises" "rises" (defArgs s_rises) (defBody s_rises) (defScope s_rises) .none kV15 dc15 pm15 an15 cd15 ct15), sl15⟩) (c15 : PySem.W.codeIn K cd15 "rises" = true) (k15 : PySem.W.keepIn K (.ref f15) = true)
    (a16 : PySem.W.nsIn K mainGlobals "is_pair" = some (some (.ref f16))) (l16 : K.lookup f16 = some ⟨oc16, od16, .func (PySem.W.fnOf "is_pair" "is_pair" (defArgs s_is_pair) (defBody s_is_pair) (defScope s_is_pair) .none kV16 dc16 pm16 an16 cd16 ct16), sl16⟩) (c16 : PySem.W.codeIn K cd16 "is_pair" = true) (k16 : PySem.W.keepIn K (.ref f16) = true)
    (a17 : PySem.W.nsIn K mainGlobals "go_together" = some (some (.ref f17))) (l17 : K.lookup f17 = some ⟨oc17, od17, .func (PySem.W.fnOf "go_together" "go_together" (defArgs s_go_together) (defBody s_go_together) (defScope s_go_together) .none kV17 dc17 pm17 an17 cd17 ct17), sl17⟩) (c17 : PySem.W.codeIn K cd17 "go_together" = true) (k17 : PySem.W.keepIn K (.ref f17) = true)
    (a18 : PySem.W.nsIn K mainGlobals "is_folding" = some (some (.ref f18))) (l18 : K.lookup f18 = some ⟨oc18, od18, .func (PySem.W.fnOf "is_folding" "is_folding" (defArgs s_is_folding) (defBody s_is_folding) (defScope s_is_folding) .none kV18 dc18 pm18 an18 cd18 ct18), sl18⟩) (c18 : PySem.W.codeIn K cd18 "is_folding" = true) (k18 : PySem.W.keepIn K (.ref f18) = true)
    (a19 : PySem.W.nsIn K mainGlobals "steps_from" = some (some (.ref f19))) (l19 : K.lookup f19 = some ⟨oc19, od19, .func (PySem.W.fnOf "steps_from" "steps_from" (defArgs s_steps_from) (defBody s_steps_from) (defScope s_steps_from) .none kV19 dc19 pm19 an19 cd19 ct19), sl19⟩) (c19 : PySem.W.codeIn K cd19 "steps_from" = true) (k19 : PySem.W.keepIn K (.ref f19) = true)
    (a20 : PySem.W.nsIn K mainGlobals "stack_worth" = some (some (.ref f20))) (l20 : K.lookup f20 = some ⟨oc20, od20, .func (PySem.W.fnOf "stack_worth" "stack_worth" (defArgs s_stack_worth) (defBody s_stack_worth) (defScope s_stack_worth) .none kV20 dc20 pm20 an20 cd20 ct20), sl20⟩) (c20 : PySem.W.codeIn K cd20 "stack_worth" = true) (k20 : PySem.W.keepIn K (.ref f20) = true)
    (a21 : PySem.W.nsIn K mainGlobals "straight_within" = some (some (.ref f21))) (l21 : K.lookup f21 = some ⟨oc21, od21, .func (PySem.W.fnOf "straight_within" "straight_within" (defArgs s_straight_within) (defBody s_straight_within) (defScope s_straight_within) .none kV21 dc21 pm21 an21 cd21 ct21), sl21⟩) (c21 : PySem.W.codeIn K cd21 "straight_within" = true) (k21 : PySem.W.keepIn K (.ref f21) = true)
    (a22 : PySem.W.nsIn K mainGlobals "loop_worths" = some (some (.ref f22))) (l22 : K.lookup f22 = some ⟨oc22, od22, .func (PySem.W.fnOf "loop_worths" "loop_worths" (defArgs s_loop_worths) (defBody s_loop_worths) (defScope s_loop_worths) .none kV22 dc22 pm22 an22 cd22 ct22), sl22⟩) (c22 : PySem.W.codeIn K cd22 "loop_worths" = true) (k22 : PySem.W.keepIn K (.ref f22) = true)
    (a23 : PySem.W.nsIn K mainGlobals "kind_of" = some (some (.ref f23))) (l23 : K.lookup f23 = some ⟨oc23, od23, .func (PySem.W.fnOf "kind_of" "kind_of" (defArgs s_kind_of) (defBody s_kind_of) (defScope s_kind_of) .none kV23 dc23 pm23 an23 cd23 ct23), sl23⟩) (c23 : PySem.W.codeIn K cd23 "kind_of" = true) (k23 : PySem.W.keepIn K (.ref f23) = true)
    (a24 : PySem.W.nsIn K mainGlobals "loop_within" = some (some (.ref f24))) (l24 : K.lookup f24 = some ⟨oc24, od24, .func (PySem.W.fnOf "loop_within" "loop_within" (defArgs s_loop_within) (defBody s_loop_within) (defScope s_loop_within) .none kV24 dc24 pm24 an24 cd24 ct24), sl24⟩) (c24 : PySem.W.codeIn K cd24 "loop_within" = true) (k24 : PySem.W.keepIn K (.ref f24) = true)
    (a25 : PySem.W.nsIn K mainGlobals "loops_of" = some (some (.ref f25))) (l25 : K.lookup f25 = some ⟨oc25, od25, .func (PySem.W.fnOf "loops_of" "loops_of" (defArgs s_loops_of) (defBody s_loops_of) (defScope s_loops_of) .none kV25 dc25 pm25 an25 cd25 ct25), sl25⟩) (c25 : PySem.W.codeIn K cd25 "loops_of" = true) (k25 : PySem.W.keepIn K (.ref f25) = true)
    (a26 : PySem.W.nsIn K mainGlobals "worth_of" = some (some (.ref f26))) (l26 : K.lookup f26 = some ⟨oc26, od26, .func (PySem.W.fnOf "worth_of" "worth_of" (defArgs s_worth_of) (defBody s_worth_of) (defScope s_worth_of) .none kV26 dc26 pm26 an26 cd26 ct26), sl26⟩) (c26 : PySem.W.codeIn K cd26 "worth_of" = true) (k26 : PySem.W.keepIn K (.ref f26) = true)
    (a27 : PySem.W.nsIn K mainGlobals "way_back" = some (some (.ref f27))) (l27 : K.lookup f27 = some ⟨oc27, od27, .func (PySem.W.fnOf "way_back" "way_back" (defArgs s_way_back) (defBody s_way_back) (defScope s_way_back) .none kV27 dc27 pm27 an27 cd27 ct27), sl27⟩) (c27 : PySem.W.codeIn K cd27 "way_back" = true) (k27 : PySem.W.keepIn K (.ref f27) = true)
    (a28 : PySem.W.nsIn K mainGlobals "lowest_way" = some (some (.ref f28))) (l28 : K.lookup f28 = some ⟨oc28, od28, .func (PySem.W.fnOf "lowest_way" "lowest_way" (defArgs s_lowest_way) (defBody s_lowest_way) (defScope s_lowest_way) .none kV28 dc28 pm28 an28 cd28 ct28), sl28⟩) (c28 : PySem.W.codeIn K cd28 "lowest_way" = true) (k28 : PySem.W.keepIn K (.ref f28) = true)
    (a29 : PySem.W.nsIn K mainGlobals "ridge" = some (some (.ref f29))) (l29 : K.lookup f29 = some ⟨oc29, od29, .func (PySem.W.fnOf "ridge" "ridge" (defArgs s_ridge) (defBody s_ridge) (defScope s_ridge) .none kV29 dc29 pm29 an29 cd29 ct29), sl29⟩) (c29 : PySem.W.codeIn K cd29 "ridge" = true) (k29 : PySem.W.keepIn K (.ref f29) = true)
    (a30 : PySem.W.nsIn K mainGlobals "lower_steps" = some (some (.ref f30))) (l30 : K.lookup f30 = some ⟨oc30, od30, .func (PySem.W.fnOf "lower_steps" "lower_steps" (defArgs s_lower_steps) (defBody s_lower_steps) (defScope s_lower_steps) .none kV30 dc30 pm30 an30 cd30 ct30), sl30⟩) (c30 : PySem.W.codeIn K cd30 "lower_steps" = true) (k30 : PySem.W.keepIn K (.ref f30) = true)
    (a31 : PySem.W.nsIn K mainGlobals "wall" = some (some (.ref f31))) (l31 : K.lookup f31 = some ⟨oc31, od31, .func (PySem.W.fnOf "wall" "wall" (defArgs s_wall) (defBody s_wall) (defScope s_wall) .none kV31 dc31 pm31 an31 cd31 ct31), sl31⟩) (c31 : PySem.W.codeIn K cd31 "wall" = true) (k31 : PySem.W.keepIn K (.ref f31) = true)
    (a32 : PySem.W.nsIn K mainGlobals "_law_short" = some (some (.ref f32))) (l32 : K.lookup f32 = some ⟨oc32, od32, .func (PySem.W.fnOf "_law_short" "_law_short" (defArgs s_law_short) (defBody s_law_short) (defScope s_law_short) .none kV32 dc32 pm32 an32 cd32 ct32), sl32⟩) (c32 : PySem.W.codeIn K cd32 "_law_short" = true) (k32 : PySem.W.keepIn K (.ref f32) = true)
    (a33 : PySem.W.nsIn K mainGlobals "_law_reached" = some (some (.ref f33))) (l33 : K.lookup f33 = some ⟨oc33, od33, .func (PySem.W.fnOf "_law_reached" "_law_reached" (defArgs s_law_reached) (defBody s_law_reached) (defScope s_law_reached) .none kV33 dc33 pm33 an33 cd33 ct33), sl33⟩) (c33 : PySem.W.codeIn K cd33 "_law_reached" = true) (k33 : PySem.W.keepIn K (.ref f33) = true)
    (a34 : PySem.W.nsIn K mainGlobals "_law_lowest" = some (some (.ref f34))) (l34 : K.lookup f34 = some ⟨oc34, od34, .func (PySem.W.fnOf "_law_lowest" "_law_lowest" (defArgs s_law_lowest) (defBody s_law_lowest) (defScope s_law_lowest) .none kV34 dc34 pm34 an34 cd34 ct34), sl34⟩) (c34 : PySem.W.codeIn K cd34 "_law_lowest" = true) (k34 : PySem.W.keepIn K (.ref f34) = true)
    (a35 : PySem.W.nsIn K mainGlobals "_law_any" = some (some (.ref f35))) (l35 : K.lookup f35 = some ⟨oc35, od35, .func (PySem.W.fnOf "_law_any" "_law_any" (defArgs s_law_any) (defBody s_law_any) (defScope s_law_any) .none kV35 dc35 pm35 an35 cd35 ct35), sl35⟩) (c35 : PySem.W.codeIn K cd35 "_law_any" = true) (k35 : PySem.W.keepIn K (.ref f35) = true)
    (a36 : PySem.W.nsIn K mainGlobals "_law_is_folding" = some (some (.ref f36))) (l36 : K.lookup f36 = some ⟨oc36, od36, .func (PySem.W.fnOf "_law_is_folding" "_law_is_folding" (defArgs s_law_is_folding) (defBody s_law_is_folding) (defScope s_law_is_folding) .none kV36 dc36 pm36 an36 cd36 ct36), sl36⟩) (c36 : PySem.W.codeIn K cd36 "_law_is_folding" = true) (k36 : PySem.W.keepIn K (.ref f36) = true)
    (a37 : PySem.W.nsIn K mainGlobals "_law_shuts_in" = some (some (.ref f37))) (l37 : K.lookup f37 = some ⟨oc37, od37, .func (PySem.W.fnOf "_law_shuts_in" "_law_shuts_in" (defArgs s_law_shuts_in) (defBody s_law_shuts_in) (defScope s_law_shuts_in) .none kV37 dc37 pm37 an37 cd37 ct37), sl37⟩) (c37 : PySem.W.codeIn K cd37 "_law_shuts_in" = true) (k37 : PySem.W.keepIn K (.ref f37) = true)
    (a38 : PySem.W.nsIn K mainGlobals "_law_right" = some (some (.ref f38))) (l38 : K.lookup f38 = some ⟨oc38, od38, .func (PySem.W.fnOf "_law_right" "_law_right" (defArgs s_law_right) (defBody s_law_right) (defScope s_law_right) .none kV38 dc38 pm38 an38 cd38 ct38), sl38⟩) (c38 : PySem.W.codeIn K cd38 "_law_right" = true) (k38 : PySem.W.keepIn K (.ref f38) = true)
    (a39 : PySem.W.nsIn K mainGlobals "law" = some (some (.ref f39))) (l39 : K.lookup f39 = some ⟨oc39, od39, .func (PySem.W.fnOf "law" "law" (defArgs s_law) (defBody s_law) (defScope s_law) .none kV39 dc39 pm39 an39 cd39 ct39), sl39⟩) (c39 : PySem.W.codeIn K cd39 "law" = true) (k39 : PySem.W.keepIn K (.ref f39) = true)
    (z0 : PySem.W.nsIn K mainGlobals "list" = some none)
    (z1 : PySem.W.nsIn K mainGlobals "len" = some none)
    (z2 : PySem.W.nsIn K mainGlobals "abs" = some none)
    (z3 : PySem.W.nsIn K mainGlobals "int" = some none)
    (z4 : PySem.W.nsIn K mainGlobals "sum" = some none)
    (z5 : PySem.W.nsIn K mainGlobals "range" = some none)
    (z6 : PySem.W.nsIn K mainGlobals "sorted" = some none)
    (z7 : PySem.W.nsIn K mainGlobals "tuple" = some none)
    (z8 : PySem.W.nsIn K mainGlobals "dict" = some none)
    (z9 : PySem.W.nsIn K mainGlobals "isinstance" = some none)
    (z10 : PySem.W.nsIn K mainGlobals "all" = some none)
    (z11 : PySem.W.nsIn K mainGlobals "zip" = some none)
    (z12 : PySem.W.nsIn K mainGlobals "enumerate" = some none)
    (z13 : PySem.W.nsIn K mainGlobals "bool" = some none)
    (z14 : PySem.W.nsIn K mainGlobals "repr" = some none)
    (z15 : PySem.W.nsIn K mainGlobals "min" = some none)
    (z16 : PySem.W.nsIn K mainGlobals "max" = some none)
    (z17 : PySem.W.nsIn K mainGlobals "set" = some none)
    (aG : PySem.W.nsIn K mainGlobals "LOOPS" = some (some (.ref aL))) (lG : K.lookup aL = some ⟨.type "tuple", odG, .seq #[.str "stacked" tG0, .str "inner" tG1, .str "inner free" tG2, .str "forked" tG3, .str "branch" tG4, .str "fork free" tG5, .str "lone" tG6, .str "lone free" tG7, .str "open" tG8] nG, slG⟩) :
    ∃ fd : FuncData, (∀ (s : Shared) (v : Value), BindsTo s fd ⟨[v], []⟩ [("_law_script", v)]) ∧ ∀ base : Heap, K.In base → base.Ns mainGlobals mg → FnG l.prog w K mg base fa fd ["_law_script"] (spLaw K) := by
  have e := hfa.symm.trans (PySem.W.mg_of X G a39)
  cases e
  have F0 := fun_mk (st := s_law_pen) l0 c0 k0
  have F1 := fun_mk (st := s_law_take) l1 c1 k1
  have F2 := fun_mk (st := s_law_small) l2 c2 k2
  have F3 := fun_mk (st := s_law_book) l3 c3 k3
  have F4 := fun_mk (st := s_law_line) l4 c4 k4
  have F5 := fun_mk (st := s_law_may) l5 c5 k5
  have F6 := fun_mk (st := s_law_lists) l6 c6 k6
  have F7 := fun_mk (st := s_law_loop) l7 c7 k7
  have F8 := fun_mk (st := s_law_worth) l8 c8 k8
  have F9 := fun_mk (st := s_law_world) l9 c9 k9
  have F10 := fun_mk (st := s_pair_worth) l10 c10 k10
  have F11 := fun_mk (st := s_text_of) l11 c11 k11
  have F12 := fun_mk (st := s_may_pair) l12 c12 k12
  have F13 := fun_mk (st := s_is_whole) l13 c13 k13
  have F14 := fun_mk (st := s_is_row) l14 c14 k14
  have F15 := fun_mk (st := s_rises) l15 c15 k15
  have F16 := fun_mk (st := s_is_pair) l16 c16 k16
  have F17 := fun_mk (st := s_go_together) l17 c17 k17
  have F18 := fun_mk (st := s_is_folding) l18 c18 k18
  have F19 := fun_mk (st := s_steps_from) l19 c19 k19
  have F20 := fun_mk (st := s_stack_worth) l20 c20 k20
  have F21 := fun_mk (st := s_straight_within) l21 c21 k21
  have F22 := fun_mk (st := s_loop_worths) l22 c22 k22
  have F23 := fun_mk (st := s_kind_of) l23 c23 k23
  have F24 := fun_mk (st := s_loop_within) l24 c24 k24
  have F25 := fun_mk (st := s_loops_of) l25 c25 k25
  have F26 := fun_mk (st := s_worth_of) l26 c26 k26
  have F27 := fun_mk (st := s_way_back) l27 c27 k27
  have F28 := fun_mk (st := s_lowest_way) l28 c28 k28
  have F29 := fun_mk (st := s_ridge) l29 c29 k29
  have F30 := fun_mk (st := s_lower_steps) l30 c30 k30
  have F31 := fun_mk (st := s_wall) l31 c31 k31
  have F32 := fun_mk (st := s_law_short) l32 c32 k32
  have F33 := fun_mk (st := s_law_reached) l33 c33 k33
  have F34 := fun_mk (st := s_law_lowest) l34 c34 k34
  have F35 := fun_mk (st := s_law_any) l35 c35 k35
  have F36 := fun_mk (st := s_law_is_folding) l36 c36 k36
  have F37 := fun_mk (st := s_law_shuts_in) l37 c37 k37
  have F38 := fun_mk (st := s_law_right) l38 c38 k38
  have F39 := fun_mk (st := s_law) l39 c39 k39
  have mlist := PySem.W.mg_none_of X G z0
  have mlen := PySem.W.mg_none_of X G z1
  have mabs := PySem.W.mg_none_of X G z2
  have mint := PySem.W.mg_none_of X G z3
  have msum := PySem.W.mg_none_of X G z4
  have mrange := PySem.W.mg_none_of X G z5
  have msorted := PySem.W.mg_none_of X G z6
  have mtuple := PySem.W.mg_none_of X G z7
  have mdict := PySem.W.mg_none_of X G z8
  have misinstance := PySem.W.mg_none_of X G z9
  have mall := PySem.W.mg_none_of X G z10
  have mzip := PySem.W.mg_none_of X G z11
  have menumerate := PySem.W.mg_none_of X G z12
  have mbool := PySem.W.mg_none_of X G z13
  have mrepr := PySem.W.mg_none_of X G z14
  have mmin := PySem.W.mg_none_of X G z15
  have mmax := PySem.W.mg_none_of X G z16
  have mset := PySem.W.mg_none_of X G z17
  have gLOOPS := PySem.W.mg_of X G aG
  have hLO : ∀ H : Hp, SqT K H aL (LN.map V.str) := fun H => .inr ⟨_, _, _, lG, rfl, rfl, szL (show 9 ≤ 1000000 by decide), (.cons ⟨_, rfl⟩ (.cons ⟨_, rfl⟩ (.cons ⟨_, rfl⟩ (.cons ⟨_, rfl⟩ (.cons ⟨_, rfl⟩ (.cons ⟨_, rfl⟩ (.cons ⟨_, rfl⟩ (.cons ⟨_, rfl⟩ (.cons ⟨_, rfl⟩ .nil)))))))))⟩
  refine ⟨PySem.W.fnOf "law" "law" (defArgs s_law) (defBody s_law) (defScope s_law) .none kV39 dc39 pm39 an39 cd39 ct39, fun s v => .of_eq rfl, fun base _ _ => ?_⟩
  have c_law_pen : Ca l.prog w K mg base 1 "_law_pen" ["_law_script"] (spStart K) := ⟨f0, _, ok_start F0 mlist, PySem.W.mg_of X G a0, F0.kp, F0.binds fun _ _ _ _ _ _ us hl => match us, hl with | [_], _ => rfl⟩
  have c_law_take : Ca l.prog w K mg base 1 "_law_take" ["_law_pen_here", "_law_many"] spDraw := ⟨f1, _, ok_draw F1 mlen mabs, PySem.W.mg_of X G a1, F1.kp, F1.binds fun _ _ _ _ _ _ us hl => match us, hl with | [_, _], _ => rfl⟩
  have c_law_small : Ca l.prog w K mg base 2 "_law_small" ["_law_pen_here"] spWorth := ⟨f2, _, ok_worth F2 c_law_take, PySem.W.mg_of X G a2, F2.kp, F2.binds fun _ _ _ _ _ _ us hl => match us, hl with | [_], _ => rfl⟩
  have c_law_book : Ca l.prog w K mg base 3 "_law_book" ["_law_pen_here"] spRules := ⟨f3, _, ok_rules F3 c_law_take c_law_small mlen mint mtuple mlist mrange msorted, PySem.W.mg_of X G a3, F3.kp, F3.binds fun _ _ _ _ _ _ us hl => match us, hl with | [_], _ => rfl⟩
  have c_law_line : Ca l.prog w K mg base 3 "_law_line" ["_law_pen_here", "_law_book_here", "_law_least_size", "_law_upto"] spLine := ⟨f4, _, ok_line F4 c_law_take mrange mlen, PySem.W.mg_of X G a4, F4.kp, F4.binds fun _ _ _ _ _ _ us hl => match us, hl with | [_, _, _, _], _ => rfl⟩
  have c_law_may : Ca l.prog w K mg base 1 "_law_may" ["_law_book_here", "_law_line_here", "_law_i", "_law_j"] spMayR := ⟨f5, _, ok_mayR F5, PySem.W.mg_of X G a5, F5.kp, F5.binds fun _ _ _ _ _ _ us hl => match us, hl with | [_, _, _, _], _ => rfl⟩
  have c_law_lists : Ca l.prog w K mg base 15 "_law_lists" ["_law_book_here", "_law_line_here", "_law_i", "_law_j"] (spLists 13) := ⟨f6, _, ok_lists F6 (F6.binds fun _ _ _ _ _ _ us hl => match us, hl with | [_, _, _, _], _ => rfl) (PySem.W.mg_of X G a6) c_law_may mrange 13, PySem.W.mg_of X G a6, F6.kp, F6.binds fun _ _ _ _ _ _ us hl => match us, hl with | [_, _, _, _], _ => rfl⟩
  have c_law_loop : Ca l.prog w K mg base 1 "_law_loop" ["_law_book_here", "_law_line_here", "_law_mates", "_law_i", "_law_j"] spLoopR := ⟨f7, _, ok_loopR F7 mlen msum, PySem.W.mg_of X G a7, F7.kp, F7.binds fun _ _ _ _ _ _ us hl => match us, hl with | [_, _, _, _, _], _ => rfl⟩
  have c_law_worth : Ca l.prog w K mg base 2 "_law_worth" ["_law_book_here", "_law_line_here", "_law_one"] spValR := ⟨f8, _, ok_valR F8 c_law_loop mdict, PySem.W.mg_of X G a8, F8.kp, F8.binds fun _ _ _ _ _ _ us hl => match us, hl with | [_, _, _], _ => rfl⟩
  have c_law_world : Ca l.prog w K mg base 16 "_law_world" ["_law_book_here", "_law_line_here"] (spWorld l.prog w) := ⟨f9, _, ok_world F9 c_law_lists c_law_worth mlen mlist mdict mrange msorted, PySem.W.mg_of X G a9, F9.kp, F9.binds fun _ _ _ _ _ _ us hl => match us, hl with | [_, _], _ => rfl⟩
  have cpair_worth : Ca l.prog w K mg base 1 "pair_worth" ["rules", "both"] spPW := ⟨f10, _, ok_pw F10, PySem.W.mg_of X G a10, F10.kp, F10.binds fun _ _ _ _ _ _ us hl => match us, hl with | [_, _], _ => rfl⟩
  have ctext_of : Ca l.prog w K mg base 1 "text_of" ["string", "pair"] spTextOf := ⟨f11, _, ok_text_of F11, PySem.W.mg_of X G a11, F11.kp, F11.binds fun _ _ _ _ _ _ us hl => match us, hl with | [_, _], _ => rfl⟩
  have cmay_pair : Ca l.prog w K mg base 2 "may_pair" ["rules", "string", "i", "j"] spMP := ⟨f12, _, ok_mp F12 ctext_of cpair_worth mlen, PySem.W.mg_of X G a12, F12.kp, F12.binds fun _ _ _ _ _ _ us hl => match us, hl with | [_, _, _, _], _ => rfl⟩
  have cmay_pairA : Ca l.prog w K mg base 2 "may_pair" ["rules", "string", "i", "j"] spMPa := ⟨f12, _, ok_mpa F12 ctext_of cpair_worth mlen, PySem.W.mg_of X G a12, F12.kp, F12.binds fun _ _ _ _ _ _ us hl => match us, hl with | [_, _, _, _], _ => rfl⟩
  have cis_whole : Ca l.prog w K mg base 1 "is_whole" ["thing"] spWhI := ⟨f13, _, ok_whI F13 misinstance mint mbool, PySem.W.mg_of X G a13, F13.kp, F13.binds fun _ _ _ _ _ _ us hl => match us, hl with | [_], _ => rfl⟩
  have cis_row : Ca l.prog w K mg base 1 "is_row" ["thing", "size"] spRow2 := ⟨f14, _, ok_row2 F14 misinstance mtuple mlen, PySem.W.mg_of X G a14, F14.kp, F14.binds fun _ _ _ _ _ _ us hl => match us, hl with | [_, _], _ => rfl⟩
  have crises : Ca l.prog w K mg base 1 "rises" ["things"] spRi := ⟨f15, _, ok_ri F15 mall mzip, PySem.W.mg_of X G a15, F15.kp, F15.binds fun _ _ _ _ _ _ us hl => match us, hl with | [_], _ => rfl⟩
  have cis_pair : Ca l.prog w K mg base 3 "is_pair" ["rules", "string", "thing"] spIP := ⟨f16, _, ok_ip F16 cis_row cis_whole cmay_pair, PySem.W.mg_of X G a16, F16.kp, F16.binds fun _ _ _ _ _ _ us hl => match us, hl with | [_, _, _], _ => rfl⟩
  have cgo_together : Ca l.prog w K mg base 1 "go_together" ["pair", "later"] spGT := ⟨f17, _, ok_gt F17, PySem.W.mg_of X G a17, F17.kp, F17.binds fun _ _ _ _ _ _ us hl => match us, hl with | [_, _], _ => rfl⟩
  have cis_folding : Ca l.prog w K mg base 4 "is_folding" ["rules", "string", "thing"] spIF := ⟨f18, _, ok_if F18 cis_pair cgo_together crises misinstance mtuple mall menumerate, PySem.W.mg_of X G a18, F18.kp, F18.binds fun _ _ _ _ _ _ us hl => match us, hl with | [_, _, _], _ => rfl⟩
  have csteps_from : Ca l.prog w K mg base 5 "steps_from" ["rules", "string", "folding"] spSteps := ⟨f19, _, ok_steps F19 cmay_pairA cis_folding mlen mtuple mrange msorted, PySem.W.mg_of X G a19, F19.kp, F19.binds fun _ _ _ _ _ _ us hl => match us, hl with | [_, _, _], _ => rfl⟩
  have cstack_worth : Ca l.prog w K mg base 1 "stack_worth" ["rules", "outer", "within"] spSW := ⟨f20, _, ok_sw F20, PySem.W.mg_of X G a20, F20.kp, F20.binds fun _ _ _ _ _ _ us hl => match us, hl with | [_, _, _], _ => rfl⟩
  have cstraight_within : Ca l.prog w K mg base 1 "straight_within" ["folding", "pair"] spWithin := ⟨f21, _, ok_within F21, PySem.W.mg_of X G a21, F21.kp, F21.binds fun _ _ _ _ _ _ us hl => match us, hl with | [_, _], _ => rfl⟩
  have cloop_worths : Ca l.prog w K mg base 1 "loop_worths" ["rules"] spLW := ⟨f22, _, ok_lw F22 gLOOPS hLO mdict mzip, PySem.W.mg_of X G a22, F22.kp, F22.binds fun _ _ _ _ _ _ us hl => match us, hl with | [_], _ => rfl⟩
  have ckind_of : Ca l.prog w K mg base 1 "kind_of" ["free", "branches"] spKO := ⟨f23, _, ok_ko F23, PySem.W.mg_of X G a23, F23.kp, F23.binds fun _ _ _ _ _ _ us hl => match us, hl with | [_, _], _ => rfl⟩
  have cloop_within : Ca l.prog w K mg base 2 "loop_within" ["rules", "string", "pair", "within"] spLoopW := ⟨f24, _, ok_loopw F24 cstack_worth ctext_of cloop_worths ckind_of msum mlen, PySem.W.mg_of X G a24, F24.kp, F24.binds fun _ _ _ _ _ _ us hl => match us, hl with | [_, _, _, _], _ => rfl⟩
  have cloops_of : Ca l.prog w K mg base 3 "loops_of" ["rules", "string", "folding"] spLoops := ⟨f25, _, ok_loops F25 cloop_within cstraight_within, PySem.W.mg_of X G a25, F25.kp, F25.binds fun _ _ _ _ _ _ us hl => match us, hl with | [_, _, _], _ => rfl⟩
  have cworth_of : Ca l.prog w K mg base 4 "worth_of" ["rules", "string", "folding"] spWO := ⟨f26, _, ok_wo F26 cpair_worth ctext_of cloops_of cstraight_within cloop_worths msum mlen, PySem.W.mg_of X G a26, F26.kp, F26.binds fun _ _ _ _ _ _ us hl => match us, hl with | [_, _, _], _ => rfl⟩
  have cway_back : Ca l.prog w K mg base 1 "way_back" ["came", "folding"] (spBack l.prog w) := ⟨f27, _, ok_back F27, PySem.W.mg_of X G a27, F27.kp, F27.binds fun _ _ _ _ _ _ us hl => match us, hl with | [_, _], _ => rfl⟩
  have clowest_way : Ca l.prog w K mg base 6 "lowest_way" ["rules", "string", "folding", "other"] spLow := ⟨f28, _, ok_low F28 csteps_from cworth_of cway_back mmin, PySem.W.mg_of X G a28, F28.kp, F28.binds fun _ _ _ _ _ _ us hl => match us, hl with | [_, _, _, _], _ => rfl⟩
  have cridge : Ca l.prog w K mg base 7 "ridge" ["rules", "string", "folding", "other"] spRidge := ⟨f29, _, ok_ridge F29 cworth_of clowest_way mmax, PySem.W.mg_of X G a29, F29.kp, F29.binds fun _ _ _ _ _ _ us hl => match us, hl with | [_, _, _, _], _ => rfl⟩
  have clower_steps : Ca l.prog w K mg base 6 "lower_steps" ["rules", "string", "folding", "height"] spLower := ⟨f30, _, ok_lower F30 csteps_from cworth_of, PySem.W.mg_of X G a30, F30.kp, F30.binds fun _ _ _ _ _ _ us hl => match us, hl with | [_, _, _, _], _ => rfl⟩
  have cwall : Ca l.prog w K mg base 8 "wall" ["rules", "string", "folding", "other"] spWall := ⟨f31, _, ok_wall F31 cridge cworth_of clower_steps msorted, PySem.W.mg_of X G a31, F31.kp, F31.binds fun _ _ _ _ _ _ us hl => match us, hl with | [_, _, _, _], _ => rfl⟩
  have cwallK : CaK l.prog w K mg base 8 "wall" ["rules", "string", "folding", "other"] ["other", "folding", "string", "rules"] (permV [3, 2, 1, 0]) spWall := ⟨f31, _, permU [3, 2, 1, 0], ok_wall F31 cridge cworth_of clower_steps msorted, PySem.W.mg_of X G a31, F31.kp, kbn_of [3, 2, 1, 0] fun ws hw => match ws, hw with | [_, _, _, _], _ => rfl⟩
  have c_law_short : Ca l.prog w K mg base 2 "_law_short" ["_law_book_here", "_law_line_here", "_law_limit"] spShort := ⟨f32, _, ok_short F32 c_law_may mlen mrange, PySem.W.mg_of X G a32, F32.kp, F32.binds fun _ _ _ _ _ _ us hl => match us, hl with | [_, _, _], _ => rfl⟩
  have c_law_reached : Ca l.prog w K mg base 1 "_law_reached" ["_law_world_here", "_law_one", "_law_upto"] (spReached l.prog w) := ⟨f33, _, ok_reached F33, PySem.W.mg_of X G a33, F33.kp, F33.binds fun _ _ _ _ _ _ us hl => match us, hl with | [_, _, _], _ => rfl⟩
  have c_law_lowest : Ca l.prog w K mg base 2 "_law_lowest" ["_law_world_here", "_law_one", "_law_two"] (spLowest l.prog w) := ⟨f34, _, ok_lowest F34 c_law_reached msorted mset mmax, PySem.W.mg_of X G a34, F34.kp, F34.binds fun _ _ _ _ _ _ us hl => match us, hl with | [_, _, _], _ => rfl⟩
  have c_law_any : Ca l.prog w K mg base 2 "_law_any" ["_law_pen_here", "_law_world_here"] (spAny l.prog w) := ⟨f35, _, ok_any F35 c_law_take mlen msorted, PySem.W.mg_of X G a35, F35.kp, F35.binds fun _ _ _ _ _ _ us hl => match us, hl with | [_, _], _ => rfl⟩
  have c_law_is_folding : Ca l.prog w K mg base 1 "_law_is_folding" ["_law_world_here", "_law_some"] (spIsFo l.prog w) := ⟨f36, _, ok_isfo F36 misinstance mtuple mint mbool, PySem.W.mg_of X G a36, F36.kp, F36.binds fun _ _ _ _ _ _ us hl => match us, hl with | [_, _], _ => rfl⟩
  have c_law_shuts_in : Ca l.prog w K mg base 2 "_law_shuts_in" ["_law_world_here", "_law_one", "_law_two", "_law_upto", "_law_some"] (spShuts l.prog w) := ⟨f37, _, ok_shuts F37 c_law_is_folding misinstance mlist msorted mset, PySem.W.mg_of X G a37, F37.kp, F37.binds fun _ _ _ _ _ _ us hl => match us, hl with | [_, _, _, _, _], _ => rfl⟩
  have c_law_right : Ca l.prog w K mg base 9 "_law_right" ["_law_world_here", "_law_one", "_law_two"] (spRight l.prog w) := ⟨f38, _, ok_right F38 c_law_lowest cwall cwallK c_law_shuts_in, PySem.W.mg_of X G a38, F38.kp, F38.binds fun _ _ _ _ _ _ us hl => match us, hl with | [_, _, _], _ => rfl⟩
  exact ok_law F39 ⟨rfl, by decide, by decide⟩ c_law_pen c_law_book c_law_line c_law_short c_law_world c_law_any c_law_right mrange mrepr
end Pf
open PySem PySem.W PyProof.Rows
set_option maxHeartbeats 0 in
theorem PySem.Challenge.cw_pairfolds_k50_shut_in_below_a_ridge_holds : PySem.Challenge.rw_pairfolds_k50_shut_in_below_a_ridge.Holds := by
  w_on; o_law; k_head; (case hw => w_witness2)
  k_fill
  refine Pf.walk_g (l := PySem.Challenge.rw_pairfolds_k50_shut_in_below_a_ridge) (n := 63) (x := "_law_script") (sp := fun w => Pf.spLaw _) rfl (by decide) rfl (fun w h Y => PySem.W.kIn_of Y) ?F (fun _ _ a ns hl hS => ⟨a, ns, rfl, hS, hl, fun _ => rfl⟩)
  case F =>
    intro w mg fa h KX G hmg
    refine' Pf.all_mk KX G hmg ?a0 ?l0 ?c0 ?k0 ?a1 ?l1 ?c1 ?k1 ?a2 ?l2 ?c2 ?k2 ?a3 ?l3 ?c3 ?k3 ?a4 ?l4 ?c4 ?k4 ?a5 ?l5 ?c5 ?k5 ?a6 ?l6 ?c6 ?k6 ?a7 ?l7 ?c7 ?k7 ?a8 ?l8 ?c8 ?k8 ?a9 ?l9 ?c9 ?k9 ?a10 ?l10 ?c10 ?k10 ?a11 ?l11 ?c11 ?k11 ?a12 ?l12 ?c12 ?k12 ?a13 ?l13 ?c13 ?k13 ?a14 ?l14 ?c14 ?k14 ?a15 ?l15 ?c15 ?k15 ?a16 ?l16 ?c16 ?k16 ?a17 ?l17 ?c17 ?k17 ?a18 ?l18 ?c18 ?k18 ?a19 ?l19 ?c19 ?k19 ?a20 ?l20 ?c20 ?k20 ?a21 ?l21 ?c21 ?k21 ?a22 ?l22 ?c22 ?k22 ?a23 ?l23 ?c23 ?k23 ?a24 ?l24 ?c24 ?k24 ?a25 ?l25 ?c25 ?k25 ?a26 ?l26 ?c26 ?k26 ?a27 ?l27 ?c27 ?k27 ?a28 ?l28 ?c28 ?k28 ?a29 ?l29 ?c29 ?k29 ?a30 ?l30 ?c30 ?k30 ?a31 ?l31 ?c31 ?k31 ?a32 ?l32 ?c32 ?k32 ?a33 ?l33 ?c33 ?k33 ?a34 ?l34 ?c34 ?k34 ?a35 ?l35 ?c35 ?k35 ?a36 ?l36 ?c36 ?k36 ?a37 ?l37 ?c37 ?k37 ?a38 ?l38 ?c38 ?k38 ?a39 ?l39 ?c39 ?k39 ?z0 ?z1 ?z2 ?z3 ?z4 ?z5 ?z6 ?z7 ?z8 ?z9 ?z10 ?z11 ?z12 ?z13 ?z14 ?z15 ?z16 ?z17 ?aG ?lG
    (case a0 => k_is); (case l0 => k_is); (case c0 => k_is); (case k0 => k_is); (case a1 => k_is); (case l1 => k_is); (case c1 => k_is); (case k1 => k_is); (case a2 => k_is); (case l2 => k_is); (case c2 => k_is); (case k2 => k_is); (case a3 => k_is); (case l3 => k_is); (case c3 => k_is); (case k3 => k_is); (case a4 => k_is); (case l4 => k_is); (case c4 => k_is); (case k4 => k_is); (case a5 => k_is); (case l5 => k_is); (case c5 => k_is); (case k5 => k_is); (case a6 => k_is); (case l6 => k_is); (case c6 => k_is); (case k6 => k_is); (case a7 => k_is); (case l7 => k_is); (case c7 => k_is); (case k7 => k_is); (case a8 => k_is); (case l8 => k_is); (case c8 => k_is); (case k8 => k_is); (case a9 => k_is); (case l9 => k_is); (case c9 => k_is); (case k9 => k_is); (case a10 => k_is); (case l10 => k_is); (case c10 => k_is); (case k10 => k_is); (case a11 => k_is); (case l11 => k_is); (case c11 => k_is); (case k11 => k_is); (case a12 => k_is); (case l12 => k_is); (case c12 => k_is); (case k12 => k_is); (case a13 => k_is); (case l13 => k_is); (case c13 => k_is); (case k13 => k_is); (case a14 => k_is); (case l14 => k_is); (case c14 => k_is); (case k14 => k_is); (case a15 => k_is); (case l15 => k_is); (case c15 => k_is); (case k15 => k_is); (case a16 => k_is); (case l16 => k_is); (case c16 => k_is); (case k16 => k_is); (case a17 => k_is); (case l17 => k_is); (case c17 => k_is); (case k17 => k_is); (case a18 => k_is); (case l18 => k_is); (case c18 => k_is); (case k18 => k_is); (case a19 => k_is); (case l19 => k_is); (case c19 => k_is); (case k19 => k_is); (case a20 => k_is); (case l20 => k_is); (case c20 => k_is); (case k20 => k_is); (case a21 => k_is); (case l21 => k_is); (case c21 => k_is); (case k21 => k_is); (case a22 => k_is); (case l22 => k_is); (case c22 => k_is); (case k22 => k_is); (case a23 => k_is); (case l23 => k_is); (case c23 => k_is); (case k23 => k_is); (case a24 => k_is); (case l24 => k_is); (case c24 => k_is); (case k24 => k_is); (case a25 => k_is); (case l25 => k_is); (case c25 => k_is); (case k25 => k_is); (case a26 => k_is); (case l26 => k_is); (case c26 => k_is); (case k26 => k_is); (case a27 => k_is); (case l27 => k_is); (case c27 => k_is); (case k27 => k_is); (case a28 => k_is); (case l28 => k_is); (case c28 => k_is); (case k28 => k_is); (case a29 => k_is); (case l29 => k_is); (case c29 => k_is); (case k29 => k_is); (case a30 => k_is); (case l30 => k_is); (case c30 => k_is); (case k30 => k_is); (case a31 => k_is); (case l31 => k_is); (case c31 => k_is); (case k31 => k_is); (case a32 => k_is); (case l32 => k_is); (case c32 => k_is); (case k32 => k_is); (case a33 => k_is); (case l33 => k_is); (case c33 => k_is); (case k33 => k_is); (case a34 => k_is); (case l34 => k_is); (case c34 => k_is); (case k34 => k_is); (case a35 => k_is); (case l35 => k_is); (case c35 => k_is); (case k35 => k_is); (case a36 => k_is); (case l36 => k_is); (case c36 => k_is); (case k36 => k_is); (case a37 => k_is); (case l37 => k_is); (case c37 => k_is); (case k37 => k_is); (case a38 => k_is); (case l38 => k_is); (case c38 => k_is); (case k38 => k_is); (case a39 => k_is); (case l39 => k_is); (case c39 => k_is); (case k39 => k_is); (case z0 => k_is); (case z1 => k_is); (case z2 => k_is); (case z3 => k_is); (case z4 => k_is); (case z5 => k_is); (case z6 => k_is); (case z7 => k_is); (case z8 => k_is); (case z9 => k_is); (case z10 => k_is); (case z11 => k_is); (case z12 => k_is); (case z13 => k_is); (case z14 => k_is); (case z15 => k_is); (case z16 => k_is); (case z17 => k_is); (case aG => k_is); (case lG => k_is)
