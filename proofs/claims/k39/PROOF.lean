import PyProof.Rows.All
import Wide.All
import OpenK.AllK
import Wide.FinOn
import HandS.ForMost
import HandS.Defaults
import HandS.TupMul
import HandS.TupAny
import HandS.IsInst
import HandS.Conv
import KE.SortData
import KE.GoesMore
import HandS.Style
import HandS.Walk
import HandS.Zip
import HandS.TupLe
import HandS.DictComp
import KE.KDictSum
import HandS.ExcValue
import PySem.Challenge.RW_pairfolds_k39_kinds_of_near_foldings
import HandS.Sort
import PyProof.SumWalkG
import HandS.ListItems
import HandS.More
import HandS.Flt
import KE.KDictZip
import KE.DataCmp
import HandS.Text
import KE.KDictKeyed
import HandS.MakeKwOnly
import PyProof.TupleKey
import PyProof.DictMoreH
import PyProof.DictRoadsH
import HandS.DictSubView
import HandS.Deep
set_option Elab.async false
set_option linter.all false
set_option maxRecDepth 100000
set_option maxHeartbeats 4000000
namespace Pf
open PySem PySem.Spec PyProof.Rows L2

/-! ### a def that may be called: its promise, its name, its binding -/
structure Ca (P : Program) (w : World) (K : PySem.W.Frag) (mg : Str → Option Value) (base : Heap) (k : Nat) (x : Str) (ps : List Str) (sp : Sp) : Prop where
  ex : ∃ f fd, FnOk P w K mg base CX0 k f fd ps sp ∧ mg x = some (.ref f) ∧ PySem.W.keepIn K (.ref f) = true ∧ Binds K fd ps []
structure CaK (P : Program) (w : World) (K : PySem.W.Frag) (mg : Str → Option Value) (base : Heap) (k : Nat) (x : Str) (ps ks : List Str) (gV : List V → List V → List V) (sp : Sp) : Prop where
  ex : ∃ f fd g, FnOk P w K mg base CX0 k f fd ps sp ∧ mg x = some (.ref f) ∧ PySem.W.keepIn K (.ref f) = true ∧ KBn K fd ps 0 ks g gV
section
variable {X : Cx} {k : Nat} {x : Str} {ps ks : List Str} {sp : Sp} {p pos : Pos} {e : Expr} {es : List Expr} {kws : List Keyword} {t tk : TA} {gV : List V → List V → List V}
theorem pe_ca (c : Ca X.prog X.w X.K X.mg X.base k x ps sp) (hr : Room k X.A) (hg : Gl X x) (ha : PA X (e :: es) t) (hdb : (x == ("__debug__" : Str)) = false := by decide)
    (he : starEach (e :: es) X.env = (false, eval e X.env) :: starEach es X.env := by rfl) (hpl : (backTo pos (starEach es X.env)).any (·.1) = false := by rfl) :
    PE X (.Call (.Name x p) (e :: es) [] pos) (tCall sp [] E0 t) := by
  obtain ⟨f, fd, F, hm, hk, hb⟩ := c.ex
  exact pe_call F hr hg hm hk hb .nil pass0 ha hdb he hpl
theorem pe_ca0 (c : Ca X.prog X.w X.K X.mg X.base k x ps sp) (hr : Room k X.A) (hg : Gl X x) (hdb : (x == ("__debug__" : Str)) = false := by decide) :
    PE X (.Call (.Name x p) [] [] pos) (tCall sp [] E0 tNil) := by
  obtain ⟨f, fd, F, hm, hk, hb⟩ := c.ex
  exact pe_call0 F hr hg hm hk hb .nil pass0 hdb
/-- f(k = v, ..), by names alone -/
theorem pe_caK (c : CaK X.prog X.w X.K X.mg X.base k x ps ks gV sp) (hr : Room k X.A) (hg : Gl X x) (hkw : PK X kws tk)
    (hall : (backToKw pos (keywordEach kws X.env)).all (·.1.isSome) = true := by rfl) (hks : (backToKw pos (keywordEach kws X.env)).filterMap (·.1) = ks := by rfl) (hdb : (x == ("__debug__" : Str)) = false := by decide)
    (hpl : ((backTo pos (starEach [] X.env)).any (·.1) || (backToKw pos (keywordEach kws X.env)).any (·.1.isNone)) = false := by rfl) :
    PE X (.Call (.Name x p) [] kws pos) (tCallN 0 ks.length sp gV E0 tNil tk) := by
  obtain ⟨f, fd, g, F, hm, hk, hb⟩ := c.ex
  refine ⟨fun pins s σ H Q I h => ?_⟩
  refine wpAny_Call_Name_kw (ld_glob I hg hm ?_ hdb)
  refine PySem.W.callWith_KW0 (h₀ := X.base) I.ok.mod.kin hk hall ?_ hpl
  refine thn (hkw.run pos pins s σ H _ I h) fun ws s2 ⟨zs, H2, I2, rz, l1, l2, q2⟩ => ⟨I2.kIn, ?_⟩
  rw [hks]
  exact run_fnN (us := []) (vs := []) F hr hb pass0 I2 .nil rz rfl l2 q2
end

/-! ### rules that read a list or a tuple, the written part by its letter -/
theorem ixL (K : PySem.W.Frag) {X : Cx} (h : X.K = K := by rfl) : IxR X (rIxL K) := h ▸ ix_list
theorem ixT (K : PySem.W.Frag) {X : Cx} (h : X.K = K := by rfl) : IxR X (rIxT K) := h ▸ ix_tup
theorem ixA (K : PySem.W.Frag) {X : Cx} (h : X.K = K := by rfl) : IxR X (rIx K) := h ▸ ix_seq
def rLenA (K : PySem.W.Frag) : List V → Hp → VK → Prop := fun xs H Q => ∃ x n, xs = [x] ∧ LenV K x H n ∧ Q (.int n) H
theorem lenA (K : PySem.W.Frag) {X : Cx} (h : X.K = K := by rfl) : CallR X (.builtin "len") (rLenA K) := by
  subst h
  exact call_len
theorem repT (K : PySem.W.Frag) {X : Cx} (h : X.K = K := by rfl) : OpR X (binaryOp .Mult) (rRepT K) := h ▸ op_repT
theorem slL (K : PySem.W.Frag) {X : Cx} (h : X.K = K := by rfl) : SlR X (rSlL K) := h ▸ sl_list
theorem slT (K : PySem.W.Frag) {X : Cx} (h : X.K = K := by rfl) : SlR X (rSlT K) := h ▸ sl_tup
theorem eqD (K : PySem.W.Frag) {X : Cx} (hu : X.A.units + 64 < cLine) (h : X.K = K := by rfl) : OpR X (compareOp .Eq) (rEqD K) := h ▸ op_eqD hu
theorem neD (K : PySem.W.Frag) {X : Cx} (hu : X.A.units + 64 < cLine) (h : X.K = K := by rfl) : OpR X (compareOp .NotEq) (rNeD K) := h ▸ op_neD hu
theorem catT (K : PySem.W.Frag) {X : Cx} (h : X.K = K := by rfl) : OpR X (binaryOp .Add) (rCatT K) := h ▸ op_catT
theorem catA (K : PySem.W.Frag) {X : Cx} (h : X.K = K := by rfl) : OpR X (binaryOp .Add) (rCatA K) := h ▸ op_catA
theorem slA (K : PySem.W.Frag) {X : Cx} (h : X.K = K := by rfl) : SlR X (rSlA K) := h ▸ sl_tupA
theorem isi1 (K : PySem.W.Frag) {X : Cx} (h : X.K = K := by rfl) : CallR X (.builtin "isinstance") (rIsi K) := h ▸ call_isi
theorem pgT (K : PySem.W.Frag) {X : Cx} {es : List Expr} {k n : Nat} {t : TGs} {pos : Pos} (hc : X.calm = true) (h : PGs X es t) (hK : X.K = K := by rfl) (hn : (assignEach es X.env).length = n := by rfl) (hst : (assignEach es X.env).findIdx? (·.1) = none := by rfl) :
    PG X (.Tuple es k pos) (gTup K n t) := by
  subst hK
  exact pg_tup hc h hn hst
def rLen (K : PySem.W.Frag) : List V → Hp → VK → Prop := fun xs H Q => ∃ p ys, xs = [.ref p] ∧ (SqL K H p ys ∨ SqT K H p ys) ∧ Q (.int ys.length) H
theorem lenQ (K : PySem.W.Frag) {X : Cx} (h : X.K = K := by rfl) : CallR X (.builtin "len") (rLen K) := by
  subst h
  exact call_len_seq
def rListOf (K : PySem.W.Frag) : List V → Hp → VK → Prop := fun xs H Q => ∃ p ys, xs = [.ref p] ∧ (SqL K H p ys ∨ SqT K H p ys) ∧ ∀ l, H l = none → Q (.ref l) (upd H l (.lst ys))
theorem listOf (K : PySem.W.Frag) {X : Cx} (h : X.K = K := by rfl) : CallR X (.type "list") (rListOf K) := by
  subst h
  exact call_list_of
def rTupleOf (K : PySem.W.Frag) : List V → Hp → VK → Prop := fun xs H Q => ∃ p ys, xs = [.ref p] ∧ ((SqL K H p ys ∧ ∀ l, H l = none → Q (.ref l) (upd H l (.tup ys))) ∨ (SqT K H p ys ∧ Q (.ref p) H))
theorem tupleOf (K : PySem.W.Frag) {X : Cx} (h : X.K = K := by rfl) : CallR X (.type "tuple") (rTupleOf K) := by
  subst h
  exact call_tuple_of

/-! ### repr of a plain thing -/
def repV : V → Str
  | .non => "None"
  | .bl b => if b then "True" else "False"
  | .int i => toString i
  | _ => ""
def RepOk : V → Prop
  | .non => True
  | .bl _ => True
  | .int i => i.natAbs.log2 < 1920
  | _ => False
theorem call_repr {X : Cx} : CallR X (.builtin "repr") (fun xs H Q => ∃ v, xs = [v] ∧ RepOk v ∧ Q (.str (repV v)) H) := by
  intro pins s σ H xs us Q I r h
  obtain ⟨v, rfl, hz, q⟩ := h
  cases v with
  | non =>
    obtain ⟨u, rfl, rfl⟩ := vals1 r
    exact PySem.P.repr_of_none ⟨.str _, H, I.tok _, ⟨_, rfl⟩, q⟩
  | bl b =>
    obtain ⟨u, rfl, rfl⟩ := vals1 r
    exact PySem.P.repr_of_bool ⟨.str _, H, I.tok _, ⟨_, rfl⟩, by cases b <;> exact q⟩
  | int i =>
    obtain ⟨u, rfl, t, rfl⟩ := vals1 r
    exact PySem.P.repr_of_int hz ⟨.str _, H, I.tok _, ⟨_, rfl⟩, q⟩
  | str _ => exact hz.elim
  | byt _ => exact hz.elim
  | flt _ => exact hz.elim
  | ref _ => exact hz.elim
  | ty _ => exact hz.elim

/-! ### texts of small letters -/
def Small (x : Str) : Prop := ∀ c ∈ x.cps.toList, 97 ≤ c ∧ c ≤ 122
theorem Small.app {a b : Str} (ha : Small a) (hb : Small b) : Small (a ++ b) := fun c h => by
  rw [Str.cps_append, Array.toList_append, List.mem_append] at h
  rcases h with h | h
  · exact ha c h
  · exact hb c h
theorem Small.one {c : Nat} (h : 97 ≤ c ∧ c ≤ 122) : Small ⟨#[c]⟩ := fun d hd => by
  have e : d = c := by simpa using hd
  subst e
  exact h
theorem Small.at {x : Str} (h : Small x) {i c : Nat} (hi : x.cps[i]? = some c) : 97 ≤ c ∧ c ≤ 122 := by
  refine h c ?_
  have := Array.mem_of_getElem? hi
  exact Array.mem_toList_iff.mpr this
theorem Small.ok {x : Str} (h : Small x) : PyData.strOk x = true := by
  show x.cps.all (· < 0x110000) = true
  rw [Array.all_eq_true_iff_forall_mem]
  intro c hc
  have := h c (Array.mem_toList_iff.mpr hc)
  exact decide_eq_true (by omega)
/-! ### a chain of three comparisons -/
def tChain3 (r1 r2 r3 : R2) (ta tb tc td : TE) : TE := fun σ H Q => ta σ H fun x H1 => tb σ H1 fun y H2 => r1 x y H2 fun z H3 => ∃ k, z = .bl k ∧
  (if k = true then tc σ H3 fun u H4 => r2 y u H4 fun z2 H5 => ∃ k2, z2 = .bl k2 ∧ (if k2 = true then td σ H5 fun v H6 => r3 u v H6 Q else Q (.bl false) H5) else Q (.bl false) H3)
theorem pt_chain3 {X : Cx} {o1 o2 o3 : CmpOp} {r1 r2 r3 : R2} {a b c d : Expr} {ta tb tc td : TE} {pos : Pos} (h1 : OpR X (compareOp o1) r1) (h2 : OpR X (compareOp o2) r2) (h3 : OpR X (compareOp o3) r3)
    (ha : PE X a ta) (hb : PE X b tb) (hc : PE X c tc) (hd : PE X d td) (hm : lastMarks [o1, o2, o3] [b, c, d] = false := by with_unfolding_all rfl) :
    PT X (.Compare a [o1, o2, o3] [b, c, d] pos) (tTest (tChain3 r1 r2 r3 ta tb tc td)) := by
  refine ⟨fun pins s σ H Q I h => isTrue_chain (thn (ha.run pins s σ H _ I h) fun v s1 ⟨x, H1, I1, e1, q1⟩ => test_link ?_) hm⟩
  refine thn (hb.run pins s1 σ H1 _ I1 q1) fun u s2 ⟨y, H2, I2, e2, q2⟩ => ?_
  refine thn (h1 pins s2 σ H2 x y v u _ I2 e1 e2 q2) fun dv s3 ⟨z, H3, I3, e3, k, ek, q3⟩ => ?_
  subst ek
  cases e3
  refine wpAny_truthy_bool ?_
  cases k with
  | false =>
    obtain ⟨k', e', q'⟩ := q3
    cases e'
    exact ite_ff ⟨H3, I3, q'⟩
  | true =>
    refine ite_tt (test_link ?_)
    refine thn (hc.run pins s3 σ H3 _ I3 q3) fun u4 s4 ⟨y4, H4, I4, e4, q4⟩ => ?_
    refine thn (h2 pins s4 σ H4 y y4 u u4 _ I4 e2 e4 q4) fun dv5 s5 ⟨z5, H5, I5, e5, k5, ek5, q5⟩ => ?_
    subst ek5
    cases e5
    refine wpAny_truthy_bool ?_
    cases k5 with
    | false =>
      obtain ⟨k', e', q'⟩ := q5
      cases e'
      exact ite_ff ⟨H5, I5, q'⟩
    | true =>
      refine ite_tt (test_last ?_)
      refine thn (hd.run pins s5 σ H5 _ I5 q5) fun u6 s6 ⟨y6, H6, I6, e6, q6⟩ => ?_
      refine thn (h3 pins s6 σ H6 y4 y6 u4 u6 _ I6 e4 e6 q6) fun dv7 s7 ⟨z7, H7, I7, e7, k7, ek7, q7⟩ => ?_
      subst ek7
      cases e7
      exact wpAny_truthy_bool ⟨H7, I7, q7⟩
theorem inSeq (K : PySem.W.Frag) {X : Cx} (h : X.K = K := by rfl) : OpR X (compareOp .In) (rIn K false) := h ▸ op_in_seq
theorem notInSeq (K : PySem.W.Frag) {X : Cx} (h : X.K = K := by rfl) : OpR X (compareOp .NotIn) (rIn K true) := h ▸ op_notIn_seq
/-! ### join with nothing between -/
theorem join_str (ys : List Str) : Txt.join "" ys = Str.join "" ys := eq_of_beq (join_closes (ys := ys) rfl)
theorem sjoin_le {m : Nat} : ∀ {ys : List Str}, (∀ y ∈ ys, y.length ≤ m) → (Str.join "" ys).length ≤ ys.length * m
  | [], _ => Nat.zero_le _
  | [y], h => by
    have := h y (List.mem_cons_self ..)
    show y.length ≤ 1 * m
    omega
  | y :: z :: r, h => by
    have h1 := h y (List.mem_cons_self ..)
    have h2 := sjoin_le (ys := z :: r) fun x hx => h x (List.mem_cons_of_mem _ hx)
    show (y ++ "" ++ Str.join "" (z :: r)).length ≤ _
    rw [Str.length_append, Str.length_append, List.length_cons, Nat.succ_mul]
    show y.length + 0 + _ ≤ _
    omega
theorem small_nil : Small "" := by
  unfold Small
  decide +kernel
theorem sjoin_small : ∀ {ys : List Str}, (∀ y ∈ ys, Small y) → Small (Str.join "" ys)
  | [], _ => small_nil
  | [y], h => h y (List.mem_cons_self ..)
  | y :: z :: r, h => ((h y (List.mem_cons_self ..)).app small_nil).app (sjoin_small (ys := z :: r) fun x hx => h x (List.mem_cons_of_mem _ hx))
theorem join_le {m : Nat} {ys : List Str} (h : ∀ y ∈ ys, y.length ≤ m) : (Txt.join "" ys).length ≤ ys.length * m := by
  rw [join_str]
  exact sjoin_le h
theorem join_small {ys : List Str} (h : ∀ y ∈ ys, Small y) : Small (Txt.join "" ys) := by
  rw [join_str]
  exact sjoin_small h

/-! ### a walk over a text's signs -/
theorem for_str {x : Str} {g : TG} {tb : TS} {D : Ends} {σ : L2.St} {H : Hp} (Pv : Nat → L2.St → Hp → Prop) (h0 : Pv 0 σ H)
    (hs : ∀ i c σ H, x.cps[i]? = some c → Pv i σ H → g (.str ⟨#[c]⟩) σ H fun σ2 H2 => tb { D with nx := Pv (i + 1), ct := Pv (i + 1), bk := D.nx } σ2 H2) (hd : ∀ σ H, Pv x.cps.size σ H → D.nx σ H) :
    ∃ W : Nat → Nat → L2.St → Hp → Prop, (∃ m, W 0 m σ H) ∧ ∀ i m σ H, W i m σ H →
      ((Its x).stop i H ∧ D.nx σ H) ∨ ((Its x).go i H ∧ ∃ N : L2.St → Hp → Prop, (∀ σ' H', N σ' H' → ∃ m', m' < m ∧ W (i + 1) m' σ' H') ∧ ∀ y H', (Its x).yld i H y H' → g y σ H' fun σ2 H2 => tb { D with nx := N, ct := N, bk := D.nx } σ2 H2) := by
  refine ⟨fun i m σ H => m = x.cps.size - i ∧ i ≤ x.cps.size ∧ Pv i σ H, ⟨x.cps.size, by simp, Nat.zero_le _, h0⟩, ?_⟩
  rintro i m σ H ⟨rfl, hi, p⟩
  by_cases hlt : i < x.cps.size
  · refine .inr ⟨hlt, Pv (i + 1), fun σ' H' p' => ⟨x.cps.size - (i + 1), by omega, rfl, hlt, p'⟩, fun y H' z => ?_⟩
    obtain ⟨e, c, hc, ev⟩ := z
    subst e ev
    exact hs i c σ _ hc p
  · have e : i = x.cps.size := by omega
    subst e
    exact .inl ⟨Nat.le_refl _, hd σ H p⟩
theorem lc_str {x : Str} {g : TG} {tt : TT} {te : TE} {vs : List Nat} {σ : L2.St} {H1 : Hp} {D : Addr} {Qd : Hp → Prop} (Pv : Nat → Hp → Prop) (h0 : Pv 0 (upd H1 D (.lst [])))
    (hs : ∀ i c H, x.cps[i]? = some c → Pv i H → g (.str ⟨#[c]⟩) (wipe σ vs) H fun σ2 H2 => wipe σ2 vs = wipe σ vs ∧ tt σ2 H2 fun b H3 =>
      if b = true then te σ2 H3 fun y H4 => ∃ acc, H4 D = some (.lst acc) ∧ acc.length < sizeLine ∧ Pv (i + 1) (upd H4 D (.lst (acc ++ [y]))) else Pv (i + 1) H3) (hd : ∀ H, Pv x.cps.size H → Qd H) :
    ∃ W : Nat → Nat → Hp → Prop, (∃ m, W 0 m (upd H1 D (.lst []))) ∧ ∀ i m H, W i m H →
      ((Its x).stop i H ∧ Qd H) ∨ ((Its x).go i H ∧ ∃ Nx : Hp → Prop, (∀ H', Nx H' → ∃ m', m' < m ∧ W (i + 1) m' H') ∧ ∀ y H', (Its x).yld i H y H' → g y (wipe σ vs) H' fun σ2 H2 => wipe σ2 vs = wipe σ vs ∧ tt σ2 H2 fun b H3 =>
        if b = true then te σ2 H3 fun y H4 => ∃ acc, H4 D = some (.lst acc) ∧ acc.length < sizeLine ∧ Nx (upd H4 D (.lst (acc ++ [y]))) else Nx H3) := by
  refine ⟨fun i m H => m = x.cps.size - i ∧ i ≤ x.cps.size ∧ Pv i H, ⟨x.cps.size, by simp, Nat.zero_le _, h0⟩, ?_⟩
  rintro i m H ⟨rfl, hi, p⟩
  by_cases hlt : i < x.cps.size
  · refine .inr ⟨hlt, Pv (i + 1), fun H' p' => ⟨x.cps.size - (i + 1), by omega, rfl, hlt, p'⟩, fun y H' z => ?_⟩
    obtain ⟨e, c, hc, ev⟩ := z
    subst e ev
    exact hs i c _ hc p
  · have e : i = x.cps.size := by omega
    subst e
    exact .inl ⟨Nat.le_refl _, hd H p⟩

/-! ### what stays in the heap, but the thing at p -/
def Kp (p : Addr) (H H' : Hp) : Prop := ∀ b o, b ≠ p → H b = some o → H' b = some o
theorem Kp.refl {p : Addr} {H : Hp} : Kp p H H := fun _ _ _ e => e
theorem Kp.trans {p : Addr} {H H1 H2 : Hp} (a : Kp p H H1) (b : Kp p H1 H2) : Kp p H H2 := fun c o n e => b c o n (a c o n e)
theorem Kp.new {p q : Addr} {H : Hp} {o : HO} (h : H q = none) : Kp p H (upd H q o) := fun b x _ e => by
  rw [upd_ne (ne_of_none e h)]
  exact e
theorem Kp.at {p : Addr} {H : Hp} {o : HO} : Kp p H (upd H p o) := fun b x n e => by
  rw [upd_ne n]
  exact e
/-- a change of what stood nowhere in H -/
theorem Kp.put {p q : Addr} {H H1 : Hp} {o : HO} (k : Kp p H H1) (h : H q = none) : Kp p H (upd H1 q o) := fun b x n e => by
  rw [upd_ne (ne_of_none e h)]
  exact k b x n e
theorem Kp.tup {p : Addr} {H H' : Hp} {ys : List V} {b : Addr} {xs : List V} (k : Kp p H H') (hp : H p = some (.lst ys)) (h : H b = some (.tup xs)) : H' b = some (.tup xs) :=
  k b _ (ne_of h hp (by intro z; cases z)) h
theorem Kp.some {p : Addr} {H H' : Hp} (k : Kp p H H') (hp : ∃ o, H' p = some o) {b : Addr} (h : H' b = none) : H b = none := by
  cases e : H b with
  | none => rfl
  | some o =>
    by_cases n : b = p
    · subst n
      obtain ⟨o', e'⟩ := hp
      rw [e'] at h
      cases h
    · rw [k b o n e] at h
      cases h

/-! ### arguments by names, in another order -/
def permV (js : List Nat) : List V → List V → List V := fun _ zs => js.map fun j => zs.getD j .non
def permU (js : List Nat) : List Value → List Value → List Value := fun _ ws => js.map fun j => ws.getD j .none
theorem vals_getD : ∀ {zs : List V} {ws : List Value} (j : Nat), Vals zs ws → RelV (zs.getD j .non) (ws.getD j .none)
  | _, _, _, .nil => rfl
  | _, _, 0, .cons r _ => r
  | _, _, j + 1, .cons _ t => vals_getD j t
theorem perm_rel {zs : List V} {ws : List Value} (r : Vals zs ws) : ∀ js : List Nat, Vals (js.map fun j => zs.getD j .non) (js.map fun j => ws.getD j .none)
  | [] => .nil
  | j :: js => .cons (vals_getD j r) (perm_rel r js)
theorem kbn_of {K : PySem.W.Frag} {fd : FuncData} {ps ks : List Str} (js : List Nat) (h : ∀ ws : List Value, ws.length = ks.length → bindArgs fd ⟨[], ks.zip ws⟩ = pure (ps.zip (js.map fun j => ws.getD j .none))) :
    KBn K fd ps 0 ks (permU js) (permV js) where
  to := fun s us ws _ hu hw => by
    obtain rfl := List.length_eq_zero_iff.mp hu
    exact .of_eq (h ws hw)
  rel := fun _ r => perm_rel r js
/-! ### what is added, and nothing changed -/
def Ext (H H' : Hp) : Prop := ∀ b o, H b = some o → H' b = some o
theorem Ext.refl {H : Hp} : Ext H H := fun _ _ e => e
theorem Ext.trans {H H1 H2 : Hp} (a : Ext H H1) (b : Ext H1 H2) : Ext H H2 := fun c o e => b c o (a c o e)
theorem Ext.new {q : Addr} {H : Hp} {o : HO} (h : H q = none) : Ext H (upd H q o) := fun b x e => by
  rw [upd_ne (ne_of_none e h)]
  exact e
theorem Ext.put {q : Addr} {H H1 : Hp} {o : HO} (k : Ext H H1) (h : H q = none) : Ext H (upd H1 q o) := fun b x e => by
  rw [upd_ne (ne_of_none e h)]
  exact k b x e
theorem Ext.none {H H' : Hp} (k : Ext H H') {q : Addr} (h : H' q = none) : H q = none := by
  cases e : H q with
  | none => rfl
  | some o =>
    rw [k q o e] at h
    cases h

theorem atI_get {α : Type} {xs : List α} {i : Int} (h0 : 0 ≤ i) (h1 : i < xs.length) : atI xs i = some (xs[i.toNat]'(by omega)) := by
  unfold atI ixN
  rw [if_pos h0, if_pos h1]
  exact List.getElem?_eq_getElem _
theorem atI_ints {ns : List Int} {i : Int} (h0 : 0 ≤ i) (h1 : i < ns.length) : ∃ z, z ∈ ns ∧ atI (ns.map V.int) i = some (.int z) := by
  have h2 : i < (ns.map V.int).length := by rw [List.length_map]; exact h1
  refine ⟨ns[i.toNat]'(by omega), List.getElem_mem _, ?_⟩
  rw [atI_get h0 h2, List.getElem_map]
theorem atI_mem {α : Type} {xs : List α} {i : Int} (h0 : 0 ≤ i) (h1 : i < xs.length) : ∃ v, v ∈ xs ∧ atI xs i = some v :=
  ⟨xs[i.toNat]'(by omega), List.getElem_mem _, atI_get h0 h1⟩
theorem len_pos {x : Str} (h : ¬ x = "") : 1 ≤ x.length := by
  obtain ⟨⟨l⟩⟩ := x
  cases l with
  | nil => exact absurd (by decide +kernel) h
  | cons a r =>
    show 1 ≤ (a :: r).length
    exact Nat.succ_pos _
theorem natAbs_lt_of {i : Int} {n : Nat} (h0 : -(n : Int) < i) (h1 : i < n) : i.natAbs < n := by omega
theorem log2_small {i : Int} (h : i.natAbs < 2 ^ 64) : i.natAbs.log2 < 1920 := by
  by_cases z : i.natAbs = 0
  · rw [z]
    decide
  · exact (Nat.log2_lt z).mpr (Nat.lt_of_lt_of_le h (Nat.pow_le_pow_right (by decide) (by decide)))
theorem szL {n : Nat} (h : n ≤ 1000000) : n ≤ sizeLine := by
  rw [sizeLine_eq]
  omega
theorem szLt {n : Nat} (h : n < 1000000) : n < sizeLine := by
  rw [sizeLine_eq]
  omega
end Pf


namespace Pf
open PySem PySem.Spec PyProof.Rows L2
/-! ### the law's own call: made by nobody, nothing being shown meanwhile -/
structure FnG (P : Program) (w : World) (K : PySem.W.Frag) (mg : Str → Option Value) (base : Heap) (f : Addr) (fd : FuncData) (ps : List Str) (sp : Sp) : Prop where
  run : ∀ (s : Shared) (H : Hp) (args : Args) (us : List Value) (vs : List V) (Q : VK) (E : XK), Env0 P w K mg base callerA [] s H → BindsTo s fd args (ps.zip us) → Vals vs us → sp vs H Q E →
    codeAny (model P w) callerA (.call (.ref f) args) (CR CX0 [] P w H s Q E) s
theorem FnG.of {P : Program} {w : World} {K : PySem.W.Frag} {mg : Str → Option Value} {base : Heap} {k : Nat} {f : Addr} {fd : FuncData} {x qual : Str} {st : Stmt} {N ps : List Str} {sp : Sp} (F : Fun K x qual st f fd) (S : FnScope N ps (defScope st))
    (room : Room (k + 1) callerA) (len : ∀ vs H Q E, sp vs H Q E → vs.length = ps.length)
    (body : ∀ (cdv : Value) (s : Shared) (H : Hp) (vs : List V) (Q : VK) (E : XK), Room k (callerA.deeper (envOfC qual (defScope st) s.heap.objs.size f cdv)) → (callerA.deeper (envOfC qual (defScope st) s.heap.objs.size f cdv)).guards = some [] → sp vs H Q E →
      ∃ t, PSs (cxOf CX0 P w K mg base N qual (defScope st) f cdv callerA [] s H E).nox (defBody st) t ∧ t { nx := fun _ H' => Q .non H', rt := Q } (start N vs) H) : FnG P w K mg base f fd ps sp := by
  obtain ⟨oc, od, kV, doc, pm, an, cdv, ct, osl, rfl, lk, hcd⟩ := F.ex
  refine ⟨fun s H args us vs Q E env0 bnd rel hsp => ?_⟩
  have inS : K.In s.heap := env0.mod.kin.keeps fun b o e => (env0.bs b o e).1
  have limS : s.heap.NoLimit := env0.mod.nolimit.keeps fun b o e => (env0.bs b o e).1
  have kinds : ∀ y ∈ ps.zip us, (defScope st).names.lookup y.1 = some .local ∨ ((defScope st).names.lookup y.1 = some .cell ∧ ((cellsFrom (s.heap.objs.size + 1) (defScope st).names []).lookup y.1).isSome = true) := by
    rintro ⟨n, v⟩ hy
    cases S.par n (List.of_mem_zip hy).1 with
    | inl q => exact .inl q
    | inr q => exact .inr ⟨q, PySem.W.cellsFrom_some _ _ _ (.inl q)⟩
  refine codeAny_call_function room.depth (inS _ _ lk) rfl S.co S.gen rfl (PySem.W.codeRec_of inS hcd) (bnd _ _ _ _ ?_)
  refine wpAny_newFunctionEnv_cells S.kind kinds fun env0' he s1 inC => ?_
  subst he
  refine ⟨limS.keeps inC.toInCall.keep, codeAny_func ?_⟩
  obtain ⟨t, ht, hq⟩ := body cdv s H vs Q E (room.deeper _) rfl hsp
  have I0 : Inv (cxOf CX0 P w K mg base N qual (defScope st) f cdv callerA [] s H E) [] (start N vs) H s1 := inv_start S room.hd env0 (len _ _ _ _ hsp) rel inC
  refine wpAny_mono (ht.nox.run [] s1 (start N vs) H _ I0 hq) (fun fl s' hs => ?_) fun _ _ z => z
  cases fl with
  | ret u =>
    obtain ⟨v, σ', H', J, rv, q⟩ := hs
    exact ⟨v, H', J.os, J.bare, J.base, J.hok, rv, q⟩
  | next =>
    obtain ⟨σ', H', J, q⟩ := hs
    exact ⟨.non, H', J.os, J.bare, J.base, J.hok, rfl, q⟩
  | brk => exact False.elim (by obtain ⟨_, _, _, q⟩ := hs; exact q)
  | cont => exact False.elim (by obtain ⟨_, _, _, q⟩ := hs; exact q)
/-- its end: from an abstract heap that holds the script or nothing -/
theorem FnG.ends {P : Program} {w : World} {K : PySem.W.Frag} {mg mb : Str → Option Value} {fa a : Addr} {fd : FuncData} {x : Str} {sp : Sp} {s1 : Shared} {vs : List Value} {ns : List Int}
    (inK : K.In s1.heap) (gl : s1.heap.Ns mainGlobals mg) (bl : s1.heap.Ns builtinsNs mb) (bb : ∀ x : Str, x ≠ "__name__" → mb x = bootBuiltins x) (lim : s1.heap.NoLimit) (gens : s1.gens = #[])
    (hscr : s1.heap.get? a = some { cls := .type "list", data := .seq vs.toArray }) (hin : IntsAre vs ns) (F : ∀ base : Heap, K.In base → base.Ns mainGlobals mg → FnG P w K mg base fa fd [x] sp) (bnd : ∀ (s : Shared) (u : Value), BindsTo s fd ⟨[u], []⟩ [(x, u)])
    {H : Hp} (only : Only H) (hsp : sp [.ref a] H (fun v _ => v = .bl true) fun _ _ _ => False) (hok : HOk P w H s1.heap) (hA : ∀ b, H b ≠ none → b = a) (hK : H a ≠ none → K.lookup a = none) :
    codeAny (model P w) callerA (.call (.ref fa) ⟨[.ref a], []⟩) (fun r s' => r = .ok (.ret (.bool true)) ∧ OldK s1.heap s'.heap ∧ s'.os = s1.os ∧ AllBare s'.gens) s1 := by
  have isA : ∀ {b : Addr} {u : HO}, H b = some u → b = a := fun {b u} q => hA b (by rw [q]; exact Option.some_ne_none _)
  have hid : ∀ {b : Addr} {o : Obj}, s1.heap.get? b = some o → H b = none → (hidT s1.heap H).get? b = some o := fun e n => hidT_get e n
  have dictN : ∀ {b : Addr} {o : Obj} {es : Array DictEntry} {ep : Nat}, s1.heap.get? b = some o → o.data = .dict es ep → H b = none := by
    intro b o es ep e d
    cases q : H b with
    | none => rfl
    | some u =>
      obtain rfl := isA q
      rw [hscr] at e
      cases e
      exact nomatch d
  have nsH : ∀ {b : Addr} {m : Str → Option Value}, s1.heap.Ns b m → (hidT s1.heap H).Ns b m := by
    rintro b m ⟨o, es, ep, e, d, r⟩
    exact ⟨o, es, ep, hid e (dictN e d), d, r⟩
  have inB : K.In (hidT s1.heap H) := by
    intro b o e
    refine hid (inK b o e) ?_
    cases q : H b with
    | none => rfl
    | some u =>
      obtain rfl := isA q
      rw [hK (by rw [q]; exact Option.some_ne_none _)] at e
      cases e
  have limB : (hidT s1.heap H).NoLimit := by
    obtain ⟨mc, h1, h2⟩ := lim
    exact ⟨mc, nsH h1, h2⟩
  have env0 : Env0 P w K mg (hidT s1.heap H) callerA [] s1 H :=
    ⟨rfl, ⟨inB, nsH gl, ⟨mb, nsH bl, bb⟩, limB⟩, fun b o e => of_hidT e, Nat.le_of_eq (hidT_size _ _), trivial, fun b hb => (nomatch (show b ∈ ([] : List Addr) from hb)), hok, .of_eq gens⟩
  refine codeAny_mono ((F _ inB (nsH gl)).run s1 H ⟨[.ref a], []⟩ [.ref a] [.ref a] _ _ env0 (bnd s1 (.ref a)) (.cons rfl .nil) hsp) fun r s' h => ?_
  match r, h with
  | .error _, h => exact False.elim h
  | .ok .next, h => exact False.elim h
  | .ok .brk, h => exact False.elim h
  | .ok .cont, h => exact False.elim h
  | .ok (.ret u), h =>
    obtain ⟨v, H', os, bare, un, hok', rel, q⟩ := h
    obtain rfl : v = .bl true := q
    obtain rfl : u = Value.bool true := rel
    refine ⟨rfl, OldK.of_keep fun b o e => ?_, os, bare⟩
    cases q : H b with
    | none => exact un.keep b o e q (fun z => (nomatch (show b ∈ ([] : List Addr) from z))) (by simp)
    | some u =>
      cases only b with
      | inl z => rw [q] at z; cases z
      | inr z =>
        obtain ⟨ob, xs, z⟩ := z
        have kept := (hok' b _ (un.frzs b ob _ z)).1
        have was := (hok b _ z).1
        rw [e] at was
        cases was
        exact kept
theorem walk_g {l : PySem.W.OpenLaw} {n : Nat} {q : Program} {loose : List Str} {XP : (Str → Option Value) → Heap → Prop} {YP : World → Heap → Prop} {d : DefRec} {K : Params → PySem.W.Frag} {sp : World → Sp} {x : Str}
    (hn : l.most = some n) (hn2 : n ≤ sizeLine) (hdf : d.params.defaults = []) (hY : ∀ (w : World) (h : Heap), YP w h → (K w.params).In h)
    (F : ∀ (w : World) (mg : Str → Option Value) (fa : Addr) (h : Heap), (K w.params).In h → h.Ns mainGlobals mg → mg d.name = some (.ref fa) →
      ∃ fd : FuncData, (∀ (s : Shared) (u : Value), BindsTo s fd ⟨[u], []⟩ [(x, u)]) ∧ ∀ base : Heap, (K w.params).In base → base.Ns mainGlobals mg → FnG l.prog w (K w.params) mg base fa fd [x] (sp w))
    (hsp : ∀ (w : World) (H : Hp) (a : Addr) (ns : List Int), ns.length ≤ n → SqL (K w.params) H a (ns.map V.int) → sp w [.ref a] H (fun v _ => v = .bl true) fun _ _ _ => False) :
    PySem.W.WalkO q loose XP YP l.row.toRowW d [] (fun f vs => PySem.call f vs) := by
  refine Att.attach_call hn hdf fun w s0 s1 mg mb fa o pm cd doc a vs ns G Y ho hd hcd hmg hobj hints hlen hg => ?_
  have inK := hY w _ Y
  obtain ⟨fd, bnd, hF⟩ := F w mg fa _ inK G.T.g hmg
  have szs : ns.length ≤ sizeLine := Nat.le_trans hlen hn2
  have vals := vals_ints hints
  cases hk : (K w.params).lookup a with
  | some ob =>
    have e := inK a ob hk
    rw [hobj] at e
    cases e
    have here : SqL (K w.params) (fun _ => none) a (ns.map V.int) := .inr ⟨_, vs.toArray, _, hk, rfl, rfl, rfl, by rw [List.size_toArray, hints.length]; exact szs, by simpa using vals⟩
    exact FnG.ends inK G.T.g G.T.b G.T.builtins G.T.nolimit hg hobj hints hF bnd (fun _ => .inl rfl) (hsp w _ a ns hlen here) (fun _ _ z => (nomatch z)) (fun b z => absurd rfl z) fun z => absurd rfl z
  | none =>
    have here : SqL (K w.params) (fun b => if b = a then some (.frz { cls := .type "list", data := .seq vs.toArray } (.lst (ns.map V.int))) else none) a (ns.map V.int) := .inl (.inr ⟨_, if_pos rfl⟩)
    refine FnG.ends inK G.T.g G.T.b G.T.builtins G.T.nolimit hg hobj hints hF bnd (fun b => ?_) (hsp w _ a ns hlen here) (fun b u z => ?_) (fun b z => ?_) fun _ => hk
    · exact if h : b = a then .inr ⟨_, _, if_pos h⟩ else .inl (if_neg h)
    · by_cases h : b = a
      · rw [if_pos h] at z
        cases z
        subst h
        exact ⟨hobj, by rw [List.length_map]; exact szs, vs, _, vals, hobj⟩
      · rw [if_neg h] at z
        cases z
    · by_cases h : b = a
      · exact h
      · exact absurd (if_neg h) z
/-! ### data that are small: how much they weigh, how deep they are -/
structure Sm (m k : Nat) (d : PyData) : Prop where
  lay : d.canLay0 = true
  sho : d.showable = true
  ish : d.intsShort 13 = true
  wt : d.weight ≤ m
  dep : d.depth ≤ k
theorem Sm.le {m k m' k' : Nat} {d : PyData} (h : Sm m k d) (hm : m ≤ m') (hk : k ≤ k') : Sm m' k' d := ⟨h.lay, h.sho, h.ish, Nat.le_trans h.wt hm, Nat.le_trans h.dep hk⟩
theorem Sm.non : Sm 0 0 .none := ⟨by simp [PyData.canLay0], by simp [PyData.showable], by simp [PyData.intsShort], by simp [PyData.weight], by simp [PyData.depth]⟩
theorem Sm.bl (b : Bool) : Sm 0 0 (.bool b) := ⟨by simp [PyData.canLay0], by simp [PyData.showable], by simp [PyData.intsShort], by simp [PyData.weight], by simp [PyData.depth]⟩
theorem Sm.int {i : Int} (h0 : -1000000000 < i) (h1 : i < 1000000000) : Sm 64 0 (.int i) := by
  have hb : i.natAbs < 2 ^ 64 := by omega
  have hl : i.natAbs.log2 < 64 := by
    by_cases z : i.natAbs = 0
    · rw [z]
      decide
    · exact (Nat.log2_lt z).mpr hb
  refine ⟨by simp [PyData.canLay0], ?_, ?_, ?_, by simp [PyData.depth]⟩
  · simp only [PyData.showable]
    exact decide_eq_true (by omega)
  · simp only [PyData.intsShort, PyData.shown]
    refine decide_eq_true ?_
    by_cases hn : i < 0
    · rw [len_text_neg hn]
      have := toString_length_le (v := 0 - i) (k := 9) (by omega) (by decide) (by omega)
      omega
    · have := toString_length_le (v := i) (k := 9) (by omega) (by decide) (by omega)
      omega
  · simp only [PyData.weight]
    split <;> omega
theorem Sm.str {x : Str} {n : Nat} (h : PyData.strOk x = true) (hn : x.length ≤ n) : Sm n 0 (.str x) :=
  ⟨by simpa only [PyData.canLay0] using h, by simp [PyData.showable], by simp [PyData.intsShort], by simp only [PyData.weight]; exact hn, by simp [PyData.depth]⟩
structure SmA (n m k : Nat) (ds : List PyData) : Prop where
  lay : PyData.canLayAll0 ds = true
  sho : PyData.showableAll ds = true
  ish : PyData.intsShortAll 13 ds = true
  wt : PyData.weightAll ds ≤ ds.length * (m + 1)
  dep : PyData.depthAll ds ≤ k
theorem SmA.of {m k : Nat} : ∀ {ds : List PyData}, (∀ d ∈ ds, Sm m k d) → SmA ds.length m k ds
  | [], _ => ⟨by simp [PyData.canLayAll0], by simp [PyData.showableAll], by simp [PyData.intsShortAll], by simp [PyData.weightAll], by simp [PyData.depthAll]⟩
  | d :: ds, h => by
    have h1 := h d (List.mem_cons_self ..)
    have h2 := SmA.of (ds := ds) fun x hx => h x (List.mem_cons_of_mem _ hx)
    refine ⟨by simp [PyData.canLayAll0, h1.lay, h2.lay], by simp [PyData.showableAll, h1.sho, h2.sho], by simp [PyData.intsShortAll, h1.ish, h2.ish], ?_, ?_⟩
    · have e1 := h1.wt
      have e2 := h2.wt
      simp only [PyData.weightAll, List.length_cons, Nat.succ_mul]
      omega
    · simp only [PyData.depthAll]
      exact Nat.max_le.mpr ⟨h1.dep, h2.dep⟩
theorem Sm.lst {n m k M : Nat} {ds : List PyData} (hn : ds.length ≤ n) (h : ∀ d ∈ ds, Sm m k d) (hM : n * (m + 1) ≤ M) : Sm M (k + 1) (.list ds) := by
  have a := SmA.of h
  have hw : ds.length * (m + 1) ≤ n * (m + 1) := Nat.mul_le_mul_right _ hn
  exact ⟨by simpa only [PyData.canLay0] using a.lay, by simpa only [PyData.showable] using a.sho, by simpa only [PyData.intsShort] using a.ish, by simp only [PyData.weight]; exact Nat.le_trans a.wt (Nat.le_trans hw hM), by simp only [PyData.depth]; exact Nat.succ_le_succ a.dep⟩
theorem Sm.tup {n m k M : Nat} {ds : List PyData} (hn : ds.length ≤ n) (h : ∀ d ∈ ds, Sm m k d) (hM : n * (m + 1) ≤ M) : Sm M (k + 1) (.tuple ds) := by
  have a := SmA.of h
  have hw : ds.length * (m + 1) ≤ n * (m + 1) := Nat.mul_le_mul_right _ hn
  exact ⟨by simpa only [PyData.canLay0] using a.lay, by simpa only [PyData.showable] using a.sho, by simpa only [PyData.intsShort] using a.ish, by simp only [PyData.weight]; exact Nat.le_trans a.wt (Nat.le_trans hw hM), by simp only [PyData.depth]; exact Nat.succ_le_succ a.dep⟩
theorem Sm.shaped {m k : Nat} {d : PyData} (h : Sm m k d) (hk : k ≤ 50) : SeqAt.shaped d = true := by
  show (d.canLay0 && decide (d.depth ≤ 64)) = true
  rw [h.lay, decide_eq_true (show d.depth ≤ 64 from Nat.le_trans h.dep (by omega))]
  rfl
theorem Sm.short {m k : Nat} {d : PyData} (h : Sm m k d) (hm : m ≤ 1000000) (hk : k ≤ 50) : d.shown.length ≤ sizeLine := by
  have e : PyData.layable0 d = true := by
    show (d.canLay0 && decide (d.depth ≤ 64) && decide (d.weight ≤ 2 ^ 20)) = true
    rw [h.lay, decide_eq_true (show d.depth ≤ 64 from Nat.le_trans h.dep (by omega)), decide_eq_true (show d.weight ≤ 2 ^ 20 from Nat.le_trans h.wt (by omega))]
    rfl
  have := shown_le13 e h.ish
  rw [sizeLine_eq]
  omega
/-! ### repr of data at any depth -/
def rShow (K : PySem.W.Frag) : List V → Hp → VK → Prop := fun xs H Q => ∃ v d m k, xs = [v] ∧ Dp K H v d ∧ Sm m k d ∧ m ≤ 1000000 ∧ k ≤ 50 ∧ Q (.str d.shown) H
theorem call_show (K : PySem.W.Frag) {X : Cx} (hg : X.A.guards = some []) (hu : X.A.units + 64 < cLine) (hK : X.K = K := by rfl) : CallR X (.builtin "repr") (rShow K) := by
  subst hK
  intro pins s σ H xs us Q I r h
  obtain ⟨v, d, m, k, rfl, hd, sh, hm, hk, q⟩ := h
  have hdep := sh.dep
  have hz := sh.short hm hk
  cases hd with
  | non =>
    obtain ⟨u, rfl, rfl⟩ := vals1 r
    exact PySem.P.repr_of_none ⟨.str _, H, I.tok _, ⟨_, rfl⟩, by simpa only [PyData.shown] using q⟩
  | bl b =>
    obtain ⟨u, rfl, rfl⟩ := vals1 r
    refine PySem.P.repr_of_bool ⟨.str _, H, I.tok _, ⟨_, rfl⟩, ?_⟩
    simp only [PyData.shown] at q
    cases b <;> exact q
  | int i =>
    obtain ⟨u, rfl, t, rfl⟩ := vals1 r
    have hi : i.natAbs.log2 < 1920 := by simpa [PyData.showable] using sh.sho
    exact PySem.P.repr_of_int hi ⟨.str _, H, I.tok _, ⟨_, rfl⟩, by simpa only [PyData.shown] using q⟩
  | str x =>
    obtain ⟨u, rfl, t, rfl⟩ := vals1 r
    simp only [PyData.shown] at q hz
    exact PySem.P.repr_of_str ⟨.str _, H, I.tok _, ⟨_, rfl⟩, q⟩ hz
  | @lst a ys ds hs hds =>
    obtain ⟨u, rfl, rfl⟩ := vals1 r
    obtain ⟨as, rd⟩ := Dp.reads I _ _ _ (Dp.lst hs hds) (show RelV (.ref a) (.ref a) from rfl)
    exact PySem.repr_of_reads' rd sh.sho (PyData.noDict_hsm (PyData.hasDict_of_canLay _ sh.lay)) hg (by omega) (fun _ _ e => e) (fun h' u tk keep => ⟨.str _, H, I.kept keep, ⟨_, rfl⟩, q⟩) hz
  | @tup a ys ds hs hds =>
    obtain ⟨u, rfl, rfl⟩ := vals1 r
    obtain ⟨as, rd⟩ := Dp.reads I _ _ _ (Dp.tup hs hds) (show RelV (.ref a) (.ref a) from rfl)
    exact PySem.repr_of_reads' rd sh.sho (PyData.noDict_hsm (PyData.hasDict_of_canLay _ sh.lay)) hg (by omega) (fun _ _ e => e) (fun h' u tk keep => ⟨.str _, H, I.kept keep, ⟨_, rfl⟩, q⟩) hz
/-! ### sorted of data -/
def rSortD (K : PySem.W.Frag) : List V → Hp → VK → Prop := fun vs H Q => ∃ (β : Type) (v : β → V) (d : β → PyData) (a : Addr) (bs : List β), vs = [.ref a] ∧ SqL K H a (bs.map v) ∧ (∀ b ∈ bs, Dp K H (v b) (d b) ∧ (d b).depth ≤ 50) ∧
  PySem.W.AllAlike (bs.map d) ∧ PySem.W.Sortable (bs.map d) ∧ ∀ p, H p = none → Q (.ref p) (upd H p (.lst ((bs.mergeSort (PySem.W.dataLe false d)).map v)))
section
variable {β : Type} {v : β → V} {d : β → PyData}
theorem each_vals : ∀ {bs : List β} {its : List Value}, Vals (bs.map v) its → PySem.W.EachIs (fun (u : Value) (b : β) => RelV (v b) u) its bs
  | [], _, .nil => .nil
  | _ :: _, _, .cons r t => .cons r (each_vals t)
theorem vals_each : ∀ {bs : List β} {its : List Value}, PySem.W.EachIs (fun (u : Value) (b : β) => RelV (v b) u) its bs → Vals (bs.map v) its
  | [], _, .nil => .nil
  | _ :: _, _, .cons r t => .cons r (vals_each t)
theorem each_reads {X : Cx} {pins : List (Addr × Obj)} {σ : L2.St} {H : Hp} {s : Shared} (I : Inv X pins σ H s) : ∀ {bs : List β} {its : List Value}, Vals (bs.map v) its → (∀ b ∈ bs, Dp X.K H (v b) (d b)) → PySem.W.EachIs (fun (u : Value) (b : β) => ∃ as, Reads s.heap u (d b) as) its bs
  | [], _, .nil, _ => .nil
  | b :: _, _, .cons r t, h => .cons (Dp.reads I _ _ _ (h b (List.mem_cons_self ..)) r) (each_reads I t fun x hx => h x (List.mem_cons_of_mem _ hx))
end
theorem cr_sortD (K : PySem.W.Frag) {X : Cx} (hu : X.A.units + 64 < cLine) (hK : X.K = K := by rfl) : CallR X (.builtin "sorted") (rSortD K) := by
  subst hK
  intro pins s σ H vs us Q I r h
  obtain ⟨β, v, d, a, bs, rfl, hs, hd, al, so, q⟩ := h
  obtain ⟨u, rfl, rfl⟩ := vals1 r
  obtain ⟨its, rv, hl, hz⟩ := I.list hs
  rw [List.length_map] at hz
  refine PySem.W.sorted_data (enc := d) (R := fun (u : Value) (b : β) => RelV (v b) u) hl.isList (each_vals rv) (each_reads I rv fun b hb => (hd b hb).1) al so hz (fun b hb => ?_) fun out hlen he => ?_
  · have := (hd b hb).2
    omega
  · obtain ⟨ep, he'⟩ := PyProof.Rows.sortedAll_at s.heap its out.toArray
    have hlen2 : ((bs.mergeSort (PySem.W.dataLe false d)).map v).length ≤ sizeLine := by
      rw [List.length_map, List.length_mergeSort]
      exact hz
    exact ⟨.ref _, upd H (s.heap.objs.size + 1) (.lst ((bs.mergeSort (PySem.W.dataLe false d)).map v)), I.laid (t' := s.toks) (fun _ _ => PyProof.Rows.sortedAll_old) (Nat.le_succ _) ⟨hlen2, out, ep, vals_each he, by simpa using he'⟩, rfl, q _ (I.hok.fresh (Nat.le_succ _))⟩
end Pf


namespace Pf
open PySem PySem.Spec PyProof.Rows L2
/-! ### tuples stay -/
structure TupK (H H' : Hp) : Prop where
  tup : ∀ b xs, H b = some (.tup xs) → H' b = some (.tup xs)
  frz : ∀ b o u, H b = some (.frz o u) → H' b = some (.frz o u)
instance {H H' : Hp} : CoeFun (TupK H H') (fun _ => ∀ b xs, H b = some (.tup xs) → H' b = some (.tup xs)) := ⟨TupK.tup⟩
theorem TupK.refl {H : Hp} : TupK H H := ⟨fun _ _ e => e, fun _ _ _ e => e⟩
theorem TupK.trans {H H1 H2 : Hp} (a : TupK H H1) (b : TupK H1 H2) : TupK H H2 := ⟨fun c xs e => b.tup c xs (a.tup c xs e), fun c o u e => b.frz c o u (a.frz c o u e)⟩
theorem TupK.ext {H H' : Hp} (k : Ext H H') : TupK H H' := ⟨fun b _ e => k b _ e, fun b _ _ e => k b _ e⟩
theorem TupK.new {q : Addr} {H : Hp} {o : HO} (h : H q = none) : TupK H (upd H q o) := TupK.ext (Ext.new h)
theorem TupK.lst {q : Addr} {H : Hp} {o : HO} {ys : List V} (h : H q = some (.lst ys)) : TupK H (upd H q o) := by
  refine ⟨fun b xs e => ?_, fun b o u e => ?_⟩
  · rw [upd_ne (ne_of e h (by intro z; cases z))]
    exact e
  · rw [upd_ne (ne_of e h (by intro z; cases z))]
    exact e
theorem paired_imp {α β : Type} {R S : α → β → Prop} (h : ∀ a b, R a b → S a b) : ∀ {xs : List α} {ys : List β}, Paired R xs ys → Paired S xs ys
  | _, _, .nil => .nil
  | _, _, .cons r t => .cons (h _ _ r) (paired_imp h t)
theorem paired_get {α β : Type} {R : α → β → Prop} : ∀ {xs : List α} {ys : List β} {i : Nat} {x : α}, Paired R xs ys → xs[i]? = some x → ∃ y, ys[i]? = some y ∧ R x y
  | _, _, _, _, .nil, e => by simp at e
  | _, _, 0, _, .cons r _, e => by
    simp at e
    subst e
    exact ⟨_, rfl, r⟩
  | _, _, i + 1, x, .cons _ t, e => by
    obtain ⟨y, h1, h2⟩ := paired_get (i := i) (x := x) t (by simpa using e)
    exact ⟨y, by simpa using h1, h2⟩
theorem paired_len {α β : Type} {R : α → β → Prop} : ∀ {xs : List α} {ys : List β}, Paired R xs ys → xs.length = ys.length
  | _, _, .nil => rfl
  | _, _, .cons _ t => by rw [List.length_cons, List.length_cons, paired_len t]
theorem paired_app {α β : Type} {R : α → β → Prop} : ∀ {xs xs' : List α} {ys ys' : List β}, Paired R xs ys → Paired R xs' ys' → Paired R (xs ++ xs') (ys ++ ys')
  | _, _, _, _, .nil, s => s
  | _, _, _, _, .cons r t, s => .cons r (paired_app t s)
/-! ### things as they lie in the heap -/
def PairAt (H : Hp) (v : V) (x : Str × Int) : Prop := ∃ a, v = .ref a ∧ H a = some (.tup [.str x.1, .int x.2])
def StackAt (H : Hp) (v : V) (x : Str × Str × Int) : Prop := ∃ a, v = .ref a ∧ H a = some (.tup [.str x.1, .str x.2.1, .int x.2.2])
def TwoAt (H : Hp) (v : V) (x : Int × Int) : Prop := ∃ a, v = .ref a ∧ H a = some (.tup [.int x.1, .int x.2])
def TupOf {α : Type} (R : Hp → V → α → Prop) (H : Hp) (v : V) (xs : List α) : Prop := ∃ a vs, v = .ref a ∧ H a = some (.tup vs) ∧ Paired (R H) vs xs
def Mono {α : Type} (R : Hp → V → α → Prop) : Prop := ∀ H H' v x, TupK H H' → R H v x → R H' v x
theorem PairAt.mono : Mono PairAt := fun H H' v x k ⟨a, e, h⟩ => ⟨a, e, k _ _ h⟩
theorem StackAt.mono : Mono StackAt := fun H H' v x k ⟨a, e, h⟩ => ⟨a, e, k _ _ h⟩
theorem TwoAt.mono : Mono TwoAt := fun H H' v x k ⟨a, e, h⟩ => ⟨a, e, k _ _ h⟩
theorem TupOf.mono {α : Type} {R : Hp → V → α → Prop} (m : Mono R) : Mono (TupOf R) := fun H H' v x k ⟨a, vs, e, h, r⟩ => ⟨a, vs, e, k _ _ h, paired_imp (fun _ _ => m _ _ _ _ k) r⟩
/-- a tuple whose object is known to have no dict -/
def FrzOf {α : Type} (R : Hp → V → α → Prop) (H : Hp) (v : V) (xs : List α) : Prop := ∃ (a : Addr) (o : Obj) (vs : List V), v = .ref a ∧ H a = some (.frz o (.tup vs)) ∧ o.dict = none ∧ Paired (R H) vs xs
theorem FrzOf.mono {α : Type} {R : Hp → V → α → Prop} (m : Mono R) : Mono (FrzOf R) := fun H H' v x k ⟨a, o, vs, e, h, hd, r⟩ => ⟨a, o, vs, e, k.frz _ _ _ h, hd, paired_imp (fun _ _ => m _ _ _ _ k) r⟩
theorem SqT.fz {K : PySem.W.Frag} {H : Hp} {a : Addr} {o : Obj} {xs : List V} (h : H a = some (.frz o (.tup xs))) : SqT K H a xs := .inl (.inr ⟨o, h⟩)
def IntAt (_ : Hp) (v : V) (x : Int) : Prop := v = .int x
theorem IntAt.mono : Mono IntAt := fun _ _ _ _ _ e => e
theorem paired_ints {H : Hp} : ∀ ns : List Int, Paired (IntAt H) (ns.map V.int) ns
  | [] => .nil
  | _ :: r => .cons rfl (paired_ints r)
structure Rl where
  letters : Str
  prs : List (Str × Int)
  span : Int
  loops : List Int
  stk : List (Str × Str × Int)
def RulesAt (H : Hp) (v : V) (r : Rl) : Prop := ∃ a vp vl vs, v = .ref a ∧ H a = some (.tup [.str r.letters, vp, .int r.span, vl, vs]) ∧ FrzOf PairAt H vp r.prs ∧ TupOf IntAt H vl r.loops ∧ TupOf StackAt H vs r.stk
theorem RulesAt.mono : Mono RulesAt := fun H H' v x k ⟨a, vp, vl, vs, e, h, h1, h2, h3⟩ => ⟨a, vp, vl, vs, e, k _ _ h, FrzOf.mono PairAt.mono _ _ _ _ k h1, TupOf.mono IntAt.mono _ _ _ _ k h2, TupOf.mono StackAt.mono _ _ _ _ k h3⟩
/-- pairs as a tuple of either make -/
def PrsW (H : Hp) (v : V) (xs : List (Str × Int)) : Prop := ∃ (a : Addr) (vs : List V), v = .ref a ∧ ((∃ o, H a = some (.frz o (.tup vs))) ∨ H a = some (.tup vs)) ∧ Paired (PairAt H) vs xs
theorem PrsW.mono : Mono PrsW := fun H H' v x k ⟨a, vs, e, h, r⟩ => ⟨a, vs, e, h.elim (fun ⟨o, h⟩ => .inl ⟨o, k.frz _ _ _ h⟩) (fun h => .inr (k _ _ h)), paired_imp (fun _ _ => PairAt.mono _ _ _ _ k) r⟩
theorem SqT.w {K : PySem.W.Frag} {H : Hp} {a : Addr} {xs : List V} (h : (∃ o, H a = some (.frz o (.tup xs))) ∨ H a = some (.tup xs)) : SqT K H a xs := h.elim (fun ⟨_, h⟩ => SqT.fz h) (fun h => SqT.of h)
def RulesW (H : Hp) (v : V) (r : Rl) : Prop := ∃ a vp vl vs, v = .ref a ∧ H a = some (.tup [.str r.letters, vp, .int r.span, vl, vs]) ∧ PrsW H vp r.prs ∧ TupOf IntAt H vl r.loops ∧ TupOf StackAt H vs r.stk
theorem RulesW.mono : Mono RulesW := fun H H' v x k ⟨a, vp, vl, vs, e, h, h1, h2, h3⟩ => ⟨a, vp, vl, vs, e, k _ _ h, PrsW.mono _ _ _ _ k h1, TupOf.mono IntAt.mono _ _ _ _ k h2, TupOf.mono StackAt.mono _ _ _ _ k h3⟩
theorem RulesAt.w {H : Hp} {v : V} {r : Rl} (h : RulesAt H v r) : RulesW H v r := by
  obtain ⟨a, vp, vl, vs, e, h, ⟨ap, o, us, e1, h1, _, p⟩, h2, h3⟩ := h
  exact ⟨a, vp, vl, vs, e, h, ⟨ap, us, e1, .inl ⟨o, h1⟩, p⟩, h2, h3⟩
def Two (t : Str) : Prop := t.length = 2 ∧ Small t
structure RlOk (r : Rl) : Prop where
  let6 : r.letters.length ≤ 6
  let1 : 1 ≤ r.letters.length
  small : Small r.letters
  prs : r.prs.length ≤ 12
  pr : ∀ x ∈ r.prs, Two x.1 ∧ -99 ≤ x.2 ∧ x.2 ≤ 99
  sp0 : 0 ≤ r.span
  sp3 : r.span ≤ 3
  lo9 : r.loops.length = 9
  lo : ∀ x ∈ r.loops, -99 ≤ x ∧ x ≤ 99
  stk : r.stk.length ≤ 12
  st : ∀ x ∈ r.stk, Two x.1 ∧ Two x.2.1 ∧ -99 ≤ x.2.2 ∧ x.2.2 ≤ 99
  nd : (r.stk.map fun x => (x.1, x.2.1)).Nodup
  pn : (r.prs.map (·.1)).Nodup
/-! ### a dict by two texts -/
def encE (x : Str × Str × Int) : List Key × V := ([.inr x.1, .inr x.2.1], .int x.2.2)
def putE (es : List (Str × Str × Int)) (a b : Str) (i : Int) : List (Str × Str × Int) :=
  if (es.any fun x => decide (x.1 = a ∧ x.2.1 = b)) = true then es.map (fun x => if x.1 = a ∧ x.2.1 = b then (x.1, x.2.1, i) else x) else es ++ [(a, b, i)]
theorem encE_key (x : Str × Str × Int) (a b : Str) : ((encE x).1 = [Sum.inr a, Sum.inr b]) ↔ (x.1 = a ∧ x.2.1 = b) := by
  unfold encE
  constructor
  · intro h
    injection h with h1 h2
    injection h2 with h3 _
    exact ⟨Sum.inr.inj h1, Sum.inr.inj h3⟩
  · rintro ⟨h1, h2⟩
    rw [h1, h2]
theorem put_enc (es : List (Str × Str × Int)) (a b : Str) (i : Int) : putK (es.map encE) [Sum.inr a, Sum.inr b] (.int i) = (putE es a b i).map encE := by
  have hany : ((es.map encE).any fun kv => decide (kv.1 = [Sum.inr a, Sum.inr b])) = es.any fun x => decide (x.1 = a ∧ x.2.1 = b) := by
    rw [List.any_map]
    congr 1
    funext x
    exact decide_eq_decide.mpr (encE_key x a b)
  unfold putK putE
  rw [hany]
  by_cases h : (es.any fun x => decide (x.1 = a ∧ x.2.1 = b)) = true
  · rw [if_pos h, if_pos h, List.map_map, List.map_map]
    refine List.map_congr_left fun x _ => ?_
    show (if (encE x).1 = [Sum.inr a, Sum.inr b] then ((encE x).1, V.int i) else encE x) = encE (if x.1 = a ∧ x.2.1 = b then (x.1, x.2.1, i) else x)
    by_cases e : x.1 = a ∧ x.2.1 = b
    · rw [if_pos ((encE_key x a b).mpr e), if_pos e]
      rfl
    · rw [if_neg (fun z => e ((encE_key x a b).mp z)), if_neg e]
  · rw [if_neg h, if_neg h, List.map_append]
    rfl
theorem putE_keys (es : List (Str × Str × Int)) (a b : Str) (i : Int) (hn : (es.map fun x => (x.1, x.2.1)).Nodup) : ((putE es a b i).map fun x => (x.1, x.2.1)).Nodup := by
  unfold putE
  split
  · rw [List.map_map]
    have e : ((fun x : Str × Str × Int => (x.1, x.2.1)) ∘ fun x => if x.1 = a ∧ x.2.1 = b then (x.1, x.2.1, i) else x) = fun x => (x.1, x.2.1) := by
      funext x
      show (fun x : Str × Str × Int => (x.1, x.2.1)) (if x.1 = a ∧ x.2.1 = b then (x.1, x.2.1, i) else x) = _
      split <;> rfl
    rw [e]
    exact hn
  · rename_i h
    rw [List.map_append]
    refine List.nodup_append.mpr ⟨hn, by simp, fun x hx y hy e => ?_⟩
    obtain ⟨z, hz, rfl⟩ := List.mem_map.mp hx
    have hy' : y = (a, b) := by simpa using hy
    rw [hy'] at e
    injection e with e1 e2
    exact h (List.any_eq_true.mpr ⟨z, hz, decide_eq_true ⟨e1, e2⟩⟩)
theorem putE_len (es : List (Str × Str × Int)) (a b : Str) (i : Int) : (putE es a b i).length ≤ es.length + 1 := by
  unfold putE
  split
  · rw [List.length_map]
    omega
  · rw [List.length_append]
    exact Nat.le_refl _
theorem putE_all {Pd : Str × Str × Int → Prop} {es : List (Str × Str × Int)} {a b : Str} {i : Int} (h : ∀ x ∈ es, Pd x) (hn : Pd (a, b, i)) : ∀ x ∈ putE es a b i, Pd x := by
  intro x hx
  unfold putE at hx
  split at hx
  · obtain ⟨y, hy, rfl⟩ := List.mem_map.mp hx
    split
    · rename_i e
      rw [e.1, e.2]
      exact hn
    · exact h y hy
  · rcases List.mem_append.mp hx with hx | hx
    · exact h x hx
    · rw [List.mem_singleton.mp hx]
      exact hn
theorem val_enc {es : List (Str × Str × Int)} {a b : Str} {i : Int} (hn : (es.map fun x => (x.1, x.2.1)).Nodup) (h : (a, b, i) ∈ es) : valV (es.map encE) [Sum.inr a, Sum.inr b] = some (.int i) := by
  induction es with
  | nil => cases h
  | cons y r ih =>
    rw [List.map_cons]
    rw [List.map_cons, List.nodup_cons] at hn
    by_cases e : y.1 = a ∧ y.2.1 = b
    · rw [valV_pos ((encE_key y a b).mpr e)]
      rcases List.mem_cons.mp h with z | z
      · rw [← z]
        rfl
      · exact absurd (List.mem_map.mpr ⟨_, z, by rw [e.1, e.2]⟩) hn.1
    · rw [valV_neg (fun z => e ((encE_key y a b).mp z))]
      rcases List.mem_cons.mp h with z | z
      · rw [← z] at e
        exact absurd ⟨rfl, rfl⟩ e
      · exact ih hn.2 z
theorem map_erase {α β : Type} (f : α → β) : ∀ (xs : List α) (k : Nat), (xs.map f).eraseIdx k = (xs.eraseIdx k).map f
  | [], _ => rfl
  | _ :: _, 0 => rfl
  | x :: r, k + 1 => by
    show f x :: (r.map f).eraseIdx k = f x :: (r.eraseIdx k).map f
    rw [map_erase f r k]
theorem dpStrs {K : PySem.W.Frag} {H : Hp} : ∀ us : List Str, DpAll K H (us.map V.str) (us.map PyData.str)
  | [] => .nil
  | _ :: r => .cons (.str _) (dpStrs r)
theorem sm_strs {us : List Str} {n m : Nat} (hn : us.length ≤ n) (h : ∀ t ∈ us, Small t ∧ t.length ≤ m) (hM : n * (m + 1) ≤ 1000000) : Sm 1000000 1 (.list (us.map PyData.str)) := by
  refine Sm.lst (n := n) (m := m) (k := 0) (by rw [List.length_map]; exact hn) (fun d hd => ?_) hM
  obtain ⟨t, ht, rfl⟩ := List.mem_map.mp hd
  exact Sm.str (h t ht).1.ok (h t ht).2
theorem keys_zip {H : Hp} : ∀ {es : List (Str × Str × Int)} {bs : List Addr}, IsKeys H (es.map encE) bs → ∃ bes : List (Addr × (Str × Str × Int)), bes.map (·.1) = bs ∧ bes.map (·.2) = es ∧ ∀ x ∈ bes, H x.1 = some (.tup [.str x.2.1, .str x.2.2.1])
  | [], _, .nil => ⟨[], rfl, rfl, fun x h => by cases h⟩
  | e :: es, b :: bs, .cons r t => by
    obtain ⟨bes, h1, h2, h3⟩ := keys_zip (es := es) t
    refine ⟨(b, e) :: bes, by rw [List.map_cons, h1], by rw [List.map_cons, h2], fun x hx => ?_⟩
    rcases List.mem_cons.mp hx with rfl | hx
    · exact r
    · exact h3 x hx
theorem ixN_in {n : Nat} {i : Int} (h0 : 0 ≤ i) (h1 : i < n) : seqIndex? i n = some i.toNat := by
  refine (ixN_seq ?_).1
  unfold ixN
  rw [if_pos h0, if_pos h1]
end Pf


namespace Pf
open PySem PySem.Spec PyProof.Rows L2
/-! ### enumerate of a text -/
def ItES (x : Str) : It :=
  ⟨fun i _ => i < x.cps.size, fun i H v H' => ∃ T c, v = .ref T ∧ H T = none ∧ H' = upd H T (.tup [.int (i : Nat), .str ⟨#[c]⟩]) ∧ x.cps[i]? = some c, fun i _ => i = x.cps.size⟩
theorem turn_es {P : Program} {w : World} {K : PySem.W.Frag} {elts : List Expr} {kk : Nat} {tpos : Pos} (x : Str) (t : Tok) (e it : Addr) :
    Turn P w K (.Tuple elts kk tpos) (ItES x) [e, it] e (fun i h => (∃ old, IsEnum h e it ((i : Nat) : Int) old) ∧ h.IsStrIter it (strIterType x) x t i ∧ e ≠ it) where
  mem := by simp
  obj := fun i h st b hb => by
    obtain ⟨⟨old, he⟩, ⟨o, ho, hc, hd⟩, _⟩ := st
    have e' : b = e ∨ b = it := by simpa using hb
    cases e' with
    | inl z =>
      rw [z]
      exact ⟨_, he, fun v q => nomatch q⟩
    | inr z =>
      rw [z]
      exact ⟨o, ho, fun v q => by rw [hd] at q; cases q⟩
  keep := fun i h h' st k => by
    obtain ⟨⟨old, he⟩, ⟨o, ho, r⟩, hne⟩ := st
    exact ⟨⟨old, k e (by simp) _ he⟩, ⟨o, k it (by simp) o ho, r⟩, hne⟩
  item := by
    intro X hP hw hK hc i pins s σ H E I hf st hg
    subst hP hw hK
    obtain ⟨⟨old, he⟩, hit, hne⟩ := st
    have hel : e < s.heap.objs.size := Heap.lt_size he
    have hil : it < s.heap.objs.size := by
      obtain ⟨_, q, _⟩ := hit
      exact Heap.lt_size q
    have D := Draws.text (prog := X.prog) (w := X.w) (A := X.A.in1) (show X.A.in1.handled = none from I.ok.hd hc) it x t
    refine wpAny_pyNext_enum_itemD D he hit hg hne (by simpa using hne) fun u h' tk hu ho hit' hT hsz hk => ?_
    obtain ⟨c, t2, hcx, rfl⟩ := hu
    refine ⟨_, rfl, wpAny_letOwnedTupleGo_enum (s := { s with heap := h', toks := tk + 1 }) ho fun h'' he' sb => ?_⟩
    have hT2 := (sb.2 _ (Nat.ne_of_gt hel)).trans hT
    have new : ObjOk X.prog X.w (upd H s.heap.objs.size (.tup [.int (i : Nat), .str ⟨#[c]⟩])) h'' s.heap.objs.size (.tup [.int (i : Nat), .str ⟨#[c]⟩]) :=
      ⟨by show 2 ≤ sizeLine; decide, [.int i tk, .str ⟨#[c]⟩ t2], .cons ⟨_, rfl⟩ (.cons ⟨_, rfl⟩ .nil), ⟨_, hT2, rfl, _, rfl⟩⟩
    have I1 : Inv X pins σ (upd H s.heap.objs.size (.tup [.int (i : Nat), .str ⟨#[c]⟩])) { s with heap := h'', toks := tk + 1 } :=
      I.turnedNew (ch := [e, it]) (fun b ob hb q => (sb.2 b (fun z => hb (by simp [z]))).trans (hk b ob (fun z => hb (by simp [z])) (fun z => hb (by simp [z])) q)) hf (Nat.le_refl _) new
    obtain ⟨oi, hoi, ri⟩ := hit'
    refine ⟨.ref s.heap.objs.size, _, I1, rfl, ⟨_, c, rfl, I.hok.fresh (Nat.le_refl _), rfl, hcx⟩, ⟨⟨.str ⟨#[c]⟩ t2, ?_⟩, ⟨oi, (sb.2 it (Ne.symm hne)).trans hoi, ri⟩, hne⟩, fun b hb => ?_⟩
    · have e1 : ((i + 1 : Nat) : Int) = (i : Int) + 1 := by omega
      rw [e1]
      exact he'
    · have hb' : b < s.heap.objs.size := by
        have e' : b = e ∨ b = it := by simpa using hb
        cases e' with
        | inl z => rw [z]; exact hel
        | inr z => rw [z]; exact hil
      rw [upd_ne (Nat.ne_of_lt hb')]
      exact (hf b hb).1
  done := by
    intro X hP hw hK hc i pins s σ H E I hf st hg
    subst hP hw hK
    obtain ⟨⟨old, he⟩, hit, hne⟩ := st
    have hi : i = x.cps.size := hg
    subst hi
    obtain ⟨f0, f1, f2, f3, f4, f5⟩ := hf it (by simp)
    have D := Draws.text (prog := X.prog) (w := X.w) (A := X.A.in1) (show X.A.in1.handled = none from I.ok.hd hc) it x t
    exact wpAny_pyNext_enum_endD D he hit fun h' eb => ⟨rfl, I.turned (t' := s.toks) (fun b o hb q => eb b o hb q) f0 f1 f3 f4 f5⟩
  self := fun A i s Q E st h => by
    obtain ⟨⟨_, he⟩, _⟩ := st
    exact wpAny_pyIter_enum he h
def iEnumS (ta : TA) : TI := fun σ H R => ta σ H fun vs H1 => ∃ x, vs = [.str x] ∧ R (ItES x) H1
theorem pi_enumS {X : Cx} {e : Expr} {ta : TA} {p pos tpos : Pos} {elts : List Expr} {kk : Nat} (hg : Gl X "enumerate") (hm : X.mg "enumerate" = none) (ha : PA X [e] ta) (hs : starEach [e] X.env = [(false, eval e X.env)] := by rfl) :
    PI X (.Tuple elts kk tpos) (.Call (.Name "enumerate" p) [e] [] pos) (iEnumS ta) := by
  refine ⟨fun pins s σ H R I h => ?_⟩
  refine Call_ (ld_blt I hg hm boot_enumerate (PyProof.Rows.callWith_type1 (thn (ha.run pos pins s σ H _ I h) fun us s1 ⟨vs, H1, I1, r1, q1⟩ => ?_) hs rfl))
  obtain ⟨x, rfl, q⟩ := q1
  obtain ⟨u, rfl, t, rfl⟩ := vals1 r1
  refine call_enumerate_str fun h' he hit hsz hk => wpAny_pyIter_enum he ?_
  refine ⟨s1.heap.objs.size + 1, [s1.heap.objs.size + 1, s1.heap.objs.size], _, _, H1, rfl, I1.kept (t' := s1.toks) hk, turn_es x t (s1.heap.objs.size + 1) s1.heap.objs.size, ⟨⟨.none, he⟩, hit, Nat.succ_ne_self _⟩, fun b hb => ?_, q⟩
  have e' : b = s1.heap.objs.size + 1 ∨ b = s1.heap.objs.size := by simpa using hb
  have hle : s1.heap.objs.size ≤ b := by
    cases e' with
    | inl z => rw [z]; exact Nat.le_add_right _ _
    | inr z => rw [z]; exact Nat.le_refl _
  exact I1.fpOk hle (I1.hok.fresh hle)
theorem for_es {x : Str} {g : TG} {tb : TS} {D : Ends} {σ : L2.St} {H : Hp} (Pv : Nat → L2.St → Hp → Prop) (h0 : Pv 0 σ H)
    (hs : ∀ i c T σ H, x.cps[i]? = some c → Pv i σ H → H T = none → g (.ref T) σ (upd H T (.tup [.int (i : Nat), .str ⟨#[c]⟩])) fun σ2 H2 => tb { D with nx := Pv (i + 1), ct := Pv (i + 1), bk := D.nx } σ2 H2) (hd : ∀ σ H, Pv x.cps.size σ H → D.nx σ H) :
    ∃ W : Nat → Nat → L2.St → Hp → Prop, (∃ m, W 0 m σ H) ∧ ∀ i m σ H, W i m σ H →
      ((ItES x).stop i H ∧ D.nx σ H) ∨ ((ItES x).go i H ∧ ∃ N : L2.St → Hp → Prop, (∀ σ' H', N σ' H' → ∃ m', m' < m ∧ W (i + 1) m' σ' H') ∧ ∀ y H', (ItES x).yld i H y H' → g y σ H' fun σ2 H2 => tb { D with nx := N, ct := N, bk := D.nx } σ2 H2) := by
  refine ⟨fun i m σ H => m = x.cps.size - i ∧ i ≤ x.cps.size ∧ Pv i σ H, ⟨x.cps.size, by simp, Nat.zero_le _, h0⟩, ?_⟩
  rintro i m σ H ⟨rfl, hi, p⟩
  by_cases hlt : i < x.cps.size
  · refine .inr ⟨hlt, Pv (i + 1), fun σ' H' p' => ⟨x.cps.size - (i + 1), by omega, rfl, hlt, p'⟩, fun y H' z => ?_⟩
    obtain ⟨T, c, rfl, hT, rfl, hc⟩ := z
    exact hs i c T σ _ hc p hT
  · have e : i = x.cps.size := by omega
    subst e
    exact .inl ⟨rfl, hd σ H p⟩
theorem lc_es {x : Str} {g : TG} {tt : TT} {te : TE} {vs : List Nat} {σ : L2.St} {H1 : Hp} {D : Addr} {Qd : Hp → Prop} (Pv : Nat → Hp → Prop) (h0 : Pv 0 (upd H1 D (.lst [])))
    (hs : ∀ i c T H, x.cps[i]? = some c → Pv i H → H T = none → g (.ref T) (wipe σ vs) (upd H T (.tup [.int (i : Nat), .str ⟨#[c]⟩])) fun σ2 H2 => wipe σ2 vs = wipe σ vs ∧ tt σ2 H2 fun b H3 =>
      if b = true then te σ2 H3 fun y H4 => ∃ acc, H4 D = some (.lst acc) ∧ acc.length < sizeLine ∧ Pv (i + 1) (upd H4 D (.lst (acc ++ [y]))) else Pv (i + 1) H3) (hd : ∀ H, Pv x.cps.size H → Qd H) :
    ∃ W : Nat → Nat → Hp → Prop, (∃ m, W 0 m (upd H1 D (.lst []))) ∧ ∀ i m H, W i m H →
      ((ItES x).stop i H ∧ Qd H) ∨ ((ItES x).go i H ∧ ∃ Nx : Hp → Prop, (∀ H', Nx H' → ∃ m', m' < m ∧ W (i + 1) m' H') ∧ ∀ y H', (ItES x).yld i H y H' → g y (wipe σ vs) H' fun σ2 H2 => wipe σ2 vs = wipe σ vs ∧ tt σ2 H2 fun b H3 =>
        if b = true then te σ2 H3 fun y H4 => ∃ acc, H4 D = some (.lst acc) ∧ acc.length < sizeLine ∧ Nx (upd H4 D (.lst (acc ++ [y]))) else Nx H3) := by
  refine ⟨fun i m H => m = x.cps.size - i ∧ i ≤ x.cps.size ∧ Pv i H, ⟨x.cps.size, by simp, Nat.zero_le _, h0⟩, ?_⟩
  rintro i m H ⟨rfl, hi, p⟩
  by_cases hlt : i < x.cps.size
  · refine .inr ⟨hlt, Pv (i + 1), fun H' p' => ⟨x.cps.size - (i + 1), by omega, rfl, hlt, p'⟩, fun y H' z => ?_⟩
    obtain ⟨T, c, rfl, hT, rfl, hc⟩ := z
    exact hs i c T _ hc p hT
  · have e : i = x.cps.size := by omega
    subst e
    exact .inl ⟨rfl, hd H p⟩
/-! ### a text backwards: some text, no longer -/
def tRevS (te : TE) : TE := fun σ H Q => te σ H fun x H1 => ∃ z : Str, x = .str z ∧ z.length ≤ sizeLine ∧ ∀ y : Str, y.length ≤ z.length → (∀ c ∈ y.cps.toList, c ∈ z.cps.toList) → Q (.str y) H1
theorem sliceBy_mem (x : Str) (l u : Option (Int × Tok)) (st : Int × Tok) : ∀ c ∈ (Txt.sliceBy x l u st).cps.toList, c ∈ x.cps.toList := by
  intro c hc
  unfold Txt.sliceBy at hc
  split at hc
  · exact hc
  · have hc : c ∈ List.filterMap (x.cps[·]?) _ := hc
    obtain ⟨i, _, hi⟩ := List.mem_filterMap.mp hc
    exact Array.mem_toList_iff.mpr (Array.mem_of_getElem? hi)
theorem pe_revS {X : Cx} {e : Expr} {te : TE} {k : Nat} {p1 p2 p3 pos : Pos} (he : PE X e te) : PE X (.Subscript e (.Slice none none (some (.UnaryOp .USub (.Constant (.int 1) k p1) p2)) p3) pos) (tRevS te) := by
  refine ⟨fun pins s σ H Q I h => ?_⟩
  refine Subscript_ (thn (he.run pins s σ H _ I h) fun v s1 ⟨x, H1, I1, r1, q1⟩ => ?_)
  obtain ⟨z, rfl, hz, q⟩ := q1
  obtain ⟨t, rfl⟩ := r1
  have hst : PO X (some (.UnaryOp .USub (.Constant (.int 1) k p1) p2)) (tPart (tUn (rU fun i => .int (-i)) (tC (.int 1)))) := po_some (pe_un un_neg pe_int)
  refine wpAny_Slice (thn (po_none.run pins s1 σ H1 (fun o H2 => o = none ∧ H2 = H1) I1 ⟨rfl, rfl⟩) fun vl s2 ⟨l, H2, I2, pl, el, e2⟩ => ?_)
  subst el e2
  refine thn (po_none.run pins s2 σ H2 (fun o H3 => o = none ∧ H3 = H2) I2 ⟨rfl, rfl⟩) fun vu s3 ⟨u, H3, I3, pu, eu, e3⟩ => ?_
  subst eu e3
  refine thn (hst.run pins s3 σ H3 (fun o H4 => o = some (-1) ∧ H4 = H3) I3 ⟨1, rfl, -1, rfl, rfl, rfl⟩) fun vs s4 ⟨o, H4, I4, ps, eo, e4⟩ => ?_
  subst eo e4
  cases pl
  cases pu
  cases ps with
  | int i t5 =>
    refine tail_any (ops := [.str z t, .ref s4.heap.objs.size]) (typeIs_str _ _ _) (PySem.F.slot_str_getitem.lookup) ?_ (by with_unfolding_all rfl)
    refine wpAny_getItem_str_slice (l := none) (u := none) (st := some (-1, t5)) ⟨_, Heap.get?_push_size _ rfl, rfl, rfl⟩ rfl ?_
    refine post_val_or_str ⟨Nat.le_trans (Txt.sliceBy_le z none none (-1, t5) (show (-1 : Int) ≠ 0 by decide)) hz, fun t6 tk => ?_⟩
    exact ⟨.str _, H4, (I4.kept (t' := tk) fun b ob q => Heap.get?_push_of_some _ q), ⟨_, rfl⟩, q _ (Txt.sliceBy_le z none none (-1, t5) (show (-1 : Int) ≠ 0 by decide)) (sliceBy_mem z none none (-1, t5))⟩
end Pf


namespace Pf
open PySem PySem.Spec PyProof.Rows L2
/-! ### enumerate of a tuple -/
abbrev EnO (a : Addr) : Obj := { cls := .type "enumerate", data := .fields #[.none, .bool false, .ref a, rawInt 0, .none, .none] }
theorem meets_en1 {u : Value} {ob : Obj} {G : Heap → Prop} (B : Begins u ob G) : Meets (Builtin.«enumerate.__new__» ⟨[.type "enumerate", u], []⟩) (fun _ R s => G s.heap ∧ R (.ok (.ret (.ref (s.heap.push ob).objs.size))) { s with heap := (s.heap.push ob).push (EnO s.heap.objs.size) }) :=
  .of_wp fun prog w A R s z => by
    obtain ⟨hp, g, d, tk, os⟩ := s
    obtain ⟨z1, z⟩ := z
    have hse := sub_enumerate
    have q : ∀ {A' : Around} {E : Value → Shared → Prop} {Q : Value → Shared → Prop}, Q (.ref hp.objs.size) ⟨hp.push ob, g, d, tk, os⟩ → wpAny (model prog w) A' (pyIter u) Q E ⟨hp, g, d, tk, os⟩ := fun r => B.iter prog w _ _ ⟨hp, g, d, tk, os⟩ _ z1 r
    wp_walk using q
    refine wpAny_stack_any fun sk => wpAny_pure ?_
    split
    · rename_i c _ _ _ _ _
      cases ec : (c == Value.type "enumerate")
      · wp_walk using q
        exact ⟨_, rfl, z⟩
      · wp_walk using q
        exact ⟨_, rfl, z⟩
    · wp_walk using q
      exact ⟨_, rfl, z⟩
theorem en1_begins {P : Program} {w : World} {A : Around} {E : Value → Shared → Prop} {s : Shared} {u : Value} {ob : Obj} {G : Heap → Prop} {Q : Value → Shared → Prop} (B : Begins u ob G) (z1 : G s.heap)
    (z : ∀ h', IsEnum h' (s.heap.objs.size + 1) s.heap.objs.size 0 .none → h'.get? s.heap.objs.size = some ob → h'.objs.size = s.heap.objs.size + 2 → (∀ b o, s.heap.get? b = some o → h'.get? b = some o) → Q (.ref (s.heap.objs.size + 1)) { s with heap := h' }) :
    wpAny (model P w) A (call (.type "enumerate") [u]) Q E s := by
  refine callType_new F.called_enumerate (by decide) (F.typeCall_enumerate_1 _) (F.newCall_enumerate_1 _) (fun obj => F.args_object_init_2 obj _) F.entry_enumerate_new (meets_en1 B) ⟨z1, ?_⟩
  have e1 : (s.heap.push ob).objs.size = s.heap.objs.size + 1 := Heap.size_push ..
  show _ ∧ _
  rw [e1]
  have hen : IsEnum ((s.heap.push ob).push (EnO s.heap.objs.size)) (s.heap.objs.size + 1) s.heap.objs.size 0 .none := by
    have := Heap.get?_push_size (s.heap.push ob) (o := EnO s.heap.objs.size) rfl
    rw [e1] at this
    exact this
  exact ⟨⟨_, hen, rfl⟩, z _ hen (Heap.get?_push_of_some _ (Heap.get?_push_size _ B.free)) (by rw [Heap.size_push, e1]) fun b o y => Heap.get?_push_of_some _ (Heap.get?_push_of_some _ y)⟩
def ItET (K : PySem.W.Frag) (a : Addr) : It :=
  ⟨fun i H => ∃ (xs : List V) (x : V), SqT K H a xs ∧ xs[i]? = some x, fun i H v H' => ∃ T x, v = .ref T ∧ H T = none ∧ H' = upd H T (.tup [.int (i : Nat), x]) ∧ ∀ xs, SqT K H a xs → xs[i]? = some x, fun i H => ∃ xs : List V, SqT K H a xs ∧ xs.length = i⟩
theorem turn_et {P : Program} {w : World} {K : PySem.W.Frag} {elts : List Expr} {kk : Nat} {tpos : Pos} (a e it : Addr) :
    Turn P w K (.Tuple elts kk tpos) (ItET K a) [e, it] e (fun i h => (∃ old, IsEnum h e it ((i : Nat) : Int) old) ∧ h.IsTupleIter it a i ∧ e ≠ it ∧ e ≠ a ∧ a ≠ it) where
  mem := by simp
  obj := fun i h st b hb => by
    obtain ⟨⟨old, he⟩, ⟨o, ho, hc, hd⟩, _⟩ := st
    have e' : b = e ∨ b = it := by simpa using hb
    cases e' with
    | inl z =>
      rw [z]
      exact ⟨_, he, fun v q => nomatch q⟩
    | inr z =>
      rw [z]
      exact ⟨o, ho, fun v q => by rw [hd] at q; cases q⟩
  keep := fun i h h' st k => by
    obtain ⟨⟨old, he⟩, ⟨o, ho, r⟩, hne⟩ := st
    exact ⟨⟨old, k e (by simp) _ he⟩, ⟨o, k it (by simp) o ho, r⟩, hne⟩
  item := by
    intro X hP hw hK hc i pins s σ H E I hf st hg
    subst hP hw hK
    obtain ⟨⟨old, he⟩, hit, hne, hea, hai⟩ := st
    obtain ⟨xs, x, hq, hx⟩ := hg
    obtain ⟨its, rv, pt, hz⟩ := I.tuple hq
    obtain ⟨u, hu, ru⟩ := rv.get hx
    have hel : e < s.heap.objs.size := Heap.lt_size he
    have hil : it < s.heap.objs.size := by
      obtain ⟨_, q, _⟩ := hit
      exact Heap.lt_size q
    have hti : s.heap.IsTuple a its.toArray := pt
    have D := Draws.tuple (prog := X.prog) (w := X.w) (A := X.A.in1) (show X.A.in1.handled = none from I.ok.hd hc) it a hai its.toArray
    refine wpAny_pyNext_enum_itemD D he ⟨hit, hti⟩ (by have := (List.getElem?_eq_some_iff.mp hu).1; simpa using this) hne (by simp [hne, hea]) fun y h' tk hy ho hit' hT hsz hk => ?_
    have ey : y = u := by
      have h2 : its[i]? = some y := by simpa using hy
      rw [hu] at h2
      exact (Option.some.inj h2).symm
    subst ey
    refine ⟨_, rfl, wpAny_letOwnedTupleGo_enum (s := { s with heap := h', toks := tk + 1 }) ho fun h'' he' sb => ?_⟩
    have hT2 := (sb.2 _ (Nat.ne_of_gt hel)).trans hT
    have new : ObjOk X.prog X.w (upd H s.heap.objs.size (.tup [.int (i : Nat), x])) h'' s.heap.objs.size (.tup [.int (i : Nat), x]) :=
      ⟨by show 2 ≤ sizeLine; decide, [.int i tk, y], .cons ⟨_, rfl⟩ (.cons ru .nil), ⟨_, hT2, rfl, _, rfl⟩⟩
    have I1 : Inv X pins σ (upd H s.heap.objs.size (.tup [.int (i : Nat), x])) { s with heap := h'', toks := tk + 1 } :=
      I.turnedNew (ch := [e, it]) (fun b ob hb q => (sb.2 b (fun z => hb (by simp [z]))).trans (hk b ob (fun z => hb (by simp [z])) (fun z => hb (by simp [z])) q)) hf (Nat.le_refl _) new
    obtain ⟨oi, hoi, ri⟩ := hit'.1
    refine ⟨.ref s.heap.objs.size, _, I1, rfl, ⟨_, x, rfl, I.hok.fresh (Nat.le_refl _), rfl, fun ys hy => by rw [I.tuple_inj hy hq]; exact hx⟩, ⟨⟨y, ?_⟩, ⟨oi, (sb.2 it (Ne.symm hne)).trans hoi, ri⟩, hne, hea, hai⟩, fun b hb => ?_⟩
    · have e1 : ((i + 1 : Nat) : Int) = (i : Int) + 1 := by omega
      rw [e1]
      exact he'
    · have hb' : b < s.heap.objs.size := by
        have e' : b = e ∨ b = it := by simpa using hb
        cases e' with
        | inl z => rw [z]; exact hel
        | inr z => rw [z]; exact hil
      rw [upd_ne (Nat.ne_of_lt hb')]
      exact (hf b hb).1
  done := by
    intro X hP hw hK hc i pins s σ H E I hf st hg
    subst hP hw hK
    obtain ⟨⟨old, he⟩, hit, hne, hea, hai⟩ := st
    obtain ⟨xs, hq, hx⟩ := hg
    obtain ⟨its, rv, pt, hz⟩ := I.tuple hq
    have hln := rv.length
    obtain ⟨f0, f1, f2, f3, f4, f5⟩ := hf it (by simp)
    have hti : s.heap.IsTuple a its.toArray := pt
    have D := Draws.tuple (prog := X.prog) (w := X.w) (A := X.A.in1) (show X.A.in1.handled = none from I.ok.hd hc) it a hai its.toArray
    have ei : its.toArray.size = i := by
      rw [List.size_toArray]
      omega
    exact wpAny_pyNext_enum_endD D he ⟨by rw [ei]; exact hit, hti⟩ fun h' eb => ⟨rfl, I.turned (t' := s.toks) (fun b o hb q => eb b o hb q) f0 f1 f3 f4 f5⟩
  self := fun A i s Q E st h => by
    obtain ⟨⟨_, he⟩, _⟩ := st
    exact wpAny_pyIter_enum he h
def iEnumT (K : PySem.W.Frag) (ta : TA) : TI := fun σ H R => ta σ H fun vs H1 => ∃ a xs, vs = [.ref a] ∧ SqT K H1 a xs ∧ R (ItET K a) H1
theorem pi_enumT {X : Cx} {e : Expr} {ta : TA} {p pos tpos : Pos} {elts : List Expr} {kk : Nat} (hg : Gl X "enumerate") (hm : X.mg "enumerate" = none) (ha : PA X [e] ta) (hs : starEach [e] X.env = [(false, eval e X.env)] := by rfl) :
    PI X (.Tuple elts kk tpos) (.Call (.Name "enumerate" p) [e] [] pos) (iEnumT X.K ta) := by
  refine ⟨fun pins s σ H R I h => ?_⟩
  refine Call_ (ld_blt I hg hm boot_enumerate (PyProof.Rows.callWith_type1 (thn (ha.run pos pins s σ H _ I h) fun us s1 ⟨vs, H1, I1, r1, q1⟩ => ?_) hs rfl))
  obtain ⟨a, xs, rfl, hq, q⟩ := q1
  obtain ⟨u, rfl, er⟩ := vals1 r1
  cases er
  obtain ⟨its, rv, pt, hz⟩ := I1.tuple hq
  have hti : s1.heap.IsTuple a its.toArray := pt
  have hal : a < s1.heap.objs.size := by
    obtain ⟨_, q, _⟩ := hti
    exact Heap.lt_size q
  refine en1_begins (begins_tuple a its.toArray) hti fun h' he hit hsz hk => wpAny_pyIter_enum he ?_
  refine ⟨s1.heap.objs.size + 1, [s1.heap.objs.size + 1, s1.heap.objs.size], _, _, H1, rfl, I1.kept (t' := s1.toks) hk, turn_et a (s1.heap.objs.size + 1) s1.heap.objs.size, ⟨⟨.none, he⟩, ⟨_, hit, rfl, rfl⟩, Nat.succ_ne_self _, Nat.ne_of_gt (Nat.lt_succ_of_lt hal), Nat.ne_of_lt hal⟩, fun b hb => ?_, q⟩
  have e' : b = s1.heap.objs.size + 1 ∨ b = s1.heap.objs.size := by simpa using hb
  have hle : s1.heap.objs.size ≤ b := by
    cases e' with
    | inl z => rw [z]; exact Nat.le_add_right _ _
    | inr z => rw [z]; exact Nat.le_refl _
  exact I1.fpOk hle (I1.hok.fresh hle)
theorem walk_et {K : PySem.W.Frag} {a : Addr} {xs : List V} : Walk (ItET K a) xs.length (fun H => SqT K H a xs) (YPair (fun i => some (.int (i : Nat))) (fun i => xs[i]?)) :=
  ⟨fun i H hi q => ⟨xs, _, q, List.getElem?_eq_getElem hi⟩, fun H q => ⟨xs, q, rfl⟩, fun i H x H' hi q ⟨T, y, e1, e2, e3, e4⟩ => ⟨T, _, y, e1, e2, e3, rfl, e4 xs q⟩⟩
theorem walk_zt {K : PySem.W.Frag} {a b : Addr} {xs ys : List V} {n : Nat} (hn : n = min xs.length ys.length) : Walk (RZ.ItzT K a b) n (fun H => SqT K H a xs ∧ SqT K H b ys) (YPair (fun i => xs[i]?) (fun i => ys[i]?)) := by
  subst hn
  refine ⟨fun i H hi q => ⟨xs, ys, _, _, q.1, q.2, List.getElem?_eq_getElem (by omega), List.getElem?_eq_getElem (by omega)⟩, fun H q => ⟨xs, ys, q.1, q.2, by omega⟩, fun i H x H' hi q ⟨T, y, z, e1, e2, e3, e4, e5⟩ => ⟨T, y, z, e1, e2, e3, e4 xs q.1, e5 ys q.2⟩⟩
/-! ### two fors in a comprehension -/
def LcIn (J1 : It) (g1 : TG) (tt1 : TT) (te : TE) (vs1 : List Nat) (σ2 : L2.St) (D : Addr) (H4 : Hp) (Nx : Hp → Prop) : Prop := ∃ W1 : Nat → Nat → Hp → Prop, (∃ m, W1 0 m H4) ∧ ∀ j k H, W1 j k H →
  (J1.stop j H ∧ Nx H) ∨ (J1.go j H ∧ ∃ Nx1 : Hp → Prop, (∀ H', Nx1 H' → ∃ k', k' < k ∧ W1 (j + 1) k' H') ∧ ∀ x H', J1.yld j H x H' → g1 x (wipe σ2 vs1) H' fun σ3 H5 => wipe σ3 vs1 = wipe σ2 vs1 ∧ tt1 σ3 H5 fun b H6 => if b = true then te σ3 H6 fun y H7 => ∃ acc, H7 D = some (.lst acc) ∧ acc.length < sizeLine ∧ Nx1 (upd H7 D (.lst (acc ++ [y]))) else Nx1 H6)
theorem lc_in {J1 : It} {n : Nat} {G : Hp → Prop} {Y : Nat → Hp → V → Hp → Prop} (w : Walk J1 n G Y) {g1 : TG} {tt1 : TT} {te : TE} {vs1 : List Nat} {σ2 : L2.St} {D : Addr} {H4 : Hp} {Nx : Hp → Prop} (Pv : Nat → Hp → Prop) (h0 : Pv 0 H4) (hG : ∀ i H, i ≤ n → Pv i H → G H)
    (hs : ∀ i x H H', i < n → Pv i H → Y i H x H' → g1 x (wipe σ2 vs1) H' fun σ3 H5 => wipe σ3 vs1 = wipe σ2 vs1 ∧ tt1 σ3 H5 fun b H6 => if b = true then te σ3 H6 fun y H7 => ∃ acc, H7 D = some (.lst acc) ∧ acc.length < sizeLine ∧ Pv (i + 1) (upd H7 D (.lst (acc ++ [y]))) else Pv (i + 1) H6)
    (hd : ∀ H, Pv n H → Nx H) : LcIn J1 g1 tt1 te vs1 σ2 D H4 Nx := by
  refine ⟨fun i m H => m = n - i ∧ i ≤ n ∧ Pv i H, ⟨n, rfl, Nat.zero_le _, h0⟩, ?_⟩
  rintro i m H ⟨rfl, hi, pv⟩
  have hq := hG i H hi pv
  by_cases hlt : i < n
  · exact .inr ⟨w.goes i H hlt hq, Pv (i + 1), fun H' p' => ⟨n - (i + 1), by omega, rfl, hlt, p'⟩, fun x H' y => hs i x H H' hlt pv (w.yields i H x H' hlt hq y)⟩
  · obtain rfl : i = n := by omega
    exact .inl ⟨w.stops H hq, hd H pv⟩
theorem lc_two {J : It} {n : Nat} {G : Hp → Prop} {Y : Nat → Hp → V → Hp → Prop} (w : Walk J n G Y) {g : TG} {tt : TT} {wi1 : TI} {g1 : TG} {tt1 : TT} {te : TE} {vs vs1 : List Nat} {σ : L2.St} {H1 : Hp} {D : Addr} {Qd : Hp → Prop} (Pv : Nat → Hp → Prop) (h0 : Pv 0 (upd H1 D (.lst []))) (hG : ∀ i H, i ≤ n → Pv i H → G H)
    (hs : ∀ i x H H', i < n → Pv i H → Y i H x H' → g x (wipe σ vs) H' fun σ2 H2 => wipe σ2 vs = wipe σ vs ∧ tt σ2 H2 fun b H3 => if b = true then wi1 σ2 H3 fun J1 H4 => LcIn J1 g1 tt1 te vs1 σ2 D H4 (Pv (i + 1)) else Pv (i + 1) H3)
    (hd : ∀ H, Pv n H → Qd H) :
    ∃ W : Nat → Nat → Hp → Prop, (∃ m, W 0 m (upd H1 D (.lst []))) ∧ ∀ i m H, W i m H → (J.stop i H ∧ Qd H) ∨ (J.go i H ∧ ∃ Nx : Hp → Prop, (∀ H', Nx H' → ∃ m', m' < m ∧ W (i + 1) m' H') ∧ ∀ x H', J.yld i H x H' → g x (wipe σ vs) H' fun σ2 H2 => wipe σ2 vs = wipe σ vs ∧ tt σ2 H2 fun b H3 =>
      if b = true then wi1 σ2 H3 fun J1 H4 => LcIn J1 g1 tt1 te vs1 σ2 D H4 Nx else Nx H3) := by
  refine ⟨fun i m H => m = n - i ∧ i ≤ n ∧ Pv i H, ⟨n, rfl, Nat.zero_le _, h0⟩, ?_⟩
  rintro i m H ⟨rfl, hi, pv⟩
  have hq := hG i H hi pv
  by_cases hlt : i < n
  · exact .inr ⟨w.goes i H hlt hq, Pv (i + 1), fun H' p' => ⟨n - (i + 1), by omega, rfl, hlt, p'⟩, fun x H' y => hs i x H H' hlt pv (w.yields i H x H' hlt hq y)⟩
  · obtain rfl : i = n := by omega
    exact .inl ⟨w.stops H hq, hd H pv⟩
/-! ### tuples of numbers compared; truths by identity -/
theorem ltT (K : PySem.W.Frag) {X : Cx} (hu : X.A.units < cLine) (h : X.K = K := by rfl) : OpR X (compareOp .Lt) (rLtT K) := h ▸ op_ltT hu
theorem lex2 (a b c d : Int) : HT.lexLt [a, b] [c, d] = decide (a < c ∨ (a = c ∧ b < d)) := by
  rw [HT.lexLt_cons, HT.lexLt_cons, HT.lexLt_nil_nil]
  by_cases e : a = c
  · rw [if_pos e]
    by_cases e2 : b = d
    · rw [if_pos e2]
      exact (decide_eq_false (by omega)).symm
    · rw [if_neg e2]
      exact decide_eq_decide.mpr (by omega)
  · rw [if_neg e]
    exact decide_eq_decide.mpr (by omega)
/-! ### parts of tuples -/
theorem piT (K : PySem.W.Frag) {X : Cx} {tg l : Expr} {tl : TE} (hl : PE X l tl) (h : X.K = K := by rfl) : PI X tg l (iTup K tl) := by
  subst h
  exact pi_tup hl
theorem piL (K : PySem.W.Frag) {X : Cx} {tg l : Expr} {tl : TE} (hl : PE X l tl) (h : X.K = K := by rfl) : PI X tg l (iList K tl) := by
  subst h
  exact pi_list hl
/-- a part of a tuple: the same one, or another -/
def rSlE (K : PySem.W.Frag) : V → Option Int → Option Int → Hp → VK → Prop := fun x lo hi H Q => ∃ a xs, x = .ref a ∧ H a = some (.tup xs) ∧ ∀ p H', Ext H H' → H' p = some (.tup (cutV xs lo hi)) → Q (.ref p) H'
theorem slE (K : PySem.W.Frag) {X : Cx} (h : X.K = K := by rfl) : SlR X (rSlE K) := fun pins s σ H x v vl vu lo hi sl Q I rx hs pl pu ⟨a, xs, ex, ha, q⟩ => by
  refine slA K h pins s σ H x v vl vu lo hi sl Q I rx hs pl pu ⟨a, xs, ex, SqT.of ha, fun z => ?_, fun _ p hp => q p _ (Ext.new hp) upd_same⟩
  refine q a H Ext.refl ?_
  have e : cutV xs lo hi = xs := by
    unfold cutV
    rw [z.1, z.2, List.drop_zero, Nat.sub_zero, List.take_length]
  rw [e]
  exact ha
theorem cut_from {xs : List V} {k : Nat} : cutV xs (some (k : Int)) none = xs.drop k := by
  unfold cutV
  have e1 : HT.sIx xs.length 0 (some (k : Int)) = min k xs.length := HT.sIx_nat _ _ _
  have e2 : HT.sIx xs.length xs.length none = xs.length := rfl
  rw [e1, e2, List.take_of_length_le (by rw [List.length_drop]; omega)]
  by_cases h : k ≤ xs.length
  · rw [Nat.min_eq_left h]
  · rw [Nat.min_eq_right (by omega), List.drop_length, List.drop_eq_nil_of_le (by omega)]
theorem cut_to {xs : List V} {k : Nat} : cutV xs none (some (k : Int)) = xs.take k := by
  unfold cutV
  have e1 : HT.sIx xs.length 0 none = 0 := rfl
  have e2 : HT.sIx xs.length xs.length (some (k : Int)) = min k xs.length := HT.sIx_nat _ _ _
  rw [e1, e2, List.drop_zero, Nat.sub_zero]
  by_cases h : k ≤ xs.length
  · rw [Nat.min_eq_left h]
  · rw [Nat.min_eq_right (by omega), List.take_length, List.take_of_length_le (by omega)]
theorem paired_take {α β : Type} {R : α → β → Prop} : ∀ {xs : List α} {ys : List β} (k : Nat), Paired R xs ys → Paired R (xs.take k) (ys.take k)
  | _, _, 0, _ => by rw [List.take_zero, List.take_zero]; exact .nil
  | _, _, k + 1, .nil => by rw [List.take_nil, List.take_nil]; exact .nil
  | _, _, k + 1, .cons r t => by rw [List.take_succ_cons, List.take_succ_cons]; exact .cons r (paired_take k t)
theorem paired_drop {α β : Type} {R : α → β → Prop} : ∀ {xs : List α} {ys : List β} (k : Nat), Paired R xs ys → Paired R (xs.drop k) (ys.drop k)
  | _, _, 0, h => by rw [List.drop_zero, List.drop_zero]; exact h
  | _, _, k + 1, .nil => by rw [List.drop_nil, List.drop_nil]; exact .nil
  | _, _, k + 1, .cons r t => by rw [List.drop_succ_cons, List.drop_succ_cons]; exact paired_drop k t
/-- two tuples put together: one of them, or another -/
def rCatE (K : PySem.W.Frag) : R2 := fun x y H Q => ∃ a b xs ys, x = .ref a ∧ y = .ref b ∧ H a = some (.tup xs) ∧ H b = some (.tup ys) ∧ xs.length + ys.length ≤ sizeLine ∧ ∀ p H', Ext H H' → H' p = some (.tup (xs ++ ys)) → Q (.ref p) H'
theorem catE (K : PySem.W.Frag) {X : Cx} (h : X.K = K := by rfl) : OpR X (binaryOp .Add) (rCatE K) := fun pins s σ H x y v u Q I rx ry ⟨a, b, xs, ys, ex, ey, ha, hb, hz, q⟩ => by
  refine catA K h pins s σ H x y v u Q I rx ry ⟨a, b, xs, ys, ex, ey, SqT.of ha, SqT.of hb, hz, fun z => ?_, fun _ z => ?_, fun _ _ p hp => q p _ (Ext.new hp) upd_same⟩
  · exact q b H Ext.refl (by rw [z]; exact hb)
  · exact q a H Ext.refl (by rw [z, List.append_nil]; exact ha)
end Pf


namespace Pf
open PySem PySem.Spec PyProof.Rows L2
/-! ### sorting tuples, the first of them empty -/
section
open PySem.W PySem.SeqAt PySem.Calls
variable {prog : Program} {w : World} {A : Around} {E : Value → Shared → Prop} {s : Shared}
theorem tup_lt1 {Q : Bool → Shared → Prop} {a b : Value} {xs ys : List PyData} {as bs : List Addr} (ra : Reads s.heap a (.tuple xs) as) (rb : Reads s.heap b (.tuple ys) bs) (hal : alikeAll xs ys = true)
    (hu : A.units + min (PyData.tuple xs).depth (PyData.tuple ys).depth < cLine) (hq : Q (dataLt (.tuple xs) (.tuple ys)) s) : wpAny (model prog w) A (oneLt' true a b) Q E s := by
  cases ra with
  | @tuple l o vs n _ as₁ h1 h2 h3 h4 =>
    cases rb with
    | @tuple m p ws k _ bs₁ g1 g2 g3 g4 =>
      have z1 : vs.size = xs.length := by simpa using ReadsAll.length _ _ _ h4
      have z2 : ws.size = ys.length := by simpa using ReadsAll.length _ _ _ g4
      rw [dataLt_tuple, ← firstLt_toks xs ys hal, ← z1, ← z2] at hq
      obtain ⟨ocls, odd, odata, osl⟩ := o
      obtain ⟨pcls, pdd, pdata, psl⟩ := p
      simp only at h2 h3 g2 g3
      subst h2 h3 g2 g3
      rw [oneLt'_eq]
      simp only [if_true]
      refine wpAny_bind (wpAny_cRoomFor (room_here hu) (wpAny_bind (wpAny_callSpecialIfBound?_slot (T := "tuple") ⟨_, h1, rfl⟩ F.slot_tuple_lt ?_)))
      refine call_meets F.slot_tuple_lt ⟨_, h1, rfl⟩ F.entry_tuple_lt (F.args_tuple_lt_2 _ _) (tuple_ltAt l m vs ws n k odd pdd osl psl (pairEq xs ys) (fun j => dataLt (xs.getD j .none) (ys.getD j .none))) ⟨h1, g1, fun j j1 j2 => ?_, fun j j1 j2 hj => ?_, wpAny_truthy_bool hq⟩
      · have y := eqAt_alikeAll xs ys A.in1 s vs.toList ws.toList _ _ h4 g4 hal (room_in hu) j (by simpa using j1) (by simpa using j2)
        simpa using y
      · have y := rcLt_alikeAll xs ys A.in1 s vs.toList ws.toList _ _ h4 g4 hal (room_in hu) j (by simpa using j1) (by simpa using j2) hj
        simpa using y
theorem ft_at {M : Model} {v : Value} {ds : List PyData} {as : List Addr} (r : Reads s.heap v (.tuple ds) as) : ∃ f : Option Value, (ds = [] → f = none) ∧ ∀ Q : Option Value → Shared → Prop, Q f s → wpAny M A (firstOfTuple' v) Q E s := by
  cases r with
  | @tuple a o xs n _ _ ho hc hd hr =>
    refine ⟨xs[0]?, fun e => ?_, fun Q q => ?_⟩
    · subst e
      cases q : xs.toList with
      | nil =>
        rw [← Array.getElem?_toList, q]
        rfl
      | cons f fr =>
        rw [q] at hr
        cases hr
    · rw [kas_first_eq]
      refine wpAny_bind (Looks.here (show Looks M s.heap (typeOf (.ref a)) o.cls from (Looks.ld ho).andThen .now) ?_)
      rw [hc, if_neg (by simp)]
      exact wpAny_bind (listItems_at ho hd (wpAny_pure q))
theorem fts_at {M : Model} : ∀ {vs : List Value} {ds : List PyData}, EachIs (fun v d => ∃ as, Reads s.heap v d as) vs ds → (∀ d ∈ ds, ∃ xs, d = .tuple xs) → ∃ fs : List (Option Value), (∀ r, ds = .tuple [] :: r → ∃ t, fs = none :: t) ∧ ∀ Q : List (Option Value) → Shared → Prop, Q fs s → wpAny M A (vs.mapM firstOfTuple') Q E s
  | _, _, .nil, _ => ⟨[], (fun r z => by cases z), fun Q q => by rw [List.mapM_nil]; exact wpAny_pure q⟩
  | _, _, .cons (b := d) ⟨as, r⟩ t, ht => by
    obtain ⟨fs, _, h2⟩ := fts_at (M := M) t fun d hd => ht d (List.mem_cons_of_mem _ hd)
    obtain ⟨xs, rfl⟩ := ht d (List.mem_cons_self ..)
    obtain ⟨f, e1, e2⟩ := ft_at (M := M) (A := A) (E := E) r
    refine ⟨f :: fs, fun r z => ⟨fs, ?_⟩, fun Q q => ?_⟩
    · injection z with z _
      injection z with z
      rw [e1 z]
    · rw [List.mapM_cons]
      exact wpAny_bind (e2 _ (wpAny_bind (h2 _ (wpAny_pure q))))
theorem kind_empt {M : Model} {vs : List Value} {ds : List PyData} {Q : SortKind → Shared → Prop} (e : EachIs (fun v d => ∃ as, Reads s.heap v d as) vs (.tuple [] :: ds)) (ht : ∀ d ∈ PyData.tuple [] :: ds, ∃ xs, d = .tuple xs) (q : Q oneType' s) : wpAny M A (keyKind' vs.toArray) Q E s := by
  obtain ⟨fs, h1, h2⟩ := fts_at (M := M) (A := A) (E := E) e ht
  obtain ⟨t, rfl⟩ := h1 ds rfl
  obtain ⟨v0, vr, rfl⟩ : ∃ v0 vr, vs = v0 :: vr := by
    cases e with
    | cons z zs => exact ⟨_, _, rfl⟩
  rw [keyKind'_eq, List.mapM_toArray, map_eq_pure_bind]
  refine wpAny_bind (wpAny_bind (h2 _ (wpAny_pure ?_)))
  rw [if_neg (by simp), if_neg (by simp), oneTypeOnly'_eq, List.mapM_toArray, map_eq_pure_bind]
  refine wpAny_bind (wpAny_bind (wpAny_bind (kas_mapM (r := Value.type "tuple") _ (fun v hv Q' hq => ?_) (wpAny_pure ?_))))
  · obtain ⟨d, hd, as, r⟩ := e.left v hv
    obtain ⟨xs, rfl⟩ := ht d hd
    exact (looks_reads r).here hq
  · have h0 : (List.map (fun _ => Value.type "tuple") (v0 :: vr)).toArray[0]? = some (Value.type "tuple") := by simp
    rw [h0]
    have ha : ((List.map (fun _ : Value => Value.type "tuple") (v0 :: vr)).toArray.all fun x => x == Value.type "tuple") = true := by
      simp only [List.all_toArray, List.all_map, List.all_eq_true]
      intro _ _
      rfl
    simp only [ha, if_true]
    exact wpAny_pure (wpAny_pure q)
theorem sorts_empt {vs : List Value} {ds : List PyData} (e : EachIs (fun v d => ∃ as, Reads s.heap v d as) vs (.tuple [] :: ds)) (hal : AllAlike (.tuple [] :: ds)) (ht : ∀ d ∈ PyData.tuple [] :: ds, ∃ xs, d = .tuple xs) (hu : ∀ d ∈ PyData.tuple [] :: ds, A.units + d.depth < cLine) : SortsAt prog w A s (dataKind s.heap (.tuple [] :: ds)) vs := by
  refine ⟨fun v hv => ?_, oneType', ?_, fun h2 E Q hq => kind_empt e ht hq⟩
  · obtain ⟨d, hd, as, r⟩ := e.left v hv
    exact ⟨_, dataKind_some hal hd r⟩
  · intro E x y a b Q ha hb hq
    obtain ⟨d, as, hd, ra, rfl⟩ := dataKind_inv ha
    obtain ⟨d', as', hd', rb, rfl⟩ := dataKind_inv hb
    have hdd := hal d hd d' hd'
    have hroom : A.units + min d.depth d'.depth < cLine := Nat.lt_of_le_of_lt (Nat.add_le_add_left (Nat.min_le_left _ _) _) (hu d hd)
    obtain ⟨xs, rfl⟩ := ht d hd
    obtain ⟨ys, rfl⟩ := ht d' hd'
    rw [keyLt'_oneType]
    exact tup_lt1 ra rb (by simpa [alike] using hdd) hroom hq
theorem sorted_empt {β : Type} {vs : List Value} {bs : List β} {enc : β → PyData} {R : Value → β → Prop} {l : Addr} {r : List PyData} {Q : Value → Shared → Prop} (hl : s.heap.IsList l vs.toArray) (e : EachIs R vs bs) (er : EachIs (fun v b => ∃ as, Reads s.heap v (enc b) as) vs bs) (hal : AllAlike (bs.map enc)) (h0 : bs.map enc = .tuple [] :: r) (ht : ∀ d ∈ bs.map enc, ∃ xs, d = .tuple xs) (hL : bs.length ≤ sizeLine)
    (hu : ∀ b, b ∈ bs → A.units + 2 + (enc b).depth < cLine) (h : ∀ out, out.length = bs.length → EachIs R out (bs.mergeSort (dataLe false enc)) → Q (.ref (s.heap.objs.size + 1)) { s with heap := sortedAll s.heap vs (List.toArray out) }) :
    wpAny (model prog w) A (call (.builtin "sorted") [.ref l]) Q E s := by
  have er2 : EachIs (fun v b => ∃ as, Reads (sortingHeap (copyHeap s.heap vs) (s.heap.objs.size + 1) vs) v (enc b) as) vs bs := er.mono fun _ _ ⟨as, z⟩ => ⟨as, PyProof.Rows.Reads.keeps (fun _ _ => sorting_copy_old) z⟩
  have em := each_map (R := fun v d => ∃ as, Reads (sortingHeap (copyHeap s.heap vs) (s.heap.objs.size + 1) vs) v d as) enc er2
  have bm := bound_map (A := A.in1.in1) (bs := bs) (enc := enc) hu
  have S : SortsAt prog w A.in1.in1 { s with heap := sortingHeap (copyHeap s.heap vs) (s.heap.objs.size + 1) vs } (dataKind (sortingHeap (copyHeap s.heap vs) (s.heap.objs.size + 1) vs) (bs.map enc)) vs := by
    rw [h0] at em bm ht hal ⊢
    exact sorts_empt (s := { s with heap := sortingHeap (copyHeap s.heap vs) (s.heap.objs.size + 1) vs }) em hal ht bm
  exact sorted_vals hl S (by rw [e.length]; exact hL) (h _ (by rw [sortVals_length false rfl]; exact e.length) (sortVals_data false e er2 hal))
end
/-- sorted of tuples, the first of them empty -/
def rSortE (K : PySem.W.Frag) : List V → Hp → VK → Prop := fun vs H Q => ∃ (β : Type) (v : β → V) (d : β → PyData) (a : Addr) (bs : List β) (r : List PyData), vs = [.ref a] ∧ SqL K H a (bs.map v) ∧ (∀ b ∈ bs, Dp K H (v b) (d b) ∧ (d b).depth ≤ 50) ∧
  PySem.W.AllAlike (bs.map d) ∧ bs.map d = .tuple [] :: r ∧ (∀ e ∈ bs.map d, ∃ xs, e = .tuple xs) ∧ ∀ p, H p = none → Q (.ref p) (upd H p (.lst ((bs.mergeSort (PySem.W.dataLe false d)).map v)))
theorem cr_sortE (K : PySem.W.Frag) {X : Cx} (hu : X.A.units + 64 < cLine) (hK : X.K = K := by rfl) : CallR X (.builtin "sorted") (rSortE K) := by
  subst hK
  intro pins s σ H vs us Q I r h
  obtain ⟨β, v, d, a, bs, rd, rfl, hs, hd, al, h0, ht, q⟩ := h
  obtain ⟨u, rfl, rfl⟩ := vals1 r
  obtain ⟨its, rv, hl, hz⟩ := I.list hs
  rw [List.length_map] at hz
  refine sorted_empt (enc := d) (R := fun (u : Value) (b : β) => RelV (v b) u) hl.isList (each_vals rv) (each_reads I rv fun b hb => (hd b hb).1) al h0 ht hz (fun b hb => ?_) fun out hlen he => ?_
  · have := (hd b hb).2
    omega
  · obtain ⟨ep, he'⟩ := PyProof.Rows.sortedAll_at s.heap its out.toArray
    have hlen2 : ((bs.mergeSort (PySem.W.dataLe false d)).map v).length ≤ sizeLine := by
      rw [List.length_map, List.length_mergeSort]
      exact hz
    exact ⟨.ref _, upd H (s.heap.objs.size + 1) (.lst ((bs.mergeSort (PySem.W.dataLe false d)).map v)), I.laid (t' := s.toks) (fun _ _ => PyProof.Rows.sortedAll_old) (Nat.le_succ _) ⟨hlen2, out, ep, vals_each he, by simpa using he'⟩, rfl, q _ (I.hok.fresh (Nat.le_succ _))⟩
end Pf


namespace Pf
open PySem PySem.Spec PyProof.Rows L2
/-! ### a dict by tuples, made in a comprehension -/
theorem dset_t {X : Cx} {pins : List (Addr × Obj)} {σ : L2.St} {H : Hp} {s : Shared} {E : Value → Shared → Prop} {D b : Addr} {kvs : List (List Key × V)} {ks : List Key} {z : V} {u : Value} {Q : Unit → Shared → Prop} (hu : X.A.units < cLine) (I : Inv X pins σ H s) (hD : H D = some (.dT kvs)) (hb : H b = some (.tup (ks.map kV))) (hz : kvs.length < sizeLine)
    (rz : RelV z u) (go : ∀ s', Inv X pins σ (upd H D (.dT (putK kvs ks z))) s' → Q () s') : wpAny (model X.prog X.w) X.A (dictSet D (.ref b) u) Q E s := by
  obtain ⟨len, nsys, xs, rel, dd⟩ := dt_of I.hok hD
  have lx : xs.length ≤ sizeLine := Paired.length rel ▸ len
  have lp := length_putK kvs ks z
  refine wpAny_dictSet_heap (hsz := lx) (show (tupleKind (mixKind X.prog X.w)).room X.A from hu) (key_of I.hok hb) dd fun h' dd' same => go _ ?_
  obtain ⟨ob, es, ep, e1, e2, e3, e4, _, e5⟩ := dd'
  have stays : ∀ c ys, H c = some (.tup ys) → (upd H D (.dT (putK kvs ks z))) c = some (.tup ys) := fun c ys ec => by
    rw [upd_ne (ne_of ec hD (by intro y; cases y))]
    exact ec
  exact d_write I (by rw [hD]; exact True.intro) same ⟨ob, e1⟩ ⟨by omega, nsys, _, (rel.put ks hb rz).keeps stays, ob, es, ep, e1, e2, e3, e4, e5⟩
/-- what is asked of a turn's key and value -/
def PutT (D : Addr) (y z : V) (H : Hp) (N : Hp → Prop) : Prop := ∃ kvs ks b, y = .ref b ∧ H b = some (.tup (ks.map kV)) ∧ H D = some (.dT kvs) ∧ kvs.length < sizeLine ∧ N (upd H D (.dT (putK kvs ks z)))
def tDcT (wi : TI) (g : TG) (tk tv : TE) (vs : List Nat) : TE := fun σ H Q => wi σ H fun J H1 => ∀ D, H1 D = none → ∃ W : Nat → Nat → Hp → Prop, (∃ m, W 0 m (upd H1 D (.dT []))) ∧ ∀ i m H, W i m H →
  (J.stop i H ∧ Q (.ref D) H) ∨ (J.go i H ∧ ∃ Nx : Hp → Prop, (∀ H', Nx H' → ∃ m', m' < m ∧ W (i + 1) m' H') ∧ ∀ x H', J.yld i H x H' → g x (wipe σ vs) H' fun σ2 H2 => wipe σ2 vs = wipe σ vs ∧ tk σ2 H2 fun y H3 => tv σ2 H3 fun z H4 => PutT D y z H4 Nx)
/-- the block's context is free of what the walk itself holds -/
theorem blk_free {X : Cx} {s : Shared} {H : Hp} {scope : Scope} {ce : Env} {fp : List Addr} {σ' : L2.St} {H' : Hp} {s' : Shared} (J : Inv (X.blk s H scope ce fp) [] σ' H' s') (nn : ∀ b ∈ fp, H' b = none) : ∀ b ∈ fp, FpOk (X.blk s H scope ce fp) [] H' b := fun b hb =>
  ⟨nn b hb, (J.ok.exf b hb).1, J.ok.exfs b hb, .inl hb, fun x c e => (J.ok.exf b hb).2 x c e, fun p hp => by
    have hp : p ∈ ([] : List (Addr × Obj)) ++ [] := hp
    cases hp⟩
/-- a turn is over: the block again as it began, but for the heap -/
theorem blk_turn {X Y : Cx} {fp : List Addr} {it : Addr} {tg : Expr} {J : It} {tn : Nat → Heap → Prop} {P : Program} {w : World} {K : PySem.W.Frag} (T : Turn P w K tg J fp it tn) {i : Nat} {h7 : Heap} (st : tn (i + 1) h7) {σ0 σ8 : L2.St} {vs : List Nat} {H' : Hp} {s' : Shared} (hw : wipe σ8 vs = wipe σ0 vs)
    (JJ : Inv Y ([] ++ pinsAt fp h7) σ8 H' s') : Inv Y [] (wipe σ0 vs) H' s' ∧ tn (i + 1) s'.heap ∧ ∀ b ∈ fp, H' b = none := by
  have held : ∀ b ∈ fp, ∀ o, h7.get? b = some o → s'.heap.get? b = some o ∧ H' b = none := fun b hb o e => by
    have z := JJ.pin (b, o) (List.mem_append_right _ (List.mem_append_right _ (mem_pinsAt hb e)))
    exact ⟨z.1, z.2.1⟩
  refine ⟨(JJ.unpinned (pins := [])).weak (by rw [← hw, wipe_length]) (fun j v e => ?_), T.keep _ _ _ st fun b hb o e => (held b hb o e).1, fun b hb => ?_⟩
  · rw [← hw] at e
    exact (wipe_some e).1
  · obtain ⟨o, e, _⟩ := T.obj _ _ st b hb
    exact (held b hb o e).2
theorem dcT_core {X : Cx} {pins : List (Addr × Obj)} {s : Shared} {σ : L2.St} {H : Hp} {Q : VK} {kx vx tg iter : Expr} {scope : Scope} {own : List (Str × Nat)} {pos pos' : Pos} {wi : TI} {g : TG} {tk tv : TE} {use : Option (Value → Sem Unit)} {Qf : Value → Shared → Prop} (hu : X.A.units < cLine) (calm : X.calm = true) (nd : X.N.Nodup) (I : Inv X pins σ H s) (hi : PI X tg iter wi) (ok : BlkOk X.N X.env.scope scope own)
    (hg : ∀ (s : Shared) (H : Hp) (C : Addr) (cl : List (Str × Addr)) (fp : List Addr), PG (X.blk s H scope (compEnvC scope cl C X.env) fp) tg g)
    (hk : ∀ (s : Shared) (H : Hp) (C : Addr) (cl : List (Str × Addr)) (fp : List Addr), PE (X.blk s H scope (compEnvC scope cl C X.env) fp) kx tk)
    (hv : ∀ (s : Shared) (H : Hp) (C : Addr) (cl : List (Str × Addr)) (fp : List Addr), PE (X.blk s H scope (compEnvC scope cl C X.env) fp) vx tv) (hfs : ∀ x, foldedSetIterable iter X.env x = pure x) (h : tDcT wi g tk tv (own.map (·.2)) σ H Q)
    (fin : ∀ D C s' m H', Inv X pins σ H' s' → Q (.ref D) H' → s'.heap.Ns C m → FpOk X pins H' C → compPost (model X.prog X.w) X.A X.xe use Qf (.ref D) C (.ok .next) s') :
    wpAny (model X.prog X.w) X.A (comprehension (.DictComp kx vx [⟨tg, iter, [], 0⟩] scope pos) scope X.env pos' newDict false (eval iter X.env) use) Qf X.xe s := by
  have cells : ∀ y ∈ scope.names, y.2 = .free → ∃ c, X.env.cells.lookup y.1 = some c := fun y hy e => (ok.free y hy e).elim (fun k => I.ok.has _ (.inl k)) fun k => I.ok.has _ (.inr k)
  refine wpAny_comprehension_free (use := use) rfl hfs (closure_ok cells) ok.kind (fun y hy e => by rw [ok.uniq y hy, e]) (thn (hi.run pins s σ H _ I h) fun xv sa ha => thn ha fun itv sb hb => ?_)
  obtain ⟨it, fp, tn, J, Hb, rfl, Ib, T, stb, fb, rest⟩ := hb
  refine wpAny_newObj_type (newEnv_comp ?_)
  obtain ⟨W, ⟨m0, w0⟩, turn⟩ := rest sb.heap.objs.size (Ib.hok.fresh (Nat.le_refl _))
  have Ic : Inv X pins σ (upd Hb sb.heap.objs.size (.dT [])) { sb with heap := sb.heap.push { cls := .type "dict", data := .dict #[] } } := Ib.laid (t' := sb.toks) (fun b o e => Heap.get?_push_of_some _ e) (Nat.le_refl _) (dt_empty sb.heap Ib.big)
  have stc : tn 0 (sb.heap.push { cls := .type "dict", data := .dict #[] }) := T.keep _ _ _ stb fun b _ o e => Heap.get?_push_of_some _ e
  have below : ∀ b ∈ fp, b < sb.heap.objs.size := fun b hb => by
    obtain ⟨o, e, _⟩ := T.obj _ _ stb b hb
    exact Heap.lt_size e
  have fc : ∀ b ∈ fp, FpOk X pins (upd Hb sb.heap.objs.size (.dT [])) b ∧ b < (sb.heap.push { cls := .type "dict", data := .dict #[] }).objs.size := fun b hb => by
    refine ⟨⟨?_, (fb b hb).2⟩, ?_⟩
    · rw [upd_ne (Nat.ne_of_lt (below b hb))]
      exact (fb b hb).1
    · rw [Heap.size_push]
      exact Nat.lt_succ_of_lt (below b hb)
  generalize sb.heap.objs.size = D at turn w0 Ic fc ⊢
  generalize hsc : ({ sb with heap := sb.heap.push { cls := .type "dict", data := .dict #[] } } : Shared) = sc at Ic ⊢
  have stc : tn 0 sc.heap := by rw [← hsc]; exact stc
  generalize upd Hb D (.dT []) = Hc at w0 Ic fc
  have fc : ∀ b ∈ fp, FpOk X pins Hc b ∧ b < sc.heap.objs.size := by rw [← hsc]; exact fc
  have Id := block_start Ic ok nd fc
  have pg := hg sc Hc sc.heap.objs.size (cellsFrom (sc.heap.objs.size + 1) scope.names (cloFrom X.env.cells scope.names [])) fp
  have pk := hk sc Hc sc.heap.objs.size (cellsFrom (sc.heap.objs.size + 1) scope.names (cloFrom X.env.cells scope.names [])) fp
  have pv := hv sc Hc sc.heap.objs.size (cellsFrom (sc.heap.objs.size + 1) scope.names (cloFrom X.env.cells scope.names [])) fp
  show codeAny _ _ (.compStart _ 0 (.ref it) (.ref D) (compEnvC scope (cellsFrom (sc.heap.objs.size + 1) scope.names (cloFrom X.env.cells scope.names [])) sc.heap.objs.size X.env)) (compPost _ _ _ _ _ (.ref D) sc.heap.objs.size) { sc with heap := pushCells (sc.heap.push { cls := .type "dict", data := .dict #[] }) scope.names }
  have std : tn 0 (pushCells (sc.heap.push { cls := .type "dict", data := .dict #[] }) scope.names) := T.keep _ _ _ stc fun b _ o e => pushCells_keeps _ _ _ _ (Heap.get?_push_of_some _ e)
  generalize ec : compEnvC scope (cellsFrom (sc.heap.objs.size + 1) scope.names (cloFrom X.env.cells scope.names [])) sc.heap.objs.size X.env = ce at Id pg pk pv ⊢
  have cl : ce.locals = sc.heap.objs.size := by rw [← ec]; rfl
  generalize ed : ({ sc with heap := pushCells (sc.heap.push { cls := .type "dict", data := .dict #[] }) scope.names } : Shared) = sd at Id ⊢
  have std : tn 0 sd.heap := by rw [← ed]; exact std
  have loop : codeAny (model X.prog X.w) X.A (.compLoop (.DictComp kx vx [⟨tg, iter, [], 0⟩] scope pos) 0 (.ref it) (.ref D) ce) (compPost (model X.prog X.w) X.A X.xe use Qf (.ref D) sc.heap.objs.size) sd := by
    refine compLoop_anyD (fun n s' => ∃ i H', Inv (X.blk sc Hc scope ce fp) [] (wipe σ (own.map (·.2))) H' s' ∧ tn i s'.heap ∧ (∀ b ∈ fp, H' b = none) ∧ W i n H') ?_ m0 ⟨0, Hc, Id, std, fun b hb => (fc b hb).1.1, w0⟩
    rintro n s5 ⟨i, H5, I5, st5, n5, w5⟩
    rcases turn i n H5 w5 with ⟨ends, qq⟩ | ⟨goes, Nx, hNx, step⟩
    · refine thnF (T.done (X.blk sc Hc scope ce fp) rfl rfl rfl calm i [] s5 _ H5 (fun _ _ => False) I5 (blk_free I5 n5) st5 ends) fun r s6 ⟨er, I6⟩ => ?_
      subst er
      have I7 : Inv X pins σ H5 s6 := Ic.call' (ch := fp) I6.os I6.base I6.hok I6.bare fun b hb => ⟨(fc b hb).1.2.2.2.1, (fc b hb).1.2.1, (fc b hb).1.2.2.2.2.1, (fc b hb).1.2.2.2.2.2⟩
      have nl : H5 sc.heap.objs.size = none := by
        rw [← cl]
        exact I6.free
      obtain ⟨m, hn, _⟩ := I6.loc
      have hn : s6.heap.Ns ce.locals m := hn
      rw [cl] at hn
      exact fin D sc.heap.objs.size s6 m H5 I7 qq hn (Ic.fpOk (Nat.le_refl _) nl)
    · refine thnF (T.item (X.blk sc Hc scope ce fp) rfl rfl rfl calm i [] s5 _ H5 (fun _ _ => False) I5 (blk_free I5 n5) st5 goes) fun r s6 ⟨u, er, h6⟩ => ?_
      subst er
      refine thnF h6 fun _ s7 ⟨x, H7, I7, r7, y7, st7, n7⟩ => ?_
      refine thnF (pg.run _ s7 _ H7 x u _ (I7.pinned (blk_free I7 n7) (T.obj _ _ st7)) r7 (step x H7 y7)) fun _ s8 ⟨σ8, H8, I8, hw8, q8⟩ => ?_
      rw [List.forIn_nil]
      refine wpAny_pure ?_
      rw [if_pos rfl]
      refine thnF (pk.run _ s8 σ8 H8 _ I8 q8) fun v9 s9 ⟨y9, H9, I9, r9, q9⟩ => ?_
      refine thnF (pv.run _ s9 σ8 H9 _ I9 q9) fun v10 s10 ⟨z10, H10, I10, r10, kvs, ks, b, ey, eb, eD, lz, nx⟩ => ?_
      subst ey
      cases (show v9 = Value.ref b from r9)
      refine dset_t (X := X.blk sc Hc scope ce fp) hu I10 eD eb lz r10 fun s11 I11 => ?_
      obtain ⟨m', hm, w'⟩ := hNx _ nx
      obtain ⟨a1, a2, a3⟩ := blk_turn (X := X) T st7 hw8 I11
      exact ⟨m', hm, i + 1, _, a1, a2, a3, w'⟩
  exact codeAny_compStart_dict loop (T.self X.A 0 _ _ _ std loop)
theorem pe_dcT {X : Cx} {kx vx tg iter : Expr} {scope : Scope} {own : List (Str × Nat)} {pos : Pos} {wi : TI} {g : TG} {tk tv : TE} (hu : X.A.units < cLine) (calm : X.calm = true) (nd : X.N.Nodup) (hi : PI X tg iter wi) (ok : BlkOk X.N X.env.scope scope own)
    (hg : ∀ (s : Shared) (H : Hp) (C : Addr) (cl : List (Str × Addr)) (fp : List Addr), PG (X.blk s H scope (compEnvC scope cl C X.env) fp) tg g)
    (hk : ∀ (s : Shared) (H : Hp) (C : Addr) (cl : List (Str × Addr)) (fp : List Addr), PE (X.blk s H scope (compEnvC scope cl C X.env) fp) kx tk)
    (hv : ∀ (s : Shared) (H : Hp) (C : Addr) (cl : List (Str × Addr)) (fp : List Addr), PE (X.blk s H scope (compEnvC scope cl C X.env) fp) vx tv) (hfs : ∀ x, foldedSetIterable iter X.env x = pure x := by intro _; rfl) :
    PE X (.DictComp kx vx [⟨tg, iter, [], 0⟩] scope pos) (tDcT wi g tk tv (own.map (·.2))) := by
  refine ⟨fun pins s σ H Q I h => ?_⟩
  rw [arm_eval_DictComp]
  refine dcT_core hu calm nd I hi ok hg hk hv hfs h fun D C s' m H' I' q hn f => ⟨m, hn, fun h'' sb => ?_⟩
  obtain ⟨f0, f1, f2, f3, f4, f5⟩ := f
  exact ⟨.ref D, H', I'.turned (t' := s'.toks) (fun b o hb e => (sb.2 b hb).trans e) f0 f1 f3 f4 f5, rfl, q⟩
/-- a name on the same line takes it, before the block's own names go -/
theorem ps_setDcT {X : Cx} {i : Nat} {y : Str} {py : Pos} {kx vx tg iter : Expr} {scope : Scope} {own : List (Str × Nat)} {pos spos : Pos} {wi : TI} {g : TG} {tk tv : TE} (hu : X.A.units < cLine) (calm : X.calm = true) (nd : X.N.Nodup) (at_ : X.N[i]? = some y) (loc : X.env.scope.names.lookup y = some .local)
    (sw : swapsWith (.DictComp kx vx [⟨tg, iter, [], 0⟩] scope pos) (some (.Name y py)) spos.line X.env = pure true) (hi : PI X tg iter wi) (ok : BlkOk X.N X.env.scope scope own)
    (hg : ∀ (s : Shared) (H : Hp) (C : Addr) (cl : List (Str × Addr)) (fp : List Addr), PG (X.blk s H scope (compEnvC scope cl C X.env) fp) tg g)
    (hk : ∀ (s : Shared) (H : Hp) (C : Addr) (cl : List (Str × Addr)) (fp : List Addr), PE (X.blk s H scope (compEnvC scope cl C X.env) fp) kx tk)
    (hv : ∀ (s : Shared) (H : Hp) (C : Addr) (cl : List (Str × Addr)) (fp : List Addr), PE (X.blk s H scope (compEnvC scope cl C X.env) fp) vx tv) (hfs : ∀ x, foldedSetIterable iter X.env x = pure x := by intro _; rfl) :
    PS X (.Assign [.Name y py] (.DictComp kx vx [⟨tg, iter, [], 0⟩] scope pos) spos) (tAsg (tDcT wi g tk tv (own.map (·.2))) (gName i)) := by
  refine ⟨fun pins s σ H D I h => ?_⟩
  rw [exec_Assign_Name_used _ _ _ _ sw]
  refine wpAny_bind (wpAny_standAt (wpAny_bind ?_))
  show wpAny _ X.A (do let _ ← comprehension (.DictComp kx vx [⟨tg, iter, [], 0⟩] scope pos) scope X.env (firstIterPos [⟨tg, iter, [], 0⟩] pos) newDict false (eval iter X.env) (some (assign (.Name y py) X.env))) _ _ s
  have h : tDcT wi g tk tv (own.map (·.2)) σ H (fun x H1 => gName i x σ H1 D.nx) := h
  refine wpAny_bind (thn (dcT_core (Qf := fun _ s' => SP X pins D .next s') hu calm nd I hi ok hg hk hv hfs h fun L C s' m H' I' q hn f => ?_) fun _ s' hq => wpAny_pure (wpAny_pure hq))
  show wpAny _ _ (assign (.Name y py) X.env (.ref L)) _ _ _
  refine wpAny_assign_Name (store_ok2 (v := V.ref L) I' nd at_ (.inl loc) rfl (fun s2 I2 ⟨a, sb, ha⟩ => ?_) (.inr loc))
  obtain ⟨f0, f1, f2, f3, f4, f5⟩ := f
  have apart : C ≠ a := by
    rcases ha with z | z
    · rw [z]
      exact f1
    · exact fun e => f4 y a z e.symm
  exact ⟨m, hn.sameBut sb apart, fun h3 sb3 => ⟨_, H', I2.turned (t' := s2.toks) (fun b o hb e => (sb3.2 b hb).trans e) f0 f1 f3 f4 f5, q⟩⟩
theorem swD_true {kx vx : Expr} {gs : List Comprehension} {scope : Scope} {pos py : Pos} {y : Str} {l : Nat} {env : Env} (hk : env.scope.kind = .function) (hy : env.scope.names.lookup y = some .local) (hl : (py.line == pos.line) = true)
    (ha : (scope.names.any fun (n, k) => n == y && (k == .local || k == .cell)) = false) : swapsWith (.DictComp kx vx gs scope pos) (some (.Name y py)) l env = pure true := by
  have ky : env.kindOf y = some .local := hy
  have hb : env.blockKind = .function := by unfold Env.blockKind; rw [hk]; rfl
  unfold swapsWith
  simp only [hb, ky, ha, Expr.pos, hl]
  rfl
theorem dcT_it {J : It} {n : Nat} {G : Hp → Prop} {Y : Nat → Hp → V → Hp → Prop} (w : Walk J n G Y) {g : TG} {tk tv : TE} {vs : List Nat} {σ : L2.St} {H1 : Hp} {D : Addr} {Qd : Hp → Prop} (Pv : Nat → Hp → Prop) (h0 : Pv 0 (upd H1 D (.dT []))) (hG : ∀ i H, i ≤ n → Pv i H → G H)
    (hs : ∀ i x H H', i < n → Pv i H → Y i H x H' → g x (wipe σ vs) H' fun σ2 H2 => wipe σ2 vs = wipe σ vs ∧ tk σ2 H2 fun y H3 => tv σ2 H3 fun z H4 => PutT D y z H4 (Pv (i + 1))) (hd : ∀ H, Pv n H → Qd H) :
    ∃ W : Nat → Nat → Hp → Prop, (∃ m, W 0 m (upd H1 D (.dT []))) ∧ ∀ i m H, W i m H → (J.stop i H ∧ Qd H) ∨ (J.go i H ∧ ∃ Nx : Hp → Prop, (∀ H', Nx H' → ∃ m', m' < m ∧ W (i + 1) m' H') ∧ ∀ x H', J.yld i H x H' → g x (wipe σ vs) H' fun σ2 H2 => wipe σ2 vs = wipe σ vs ∧ tk σ2 H2 fun y H3 => tv σ2 H3 fun z H4 => PutT D y z H4 Nx) := by
  refine ⟨fun i m H => m = n - i ∧ i ≤ n ∧ Pv i H, ⟨n, rfl, Nat.zero_le _, h0⟩, ?_⟩
  rintro i m H ⟨rfl, hi, pv⟩
  have hq := hG i H hi pv
  by_cases hlt : i < n
  · exact .inr ⟨w.goes i H hlt hq, Pv (i + 1), fun H' p' => ⟨n - (i + 1), by omega, rfl, hlt, p'⟩, fun x H' y => hs i x H H' hlt pv (w.yields i H x H' hlt hq y)⟩
  · obtain rfl : i = n := by omega
    exact .inl ⟨w.stops H hq, hd H pv⟩
end Pf


namespace Pf
open PySem PySem.Spec PyProof.Rows L2
/-! ### a list lengthened in its place -/
theorem lk_iadd : typeLookup (.type "list") (dunderI "add") = pure (some (.builtin "list.__iadd__")) := PySem.F.slot_list_iadd.lookup
theorem nf_list : fillsNumberSlot (.type "list") "add" = pure false := by kernel_rfl
theorem iadd_lst {M : Model} {A : Around} {E : Value → Shared → Prop} {s : Shared} {a b : Value} {Q : Value → Shared → Prop} (ha : s.TypeIs a "list") (hb : s.TypeIs b "list") (hc : wpAny M A (call (.builtin "list.__iadd__") [a, b]) Q E s) : wpAny M A (inplaceOp .Add a b) Q E s := by
  unfold inplaceOp
  refine wpAny_holding ?_
  have h1 : fillsInplaceSlot (.type "list") "add" (Operator.Add == .Add) = pure false := by
    unfold fillsInplaceSlot
    show (typeLookup (.type "list") (dunderI "add") >>= fun z => pure (z.isSome && !isSeqSlot z)) = pure false
    rw [lk_iadd]
    kernel_rfl
  have h2 : seqSlot? (.type "list") (dunderI "add") = pure (some (.builtin "list.__iadd__")) := PySem.seqSlot_of lk_iadd (by kernel_rfl)
  refine wpAny_bind (wpAny_typeOf ha (wpAny_bind (wpAny_of_eq h1 ?_)))
  show wpAny M A (if false = true then _ else _) Q E s
  rw [if_neg Bool.false_ne_true]
  exact wpAny_bind (wpAny_binaryOp1_none (nm := "add") ha hb nf_list (wpAny_bind (wpAny_of_eq h2 (wpAny_bind (wpAny_rule hc)))))
def rIext : TIp := fun x y H Q => ∃ l b xs zs, x = .ref l ∧ y = .ref b ∧ H l = some (.lst xs) ∧ H b = some (.lst zs) ∧ xs.length + zs.length ≤ sizeLine ∧ Q (.ref l) (upd H l (.lst (xs ++ zs)))
theorem ip_ext {X : Cx} : PIp X .Add rIext := by
  intro pins s σ H x y v u Q I rx ry h
  obtain ⟨l, b, xs, zs, rfl, rfl, hH, hB, hz, q⟩ := h
  cases rx
  cases ry
  obtain ⟨z, its, n, r, hl, e⟩ := I.lstM hH
  obtain ⟨z2, its2, n2, r2, hl2, e2⟩ := I.lstM hB
  have hs2 : its.toArray.size + its2.toArray.size ≤ sizeLine := by
    rw [List.size_toArray, List.size_toArray]
    omega
  have long : ¬ (!its.toArray.isEmpty && Builtin.List.listTooLong (its.toArray.size + its2.toArray.size)) = true := by
    rw [notLongL hs2, Bool.and_false]
    exact Bool.false_ne_true
  refine iadd_lst ⟨_, e, rfl⟩ ⟨_, e2, rfl⟩ (call_meets PySem.F.slot_list_iadd ⟨_, e, rfl⟩ PySem.F.entry_list_iadd (PySem.F.args_list_iadd_2 _ _) (AutoSeq1.list___iadd___list_list_0 l its.toArray n b its2.toArray n2 long (by rw [List.size_toArray]; omega) (by omega)) ⟨e, e2, ?_⟩)
  refine ⟨.ref l, _, I.lset (its' := its ++ its2) hH e (by simp) (r.append r2) ?_, rfl, q⟩
  rw [List.length_append]
  omega
end Pf


namespace Pf
open PySem PySem.Spec PyProof.Rows L2
/-! ### sorted of a dict by tuples -/
theorem obj_there {P : Program} {w : World} {H : Hp} {h : Heap} {a : Addr} {o : HO} (x : ObjOk P w H h a o) : ∃ u, h.get? a = some u := by
  cases o with
  | lst _ =>
    obtain ⟨_, _, _, _, e⟩ := x
    exact ⟨_, e⟩
  | tup _ =>
    obtain ⟨_, _, _, u, e, _⟩ := x
    exact ⟨u, e⟩
  | dK _ =>
    obtain ⟨_, _, _, _, u, _, _, e, _⟩ := x
    exact ⟨u, e⟩
  | dT _ =>
    obtain ⟨_, _, _, _, u, _, _, e, _⟩ := x
    exact ⟨u, e⟩
  | set _ _ =>
    obtain ⟨u, _, _, _, e, _⟩ := x
    exact ⟨u, e⟩
  | ins _ _ _ =>
    obtain ⟨_, _, _, e, _⟩ := x
    exact ⟨_, e⟩
  | own _ => exact x
  | xd _ =>
    obtain ⟨_, ⟨u, _, _, e, _⟩, _⟩ := x
    exact ⟨u, e⟩
  | rng _ _ =>
    obtain ⟨_, _, _, e⟩ := x
    exact ⟨_, e⟩
  | frz u _ => exact ⟨u, x.1⟩
  | tbl _ => exact ⟨_, x⟩
  | met _ _ => exact ⟨_, x⟩
  | ext _ => exact x.2.1
def rSortKT (K : PySem.W.Frag) : List V → Hp → VK → Prop := fun vs H Q => ∃ (d : Addr) (kvs : List (List Key × V)), vs = [.ref d] ∧ Rd H d (.dT kvs) ∧ ∀ bs : List Addr, IsKeys H kvs bs → ∃ (β : Type) (ad : β → Addr) (dd : β → PyData) (ys : List β), bs = ys.map ad ∧ (∀ y ∈ ys, Dp K H (.ref (ad y)) (dd y) ∧ (dd y).depth ≤ 50) ∧
  PySem.W.AllAlike (ys.map dd) ∧ PySem.W.Sortable (ys.map dd) ∧ ∀ p, H p = none → Q (.ref p) (upd H p (.lst ((ys.mergeSort (PySem.W.dataLe false dd)).map fun y => .ref (ad y))))
theorem cr_sortKT (K : PySem.W.Frag) {X : Cx} (calm : X.calm = true) (hu : X.A.units + 64 < cLine) (hK : X.K = K := by rfl) : CallR X (.builtin "sorted") (rSortKT K) := by
  subst hK
  intro pins s σ H vs us Q I r h
  obtain ⟨d, kvs, rfl, hd, q⟩ := h
  obtain ⟨u, rfl, er⟩ := vals1 r
  cases er
  obtain ⟨z, hs, ks, pr, o, es, ep, ho, hx, hdt, he, hn⟩ := (show ObjOk X.prog X.w H s.heap d (.dT kvs) from hd.ok I.hok)
  have l1 : es.size = ks.length := size_of_entries he
  have l2 : kvs.length = ks.length := Paired.length pr
  obtain ⟨β, ad, dd, ys, eys, hy, al, so, qq⟩ := q _ (isKeys_of pr)
  have hyl : ys.length = ks.length := by
    have := congrArg List.length eys
    rw [List.length_map, List.length_map] at this
    exact this.symm
  refine Calls.call_function_entry kind_sorted plain_sorted entry_sorted (args_sorted1 _) ?_
  unfold Builtin.«sorted»
  refine wpAny_bind (m := checkCount "sorted" 1 1 _) (wpAny_pure ?_)
  refine wpAny_bind (PySem.W.kdu_collect (kdl_raw hs hx hdt) (I.ok.hd calm) ho (by omega) fun h1 tk acc kp items => ?_)
  have ea : acc.toList = ys.map fun y => Value.ref (ad y) := by
    have e0 : (ks.map fun x => x.2.1).map Value.ref = ys.map fun y => Value.ref (ad y) := by
      rw [eys, List.map_map]
      rfl
    rw [← e0]
    refine List.ext_getElem? fun j => ?_
    rw [List.getElem?_map, List.getElem?_map]
    cases hj : acc.toList[j]? with
    | none =>
      have := List.getElem?_eq_none_iff.mp hj
      rw [Array.length_toList, items.1] at this
      rw [List.getElem?_eq_none (by omega)]
      rfl
    | some v =>
      obtain ⟨en, hen, hv⟩ := items.2 j v (by rw [← Array.getElem?_toList]; exact hj)
      have qe := entry_at he j
      rw [hen] at qe
      cases hb : ks[j]? with
      | none =>
        rw [hb] at qe
        exact nomatch (show some en = none from qe)
      | some b =>
        rw [hb] at qe
        rw [hv, Option.some.inj (show some en = some (entryOfKey (tupleKind (mixKind X.prog X.w)) b) from qe)]
        rfl
  have hz2 : acc.toList.length ≤ sizeLine := by
    rw [ea, List.length_map]
    omega
  refine wpAny_bind (wpAny_newList ?_ hz2)
  have hat : (h1.push (seqObj "list" acc.toList.toArray 0)).get? h1.objs.size = some (seqObj "list" acc.toList.toArray 0) := Heap.get?_push_size _ rfl
  have hlt : ∀ b ob, s.heap.get? b = some ob → b ≠ h1.objs.size := fun b ob e => Nat.ne_of_lt (Heap.lt_size (kp b ob e))
  have old : ∀ b ob, s.heap.get? b = some ob → (h1.push (seqObj "list" acc.toList.toArray 0)).get? b = some ob := fun b ob e => Heap.get?_push_of_some _ (kp b ob e)
  have rel : PySem.W.EachIs (fun (v : Value) (y : β) => RelV (V.ref (ad y)) v) acc.toList ys := by
    rw [ea]
    clear q qq eys hy al so hyl ea
    induction ys with
    | nil => exact .nil
    | cons y t ih => exact .cons rfl ih
  have rv : Vals (ys.map fun y => V.ref (ad y)) acc.toList := vals_each (v := fun y => V.ref (ad y)) rel
  have rd : PySem.W.EachIs (fun (v : Value) (y : β) => ∃ as, Reads (PySem.W.sortingHeap (h1.push (seqObj "list" acc.toList.toArray 0)) h1.objs.size acc.toList) v (dd y) as) acc.toList ys := (each_reads (v := fun y => V.ref (ad y)) I rv fun y hy' => (hy y hy').1).mono fun _ _ ⟨as, w⟩ => ⟨as, PyProof.Rows.Reads.keeps (fun b ob e => PySem.W.sortingHeap_old (hlt b ob e) (old b ob e)) w⟩
  have hub : ∀ y ∈ ys, X.A.in1.in1.units + (dd y).depth < cLine := fun y hy' => by
    have := (hy y hy').2
    show X.A.units + 2 + (dd y).depth < cLine
    omega
  have S := PySem.W.SortsAt.data (prog := X.prog) (w := X.w) (A := X.A.in1.in1) (s := { s with heap := PySem.W.sortingHeap (h1.push (seqObj "list" acc.toList.toArray 0)) h1.objs.size acc.toList, toks := tk }) (PySem.W.each_map (R := fun v d => ∃ as, Reads (PySem.W.sortingHeap (h1.push (seqObj "list" acc.toList.toArray 0)) h1.objs.size acc.toList) v d as) dd rd) al so (PySem.W.bound_map hub)
  refine wpAny_bind (wpAny_holding (wpAny_call_entry slot_list_sort ⟨_, hat, rfl⟩ entry_list_sort ?body (args_list_sort _)))
  case body =>
    refine PySem.W.list_sort_vals (s := { s with heap := h1.push (seqObj "list" acc.toList.toArray 0), toks := tk }) hat S hz2 ⟨_, rfl, wpAny_pure ⟨_, rfl, ?_⟩⟩
    have each := PySem.W.sortVals_data false rel rd al
    generalize PySem.W.sortVals (PySem.W.dataKind (PySem.W.sortingHeap (h1.push (seqObj "list" acc.toList.toArray 0)) h1.objs.size acc.toList) (ys.map dd)) false acc.toList acc.toList = out at each ⊢
    obtain ⟨ee, he'⟩ := PyProof.Rows.sortedHeap_at (vs := acc.toList) (out := out.toArray) hat
    have hl2 : ((ys.mergeSort (PySem.W.dataLe false dd)).map fun y => V.ref (ad y)).length ≤ sizeLine := by
      rw [List.length_map, List.length_mergeSort]
      omega
    have gone : s.heap.get? h1.objs.size = none := by
      cases e : s.heap.get? h1.objs.size with
      | none => rfl
      | some ob => exact absurd rfl (hlt _ ob e)
    have free : H h1.objs.size = none := by
      cases e : H h1.objs.size with
      | none => rfl
      | some u =>
        obtain ⟨ob, e2⟩ := obj_there (I.hok _ _ e)
        rw [gone] at e2
        cases e2
    exact ⟨.ref h1.objs.size, upd H h1.objs.size (.lst ((ys.mergeSort (PySem.W.dataLe false dd)).map fun y => V.ref (ad y))), I.laidN (t' := tk) (fun b ob e => by rw [PyProof.Rows.sortedHeap_old (hlt b ob e) (Heap.lt_size (old b ob e))]; exact old b ob e) gone free ⟨hl2, out, ee, vals_each (v := fun y => V.ref (ad y)) each, by simpa using he'⟩, rfl, qq _ free⟩
end Pf


namespace Pf
open PySem PySem.Spec PyProof.Rows L2
/-! ### a text so many times: some text of its letters, no longer than it may be -/
theorem rep_cps (x : Array Nat) : ∀ (n : Nat) (acc : Array Nat), (((List.replicate n x).foldl (· ++ ·) acc).size = acc.size + x.size * n) ∧ ∀ c ∈ ((List.replicate n x).foldl (· ++ ·) acc).toList, c ∈ acc.toList ∨ c ∈ x.toList
  | 0, acc => ⟨by rw [Nat.mul_zero]; rfl, fun c h => .inl h⟩
  | n + 1, acc => by
    have ih := rep_cps x n (acc ++ x)
    rw [List.replicate_succ, List.foldl_cons]
    refine ⟨?_, fun c h => ?_⟩
    · rw [ih.1, Array.size_append, Nat.mul_succ]
      omega
    · rcases ih.2 c h with z | z
      · rw [Array.toList_append, List.mem_append] at z
        exact z
      · exact .inr z
def rRepS : R2 := fun x y H Q => ∃ (z : Str) (k : Int), x = .str z ∧ y = .int k ∧ 0 ≤ k ∧ k ≤ 1000 ∧ z.length ≤ 1000 ∧ ∀ w : Str, w.length ≤ z.length * k.toNat → (∀ c ∈ w.cps.toList, c ∈ z.cps.toList) → Q (.str w) H
theorem op_repS {X : Cx} : OpR X (binaryOp .Mult) rRepS := by
  intro pins s σ H x y v u Q I rx ry h
  obtain ⟨z, k, rfl, rfl, k0, k1, hz, q⟩ := h
  obtain ⟨t, rfl⟩ := rx
  obtain ⟨t2, rfl⟩ := ry
  have hm : z.length * k.toNat ≤ 1000 * 1000 := Nat.mul_le_mul hz (by omega)
  have hbig : (z.length : Int) * k ≤ 1000 * 1000 := Int.mul_le_mul (by omega) k1 k0 (by decide)
  refine PySem.P.mul_str (by rw [decide_eq_false (by omega), decide_eq_false (by omega)]; rfl) (fun h1 _ z2 => ?_) (fun _ _ => ?_) ?_
  · have h3 : (1000 : Int) ≤ (2 ^ 63 - 1) / k := by
      rw [Int.le_ediv_iff_mul_le (by omega)]
      omega
    omega
  · unfold Builtin.Str.tooLong
    exact decide_eq_false (by rw [sizeLine_eq]; omega)
  · by_cases c1 : k < 1
    · rw [if_pos c1]
      exact ⟨by decide, .str Str.empty, H, I.tok _, ⟨_, rfl⟩, q _ (Nat.zero_le _) (fun c hc => by cases hc)⟩
    · rw [if_neg c1]
      by_cases c2 : (k == 1 || z.length == 0) = true
      · rw [if_pos c2]
        refine ⟨.str z, H, I, ⟨_, rfl⟩, q z ?_ fun _ hc => hc⟩
        exact Nat.le_mul_of_pos_right _ (by omega)
      · rw [if_neg c2]
        have hr := rep_cps z.cps k.toNat #[]
        have hl : (⟨(List.replicate k.toNat z.cps).foldl (· ++ ·) #[]⟩ : Str).length = z.length * k.toNat := by
          show ((List.replicate k.toNat z.cps).foldl (· ++ ·) #[]).size = _
          rw [hr.1]
          show 0 + z.length * k.toNat = _
          omega
        refine ⟨?_, .str _, H, I.tok _, ⟨_, rfl⟩, q _ (Nat.le_of_eq hl) fun c hc => ?_⟩
        · rw [hl, sizeLine_eq]
          omega
        · rcases hr.2 c hc with y | y
          · cases y
          · exact y
/-! ### a list under way -/
section
variable {β : Type} {R : Hp → V → β → Prop} {D : Addr} {H H1 H4 : Hp} {ys : List β} {v : V} {b : β}
def GenL (R : Hp → V → β → Prop) (D : Addr) (H1 : Hp) (ys : List β) (H : Hp) : Prop := ∃ vs, H D = some (.lst vs) ∧ Paired (R H) vs ys ∧ Ext H1 H
theorem genl_new (hD : H1 D = none) : GenL R D H1 [] (upd H1 D (.lst [])) := ⟨[], upd_same, .nil, Ext.new hD⟩
theorem GenL.ext (h : GenL R D H1 ys H) : Ext H1 H := by
  obtain ⟨_, _, _, k⟩ := h
  exact k
theorem GenL.keep (m : Mono R) (h : GenL R D H1 ys H) (k : Ext H H4) : GenL R D H1 ys H4 := by
  obtain ⟨vs, hL, hP, k1⟩ := h
  exact ⟨vs, k _ _ hL, paired_imp (fun _ _ => m _ _ _ _ (TupK.ext k)) hP, k1.trans k⟩
theorem genl_step (m : Mono R) (hD : H1 D = none) (h : GenL R D H1 ys H) (k : Ext H H4) (hv : R H4 v b) (hn : ys.length < 1000000) : ∃ acc, H4 D = some (.lst acc) ∧ acc.length < sizeLine ∧ GenL R D H1 (ys ++ [b]) (upd H4 D (.lst (acc ++ [v]))) := by
  obtain ⟨vs, hL, hP, k1⟩ := h
  have hl := paired_len hP
  have hL4 := k _ _ hL
  exact ⟨vs, hL4, szLt (by omega), vs ++ [v], upd_same, paired_app (paired_imp (fun _ _ => m _ _ _ _ ((TupK.ext k).trans (TupK.lst hL4))) hP) (.cons (m _ _ _ _ (TupK.lst hL4) hv) .nil), (k1.trans k).put hD⟩
/-- one more at its end -/
theorem app_ok {Q : VK} (m : Mono R) (hD : H1 D = none) (h : GenL R D H1 ys H) (k : Ext H H4) (hv : R H4 v b) (hn : ys.length < 1000000) (q : ∀ H', GenL R D H1 (ys ++ [b]) H' → Q .non H') : rAppend (.ref D) [v] H4 Q := by
  obtain ⟨acc, h1, h2, h3⟩ := genl_step m hD h k hv hn
  exact ⟨D, acc, v, rfl, rfl, h1, h2, q _ h3⟩
theorem GenL.sq {K : PySem.W.Frag} (h : GenL R D H1 ys H) : ∃ vs, SqL K H D vs := by
  obtain ⟨vs, h1, _⟩ := h
  exact ⟨vs, SqL.of h1⟩
end
theorem putT_len (c : List (List Key × V)) (k : List Key) (v : V) : (putK c k v).length ≤ c.length + 1 := by
  unfold putK
  split
  · rw [List.length_map]
    omega
  · rw [List.length_append, List.length_singleton]
    exact Nat.le_refl _
end Pf


namespace Pf
open PySem PySem.Spec PyProof.Rows L2
def topS (i : Nat) : Stmt := PySem.Challenge.pw_pairfolds_k39_kinds_of_near_foldings.main.body.getD i (.Pass ⟨0, 0, 0, 0⟩)
/-! ### the pen: a list of cells, a place, a rest -/
def Pen (H : Hp) (p c : Addr) (n : Nat) : Prop := ∃ (cells : List Int) (a r : Int), H p = some (.lst [.ref c, .int a, .int r]) ∧ H c = some (.lst (cells.map V.int)) ∧ 0 ≤ a ∧ a ≤ n ∧ 0 ≤ r ∧ cells.length ≤ 63
section
variable {H H' : Hp} {p c q : Addr} {n m : Nat} {o : HO}
theorem Pen.mono (h : Pen H p c n) (l : n ≤ m) : Pen H p c m := by
  obtain ⟨cells, a, r, h1, h2, h3, h4, h5, h6⟩ := h
  exact ⟨cells, a, r, h1, h2, h3, by omega, h5, h6⟩
theorem Pen.put (h : Pen H p c n) (hp : q ≠ p) (hc : q ≠ c) : Pen (upd H q o) p c n := by
  obtain ⟨cells, a, r, h1, h2, h3⟩ := h
  exact ⟨cells, a, r, by rw [upd_ne hp.symm]; exact h1, by rw [upd_ne hc.symm]; exact h2, h3⟩
theorem Pen.ne (h : Pen H p c n) (hq : H q = none) : q ≠ p ∧ q ≠ c := by
  obtain ⟨cells, a, r, h1, h2, h3⟩ := h
  exact ⟨(ne_of_none h1 hq).symm, (ne_of_none h2 hq).symm⟩
theorem Pen.new (h : Pen H p c n) (hq : H q = none) : Pen (upd H q o) p c n := h.put (h.ne hq).1 (h.ne hq).2
theorem Pen.tup (h : Pen H p c n) {b : Addr} {xs : List V} (e : H b = some (.tup xs)) : b ≠ p := by
  obtain ⟨cells, a, r, h1, _⟩ := h
  exact ne_of e h1 (by intro z; cases z)
theorem Pen.frz (h : Pen H p c n) {b : Addr} {ob : Obj} {u : HO} (e : H b = some (.frz ob u)) : b ≠ p := by
  obtain ⟨cells, a, r, h1, _⟩ := h
  exact ne_of e h1 (by intro z; cases z)
theorem Pen.ext (h : Pen H p c n) (k : Ext H H') : Pen H' p c n := by
  obtain ⟨cells, a, r, h1, h2, h3⟩ := h
  exact ⟨cells, a, r, k _ _ h1, k _ _ h2, h3⟩
end
theorem TupK.of {p c : Addr} {n : Nat} {H H' : Hp} (k : Kp p H H') (hP : Pen H p c n) : TupK H H' := ⟨fun b _ e => k b _ (hP.tup e) e, fun b _ _ e => k b _ (hP.frz e) e⟩
theorem Kp.ext {p : Addr} {H H' : Hp} (k : Ext H H') : Kp p H H' := fun b o _ e => k b o e
theorem dpInts {K : PySem.W.Frag} {H : Hp} : ∀ cells : List Int, DpAll K H (cells.map V.int) (cells.map PyData.int)
  | [] => .nil
  | _ :: r => .cons (.int _) (dpInts r)
theorem cut_ints (ns : List Int) (lo hi : Option Int) : ∃ cs : List Int, cutV (ns.map V.int) lo hi = cs.map V.int ∧ cs.length ≤ ns.length := by
  unfold cutV
  refine ⟨(ns.drop _).take _, by rw [List.map_take, List.map_drop], ?_⟩
  rw [List.length_take, List.length_drop]
  omega
theorem mod_b (z m : Int) (h : 0 < m) (h2 : m < 2 ^ 64) : -(2 ^ 64) < z % m ∧ z % m < 2 ^ 64 := by
  have h3 := Int.emod_nonneg z (show m ≠ 0 by omega)
  have h4 := Int.emod_lt_of_pos z h
  omega
theorem draw_b1 {z a : Int} (a0 : 0 ≤ a) (a1 : a ≤ 1000000) : (z % 2147483579 + 43793 * a + 97).natAbs < 2 ^ 64 := by
  have h3 := Int.emod_nonneg z (show (2147483579 : Int) ≠ 0 by decide)
  have h4 := Int.emod_lt_of_pos z (show (0 : Int) < 2147483579 by decide)
  omega
theorem draw_b3 (z : Int) {a : Int} (a0 : 0 ≤ a) (a1 : a ≤ 1000000) : (z % 2147483647 * (a + 39119) + 81667 * a * a).natAbs < 2 ^ 64 := by
  have h3 := Int.emod_nonneg z (show (2147483647 : Int) ≠ 0 by decide)
  have h4 := Int.emod_lt_of_pos z (show (0 : Int) < 2147483647 by decide)
  have h1 : z % 2147483647 * (a + 39119) ≤ 2147483647 * 1039119 := Int.mul_le_mul (by omega) (by omega) (by omega) (by decide)
  have h2 : 0 ≤ z % 2147483647 * (a + 39119) := Int.mul_nonneg h3 (by omega)
  have h5 : 81667 * a * a ≤ 81667 * 1000000 * 1000000 := Int.mul_le_mul (by omega) a1 a0 (by decide)
  have h6 : 0 ≤ 81667 * a * a := Int.mul_nonneg (by omega) a0
  omega
section
variable {P : Program} {w : World} {K : PySem.W.Frag} {mg : Str → Option Value} {base : Heap}
abbrev s_law_pen : Stmt := topS 29
theorem sc_law_pen : FnScope ["_law_script"] ["_law_script"] (defScope s_law_pen) :=
  ⟨rfl, rfl, rfl, by decide +kernel, rfl, by decide +kernel, by decide +kernel⟩
def spStart (K : PySem.W.Frag) : Sp := fun vs H Q _ => ∃ (a : Addr) (ns : List Int), vs = [.ref a] ∧ SqL K H a (ns.map V.int) ∧ ns.length ≤ 63 ∧ ∀ p c H', Pen H' p c 0 → Q (.ref p) H'
theorem ok_start {f : Addr} {fd : FuncData} {k : Nat} (F : Fun K "_law_pen" "_law_pen" s_law_pen f fd) (mlist : mg "list" = none) : FnOk P w K mg base CX0 (k + 1) f fd ["_law_script"] (spStart K) := by
  refine F.ok sc_law_pen (fun vs H Q E h => ?_) (fun cdv A outer s H vs Q E hr h => ?_)
  · obtain ⟨a, ns, rfl, _⟩ := h
    rfl
  · obtain ⟨a, ns, rfl, hS, hns, q⟩ := h
    refine ⟨_, (pss_one (ps_ret (pe_lst (pa_cons (pe_callTy (listOf K) (by rfl) mlist (by decide +kernel) (pa_cons (pe_slice (slL K) (pv 0) po_none (po_some pe_int)) pa_nil)) (pa_cons pe_int (pa_cons pe_int pa_nil)))))), ?_⟩
    obtain ⟨cs, hcs, hcl⟩ := cut_ints ns none (some 63)
    refine ⟨_, rfl, 63, rfl, a, _, rfl, hS, fun c0 hc0 => ?_⟩
    rw [hcs]
    refine ⟨c0, _, rfl, .inl (SqL.of upd_same), fun c hc => ⟨szL (show 3 ≤ 1000000 by decide), fun p hp => ?_⟩⟩
    refine q p c _ ⟨cs, 0, 0, upd_same, ?_, by decide, by decide, by decide, by omega⟩
    exact Ext.new hp _ _ upd_same
abbrev s_law_pick : Stmt := topS 30
theorem sc_law_pick : FnScope ["_law_pen_here", "_law_upto", "_law_digit", "_law_turn", "_law_cell", "_law_great", "_law_stirred"] ["_law_pen_here", "_law_upto"] (defScope s_law_pick) :=
  ⟨rfl, rfl, rfl, by decide +kernel, rfl, by decide +kernel, by decide +kernel⟩
def spDraw : Sp := fun vs H Q _ => ∃ (p c : Addr) (m : Int) (n : Nat), vs = [.ref p, .int m] ∧ Pen H p c n ∧ n < 1000000 ∧ 0 < m ∧ m < 1000000 ∧
  ∀ r H', 0 ≤ r → r < m → Kp p H H' → Pen H' p c (n + 1) → Q (.int r) H'
theorem ok_draw {f : Addr} {fd : FuncData} {k : Nat} (F : Fun K "_law_pick" "_law_pick" s_law_pick f fd) (mlen : mg "len" = none) (mabs : mg "abs" = none) (mint : mg "int" = none) : FnOk P w K mg base CX0 (k + 1) f fd ["_law_pen_here", "_law_upto"] spDraw := by
  refine F.ok sc_law_pick (fun vs H Q E h => ?_) (fun cdv A outer s H vs Q E hr h => ?_)
  · obtain ⟨p, c, m, n, rfl, _⟩ := h
    rfl
  · obtain ⟨p, c, m, n, rfl, hP, hn, m0, m1, q⟩ := h
    obtain ⟨cells, a, r, hp, hc, a0, a1, r0, cl⟩ := hP
    refine ⟨_, (pss_cons (ps_if (pt_cmpR op_gt (pe_ix (ixL K) (pv 0) pe_int (fun _ _ => rfl)) pe_int (nomark _)) (pss_cons (ps_set (i := 2) sc_law_pick.nd rfl (.inl rfl) (pe_op op_mod (pe_ix (ixL K) (pv 0) pe_int (fun _ _ => rfl)) (pv 1)))
      (pss_cons (ps_asg (pe_op op_fdiv (pe_ix (ixL K) (pv 0) pe_int (fun _ _ => rfl)) (pv 1)) (pg_sub (pv 0) pe_int set_list))
      (pss_one (ps_ret (pv 2))))) pss_nil)
      (pss_cons (ps_set (i := 3) sc_law_pick.nd rfl (.inl rfl) (pe_ix (ixL K) (pv 0) pe_int (fun _ _ => rfl)))
      (pss_cons (ps_asg (pe_op op_add (pv 3) pe_int) (pg_sub (pv 0) pe_int set_list))
      (pss_cons (ps_set (i := 4) sc_law_pick.nd rfl (.inl rfl) (pe_op op_add (pe_op op_mul pe_int (pv 3)) pe_int))
      (pss_cons (ps_if (pt_cmpR (neD K hr.units) (pe_ix (ixL K) (pv 0) pe_int (fun _ _ => rfl)) (pe_lst pa_nil) (nomark _)) (pss_one (ps_set (i := 4) sc_law_pick.nd rfl (.inl rfl) (pe_ix (ixL K) (pe_ix (ixL K) (pv 0) pe_int (fun _ _ => rfl)) (pe_op op_mod (pv 3) (pe_callB (lenQ K) (by rfl) mlen (by decide +kernel) (pa_cons (pe_ix (ixL K) (pv 0) pe_int (fun _ _ => rfl)) pa_nil))) (fun _ _ => rfl)))) pss_nil)
      (pss_cons (ps_if (PW.pt (pw_and (pt_cmpR op_lt (pv 3) (pe_callB (lenQ K) (by rfl) mlen (by decide +kernel) (pa_cons (pe_ix (ixL K) (pv 0) pe_int (fun _ _ => rfl)) pa_nil)) (nomark _)) (pw_and1 (pt_cmpR op_ge (pe_callB call_abs (by rfl) mabs (by decide +kernel) (pa_cons (pv 4) pa_nil)) (pe_op op_pow pe_int pe_int) (nomark _))))) (pss_cons (ps_set (i := 5) sc_law_pick.nd rfl (.inl rfl) (pe_op op_add (pe_op op_mul pe_int (pe_callB call_abs (by rfl) mabs (by decide +kernel) (pa_cons (pv 4) pa_nil))) (pe_callTy call_int1 (by rfl) mint (by decide +kernel) (pa_cons (pe_cmpR op_lt (pv 4) pe_int (nomark _)) pa_nil))))
      (pss_cons (ps_asg (pe_op op_fdiv (pv 5) (pv 1)) (pg_sub (pv 0) pe_int set_list))
      (pss_one (ps_ret (pe_op op_mod (pv 5) (pv 1)))))) pss_nil)
      (pss_cons (ps_set (i := 6) sc_law_pick.nd rfl (.inl rfl) (pe_op op_mod (pe_op op_pow (pe_op op_add (pe_op op_add (pe_op op_mod (pv 4) pe_int) (pe_op op_mul pe_int (pv 3))) pe_int) pe_int) pe_int))
      (pss_cons (ps_set (i := 6) sc_law_pick.nd rfl (.inl rfl) (pe_op op_mod (pe_op op_pow (pe_op op_add (pe_op op_mul (pv 6) (pe_op op_add (pv 3) pe_int)) (pe_op op_mul (pe_op op_mul pe_int (pv 3)) (pv 3))) pe_int) pe_int))
      (pss_one (ps_ret (pe_op op_mod (pe_op op_fdiv (pv 6) pe_int) (pv 1)))))))))))), ?_⟩
    have ncp : c ≠ p := ne_of hc hp (by
      intro z
      injection z with z
      cases cells with
      | nil => cases z
      | cons x y => injection z with z1 _; cases z1)
    refine ⟨.ref p, rfl, p, _, 2, .int r, rfl, rfl, SqL.of hp, rfl, _, _, rfl, rfl, _, rfl, ite2 (fun e => ?_) (fun e => ?_)⟩
    · refine ⟨.ref p, rfl, p, _, 2, .int r, rfl, rfl, SqL.of hp, rfl, .int m, rfl, r, m, rfl, rfl, m0, ?_⟩
      refine ⟨.ref p, rfl, p, _, 2, .int r, rfl, rfl, SqL.of hp, rfl, .int m, rfl, r, m, rfl, rfl, ⟨m0, by omega⟩, .ref p, rfl, p, _, 2, 2, rfl, rfl, hp, rfl, ?_⟩
      refine ⟨_, rfl, q _ _ (Int.emod_nonneg _ (by omega)) (Int.emod_lt_of_pos _ m0) Kp.at ⟨cells, a, r / m, upd_same, ?_, a0, by omega, Int.ediv_nonneg r0 (by omega), cl⟩⟩
      rw [upd_ne ncp]
      exact hc
    · refine ⟨.ref p, rfl, p, _, 1, .int a, rfl, rfl, SqL.of hp, rfl, ?_⟩
      refine ⟨.int a, rfl, a, 1, rfl, rfl, .ref p, rfl, p, _, 1, 1, rfl, rfl, hp, rfl, ?_⟩
      have hp1 : (upd H p (.lst [.ref c, .int (a + 1), .int r])) p = some (.lst [.ref c, .int (a + 1), .int r]) := upd_same
      have hc1 : (upd H p (.lst [.ref c, .int (a + 1), .int r])) c = some (.lst (cells.map V.int)) := by
        rw [upd_ne ncp]
        exact hc
      -- cell
      refine ⟨.int a, rfl, 2017, a, rfl, rfl, .inl ⟨by decide, by decide⟩, _, 89, rfl, rfl, ?_⟩
      refine ⟨.ref p, rfl, p, _, 0, .ref c, rfl, rfl, SqL.of hp1, rfl, Nat.zero_le _, fun l hl => ?_⟩
      have nlp : l ≠ p := (ne_of_none hp1 hl).symm
      have nlc : l ≠ c := (ne_of_none hc1 hl).symm
      have hl0 : H l = none := by
        have h := hl
        rw [upd_ne nlp] at h
        exact h
      have hp2 : (upd (upd H p (.lst [.ref c, .int (a + 1), .int r])) l (.lst [])) p = some (.lst [.ref c, .int (a + 1), .int r]) := by
        rw [upd_ne nlp.symm]
        exact hp1
      have hc2 : (upd (upd H p (.lst [.ref c, .int (a + 1), .int r])) l (.lst [])) c = some (.lst (cells.map V.int)) := by
        rw [upd_ne nlc.symm]
        exact hc1
      have k2 : Kp p H (upd (upd H p (.lst [.ref c, .int (a + 1), .int r])) l (.lst [])) := Kp.at.put hl0
      refine ⟨.list (cells.map .int), .list [], .lst (SqL.of hc2) (dpInts cells), .lst (SqL.of upd_same) .nil, PySem.W.shaped_ints _, by decide, _, rfl, ite2 (fun e1 => ?_) (fun e1 => ?_)⟩
      have hne : 0 < cells.length := by
        cases cells with
        | nil => cases e1
        | cons x y => exact Nat.succ_pos _
      have hl1 : ((cells.map V.int).length : Int) = cells.length := by rw [List.length_map]
      obtain ⟨z, _, hat⟩ := atI_ints (ns := cells) (Int.emod_nonneg a (show ((cells.map V.int).length : Int) ≠ 0 by omega)) (by
        have := Int.emod_lt_of_pos a (show (0 : Int) < ((cells.map V.int).length : Int) by omega)
        omega)
      have hl2 : (0 : Int) < ((cells.map V.int).length : Int) := by omega
      refine ⟨.ref p, rfl, p, _, 0, .ref c, rfl, rfl, SqL.of hp2, rfl, .int a, rfl, .ref p, rfl, p, _, 0, .ref c, rfl, rfl, SqL.of hp2, rfl, c, _, rfl, .inl (SqL.of hc2), _, _, rfl, rfl, hl2, c, _, _, _, rfl, rfl, SqL.of hc2, hat, ?_⟩
      all_goals
        refine ⟨.int a, rfl, .ref p, rfl, p, _, 0, .ref c, rfl, rfl, SqL.of hp2, rfl, c, _, rfl, .inl (SqL.of hc2), _, _, rfl, rfl, _, rfl, ite2 (fun e2 => ?_) (fun e2 => ?_)⟩
        refine ⟨_, rfl, _, rfl, 10, 18, rfl, rfl, ⟨by decide, by decide, by decide⟩, _, _, rfl, rfl, _, rfl, ite2 (fun e3 => ?_) (fun e3 => ?_)⟩
        · refine ⟨_, rfl, _, rfl, 2, _, rfl, rfl, .inl ⟨by decide, by decide⟩, _, rfl, _, _, rfl, rfl, .inr ⟨_, rfl, ?_⟩⟩
          refine ⟨_, _, rfl, rfl, ?_⟩
          refine ⟨_, rfl, .int m, rfl, _, m, rfl, rfl, ⟨m0, by omega⟩, .ref p, rfl, p, _, 2, 2, rfl, rfl, hp2, rfl, ?_⟩
          refine ⟨_, rfl, .int m, rfl, _, m, rfl, rfl, m0, q _ _ (Int.emod_nonneg _ (by omega)) (Int.emod_lt_of_pos _ m0) (k2.trans Kp.at) ⟨cells, a + 1, _, upd_same, ?_, by omega, by omega, Int.ediv_nonneg ?_ (by omega), cl⟩⟩
          · rw [upd_ne ncp]
            exact hc2
          · split <;> split <;> omega
        all_goals
          refine ⟨_, rfl, _, 2147483579, rfl, rfl, (show (0 : Int) < 2147483579 by decide), .int a, rfl, 43793, a, rfl, rfl, .inl ⟨by decide, by decide⟩, _, _, rfl, rfl, _, 97, rfl, rfl, _, 5, rfl, rfl, ⟨by decide, by decide, draw_b1 a0 (by omega)⟩, _, 2147483647, rfl, rfl, (show (0 : Int) < 2147483647 by decide), ?_⟩
          refine ⟨_, rfl, .int a, rfl, a, 39119, rfl, rfl, _, _, rfl, rfl, .inl (mod_b _ 2147483647 (by decide) (by decide)), .int a, rfl, 81667, a, rfl, rfl, .inl ⟨by decide, by decide⟩, .int a, rfl, _, a, rfl, rfl, .inl ⟨by omega, by omega⟩, _, _, rfl, rfl, _, 3, rfl, rfl, ⟨by decide, by decide, draw_b3 _ a0 (by omega)⟩, _, 2147483563, rfl, rfl, (show (0 : Int) < 2147483563 by decide), ?_⟩
          refine ⟨_, rfl, _, 32, rfl, rfl, ⟨by decide, by decide⟩, .int m, rfl, _, m, rfl, rfl, m0, q _ _ (Int.emod_nonneg _ (by omega)) (Int.emod_lt_of_pos _ m0) k2 ⟨cells, a + 1, r, hp2, hc2, by omega, by omega, r0, cl⟩⟩
abbrev CDraw (P : Program) (w : World) (K : PySem.W.Frag) (mg : Str → Option Value) (base : Heap) : Prop := Ca P w K mg base 1 "_law_pick" ["_law_pen_here", "_law_upto"] spDraw
abbrev s_law_some_worth : Stmt := topS 31
theorem sc_law_some_worth : FnScope ["_law_pen_here", "_law_far"] ["_law_pen_here"] (defScope s_law_some_worth) :=
  ⟨rfl, rfl, rfl, by decide +kernel, rfl, by decide +kernel, by decide +kernel⟩
def spWorth : Sp := fun vs H Q _ => ∃ (p c : Addr) (n : Nat), vs = [.ref p] ∧ Pen H p c n ∧ n + 4 < 1000000 ∧
  ∀ (i : Int) H', -99 ≤ i → i ≤ 99 → Kp p H H' → Pen H' p c (n + 4) → Q (.int i) H'
theorem ok_worth {f : Addr} {fd : FuncData} (F : Fun K "_law_some_worth" "_law_some_worth" s_law_some_worth f fd) (c_law_pick : CDraw P w K mg base) : FnOk P w K mg base CX0 2 f fd ["_law_pen_here"] spWorth := by
  refine F.ok sc_law_some_worth (fun vs H Q E h => ?_) (fun cdv A outer s H vs Q E hr h => ?_)
  · obtain ⟨p, c, n, rfl, _⟩ := h
    rfl
  · obtain ⟨p, c, n, rfl, hP, hn, q⟩ := h
    refine ⟨_, (pss_cons (ps_set (i := 1) sc_law_some_worth.nd rfl (.inl rfl) (pe_op op_sub (pe_ca c_law_pick (hr.mono (by decide)) (by rfl) (pa_cons (pv 0) (pa_cons pe_int pa_nil))) pe_int))
      (pss_one (ps_ret (pe_ix (ixL K) (pe_lst (pa_cons pe_int (pa_cons (pe_op op_sub (pe_ca c_law_pick (hr.mono (by decide)) (by rfl) (pa_cons (pv 0) (pa_cons pe_int pa_nil))) pe_int) (pa_cons pe_int (pa_cons (pe_un un_neg pe_int) (pa_cons (pe_op op_sub (pe_ca c_law_pick (hr.mono (by decide)) (by rfl) (pa_cons (pv 0) (pa_cons pe_int pa_nil))) pe_int) (pa_cons (pe_un un_neg pe_int) (pa_cons (pv 1) (pa_cons (pe_ix (ixL K) (pe_lst (pa_cons pe_int (pa_cons (pe_un un_neg pe_int) pa_nil))) (pe_op op_mod (pv 1) pe_int) (fun _ _ => rfl)) pa_nil))))))))) (pe_ca c_law_pick (hr.mono (by decide)) (by rfl) (pa_cons (pv 0) (pa_cons pe_int pa_nil))) (fun _ _ => rfl))))), ?_⟩
    refine ⟨_, rfl, p, c, 199, n, rfl, hP, by omega, by decide, by decide, fun r1 H1 r1a r1b k1 hP1 => ⟨r1, 99, rfl, rfl, ?_⟩⟩
    refine ⟨_, rfl, p, c, 9, n + 1, rfl, hP1, by omega, by decide, by decide, fun r2 H2 r2a r2b k2 hP2 => ⟨r2, 6, rfl, rfl, 1, rfl, ?_⟩⟩
    refine ⟨_, rfl, p, c, 5, n + 2, rfl, hP2, by omega, by decide, by decide, fun r3 H3 r3a r3b k3 hP3 => ⟨r3, 2, rfl, rfl, 3, rfl, _, rfl, 99, rfl, ?_⟩⟩
    refine ⟨szL (show 2 ≤ 1000000 by decide), fun l0 hl0 => ?_⟩
    have m0 := Int.emod_nonneg (r1 - 99) (show (2 : Int) ≠ 0 by decide)
    have m1 := Int.emod_lt_of_pos (r1 - 99) (show (0 : Int) < 2 by decide)
    obtain ⟨y, hy, hat0⟩ := atI_ints (ns := [99, -99]) m0 m1
    have hy2 : -99 ≤ y ∧ y ≤ 99 := by
      simp only [List.mem_cons, List.not_mem_nil, or_false] at hy
      omega
    refine ⟨_, rfl, _, 2, rfl, rfl, (show (0 : Int) < 2 by decide), l0, _, _, _, rfl, rfl, SqL.of upd_same, hat0, ?_⟩
    refine ⟨szL (show 8 ≤ 1000000 by decide), fun l hl => ?_⟩
    have hP4 := (hP3.new (o := .lst [.int 99, .int (-99)]) hl0).new (o := .lst [.int 0, .int (r2 - 6), .int 1, .int (-1), .int (r3 - 2), .int (-3), .int (r1 - 99), .int y]) hl
    refine ⟨_, rfl, p, c, 8, n + 3, rfl, hP4, by omega, by decide, by decide, fun r4 H4 r4a r4b k4 hP5 => ?_⟩
    obtain ⟨z, hz, hat⟩ := atI_ints (ns := [0, r2 - 6, 1, -1, r3 - 2, -3, r1 - 99, y]) r4a r4b
    have hz2 : -99 ≤ z ∧ z ≤ 99 := by
      simp only [List.mem_cons, List.not_mem_nil, or_false] at hz
      omega
    exact ⟨l, _, r4, _, rfl, rfl, SqL.of (k4 _ _ ((hP3.new hl0).ne hl).1 upd_same), hat, q z _ hz2.1 hz2.2 ((((k1.trans k2).trans k3).trans (Kp.new hl0)).trans ((Kp.new hl).trans k4)) hP5⟩
abbrev CWorth (P : Program) (w : World) (K : PySem.W.Frag) (mg : Str → Option Value) (base : Heap) : Prop := Ca P w K mg base 2 "_law_some_worth" ["_law_pen_here"] spWorth
end
end Pf


namespace Pf
open PySem PySem.Spec PyProof.Rows L2
/-! ### the sum of a dict's values -/
theorem preSum_is (is : List Int) : ∀ n, n ≤ is.length → preSum (fun i => is.getD i 0) n = (is.take n).sum
  | 0, _ => by rw [List.take_zero]; rfl
  | n + 1, h => by
    have ih := preSum_is is n (by omega)
    have e : is[n]? = some (is.getD n 0) := by
      rw [List.getD_eq_getElem?_getD, List.getElem?_eq_getElem (by omega)]
      rfl
    rw [List.take_add_one, e, List.sum_append, ← ih]
    simp [preSum]
def tSumV (td : TE) : TE := fun σ H Q => td σ H fun x H1 => ∃ (a : Addr) (kvs : List (Key × V)) (is : List Int), x = V.ref a ∧ H1 a = some (.dK kvs) ∧ kvs.map (·.2) = is.map V.int ∧ Q (.int is.sum) H1
theorem pe_sumV {X : Cx} {o : Expr} {p pos apos mpos : Pos} {td : TE} (calm : X.calm = true) (gl : Gl X "sum") (free : X.mg "sum" = none) (ho : PE X o td) (b0 : attributeBase o "values" X.env (eval o X.env) = eval o X.env := by rfl) (l0 : (apos.endLine == mpos.line) = true := by rfl)
    (st : starEach [Expr.Call (.Attribute o "values" apos) [] [] mpos] X.env = [(false, eval (Expr.Call (.Attribute o "values" apos) [] [] mpos) X.env)] := by rfl) : PE X (.Call (.Name "sum" p) [.Call (.Attribute o "values" apos) [] [] mpos] [] pos) (tSumV td) := by
  refine ⟨fun pins s σ H Q I h => wpAny_Call_Name_kw (ld_blt I gl free (u := .builtin "sum") (by decide +kernel) ?_ (by decide) (by decide))⟩
  rw [st]
  refine PySem.callWith_builtin1 (wpAny_Call_method0_late b0 l0 (thn (ho.run pins s σ H _ I h) fun v s1 ⟨x, H1, I1, r1, a, kvs, is, ex, ha, hv, q⟩ => ?_))
  subst ex
  obtain rfl : v = Value.ref a := r1
  obtain ⟨_, nsys, vs, rel, dof⟩ := dk_of I1.hok ha
  obtain ⟨ep, dat⟩ := dof.dictAt
  obtain ⟨ob, es, hob, ex, _⟩ := id dat
  have low : a < s1.heap.objs.size := Heap.lt_size hob
  refine ⟨"dict", "dict.values", F.plainAttrs_dict, F.slot_dict_values, F.type_dict_values, ⟨ob, hob, ex.1⟩, fun b e => by cases e; exact ⟨ob, hob, ex.2.1⟩, Calls.callWith_builtin rfl (PySem.evalArgs_none ?_)⟩
  refine call_meetsIn F.slot_dict_values ⟨ob, hob, ex.1⟩ F.entry_dict_values (F.args_dict_values_1 _) (meets_dict_values (mixKind X.prog X.w) a nsys) ⟨⟨vs, dof⟩, ?_⟩
  have len : vs.length = is.length := by
    have e1 := congrArg List.length hv
    rw [List.length_map, List.length_map] at e1
    exact (KV.length rel).symm.trans e1
  have each : ∀ (i : Nat) (v : Value), (∃ k, vs[i]? = some (k, v)) → ∃ t, v = Value.int (is.getD i 0) t := fun i v ⟨k, hk⟩ => by
    obtain ⟨y, h1, h2⟩ := KV.at' rel hk
    have e1 : (kvs.map (·.2))[i]? = some y := by
      rw [List.getElem?_map, h1]
      rfl
    rw [hv, List.getElem?_map] at e1
    obtain ⟨j, hj, rfl⟩ := Option.map_eq_some_iff.mp e1
    obtain ⟨t, h3⟩ := h2
    refine ⟨t, ?_⟩
    rw [h3, List.getD_eq_getElem?_getD, hj]
    rfl
  have stay : ∀ b u, s1.heap.get? b = some u → (s1.heap.push { cls := .type "dict_values", data := .fields #[.ref a] }).get? b = some u := fun b u e => Heap.get?_push_of_some _ e
  have dat1 : (s1.heap.push { cls := .type "dict_values", data := .fields #[.ref a] }).DictAt (mixKind X.prog X.w) a vs ep := dat.keep stay
  have grown : (s1.heap.push { cls := .type "dict_values", data := .fields #[.ref a] }).objs.size = s1.heap.objs.size + 1 := Heap.size_push _ _
  refine call_sum_walkG (wpAny_pyIter_values (v := s1.heap.objs.size) (d := a) ⟨_, Heap.get?_push_size _ rfl, rfl, rfl⟩ dat1 ?_)
  refine ⟨_, _, _, _, _, _, fun i => is.getD i 0, rfl, Walks.dictValues (knd := mixKind X.prog X.w) (A := X.A.in1) (I.ok.hd calm) (s1.heap.push { cls := .type "dict_values", data := .fields #[.ref a] }).objs.size a (by rw [grown]; exact Nat.ne_of_lt (Nat.lt_succ_of_lt low)) vs ep,
    ⟨⟨_, Heap.get?_push_size _ rfl, rfl, rfl⟩, dat1.keep fun b u e => Heap.get?_push_of_some _ e⟩, fun b hb => ?_, each, fun h' tk t' hk => ?_⟩
  · show b < ((s1.heap.push _).push _).objs.size
    rw [Heap.size_push, Heap.size_push]
    rw [grown] at hb
    simp only [List.mem_cons, List.not_mem_nil, or_false] at hb
    rcases hb with rfl | rfl
    · exact Nat.lt_succ_self _
    · exact Nat.lt_succ_of_lt (Nat.lt_succ_of_lt low)
  · have e0 := preSum_is is vs.length (by omega)
    rw [len, List.take_length] at e0
    refine ⟨.int is.sum, H1, I1.kept (t' := tk) fun b u e => hk b u (fun hmem => ?_) (Heap.get?_push_of_some _ (stay b u e)), ⟨t', ?_⟩, q⟩
    · have e1 := List.mem_singleton.mp hmem
      have e2 := Heap.lt_size e
      rw [grown] at e1
      rw [e1] at e2
      exact absurd e2 (Nat.not_lt.mpr (Nat.le_succ _))
    · rw [len, e0]
end Pf


namespace Pf
open PySem PySem.Spec PyProof.Rows L2
/-! ### what is sorted once it is gathered -/
theorem sort_tail {X : Cx} {pins : List (Addr × Obj)} {σ : L2.St} {H : Hp} {s : Shared} {Q : VK} (I : Inv X pins σ H s) (hu : X.A.units + 64 < cLine) {β : Type} {v : β → V} {dd : β → PyData} {ys : List β} {acc : List Value} (rv : Vals (ys.map v) acc) (hy : ∀ y ∈ ys, Dp X.K H (v y) (dd y) ∧ (dd y).depth ≤ 50)
    (al : PySem.W.AllAlike (ys.map dd)) (so : PySem.W.Sortable (ys.map dd)) (hn : ys.length ≤ sizeLine) (qq : ∀ p, H p = none → Q (.ref p) (upd H p (.lst ((ys.mergeSort (PySem.W.dataLe false dd)).map v)))) {R : PySem.Fin → Shared → Prop} {E : Value → Shared → Prop}
    (hR : ∀ l s', EP X pins σ Q l s' → R (.done (.ret l)) s') :
    wpAny (model X.prog X.w) X.A.in1 (do let l ← newList acc; let _ ← holding [l] (call (.builtin "list.sort") [l] []); ret l) R E s := by
  have hz2 : acc.length ≤ sizeLine := by
    rw [← rv.length, List.length_map]
    exact hn
  refine wpAny_bind (wpAny_newList ?_ hz2)
  have hat : (s.heap.push (seqObj "list" acc.toArray 0)).get? s.heap.objs.size = some (seqObj "list" acc.toArray 0) := Heap.get?_push_size _ rfl
  have hlt : ∀ b ob, s.heap.get? b = some ob → b ≠ s.heap.objs.size := fun b ob e => Nat.ne_of_lt (Heap.lt_size e)
  have old : ∀ b ob, s.heap.get? b = some ob → (s.heap.push (seqObj "list" acc.toArray 0)).get? b = some ob := fun b ob e => Heap.get?_push_of_some _ e
  have rel : PySem.W.EachIs (fun (u : Value) (y : β) => RelV (v y) u) acc ys := each_vals (v := v) rv
  have rd : PySem.W.EachIs (fun (u : Value) (y : β) => ∃ as, Reads (PySem.W.sortingHeap (s.heap.push (seqObj "list" acc.toArray 0)) s.heap.objs.size acc) u (dd y) as) acc ys := (each_reads (v := v) I rv fun y hy' => (hy y hy').1).mono fun _ _ ⟨as, w⟩ => ⟨as, PyProof.Rows.Reads.keeps (fun b ob e => PySem.W.sortingHeap_old (hlt b ob e) (old b ob e)) w⟩
  have hub : ∀ y ∈ ys, X.A.in1.in1.units + (dd y).depth < cLine := fun y hy' => by
    have := (hy y hy').2
    show X.A.units + 2 + (dd y).depth < cLine
    omega
  have S := PySem.W.SortsAt.data (prog := X.prog) (w := X.w) (A := X.A.in1.in1) (s := { s with heap := PySem.W.sortingHeap (s.heap.push (seqObj "list" acc.toArray 0)) s.heap.objs.size acc }) (PySem.W.each_map (R := fun v d => ∃ as, Reads (PySem.W.sortingHeap (s.heap.push (seqObj "list" acc.toArray 0)) s.heap.objs.size acc) v d as) dd rd) al so (PySem.W.bound_map hub)
  refine wpAny_bind (wpAny_holding (wpAny_call_entry slot_list_sort ⟨_, hat, rfl⟩ entry_list_sort ?body (args_list_sort _)))
  case body =>
    refine PySem.W.list_sort_vals (s := { s with heap := s.heap.push (seqObj "list" acc.toArray 0) }) hat S hz2 ⟨_, rfl, wpAny_pure (hR _ _ ?_)⟩
    have each := PySem.W.sortVals_data false rel rd al
    generalize PySem.W.sortVals (PySem.W.dataKind (PySem.W.sortingHeap (s.heap.push (seqObj "list" acc.toArray 0)) s.heap.objs.size acc) (ys.map dd)) false acc acc = out at each ⊢
    obtain ⟨ee, he'⟩ := PyProof.Rows.sortedHeap_at (vs := acc) (out := out.toArray) hat
    have hl2 : ((ys.mergeSort (PySem.W.dataLe false dd)).map v).length ≤ sizeLine := by
      rw [List.length_map, List.length_mergeSort]
      omega
    have free : H s.heap.objs.size = none := I.hok.fresh (Nat.le_refl _)
    have gone : s.heap.get? s.heap.objs.size = none := by
      cases e : s.heap.get? s.heap.objs.size with
      | none => rfl
      | some ob => exact absurd rfl (hlt _ ob e)
    exact ⟨.ref s.heap.objs.size, upd H s.heap.objs.size (.lst ((ys.mergeSort (PySem.W.dataLe false dd)).map v)), I.laidN (t' := s.toks) (fun b ob e => by rw [PyProof.Rows.sortedHeap_old (hlt b ob e) (Heap.lt_size (old b ob e))]; exact old b ob e) gone free ⟨hl2, out, ee, vals_each (v := v) each, by simpa using he'⟩, rfl, qq _ free⟩
/-! ### sorted(d): a dict by numbers -/
def rSortKI (K : PySem.W.Frag) : List V → Hp → VK → Prop := fun vs H Q => ∃ (a : Addr) (kvs : List (Key × V)) (ks : List Int), vs = [.ref a] ∧ Rd H a (.dK kvs) ∧ kvs.map (·.1) = ks.map Sum.inl ∧ ∀ p, H p = none → Q (.ref p) (upd H p (.lst ((ks.mergeSort (PySem.W.dataLe false PyData.int)).map V.int)))
theorem cr_sortKI (K : PySem.W.Frag) {X : Cx} (calm : X.calm = true) (hu : X.A.units + 64 < cLine) (hK : X.K = K := by rfl) : CallR X (.builtin "sorted") (rSortKI K) := by
  subst hK
  intro pins s σ H xs us Q I r q
  obtain ⟨a, kvs, ks, ex, hd, hks, q⟩ := q
  subst ex
  obtain ⟨u, eu, rx⟩ := vals1 r
  subst eu
  cases rx
  obtain ⟨z, lo, vs, rel, dd⟩ := dk_rd I.hok hd
  obtain ⟨ep, hat⟩ := dd.dictAt
  have hkeys : vs.map (·.1) = ks.map Sum.inl := rel.keys.symm.trans hks
  have hl : vs.length = ks.length := by
    have e := congrArg List.length hkeys
    rw [List.length_map, List.length_map] at e
    exact e
  have hkl : kvs.length = ks.length := by
    have e := congrArg List.length hks
    rw [List.length_map, List.length_map] at e
    exact e
  have h16 : vs.length ≤ sizeLine := by omega
  refine Calls.call_function_entry PyProof.Rows.kind_sorted PyProof.Rows.plain_sorted PyProof.Rows.entry_sorted (PyProof.Rows.args_sorted1 _) ?_
  unfold Builtin.«sorted»
  refine wpAny_bind (m := checkCount "sorted" 1 1 _) (wpAny_pure ?_)
  refine wpAny_bind (PySem.W.kdu_collect (A := X.A.in1) (PySem.W.kdl_dict (knd := mixKind X.prog X.w) (kvs := vs) (ep := ep) lo) (I.ok.hd calm) hat h16 fun h' tk acc hk hacc => ?_)
  have hal : acc.toList.length = ks.length := by rw [Array.length_toList, hacc.1, hl]
  have hS : IntsAre acc.toList ks := ints_each hal fun j v e => by
    obtain ⟨k, x, e1, e2⟩ := hacc.2 j v (by rw [← Array.getElem?_toList]; exact e)
    have e3 : (vs.map (·.1))[j]? = some k := by rw [List.getElem?_map, e1]; rfl
    rw [hkeys, List.getElem?_map] at e3
    cases e4 : ks[j]? with
    | none => rw [e4] at e3; cases e3
    | some y =>
      rw [e4] at e3
      have e5 : Sum.inl y = k := Option.some.inj e3
      subst e5
      rcases keyIs_shape (show keyIs (Sum.inl y) v = true from e2) with ⟨i, t, ek, ev⟩ | ⟨z, t, ek, ev⟩
      · cases ek
        exact ⟨y, t, rfl, ev⟩
      · cases ek
  have I1 : Inv X pins σ H { s with heap := h', toks := tk } := I.kept hk
  refine sort_tail I1 hu (v := V.int) (dd := PyData.int) (ys := ks) (vals_of_ints hS) (fun y _ => ⟨.int _, by simp [PyData.depth]⟩) (PySem.W.AllAlike.of fun b b' => by simp [PySem.W.alike]) (PySem.W.Sortable.others fun b => ⟨(fun z => by cases z), fun xs z => by cases z⟩) (by omega) q fun l s' h => ⟨_, rfl, h⟩
/-! ### sorted(d.items()): a dict by numbers, of numbers -/
theorem laid_tuples {X : Cx} {pins : List (Addr × Obj)} {σ : L2.St} {H : Hp} {s : Shared} {h' : Heap} {tk : Nat} {kvs : List (Key × V)} {vs : List (Key × Value)} {as : List Addr} (I : Inv X pins σ H s) (kv : KV kvs vs)
    (hk : ∀ b o, s.heap.get? b = some o → h'.get? b = some o) (hl : as.length = vs.length) (hG : PySem.W.KdxG (mixKind X.prog X.w) vs s.heap.objs.size h' as) :
    ∃ H' : Hp, Ext H H' ∧ Paired (fun (t : Addr) (q : Key × V) => H' t = some (.tup [kV q.1, q.2])) as kvs ∧ Inv X pins σ H' { s with heap := h', toks := tk } := by
  have lk : kvs.length = vs.length := Paired.length kv
  have nd : as.Nodup := List.Pairwise.imp (fun {a b} (h : a < b) => Nat.ne_of_lt h) hG.rise
  have new : ∀ t ∈ as, H t = none := fun t ht => I.hok.fresh (Nat.le_of_lt (hG.above t ht))
  have atP := LiI.putT_at as kvs H (by omega) nd
  have off : ∀ b, b ∉ as → LiI.putT H as kvs b = H b := fun b h1 => LiI.putT_off as kvs _ h1
  have low : ∀ b o, s.heap.get? b = some o → b ∉ as := fun b o e z => absurd (Heap.lt_size e) (Nat.not_lt.mpr (Nat.le_of_lt (hG.above b z)))
  have kp : ∀ b u, H b = some u → (LiI.putT H as kvs) b = some u := fun b u e => by
    rw [off b (fun z => by rw [new b z] at e; cases e)]
    exact e
  refine ⟨LiI.putT H as kvs, kp, atP, ?_⟩
  refine I.call' (ch := []) rfl ⟨fun b o q _ _ _ => hk b o q, fun b o q _ _ _ => ⟨o.slots, hk b o q⟩, fun b o q n _ => ?_, fun b o q _ => ⟨o, hk b o q⟩, fun b xs q => kp b _ q, fun b o u q => kp b _ q, fun b ps q => ⟨#[], by rw [kp b _ q]; simp⟩⟩ (fun b u q => ?_) I.bare fun b z => by simp at z
  · rw [off b (low b o q)]
    exact n
  · by_cases hb : b ∈ as
    · obtain ⟨j, pk, e1, e2, e3⟩ := LiI.paired_ix atP hb
      rw [e3] at q
      cases q
      obtain ⟨key, k, x, f1, f2, f3⟩ := hG.pairs j b e1
      obtain ⟨qv, g1, g2, g3⟩ := LiI.paired_get kv e2
      rw [f1] at g1
      cases g1
      have rk : RelV (kV pk.1) key := by
        rw [g2]
        exact relV_key (show keyIs k key = true from f2)
      exact ⟨by show 2 ≤ sizeLine; decide, [key, x], .cons rk (.cons g3 .nil), ⟨_, f3, rfl, _, rfl⟩⟩
    · rw [off b hb] at q
      exact (I.hok b u q).stay (fun d v _ y => hk d v y) (fun d y => kp d _ y) fun d xs y => kp d _ y
def d2 (y : Addr × Int × Int) : PyData := .tuple [.int y.2.1, .int y.2.2]
def tSortItems (te : TE) : TE := fun σ H Q => te σ H fun x H1 => ∃ (d : Addr) (t : List (Int × Int)), x = .ref d ∧ H1 d = some (.dK (t.map fun y => (.inl y.1, .int y.2))) ∧
  ∀ (p : Addr) (ys : List (Addr × Int × Int)) (H' : Hp), H1 p = none → Ext H1 H' → H' p = some (.lst (ys.map fun y => .ref y.1)) → (∀ y ∈ ys, H' y.1 = some (.tup [.int y.2.1, .int y.2.2])) → ys.map (·.2) = t.mergeSort (PySem.W.dataLe false fun z : Int × Int => PyData.tuple [.int z.1, .int z.2]) → Q (.ref p) H'
theorem pe_sortItems {X : Cx} {o : Expr} {p pos apos mpos : Pos} {td : TE} (calm : X.calm = true) (hu : X.A.units + 64 < cLine) (gl : Gl X "sorted") (free : X.mg "sorted" = none) (ho : PE X o td) (b0 : attributeBase o "items" X.env (eval o X.env) = eval o X.env := by rfl) (l0 : (apos.endLine == mpos.line) = true := by rfl)
    (st : starEach [Expr.Call (.Attribute o "items" apos) [] [] mpos] X.env = [(false, eval (Expr.Call (.Attribute o "items" apos) [] [] mpos) X.env)] := by rfl) : PE X (.Call (.Name "sorted" p) [.Call (.Attribute o "items" apos) [] [] mpos] [] pos) (tSortItems td) := by
  refine ⟨fun pins s σ H Q I h => wpAny_Call_Name_kw (ld_blt I gl free (u := .builtin "sorted") (by decide +kernel) ?_ (by decide) (by decide))⟩
  rw [st]
  refine PySem.callWith_builtin1 (wpAny_Call_method0_late b0 l0 (thn (ho.run pins s σ H _ I h) fun v s1 ⟨x, H1, I1, r1, a, t, ex, ha, q⟩ => ?_))
  subst ex
  obtain rfl : v = Value.ref a := r1
  obtain ⟨hz, nsys, vs, rel, dof⟩ := dk_of I1.hok ha
  obtain ⟨ep, dat⟩ := dof.dictAt
  obtain ⟨ob, es, hob, ex, _⟩ := id dat
  have low : a < s1.heap.objs.size := Heap.lt_size hob
  refine ⟨"dict", "dict.items", F.plainAttrs_dict, F.slot_dict_items, F.type_dict_items, ⟨ob, hob, ex.1⟩, fun b e => by cases e; exact ⟨ob, hob, ex.2.1⟩, Calls.callWith_builtin rfl (PySem.evalArgs_none ?_)⟩
  refine call_meetsIn F.slot_dict_items ⟨ob, hob, ex.1⟩ F.entry_dict_items (F.args_dict_items_1 _) (meets_dict_items (mixKind X.prog X.w) a nsys) ⟨⟨vs, dof⟩, ?_⟩
  have len : vs.length = t.length := by
    have e1 := KV.length rel
    rw [List.length_map] at e1
    exact e1.symm
  have hz' : t.length ≤ sizeLine := by
    rw [List.length_map] at hz
    exact hz
  have I2 : Inv X pins σ H1 { s1 with heap := s1.heap.push { cls := .type "dict_items", data := .fields #[.ref a] } } := I1.kept (t' := s1.toks) fun b ob q => Heap.get?_push_of_some _ q
  refine Calls.call_function_entry PyProof.Rows.kind_sorted PyProof.Rows.plain_sorted PyProof.Rows.entry_sorted (PyProof.Rows.args_sorted1 _) ?_
  unfold Builtin.«sorted»
  refine wpAny_bind (m := checkCount "sorted" 1 1 _) (wpAny_pure ?_)
  refine wpAny_bind (PySem.W.kdx_collect (A := X.A.in1) (knd := mixKind X.prog X.w) (kvs := vs) (ep := ep) (I.ok.hd calm) ⟨_, Heap.get?_push_size _ rfl, rfl, rfl⟩ (dat.push _) (by omega) fun h' tk as hk hl hG => ?_)
  obtain ⟨H', k1, k6, J⟩ := laid_tuples (tk := tk) I2 rel hk hl hG
  have hal : as.length = t.length := by omega
  have e1 : (as.zip t).map (·.1) = as := List.map_fst_zip (by omega)
  have e2 : (as.zip t).map (·.2) = t := List.map_snd_zip (by omega)
  have hat : ∀ y ∈ as.zip t, H' y.1 = some (.tup [.int y.2.1, .int y.2.2]) := by
    have : ∀ {as : List Addr} {t : List (Int × Int)}, Paired (fun (b : Addr) (q : Key × V) => H' b = some (.tup [kV q.1, q.2])) as (t.map fun y => ((.inl y.1 : Key), V.int y.2)) → ∀ y ∈ as.zip t, H' y.1 = some (.tup [.int y.2.1, .int y.2.2]) := by
      intro as
      induction as with
      | nil => intro t _ y hy; cases hy
      | cons b as ih =>
        intro t hp y hy
        cases t with
        | nil => cases hy
        | cons z t =>
          rw [List.map_cons] at hp
          cases hp with
          | cons r tl =>
            rcases List.mem_cons.mp hy with rfl | hy
            · exact r
            · exact ih tl y hy
    exact this k6
  have rv : Vals ((as.zip t).map fun y => V.ref y.1) (as.map Value.ref) := by
    have e3 : ((as.zip t).map fun y => V.ref y.1) = as.map V.ref := by
      have := congrArg (List.map V.ref) e1
      rw [List.map_map] at this
      exact this
    rw [e3]
    exact LiI.vals_refs as
  refine sort_tail J hu (v := fun y : Addr × Int × Int => V.ref y.1) (dd := d2) (ys := as.zip t) rv (fun y hy => ⟨.tup (SqT.of (hat y hy)) (.cons (.int _) (.cons (.int _) .nil)), by simp [d2, PyData.depth, PyData.depthAll]⟩) (PySem.W.AllAlike.of fun b b' => by simp [d2, PySem.W.alike, PySem.W.alikeAll]) (PySem.W.Sortable.tuples fun b => ⟨_, _, rfl⟩) (by rw [List.length_zip]; omega) (fun p hp => ?_) fun l s' h => ⟨_, rfl, h⟩
  have xp := Ext.new (o := .lst (((as.zip t).mergeSort (PySem.W.dataLe false d2)).map fun y => V.ref y.1)) hp
  refine q p _ _ (k1.none hp) (k1.trans xp) upd_same (fun y hy => xp _ _ (hat y ((List.mergeSort_perm _ _).mem_iff.mp hy))) ?_
  have hm := List.map_mergeSort (r := PySem.W.dataLe false d2) (s := PySem.W.dataLe false fun z : Int × Int => PyData.tuple [.int z.1, .int z.2]) (f := fun b : Addr × Int × Int => b.2) (l := as.zip t) (fun a _ b _ => rfl)
  rw [e2] at hm
  exact hm
end Pf


namespace Pf
open PySem PySem.Spec PyProof.Rows L2
/-! ### sorted(d.items()): a dict by texts, of numbers -/
def d2S (y : Addr × Str × Int) : PyData := .tuple [.str y.2.1, .int y.2.2]
def tSortItemsS (te : TE) : TE := fun σ H Q => te σ H fun x H1 => ∃ (d : Addr) (t : List (Str × Int)), x = .ref d ∧ H1 d = some (.dK (t.map fun y => (.inr y.1, .int y.2))) ∧
  ∀ (p : Addr) (ys : List (Addr × Str × Int)) (H' : Hp), H1 p = none → Ext H1 H' → H' p = some (.lst (ys.map fun y => .ref y.1)) → (∀ y ∈ ys, H' y.1 = some (.tup [.str y.2.1, .int y.2.2])) → ys.map (·.2) = t.mergeSort (PySem.W.dataLe false fun z : Str × Int => PyData.tuple [.str z.1, .int z.2]) → Q (.ref p) H'
theorem pe_sortItemsS {X : Cx} {o : Expr} {p pos apos mpos : Pos} {td : TE} (calm : X.calm = true) (hu : X.A.units + 64 < cLine) (gl : Gl X "sorted") (free : X.mg "sorted" = none) (ho : PE X o td) (b0 : attributeBase o "items" X.env (eval o X.env) = eval o X.env := by rfl) (l0 : (apos.endLine == mpos.line) = true := by rfl)
    (st : starEach [Expr.Call (.Attribute o "items" apos) [] [] mpos] X.env = [(false, eval (Expr.Call (.Attribute o "items" apos) [] [] mpos) X.env)] := by rfl) : PE X (.Call (.Name "sorted" p) [.Call (.Attribute o "items" apos) [] [] mpos] [] pos) (tSortItemsS td) := by
  refine ⟨fun pins s σ H Q I h => wpAny_Call_Name_kw (ld_blt I gl free (u := .builtin "sorted") (by decide +kernel) ?_ (by decide) (by decide))⟩
  rw [st]
  refine PySem.callWith_builtin1 (wpAny_Call_method0_late b0 l0 (thn (ho.run pins s σ H _ I h) fun v s1 ⟨x, H1, I1, r1, a, t, ex, ha, q⟩ => ?_))
  subst ex
  obtain rfl : v = Value.ref a := r1
  obtain ⟨hz, nsys, vs, rel, dof⟩ := dk_of I1.hok ha
  obtain ⟨ep, dat⟩ := dof.dictAt
  obtain ⟨ob, es, hob, ex, _⟩ := id dat
  have low : a < s1.heap.objs.size := Heap.lt_size hob
  refine ⟨"dict", "dict.items", F.plainAttrs_dict, F.slot_dict_items, F.type_dict_items, ⟨ob, hob, ex.1⟩, fun b e => by cases e; exact ⟨ob, hob, ex.2.1⟩, Calls.callWith_builtin rfl (PySem.evalArgs_none ?_)⟩
  refine call_meetsIn F.slot_dict_items ⟨ob, hob, ex.1⟩ F.entry_dict_items (F.args_dict_items_1 _) (meets_dict_items (mixKind X.prog X.w) a nsys) ⟨⟨vs, dof⟩, ?_⟩
  have len : vs.length = t.length := by
    have e1 := KV.length rel
    rw [List.length_map] at e1
    exact e1.symm
  have hz' : t.length ≤ sizeLine := by
    rw [List.length_map] at hz
    exact hz
  have I2 : Inv X pins σ H1 { s1 with heap := s1.heap.push { cls := .type "dict_items", data := .fields #[.ref a] } } := I1.kept (t' := s1.toks) fun b ob q => Heap.get?_push_of_some _ q
  refine Calls.call_function_entry PyProof.Rows.kind_sorted PyProof.Rows.plain_sorted PyProof.Rows.entry_sorted (PyProof.Rows.args_sorted1 _) ?_
  unfold Builtin.«sorted»
  refine wpAny_bind (m := checkCount "sorted" 1 1 _) (wpAny_pure ?_)
  refine wpAny_bind (PySem.W.kdx_collect (A := X.A.in1) (knd := mixKind X.prog X.w) (kvs := vs) (ep := ep) (I.ok.hd calm) ⟨_, Heap.get?_push_size _ rfl, rfl, rfl⟩ (dat.push _) (by omega) fun h' tk as hk hl hG => ?_)
  obtain ⟨H', k1, k6, J⟩ := laid_tuples (tk := tk) I2 rel hk hl hG
  have hal : as.length = t.length := by omega
  have e1 : (as.zip t).map (·.1) = as := List.map_fst_zip (by omega)
  have e2 : (as.zip t).map (·.2) = t := List.map_snd_zip (by omega)
  have hat : ∀ y ∈ as.zip t, H' y.1 = some (.tup [.str y.2.1, .int y.2.2]) := by
    have : ∀ {as : List Addr} {t : List (Str × Int)}, Paired (fun (b : Addr) (q : Key × V) => H' b = some (.tup [kV q.1, q.2])) as (t.map fun y => ((.inr y.1 : Key), V.int y.2)) → ∀ y ∈ as.zip t, H' y.1 = some (.tup [.str y.2.1, .int y.2.2]) := by
      intro as
      induction as with
      | nil => intro t _ y hy; cases hy
      | cons b as ih =>
        intro t hp y hy
        cases t with
        | nil => cases hy
        | cons z t =>
          rw [List.map_cons] at hp
          cases hp with
          | cons r tl =>
            rcases List.mem_cons.mp hy with rfl | hy
            · exact r
            · exact ih tl y hy
    exact this k6
  have rv : Vals ((as.zip t).map fun y => V.ref y.1) (as.map Value.ref) := by
    have e3 : ((as.zip t).map fun y => V.ref y.1) = as.map V.ref := by
      have := congrArg (List.map V.ref) e1
      rw [List.map_map] at this
      exact this
    rw [e3]
    exact LiI.vals_refs as
  refine sort_tail J hu (v := fun y : Addr × Str × Int => V.ref y.1) (dd := d2S) (ys := as.zip t) rv (fun y hy => ⟨.tup (SqT.of (hat y hy)) (.cons (.str _) (.cons (.int _) .nil)), by simp [d2S, PyData.depth, PyData.depthAll]⟩) (PySem.W.AllAlike.of fun b b' => by simp [d2S, PySem.W.alike, PySem.W.alikeAll]) (PySem.W.Sortable.tuples fun b => ⟨_, _, rfl⟩) (by rw [List.length_zip]; omega) (fun p hp => ?_) fun l s' h => ⟨_, rfl, h⟩
  have xp := Ext.new (o := .lst (((as.zip t).mergeSort (PySem.W.dataLe false d2S)).map fun y => V.ref y.1)) hp
  refine q p _ _ (k1.none hp) (k1.trans xp) upd_same (fun y hy => xp _ _ (hat y ((List.mergeSort_perm _ _).mem_iff.mp hy))) ?_
  have hm := List.map_mergeSort (r := PySem.W.dataLe false d2S) (s := PySem.W.dataLe false fun z : Str × Int => PyData.tuple [.str z.1, .int z.2]) (f := fun b : Addr × Str × Int => b.2) (l := as.zip t) (fun a _ b _ => rfl)
  rw [e2] at hm
  exact hm
/-! ### the least of three -/
def rMin3 : List V → Hp → VK → Prop := fun xs H Q => ∃ i j k : Int, xs = [.int i, .int j, .int k] ∧ ∀ m : Int, m ≤ i → m ≤ j → m ≤ k → (m = i ∨ m = j ∨ m = k) → Q (.int m) H
theorem call_min3 {X : Cx} (hc : X.calm = true) : CallR X (.builtin "min") rMin3 := fun pins s σ H xs us Q I r h => by
  obtain ⟨i, j, k, ex, q⟩ := h
  refine call_min3Nu hc pins s σ H xs us Q I r ⟨.int i, .int j, .int k, .int (if k < (if j < i then j else i) then k else (if j < i then j else i)), ex, ?_, q _ ?_ ?_ ?_ ?_⟩
  · have e1 : nuMin2 (.int i) (.int j) = some (.int (if j < i then j else i)) := by
      show some (if decide (j < i) = true then V.int j else V.int i) = _
      by_cases h : j < i
      · rw [if_pos (decide_eq_true h), if_pos h]
      · rw [if_neg (fun z => h (of_decide_eq_true z)), if_neg h]
    show (nuMin2 (.int i) (.int j)).bind _ = _
    rw [e1]
    generalize (if j < i then j else i) = m
    show some (if decide (k < m) = true then V.int k else V.int m) = _
    by_cases h : k < m
    · rw [if_pos (decide_eq_true h), if_pos h]
    · rw [if_neg (fun z => h (of_decide_eq_true z)), if_neg h]
  all_goals (split <;> split <;> omega)
end Pf


namespace Pf
open PySem PySem.Spec PyProof.Rows L2
/-! ### dict(zip(a, b)) of two tuples -/
section
variable {P : Program} {w : World} {A : Around} {E : Value → Shared → Prop} {s : Shared} {q U O G j1 j2 m1 m2 : Addr} {f : Bool} {og : Obj} {k1 k2 : Nat} {us vs : Array Value}
theorem zn_item {u v : Value} {R : Value → Shared → Prop} (D : ZipApart q U O j1 j2 m1 m2) (hq : IsZipHeld s.heap q U O G f) (hG : s.heap.get? G = some og) (hU : IsPair s.heap U (.ref j1) (.ref j2)) (t1 : s.heap.IsTupleIter j1 m1 k1) (t2 : s.heap.IsTupleIter j2 m2 k2) (b1 : s.heap.IsTuple m1 us) (b2 : s.heap.IsTuple m2 vs) (eu : us[k1]? = some u) (ev : vs[k2]? = some v)
    (next : ∀ h', IsZipHeld h' q U O G true → h'.IsTupleIter j1 m1 (k1 + 1) → h'.IsTupleIter j2 m2 (k2 + 1) → IsPair h' s.heap.objs.size u v → (∀ c o, c ≠ q → c ≠ j1 → c ≠ j2 → s.heap.get? c = some o → h'.get? c = some o) → R (.ref s.heap.objs.size) { s with heap := h' }) :
    wpAny (model P w) A (Builtin.«zip.__next__» ⟨[.ref q], []⟩) (fun fin s' => ∃ v, fin = .done (.ret v) ∧ R v s') E s := by
  show wpAny _ _ (field (.ref q) 2 >>= _) _ _ _
  refine wpAny_bind (wpAny_field hq rfl (x := .bool false) rfl ?_)
  show wpAny _ _ (field (.ref q) 3 >>= _) _ _ _
  refine wpAny_bind (wpAny_field hq rfl (x := .ref U) rfl (wpAny_bind (wpAny_seqItems hU rfl ?_)))
  show wpAny _ _ (Builtin.SmallTypes.ownedTupleIsFree (.ref q) >>= _) _ _ _
  refine wpAny_bind (wpAny_tupleHeld_zip hq hG fun g1 q1 e1 => ?_)
  simp only [Bool.false_eq_true, if_false]; refine wpAny_bind ?_; rw [← Array.forIn_toList]; simp only [List.forIn_cons, List.forIn_nil]
  refine wpAny_bind (wpAny_bind (wpAny_holding ?_))
  show wpAny _ _ (Builtin.SmallTypes.nextOf (.ref j1) >>= _) _ _ _
  refine wpAny_bind (RZ.nextOf_tuple_item (s := { s with heap := g1 }) (t1.extBut e1.extBut D.i1z) (b1.extBut e1.extBut D.l1z) eu fun g2 t1b e2 => wpAny_pure (wpAny_pure ?_))
  refine wpAny_bind (wpAny_bind (wpAny_holding ?_))
  show wpAny _ _ (Builtin.SmallTypes.nextOf (.ref j2) >>= _) _ _ _
  refine wpAny_bind (RZ.nextOf_tuple_item (s := { s with heap := g2 }) ((t2.extBut e1.extBut D.i2z).extBut e2.extBut D.i12.symm) ((b2.extBut e1.extBut D.l2z).extBut e2.extBut D.l2i1) ev fun g3 t2b e3 => wpAny_pure (wpAny_pure (wpAny_pure ?_)))
  show wpAny _ _ (newTuple [u, v] >>= _) _ _ _
  refine wpAny_bind (wpAny_newTuple (wpAny_pure ⟨_, rfl, ?_⟩))
  have sz : g3.objs.size = s.heap.objs.size := by rw [e3.1, e2.1, e1.1]
  have q3 : IsZipHeld g3 q U O G true := e3.extBut _ _ D.i2z.symm (e2.extBut _ _ D.i1z.symm q1)
  have pr : IsPair (g3.push { cls := .type "tuple", data := .seq #[u, v] }) g3.objs.size u v := Heap.get?_push_size _ rfl
  show R (.ref g3.objs.size) _
  rw [sz] at pr ⊢
  exact next _ (Heap.get?_push_of_some _ q3) ((t1b.extBut e3.extBut D.i12).at fun o e => Heap.get?_push_of_some _ e) (t2b.at fun o e => Heap.get?_push_of_some _ e) pr fun c o c1 c2 c3 e => Heap.get?_push_of_some _ (e3.extBut _ _ c3 (e2.extBut _ _ c2 (e1.extBut _ _ c1 e)))
theorem zn_end {R : Fin → Shared → Prop} (hh : A.handled = none) (D : ZipApart q U O j1 j2 m1 m2) (hq : IsZipHeld s.heap q U O G f) (hG : s.heap.get? G = some og) (hU : IsPair s.heap U (.ref j1) (.ref j2)) (t1 : s.heap.IsTupleIter j1 m1 k1) (b1 : s.heap.IsTuple m1 us) (eu : us[k1]? = none)
    (next : ∀ h' e, (∀ c o, c ≠ q → c ≠ j1 → s.heap.get? c = some o → h'.get? c = some o) → (∃ o, h'.get? e = some o ∧ o.cls = .type "StopIteration") → E (.ref e) { s with heap := h' }) :
    wpAny (model P w) A (Builtin.«zip.__next__» ⟨[.ref q], []⟩) R E s := by
  show wpAny _ _ (field (.ref q) 2 >>= _) _ _ _
  refine wpAny_bind (wpAny_field hq rfl (x := .bool false) rfl ?_)
  show wpAny _ _ (field (.ref q) 3 >>= _) _ _ _
  refine wpAny_bind (wpAny_field hq rfl (x := .ref U) rfl (wpAny_bind (wpAny_seqItems hU rfl ?_)))
  show wpAny _ _ (Builtin.SmallTypes.ownedTupleIsFree (.ref q) >>= _) _ _ _
  refine wpAny_bind (wpAny_tupleHeld_zip hq hG fun g1 q1 e1 => ?_)
  simp only [Bool.false_eq_true, if_false]; refine wpAny_bind ?_; rw [← Array.forIn_toList]; simp only [List.forIn_cons, List.forIn_nil]
  refine wpAny_bind (wpAny_bind (wpAny_holding ?_))
  show wpAny _ _ (Builtin.SmallTypes.nextOf (.ref j1) >>= _) _ _ _
  exact wpAny_bind (RZ.nextOf_tuple_end (s := { s with heap := g1 }) hh (t1.extBut e1.extBut D.i1z) (b1.extBut e1.extBut D.l1z) eu fun g2 e e2 he => next g2 e (fun c o c1 c2 x => e2 _ _ c2 (e1.extBut _ _ c1 x)) he)
theorem zp_item {u v : Value} {R : Option Value → Shared → Prop} (D : ZipApart q U O j1 j2 m1 m2) (hq : IsZipHeld s.heap q U O G f) (hG : s.heap.get? G = some og) (hU : IsPair s.heap U (.ref j1) (.ref j2)) (t1 : s.heap.IsTupleIter j1 m1 k1) (t2 : s.heap.IsTupleIter j2 m2 k2) (b1 : s.heap.IsTuple m1 us) (b2 : s.heap.IsTuple m2 vs) (eu : us[k1]? = some u) (ev : vs[k2]? = some v)
    (next : ∀ h', IsZipHeld h' q U O G true → h'.IsTupleIter j1 m1 (k1 + 1) → h'.IsTupleIter j2 m2 (k2 + 1) → IsPair h' s.heap.objs.size u v → (∀ c o, c ≠ q → c ≠ j1 → c ≠ j2 → s.heap.get? c = some o → h'.get? c = some o) → R (some (.ref s.heap.objs.size)) { s with heap := h' }) :
    wpAny (model P w) A (pyNext (.ref q)) R E s := by
  have ty : s.TypeIs (.ref q) "zip" := ⟨_, hq, rfl⟩
  unfold pyNext
  exact wpAny_bind (wpAny_attempt (wpAny_callSpecial?_slot (name := Str.ofString "__next__") ty F.slot_zip_next (wpAny_call_entry F.slot_zip_next ty F.entry_zip_next (zn_item D hq hG hU t1 t2 b1 b2 eu ev fun h' a1 a3 a4 a5 a7 => wpAny_pure (next h' a1 a3 a4 a5 a7)) (F.args_zip_next_1 _))))
theorem zp_end {R : Option Value → Shared → Prop} (hh : A.handled = none) (D : ZipApart q U O j1 j2 m1 m2) (hq : IsZipHeld s.heap q U O G f) (hG : s.heap.get? G = some og) (hU : IsPair s.heap U (.ref j1) (.ref j2)) (t1 : s.heap.IsTupleIter j1 m1 k1) (b1 : s.heap.IsTuple m1 us) (eu : us[k1]? = none)
    (next : ∀ h', (∀ c o, c ≠ q → c ≠ j1 → s.heap.get? c = some o → h'.get? c = some o) → R none { s with heap := h' }) : wpAny (model P w) A (pyNext (.ref q)) R E s := by
  have ty : s.TypeIs (.ref q) "zip" := ⟨_, hq, rfl⟩
  unfold pyNext
  refine wpAny_bind (wpAny_attempt (wpAny_callSpecial?_slot (name := Str.ofString "__next__") ty F.slot_zip_next (wpAny_call_entry F.slot_zip_next ty F.entry_zip_next (zn_end hh D hq hG hU t1 b1 eu fun h' e kp ⟨o, ho, hc⟩ => ?_) (F.args_zip_next_1 _))))
  exact wpAny_bind (wpAny_isInstance (T := "StopIteration") (b := true) ⟨o, ho, hc⟩ isSubtype_stop (wpAny_pure (next _ kp)))
end
theorem zipT_arg {P : Program} {w : World} (q U O j1 j2 m1 m2 : Addr) (D : ZipApart q U O j1 j2 m1 m2) (us vs : Array Value) (hl : us.size = vs.size) :
    PairArg P w "zip" q [q, U, O, j1, j2, m1, m2] [q, O, j1, j2] us.size (fun i k v => us[i]? = some k ∧ vs[i]? = some v)
      (fun h => IsZip h q U O .none ∧ IsPair h U (.ref j1) (.ref j2) ∧ (∃ a b, IsPair h O a b) ∧ h.IsTupleIter j1 m1 0 ∧ h.IsTupleIter j2 m2 0 ∧ h.IsTuple m1 us ∧ h.IsTuple m2 vs) where
  type := fun s ok => ⟨_, ok.1, rfl⟩
  notDict := by decide
  keep := fun h h' ⟨z0, z1, ⟨a, b, z2⟩, z3, z4, z5, z6⟩ k => ⟨k _ _ z0, k _ _ z1, ⟨a, b, k _ _ z2⟩, z3.at fun o e => k _ o e, z4.at fun o e => k _ o e, z5.at fun o e => k _ o e, z6.at fun o e => k _ o e⟩
  there := fun h ⟨z0, z1, ⟨a, b, z2⟩, ⟨_, z3, _⟩, ⟨_, z4, _⟩, ⟨_, z5, _⟩, ⟨_, z6, _⟩⟩ c hc => by
    simp only [List.mem_cons, List.not_mem_nil, or_false] at hc
    rcases hc with rfl | rfl | rfl | rfl | rfl | rfl | rfl
    · exact ⟨_, z0⟩
    · exact ⟨_, z1⟩
    · exact ⟨_, z2⟩
    · exact ⟨_, z3⟩
    · exact ⟨_, z4⟩
    · exact ⟨_, z5⟩
    · exact ⟨_, z6⟩
  sub := fun b hb => by simp only [List.mem_cons, List.not_mem_nil, or_false] at hb ⊢; rcases hb with rfl | rfl | rfl | rfl <;> simp
  noKeys := fun A s Q E hA ok h => getAttrOr_miss_zip ok.1 rfl rfl rfl zip_no_keys (by decide +kernel) hA h
  iter := fun A s d Q E hA ⟨z0, z1, ⟨a, b, z2⟩, z3, z4, z5, z6⟩ hd hdf h => by
    simp only [List.mem_cons, List.not_mem_nil, or_false, not_or] at hdf
    obtain ⟨d0, d1, d2, d3, d4, d5, d6⟩ := hdf
    refine wpAny_pyIter_zip z0 (h q [q, O, j1, j2] (fun i h => IsPair h U (.ref j1) (.ref j2) ∧ h.IsTupleIter j1 m1 i ∧ h.IsTupleIter j2 m2 i ∧ h.IsTuple m1 us ∧ h.IsTuple m2 vs ∧ ((IsZip h q U O .none ∧ ∃ a b, IsPair h O a b) ∨ ∃ G f og, IsZipHeld h q U O G f ∧ h.get? G = some og ∧ G ≠ q ∧ G ≠ j1 ∧ G ≠ j2 ∧ G ≠ d)) s.heap s.toks ?_ ⟨z1, z3, z4, z5, z6, .inl ⟨z0, a, b, z2⟩⟩ (fun _ _ e => e) fun b hb => .inl hb)
    refine { off := fun hm => ?_, frame := fun i g1 g2 st k => ?_, item := fun i s1 Q1 E1 hi st hds next => ?_, done := fun s1 Q1 E1 st next => ?_ }
    · simp only [List.mem_cons, List.not_mem_nil, or_false] at hm
      rcases hm with e | e | e | e
      · exact d0 e
      · exact d2 e
      · exact d3 e
      · exact d4 e
    · obtain ⟨y1, y3, y4, y5, y6, y⟩ := st
      refine ⟨k _ _ (Ne.symm d1) y1, y3.at fun o e => k _ o (Ne.symm d3) e, y4.at fun o e => k _ o (Ne.symm d4) e, y5.at fun o e => k _ o (Ne.symm d5) e, y6.at fun o e => k _ o (Ne.symm d6) e, ?_⟩
      rcases y with ⟨y0, a, b, y2⟩ | ⟨G, f, og, y0, yG, r1, r2, r3, r4⟩
      · exact .inl ⟨k _ _ (Ne.symm d0) y0, a, b, k _ _ (Ne.symm d2) y2⟩
      · exact .inr ⟨G, f, og, k _ _ (Ne.symm d0) y0, k _ _ r4 yG, r1, r2, r3, r4⟩
    · obtain ⟨y1, y3, y4, y5, y6, y⟩ := st
      have eu := Array.getElem?_eq_getElem hi
      have ev := Array.getElem?_eq_getElem (hl ▸ hi : i < vs.size)
      have lt : ∀ {c o}, s1.heap.get? c = some o → s1.heap.objs.size ≠ c := fun e => Nat.ne_of_gt (Heap.lt_size e)
      have n1 : s1.heap.objs.size ≠ j1 := let ⟨_, e, _⟩ := y3; lt e
      have n2 : s1.heap.objs.size ≠ j2 := let ⟨_, e, _⟩ := y4; lt e
      rcases y with ⟨y0, a, b, y2⟩ | ⟨G, f, og, y0, yG, r1, r2, r3, r4⟩
      · refine RZ.pyNext_zipT_item D y0 y1 y2 y3 y4 y5 y6 eu ev fun h' a1 a2 a3 a4 a5 a6 k => ?_
        refine next s1.heap.objs.size _ _ h' s1.toks ⟨eu, ev⟩ (.inl ⟨_, a5, rfl, _, rfl⟩) ⟨k _ _ D.TIz D.TITO D.TIi1 D.TIi2 y1, a3, a4, y5.at fun o e => k _ o D.l1z D.l1TO D.l1i1 D.l1i2 e, y6.at fun o e => k _ o D.l2z D.l2TO D.l2i1 D.l2i2 e, .inr ⟨s1.heap.objs.size, false, _, a1, a5, lt y0, n1, n2, Nat.ne_of_gt hds⟩⟩ fun c o hc e => ?_
        simp only [List.mem_cons, List.not_mem_nil, or_false, not_or] at hc
        exact k c o hc.1 hc.2.1 hc.2.2.1 hc.2.2.2 e
      · refine zp_item D y0 yG y1 y3 y4 y5 y6 eu ev fun h' a1 a3 a4 a5 k => ?_
        refine next s1.heap.objs.size _ _ h' s1.toks ⟨eu, ev⟩ (.inl ⟨_, a5, rfl, _, rfl⟩) ⟨k _ _ D.TIz D.TIi1 D.TIi2 y1, a3, a4, y5.at fun o e => k _ o D.l1z D.l1i1 D.l1i2 e, y6.at fun o e => k _ o D.l2z D.l2i1 D.l2i2 e, .inr ⟨G, true, og, a1, k _ _ r1 r2 r3 yG, r1, r2, r3, r4⟩⟩ fun c o hc e => ?_
        simp only [List.mem_cons, List.not_mem_nil, or_false, not_or] at hc
        exact k c o hc.1 hc.2.2.1 hc.2.2.2 e
    · obtain ⟨y1, y3, y4, y5, y6, y⟩ := st
      have eu : us[us.size]? = none := Array.getElem?_eq_none (Nat.le_refl _)
      rcases y with ⟨y0, a, b, y2⟩ | ⟨G, f, og, y0, yG, r1, r2, r3, r4⟩
      · refine RZ.pyNext_zipT_end hA D y0 y1 y2 y3 y4 y5 y6 (.inl eu) fun h' k => next h' s1.toks fun c o hc e => ?_
        simp only [List.mem_cons, List.not_mem_nil, or_false, not_or] at hc
        exact k c o hc.1 hc.2.1 hc.2.2.1 hc.2.2.2 e
      · refine zp_end hA D y0 yG y1 y3 y5 eu fun h' k => next h' s1.toks fun c o hc e => ?_
        simp only [List.mem_cons, List.not_mem_nil, or_false, not_or] at hc
        exact k c o hc.1 hc.2.2.1 e
theorem kv_zip {P : Program} {w : World} : ∀ {kvs : List (Key × V)} {its its2 : List Value}, Vals (kvs.map fun x => kV x.1) its → Vals (kvs.map (·.2)) its2 → ∃ prs : List (Key × Value), KV kvs prs ∧ prs.length = kvs.length ∧ ∀ (i : Nat) (key v : Value), its[i]? = some key → its2[i]? = some v → ∃ k, prs[i]? = some (k, v) ∧ (mixKind P w).is k key = true
  | [], _, _, r1, r2 => ⟨[], .nil, rfl, fun i key v e _ => by
      cases r1
      cases e⟩
  | (k, y) :: rest, _, _, r1, r2 => by
    rw [List.map_cons] at r1 r2
    cases r1 with
    | cons a1 t1 =>
      cases r2 with
      | cons a2 t2 =>
        obtain ⟨prs, r, hl, hp⟩ := kv_zip (P := P) (w := w) t1 t2
        refine ⟨(k, _) :: prs, .cons ⟨rfl, a2⟩ r, by rw [List.length_cons, List.length_cons, hl], fun i key v e e2 => ?_⟩
        cases i with
        | zero =>
          rw [List.getElem?_cons_zero] at e e2
          cases e
          cases e2
          exact ⟨k, rfl, kV_is a1⟩
        | succ i =>
          rw [List.getElem?_cons_succ] at e e2
          exact hp i key v e e2
def tDz (K : PySem.W.Frag) (ta : TA) : TE := fun σ H Q => ta σ H fun vs H1 => ∃ (a b : Addr) (kvs : List (Key × V)), vs = [.ref a, .ref b] ∧ SqT K H1 a (kvs.map fun x => kV x.1) ∧ SqT K H1 b (kvs.map (·.2)) ∧ ∀ p, H1 p = none → Q (.ref p) (upd H1 p (.dK (mergeK [] kvs)))
theorem pe_dictZip {X : Cx} {e e2 : Expr} {ta : TA} {p p2 pos pos2 : Pos} (hgd : Gl X "dict") (hmd : X.mg "dict" = none) (hg : Gl X "zip") (hm : X.mg "zip" = none) (hcalm : X.calm = true) (ha : PA X [e, e2] ta)
    (na : starEach [.Call (.Name "zip" p2) [e, e2] [] pos2] X.env = (false, eval (.Call (.Name "zip" p2) [e, e2] [] pos2) X.env) :: starEach [] X.env := by rfl)
    (hs : starEach [e, e2] X.env = (false, eval e X.env) :: starEach [e2] X.env := by rfl) (hpl : (backTo pos2 (starEach [e2] X.env)).any (·.1) = false := by rfl) :
    PE X (.Call (.Name "dict" p) [.Call (.Name "zip" p2) [e, e2] [] pos2] [] pos) (tDz X.K ta) := by
  refine ⟨fun pins s σ H Q I h => ?_⟩
  refine Call_ (ld_blt I hgd hmd PyProof.Rows.boot_dict (PyProof.Rows.callWith_type1 (args_cons (Call_ (ld_blt I hg hm PyProof.Rows.boot_zip (PyProof.Rows.callWith_type1 (thn (ha.run pos2 pins s σ H _ I h) fun us s1 ⟨vs, H1, I1, r1, q1⟩ => ?_) hs hpl))) na) na))
  obtain ⟨a, b, kvs, rfl, ha1, hb1, q⟩ := q1
  cases r1 with
  | cons ra rr =>
    cases rr with
    | cons rb rr =>
      cases rr
      cases ra
      cases rb
      obtain ⟨its, v1, p1, hz1⟩ := I1.tuple ha1
      obtain ⟨its2, v2, p2', hz2⟩ := I1.tuple hb1
      obtain ⟨o1, ho1, y1⟩ := id p1
      obtain ⟨o2, ho2, y2⟩ := id p2'
      obtain ⟨prs, rel, hl, hp⟩ := kv_zip (P := X.prog) (w := X.w) v1 v2
      have l1 : its.length = kvs.length := by
        have := v1.length
        rw [List.length_map] at this
        exact this.symm
      have l2 : its2.length = kvs.length := by
        have := v2.length
        rw [List.length_map] at this
        exact this.symm
      rw [List.length_map] at hz1
      refine RZ.call_zipT (show s1.heap.IsTuple a its.toArray from p1) (show s1.heap.IsTuple b its2.toArray from p2') fun h' hz hTI hTO t1 t2 hsz hk => args_nil ?_
      have D := PySem.W.ktu_apart s1.heap.objs.size a b (Heap.lt_size ho1) (Heap.lt_size ho2)
      refine PySem.call_dict_pairs (knd := mixKind X.prog X.w) (kvs := prs) (zipT_arg _ _ _ _ _ a b D its.toArray its2.toArray (by rw [List.size_toArray, List.size_toArray, l1, l2])) (I1.ok.hd hcalm) ⟨hz, hTI, ⟨_, _, hTO⟩, t1, t2, ⟨o1, hk _ _ ho1, y1⟩, ⟨o2, hk _ _ ho2, y2⟩⟩ ⟨?_, fun i key v e => ?_⟩ ?_ fun h2 tk hd hk2 => ?_
      · rw [hl, List.size_toArray, l1]
      · exact hp i key v (by simpa using e.1) (by simpa using e.2)
      · rw [List.size_toArray, l1]
        exact hz1
      · have keep : ∀ c o, s1.heap.get? c = some o → h2.get? c = some o := fun c o e => by
          have hlt := Heap.lt_size e
          refine hk2 c o (fun hm => ?_) (hk c o e)
          simp only [List.mem_cons, List.not_mem_nil, or_false] at hm
          rcases hm with z | z | z | z
          · exact Nat.not_lt.mpr (Nat.le_add_right _ _) (z ▸ hlt)
          · exact Nat.not_lt.mpr (Nat.le_add_right _ _) (z ▸ hlt)
          · exact Nat.not_lt.mpr (Nat.le_refl _) (z ▸ hlt)
          · exact Nat.not_lt.mpr (Nat.le_add_right _ _) (z ▸ hlt)
        have hle : s1.heap.objs.size ≤ h'.objs.size := by
          rw [hsz]
          exact Nat.le_add_right _ _
        have hm : (h'.objs.size == sysModules) = false := beq_eq_false_iff_ne.mpr (Nat.ne_of_gt (Nat.lt_of_lt_of_le I1.big hle))
        have hlen : (mergeK [] kvs).length ≤ sizeLine := by
          refine Nat.le_trans (length_mergeK kvs []) ?_
          rw [List.length_nil, Nat.zero_add]
          exact hz1
        exact ⟨.ref h'.objs.size, upd H1 h'.objs.size (.dK (mergeK [] kvs)), I1.laid (t' := tk) keep hle (show ObjOk X.prog X.w _ _ _ (.dK (mergeK [] kvs)) from ⟨hlen, hm, merged [] prs, KV.merge rel .nil, hd⟩), rfl, q _ (I1.hok.fresh hle)⟩
end Pf


namespace Pf
open PySem PySem.Spec PyProof.Rows L2
/-! ### sum(lists, start) -/
abbrev LiO (its : List Value) (n : Nat) : Obj := { cls := .type "list", dict := none, data := .seq its.toArray n, slots := #[] }
section
variable {P : Program} {w : World} {A : Around} {R : Result → Shared → Prop} {I l S : Addr} {items : Array Value}
theorem suml_loop (hh : A.in1.handled = none) (nIS : I ≠ S) (nIl : l ≠ I) (nSl : l ≠ S) : ∀ (rest : List (Addr × List Value)) (i : Nat) (s : Shared) (t : Addr) (acc : List Value) (c1 ct : Nat), items.size = i + rest.length → s.heap.IsListIter I l i → s.heap.IsList l items →
    (∀ (j : Nat) (x : Addr × List Value), rest[j]? = some x → items[i + j]? = some (.ref x.1) ∧ x.1 ≠ I ∧ x.1 ≠ S ∧ ∃ c, s.heap.get? x.1 = some (LiO x.2 c)) → s.heap.get? S = some (LiO [.ref t] c1) → s.heap.get? t = some (LiO acc ct) → t ≠ I → t ≠ S →
    acc.length + (rest.map (·.2)).flatten.length ≤ sizeLine →
    (∀ h' tk t' c', h'.get? t' = some (LiO (acc ++ (rest.map (·.2)).flatten) c') → (rest = [] → t' = t) → (rest ≠ [] → s.heap.objs.size ≤ t') → (∀ b o, b ≠ I → b ≠ S → s.heap.get? b = some o → h'.get? b = some o) → R (.ok (.ret (.ref t'))) { s with heap := h', toks := tk }) →
    codeAny (model P w) A (.builtin "sum.loop" ⟨[.ref I, .ref S, rawInt 2, rawInt 0], []⟩) R s
  | [], i, s, t, acc, c1, ct, hn, it, hl, _, hS, ht, _, _, _, hR => by
    refine codeAny_builtin F.entry_sum_loop ?_; rw [Around.under_plainId F.plain_sum_loop _]
    show wpAny _ A.in1 (seqItems? (.ref S) >>= _) _ _ _
    refine wpAny_bind (wpAny_seqItems hS rfl ?_)
    show wpAny _ A.in1 (tryCatch (pyNext (.ref I)) _ >>= _) _ _ _
    refine wpAny_bind (wpAny_tryCatch (wpAny_pyNext_list_end hh it hl (Array.getElem?_eq_none (by rw [hn]; exact Nat.le_refl _)) fun h' he => ?_))
    exact wpAny_pure (hR h' s.toks t ct (by rw [List.map_nil, List.flatten_nil, List.append_nil]; exact he t _ (by assumption) ht) (fun _ => rfl) (fun z => absurd rfl z) fun b o n1 _ e => he b o n1 e)
  | (b, ys) :: rest, i, s, t, acc, c1, ct, hn, it, hl, hx, hS, ht, ntI, ntS, hz, hR => by
    obtain ⟨e0, nbI, nbS, cb, hb⟩ := hx 0 (b, ys) rfl
    rw [List.map_cons, List.flatten_cons] at hR
    rw [List.map_cons, List.flatten_cons, List.length_append] at hz
    have hz : acc.length + (ys.length + (rest.map (·.2)).flatten.length) ≤ sizeLine := hz
    refine codeAny_builtin F.entry_sum_loop ?_; rw [Around.under_plainId F.plain_sum_loop _]
    show wpAny _ A.in1 (seqItems? (.ref S) >>= _) _ _ _
    refine wpAny_bind (wpAny_seqItems hS rfl ?_)
    show wpAny _ A.in1 (tryCatch (pyNext (.ref I)) _ >>= _) _ _ _
    refine wpAny_bind (wpAny_tryCatch (wpAny_pyNext_list_item it hl e0 fun h1 it1 s1 => ?_))
    have hS1 := s1.extBut _ _ nIS.symm hS
    have ht1 := s1.extBut _ _ ntI ht
    have hb1 := s1.extBut _ _ nbI hb
    show wpAny _ A.in1 ((holding [Value.ref b] (binaryOp .Add (.ref t) (.ref b))).attempt >>= _) _ _ _
    refine wpAny_bind (wpAny_attempt (wpAny_holding (PySem.P.add_list (n := ct) (n2 := cb) ht1 hb1 ?_ (by rw [List.size_toArray, List.size_toArray]; show acc.length + ys.length ≤ _; omega))))
    have ea : acc.toArray ++ ys.toArray = (acc ++ ys).toArray := by simp
    rw [ea]
    have sz1 : h1.objs.size = s.heap.objs.size := s1.1
    generalize hh2 : h1.push { cls := Value.type "list", data := Data.seq (acc ++ ys).toArray } = h2
    have up2 : ∀ c o, h1.get? c = some o → h2.get? c = some o := fun c o e => hh2 ▸ Heap.get?_push_of_some _ e
    have new2 : h2.get? h1.objs.size = some (LiO (acc ++ ys) 0) := hh2 ▸ Heap.get?_push_size _ rfl
    have sz2 : h2.objs.size = h1.objs.size + 1 := hh2 ▸ Heap.size_push ..
    have ltS : S < h1.objs.size := Heap.lt_size hS1
    have ltI : I < h1.objs.size := by
      obtain ⟨_, e, _⟩ := it1
      exact Heap.lt_size e
    show wpAny _ A.in1 (updateSeq S (fun _ => #[.ref h1.objs.size]) >>= _) _ _ _
    refine wpAny_bind (wpAny_updateSeq (up2 _ _ hS1) rfl ?_)
    have hS3 := Heap.get?_update_self (Obj.mapSeq fun _ => #[Value.ref h1.objs.size]) (up2 _ _ hS1) rfl
    refine wpAny_bind (wpAny_letGo ?_)
    refine wpAny_bind (wpAny_updateSeq hS3 rfl (wpAny_pure ⟨plainId_quiet F.plain_sum_loop _, ?_⟩))
    have hS4 := Heap.get?_update_self (Obj.mapSeq fun _ => #[Value.ref h1.objs.size]) hS3 rfl
    have up4 : ∀ c o, c ≠ S → h2.get? c = some o → ((h2.update S (Obj.mapSeq fun _ => #[Value.ref h1.objs.size])).update S (Obj.mapSeq fun _ => #[Value.ref h1.objs.size])).get? c = some o := fun c o n e => (Heap.get?_update_other _ _ n.symm).trans ((Heap.get?_update_other _ _ n.symm).trans e)
    have all : ∀ c o, c ≠ I → c ≠ S → s.heap.get? c = some o → ((h2.update S (Obj.mapSeq fun _ => #[Value.ref h1.objs.size])).update S (Obj.mapSeq fun _ => #[Value.ref h1.objs.size])).get? c = some o := fun c o n1 n2 e => up4 c o n2 (up2 _ _ (s1.extBut _ _ n1 e))
    refine suml_loop hh nIS nIl nSl rest (i + 1) { s with heap := (h2.update S (Obj.mapSeq fun _ => #[Value.ref h1.objs.size])).update S (Obj.mapSeq fun _ => #[Value.ref h1.objs.size]) } h1.objs.size (acc ++ ys) _ 0 ?_ ?_ ?_ (fun j x hj => ?_) hS4 (up4 _ _ (Nat.ne_of_gt ltS) new2) (Nat.ne_of_gt ltI) (Nat.ne_of_gt ltS) ?_ fun h' tk t' c' g1 g2 g3 g4 => ?_
    · rw [hn, List.length_cons]
      omega
    · exact it1.at fun o e => up4 _ _ nIS (up2 _ _ e)
    · exact hl.at fun o e => all _ _ nIl nSl e
    · obtain ⟨y1, y2, y3, c, y4⟩ := hx (j + 1) x hj
      exact ⟨by rw [show i + 1 + j = i + (j + 1) by omega]; exact y1, y2, y3, c, all _ _ y2 y3 y4⟩
    · rw [List.length_append]
      omega
    · refine hR h' tk t' c' (by rw [← List.append_assoc]; exact g1) (fun z => nomatch z) (fun _ => ?_) fun b o n1 n2 e => g4 b o n1 n2 (all _ _ n1 n2 e)
      cases hr : rest with
      | nil =>
        rw [g2 hr, sz1]
        exact Nat.le_refl _
      | cons y r =>
        have := g3 (by rw [hr]; intro z; cases z)
        have e4 : ((h2.update S (Obj.mapSeq fun _ => #[Value.ref h1.objs.size])).update S (Obj.mapSeq fun _ => #[Value.ref h1.objs.size])).objs.size = h2.objs.size := by
          rw [Heap.size_update, Heap.size_update]
        exact Nat.le_trans (by rw [← sz1, ← Nat.lt_succ_iff]; show h1.objs.size < _; rw [e4, sz2]; exact Nat.lt_succ_of_le (Nat.le_succ _)) this
end
theorem sub_ls : isSubtype (.type "list") (.type "str") = pure false := by rw [isSubtype_type]; kernel_rfl
theorem sub_lb : isSubtype (.type "list") (.type "bytes") = pure false := by rw [isSubtype_type]; kernel_rfl
theorem sub_la : isSubtype (.type "list") (.type "bytearray") = pure false := by rw [isSubtype_type]; kernel_rfl
theorem args_sum2 (a b : Value) : argsOk "sum" ⟨[a, b], []⟩ := by unfold argsOk; kernel_rfl
theorem lists_of {X : Cx} {pins : List (Addr × Obj)} {σ : L2.St} {H : Hp} {s : Shared} (I : Inv X pins σ H s) : ∀ {ls : List (Addr × List V)}, (∀ x ∈ ls, H x.1 = some (.lst x.2)) → ∃ rest : List (Addr × List Value), rest.map (·.1) = ls.map (·.1) ∧ Vals (ls.map (·.2)).flatten (rest.map (·.2)).flatten ∧ ∀ x ∈ rest, ∃ c, s.heap.get? x.1 = some (LiO x.2 c)
  | [], _ => ⟨[], rfl, .nil, fun x h => by cases h⟩
  | (a, ys) :: ls, h => by
    obtain ⟨rest, r1, r2, r3⟩ := lists_of I (ls := ls) fun x hx => h x (List.mem_cons_of_mem _ hx)
    obtain ⟨_, its, n, r, _, e⟩ := I.lstM (h (a, ys) (List.mem_cons_self ..))
    refine ⟨(a, its) :: rest, by rw [List.map_cons, List.map_cons, r1], ?_, fun x hx => ?_⟩
    · rw [List.map_cons, List.map_cons, List.flatten_cons, List.flatten_cons]
      exact r.append r2
    · rcases List.mem_cons.mp hx with rfl | hx
      · exact ⟨n, e⟩
      · exact r3 x hx
def rSumL (K : PySem.W.Frag) : List V → Hp → VK → Prop := fun vs H Q => ∃ (a b : Addr) (ls : List (Addr × List V)) (xs : List V), vs = [.ref a, .ref b] ∧ SqL K H a (ls.map fun x => .ref x.1) ∧ (∀ x ∈ ls, H x.1 = some (.lst x.2)) ∧ H b = some (.lst xs) ∧ xs.length + (ls.map (·.2)).flatten.length ≤ sizeLine ∧
  (ls = [] → Q (.ref b) H) ∧ (ls ≠ [] → ∀ p, H p = none → Q (.ref p) (upd H p (.lst (xs ++ (ls.map (·.2)).flatten))))
theorem cr_sumL (K : PySem.W.Frag) {X : Cx} (hcalm : X.calm = true) (hK : X.K = K := by rfl) : CallR X (.builtin "sum") (rSumL K) := by
  subst hK
  intro pins s σ H vs us Q I r h
  obtain ⟨a, b, ls, xs, rfl, ha, hls, hb, hz, q0, q1⟩ := h
  cases r with
  | cons ra rr =>
    cases rr with
    | cons rb rr =>
      cases rr
      cases ra
      cases rb
      obtain ⟨its, v1, pl, _⟩ := I.list ha
      obtain ⟨rest, r1, r2, r3⟩ := lists_of I hls
      obtain ⟨_, bs, nb, vb, _, eb⟩ := I.lstM hb
      have hl : s.heap.IsList a its.toArray := pl.isList
      have ei : its = rest.map fun x => Value.ref x.1 := by
        have e1 : (ls.map fun x => V.ref x.1) = (ls.map (·.1)).map V.ref := by rw [List.map_map]; rfl
        rw [e1] at v1
        rw [refs_at v1, ← r1, List.map_map]
        rfl
      refine call_function_tree F.kind_sum F.plain_sum F.entry_sum (args_sum2 _ _) ?_
      unfold Builtin.«sum»; simp only [List.length_cons, List.length_nil]; rw [if_neg (by decide)]
      refine wpAny_bind (wpAny_of_eq (show Builtin.Builtins.bindParams "sum" ["start"] 0 ⟨[.ref b], []⟩ = pure [some (.ref b)] from rfl) ?_)
      refine wpAny_bind (wpAny_pyIter_list hl ?_)
      have tb : ∀ tk, Shared.TypeIs { s with heap := s.heap.push { cls := .type "list_iterator", data := .fields #[.ref a, .int 0 0] }, toks := tk } (.ref b) "list" := fun _ => ⟨_, Heap.get?_push_of_some _ eb, rfl⟩
      refine wpAny_bind (wpAny_pure ?_)
      simp only [List.forIn_cons, List.forIn_nil]
      refine wpAny_bind (wpAny_bind (wpAny_bind (wpAny_isInstance (T := "list") (b := false) (tb _) sub_ls ?_))); simp only [Bool.false_eq_true, if_false]
      refine wpAny_pure (wpAny_bind (wpAny_bind (wpAny_isInstance (T := "list") (b := false) (tb _) sub_lb ?_))); simp only [Bool.false_eq_true, if_false]
      refine wpAny_pure (wpAny_bind (wpAny_bind (wpAny_isInstance (T := "list") (b := false) (tb _) sub_la ?_))); simp only [Bool.false_eq_true, if_false]
      refine wpAny_pure (wpAny_pure (wpAny_bind (wpAny_newObj_type (wpAny_pure ⟨plainId_quiet F.plain_sum_loop _, ?_⟩))))
      have lt : ∀ {c o}, s.heap.get? c = some o → c < s.heap.objs.size := fun e => Heap.lt_size e
      have la : a < s.heap.objs.size := pl.lt
      have lb : b < s.heap.objs.size := lt eb
      have sz : (s.heap.push { cls := .type "list_iterator", data := .fields #[.ref a, .int 0 0] }).objs.size = s.heap.objs.size + 1 := Heap.size_push ..
      have up : ∀ c o, s.heap.get? c = some o → ((s.heap.push { cls := .type "list_iterator", data := .fields #[.ref a, .int 0 0] }).push (LiO [.ref b] 0)).get? c = some o := fun c o e => Heap.get?_push_of_some _ (Heap.get?_push_of_some _ e)
      have off : ∀ {c}, c < s.heap.objs.size + 1 → c ≠ (s.heap.push { cls := .type "list_iterator", data := .fields #[.ref a, .int 0 0] }).objs.size := fun h => by
        rw [sz]
        exact Nat.ne_of_lt h
      refine suml_loop (P := X.prog) (w := X.w) (A := X.A) (I := s.heap.objs.size) (l := a) (S := (s.heap.push { cls := .type "list_iterator", data := .fields #[.ref a, .int 0 0] }).objs.size) (items := its.toArray) (I.ok.hd hcalm) (off (Nat.lt_succ_self _)) (Nat.ne_of_lt la) (off (Nat.lt_succ_of_lt la)) rest 0 { s with heap := (s.heap.push { cls := .type "list_iterator", data := .fields #[.ref a, .int 0 0] }).push (LiO [.ref b] 0) } b bs 0 nb ?_ ⟨_, Heap.get?_push_of_some _ (Heap.get?_push_size _ rfl), rfl, rfl⟩ (hl.at fun o e => up _ _ e) (fun j x hj => ?_) ?_ (up _ _ eb) (Nat.ne_of_lt lb) (off (Nat.lt_succ_of_lt lb)) ?_ fun h' tk t' c' g1 g2 g3 g4 => ?_
      · rw [List.size_toArray, ei, List.length_map, Nat.zero_add]
      · obtain ⟨c, hc⟩ := r3 x (List.mem_of_getElem? hj)
        have lx := lt hc
        refine ⟨?_, Nat.ne_of_lt lx, off (Nat.lt_succ_of_lt lx), c, up _ _ hc⟩
        rw [Nat.zero_add, List.getElem?_toArray, ei, List.getElem?_map, hj]
        rfl
      · exact Heap.get?_push_size _ rfl
      · have := r2.length
        have := vb.length
        omega
      · have keep : ∀ c o, s.heap.get? c = some o → h'.get? c = some o := fun c o e => g4 c o (Nat.ne_of_lt (lt e)) (off (Nat.lt_succ_of_lt (lt e))) (up c o e)
        cases hr : ls with
        | nil =>
          have hrest : rest = [] := by
            rw [hr] at r1
            cases rest with
            | nil => rfl
            | cons y z => cases r1
          rw [g2 hrest]
          exact ⟨.ref b, H, I.kept keep, rfl, q0 hr⟩
        | cons y z =>
          have hrest : rest ≠ [] := fun e => by
            rw [e, hr] at r1
            cases r1
          have hle : s.heap.objs.size ≤ t' := Nat.le_trans (by rw [Heap.size_push, Heap.size_push]; omega) (g3 hrest)
          refine ⟨.ref t', upd H t' (.lst (xs ++ (ls.map (·.2)).flatten)), I.laid keep hle (show ObjOk X.prog X.w _ _ _ (.lst (xs ++ (ls.map (·.2)).flatten)) from ⟨?_, bs ++ (rest.map (·.2)).flatten, c', vb.append r2, g1⟩), rfl, q1 (by rw [hr]; intro e; cases e) _ (I.hok.fresh hle)⟩
          rw [List.length_append]
          exact hz
/-! ### tuple(xs) of a list, its object known; dict(ps) of such a tuple of pairs -/
def rTupleFz (K : PySem.W.Frag) : List V → Hp → VK → Prop := fun xs H Q => ∃ p ys, xs = [.ref p] ∧ SqL K H p ys ∧ ∀ (l : Addr) (o : Obj), H l = none → o.dict = none → Q (.ref l) (upd H l (.frz o (.tup ys)))
theorem tupleFz (K : PySem.W.Frag) {X : Cx} (hK : X.K = K := by rfl) : CallR X (.type "tuple") (rTupleFz K) := by
  subst hK
  intro pins s σ H vs us Q I r h
  obtain ⟨p, ys, rfl, hs, q⟩ := h
  obtain ⟨u, rfl, rfl⟩ := vals1 r
  obtain ⟨its, rv, pl, hz⟩ := I.list hs
  refine call_tuple_list pl.isList (fun h' hk => ?_) (by rw [List.size_toArray, ← rv.length]; exact hz)
  have I1 : Inv X pins σ H { s with heap := h' } := I.kept (t' := s.toks) hk
  refine ⟨.ref h'.objs.size, _, I1.laid (t' := s.toks) (o := .frz { cls := .type "tuple", data := .seq its.toArray } (.tup ys)) (fun b o e => Heap.get?_push_of_some _ e) (Nat.le_refl _) ?_, rfl, q _ _ (I1.hok.fresh (Nat.le_refl _)) rfl⟩
  exact ⟨Heap.get?_push_size _ rfl, hz, its, rv, IsTup.new _ _⟩
theorem trips {X : Cx} {pins : List (Addr × Obj)} {σ : L2.St} {H : Hp} {s : Shared} (I : Inv X pins σ H s) : ∀ {ps : List Addr} {kvs : List (Key × V)}, Paired (fun p kv => SqT X.K H p [kV kv.1, kv.2]) ps kvs →
    ∃ tr : List (Key × Value × Value), tr.length = ps.length ∧ KV kvs (tr.map fun t => (t.1, t.2.2)) ∧ ∀ (j : Nat) (t : Key × Value × Value), tr[j]? = some t → ∃ b : Addr, ps[j]? = some b ∧ IsTup s.heap b #[t.2.1, t.2.2] ∧ (mixKind X.prog X.w).is t.1 t.2.1 = true
  | _, _, .nil => ⟨[], rfl, .nil, fun j t e => by simp at e⟩
  | _, _, .cons (a := p) (b := kv) h t => by
    obtain ⟨tr, hl, r, hp⟩ := trips I t
    obtain ⟨its, rv, ht, _⟩ := I.tuple h
    obtain ⟨u, y, ei, ru, ry⟩ := vals2 rv
    subst ei
    refine ⟨(kv.1, u, y) :: tr, by rw [List.length_cons, List.length_cons, hl], .cons ⟨rfl, ry⟩ r, fun j t e => ?_⟩
    cases j with
    | zero =>
      rw [List.getElem?_cons_zero] at e
      cases e
      exact ⟨p, rfl, ht, kV_is ru⟩
    | succ j =>
      rw [List.getElem?_cons_succ] at e
      obtain ⟨b, e1, e2⟩ := hp j t e
      exact ⟨b, by rw [List.getElem?_cons_succ]; exact e1, e2⟩
def rDictT (K : PySem.W.Frag) : List V → Hp → VK → Prop := fun xs H Q => ∃ (a : Addr) (o : Obj) (ps : List Addr) (kvs : List (Key × V)), xs = [.ref a] ∧ H a = some (.frz o (.tup (ps.map V.ref))) ∧ o.dict = none ∧ Paired (fun p kv => SqT K H p [kV kv.1, kv.2]) ps kvs ∧ ∀ p, H p = none → Q (.ref p) (upd H p (.dK (mergeK [] kvs)))
theorem dictT (K : PySem.W.Frag) {X : Cx} (hcalm : X.calm = true := by rfl) (hK : X.K = K := by rfl) : CallR X (.type "dict") (rDictT K) := by
  subst hK
  intro pins s σ H xs us Q I r h
  obtain ⟨a, o, ps, kvs, rfl, ha, hd, hp, q⟩ := h
  obtain ⟨u, rfl, rfl⟩ := vals1 r
  obtain ⟨e, hz, its, rv, o', e', hc, n, hdat⟩ := I.hok a _ ha
  have eo : o' = o := by
    rw [e] at e'
    exact (Option.some.inj e').symm
  subst eo
  obtain ⟨tr, hl, rel, htr⟩ := trips I hp
  have ei : its = ps.map Value.ref := refs_at rv
  rw [List.length_map] at hz
  refine PySem.call_dict_pairs (knd := mixKind X.prog X.w) (kvs := tr.map fun t => (t.1, t.2.2)) (PairArg.tuple a its.toArray (fun j => ps.getD j 0) (tr.map fun t => (t.2.1, t.2.2))) (I.ok.hd hcalm) ⟨⟨o', n, e, hc, hd, hdat⟩, ?_, fun j k v hj => ?_⟩ ⟨?_, fun i key v hi => ?_⟩ ?_ fun h' tk hd' k => ?_
  · rw [List.size_toArray, ei, List.length_map, List.length_map, hl]
  · rw [List.getElem?_map] at hj
    cases ht : tr[j]? with
    | none =>
      rw [ht] at hj
      cases hj
    | some t =>
      rw [ht] at hj
      cases hj
      obtain ⟨b, e1, e2, _⟩ := htr j t ht
      have eb : ps.getD j 0 = b := by
        rw [List.getD_eq_getElem?_getD, e1]
        rfl
      refine ⟨?_, .inl ?_⟩
      · rw [List.getElem?_toArray, ei, List.getElem?_map, e1]
        show some (Value.ref b) = some (Value.ref (ps.getD j 0))
        rw [eb]
      · show s.heap.IsTuple (ps.getD j 0) _
        rw [eb]
        exact e2
  · rw [List.length_map, List.length_map]
  · have hi : (tr.map fun t => (t.2.1, t.2.2))[i]? = some (key, v) := hi
    rw [List.getElem?_map] at hi
    cases ht : tr[i]? with
    | none =>
      rw [ht] at hi
      cases hi
    | some t =>
      rw [ht] at hi
      cases hi
      obtain ⟨b, _, _, e3⟩ := htr i t ht
      exact ⟨t.1, by rw [List.getElem?_map, ht]; rfl, e3⟩
  · rw [List.length_map, hl]
    exact hz
  · have hm : (s.heap.objs.size == sysModules) = false := beq_eq_false_iff_ne.mpr (Nat.ne_of_gt I.big)
    have hkl : kvs.length = ps.length := by
      have := rel.length
      rw [List.length_map, hl] at this
      exact this
    have hlen : (mergeK [] kvs).length ≤ sizeLine := by
      refine Nat.le_trans (length_mergeK kvs []) ?_
      rw [List.length_nil, Nat.zero_add, hkl]
      exact hz
    exact ⟨.ref s.heap.objs.size, upd H s.heap.objs.size (.dK (mergeK [] kvs)), I.laid (t' := tk) (fun b o e => k b o (fun z => nomatch z) e) (Nat.le_refl _) (show ObjOk X.prog X.w _ _ _ (.dK (mergeK [] kvs)) from ⟨hlen, hm, merged [] _, KV.merge rel .nil, hd'⟩), rfl, q _ (I.hok.fresh (Nat.le_refl _))⟩
end Pf


namespace Pf
open PySem PySem.Spec PyProof.Rows L2 HT
/-! ### a product in its place; a tuple lengthened; data compared -/
def ipM : TIp := fun x y H Q => ∃ i j, x = .int i ∧ y = .int j ∧ CMul i j ∧ Q (.int (i * j)) H
theorem ip_mul {X : Cx} : PIp X .Mult ipM := by
  intro pins s σ H x y v u Q I r1 r2 h
  obtain ⟨i, j, e1, e2, hc, q⟩ := h
  subst e1; subst e2
  obtain ⟨t, rfl⟩ := r1
  obtain ⟨t', rfl⟩ := r2
  exact imul_int ⟨.int _, H, I.tok _, ⟨_, rfl⟩, q⟩ hc.ok
theorem no_tup_iadd : typeLookup (.type "tuple") (dunderI "add") = pure none := by kernel_rfl
def rItup : TIp := fun x y H Q => ∃ a b xs ys, x = .ref a ∧ y = .ref b ∧ H a = some (.tup xs) ∧ H b = some (.tup ys) ∧ xs.length + ys.length ≤ sizeLine ∧ ∀ p H', Ext H H' → H' p = some (.tup (xs ++ ys)) → Q (.ref p) H'
theorem ip_tup {X : Cx} : PIp X .Add rItup := by
  intro pins s σ H x y v u Q I rx ry h
  obtain ⟨a, b, xs, ys, rfl, rfl, ha, hb, hz, q⟩ := h
  cases rx
  cases ry
  obtain ⟨its, r1, p1, _⟩ := I.tuple (SqT.of (K := X.K) ha)
  obtain ⟨its2, r2, p2, _⟩ := I.tuple (SqT.of (K := X.K) hb)
  obtain ⟨⟨cls, dd, data, sl⟩, ho, hc, n, hd⟩ := id p1
  obtain ⟨⟨cls2, dd2, data2, sl2⟩, ho2, hc2, n2, hd2⟩ := id p2
  simp only at hc hd hc2 hd2
  subst hc hd hc2 hd2
  have e : its.toArray ++ its2.toArray = (its ++ its2).toArray := by simp
  have go : ∀ {S : PySem.Spec}, PySem.Meets (Builtin.«tuple.__add__» ⟨[.ref a, .ref b], []⟩) S → S X.A (wants (EP X pins σ Q) X.xe) s → wpAny (model X.prog X.w) X.A (inplaceOp .Add (.ref a) (.ref b)) (EP X pins σ Q) X.xe s := fun g h =>
    inplaceOp_concat ⟨_, ho, rfl⟩ ⟨_, ho2, rfl⟩ no_tup_iadd PySem.noFill_tuple_add PySem.seq_tuple_add (call_meets PySem.F.slot_tuple_add ⟨_, ho, rfl⟩ PySem.F.entry_tuple_add (PySem.F.args_tuple_add_2 _ _) g h)
  by_cases h1 : its = []
  · have hx : xs = [] := by
      have := r1.length
      rw [h1] at this
      exact List.eq_nil_of_length_eq_zero this
    exact go (tuple_addW0 a b its.toArray its2.toArray n n2 dd dd2 sl sl2 (by simp [h1])) ⟨ho, ho2, .ref b, H, I, rfl, q b H Ext.refl (by rw [hx]; exact hb)⟩
  · by_cases h2 : its2 = []
    · have hy : ys = [] := by
        have := r2.length
        rw [h2] at this
        exact List.eq_nil_of_length_eq_zero this
      exact go (tuple_addW1 a b its.toArray its2.toArray n n2 dd dd2 sl sl2 (by simpa using h1) (by simp [h2])) ⟨ho, ho2, .ref a, H, I, rfl, q a H Ext.refl (by rw [hy, List.append_nil]; exact ha)⟩
    · refine go (tuple_addW2 a b its.toArray its2.toArray n n2 dd dd2 sl sl2 (by simpa using h1) (by simpa using h2) (by rw [List.size_toArray, List.size_toArray, ← r1.length, ← r2.length]; exact hz)) ⟨ho, ho2, ?_⟩
      rw [e]
      refine ⟨.ref s.heap.objs.size, _, I.laid (t' := s.toks) (o := .tup (xs ++ ys)) (fun b ob q => Heap.get?_push_of_some _ q) (Nat.le_refl _) ?_, rfl, q _ _ (Ext.new (I.hok.fresh (Nat.le_refl _))) upd_same⟩
      exact ⟨by rw [List.length_append]; exact hz, _, r1.append r2, IsTup.new _ _⟩
def rLtD (K : PySem.W.Frag) : R2 := fun x y H Q => ∃ d e, Dp K H x d ∧ Dp K H y e ∧ PySem.W.alike d e = true ∧ d ≠ .none ∧ d.depth ≤ 64 ∧ Q (.bl (PySem.W.dataLt d e)) H
theorem ltD (K : PySem.W.Frag) {X : Cx} (hu : X.A.units + 64 < cLine) (h : X.K = K := by rfl) : OpR X (compareOp .Lt) (rLtD K) := by
  subst h
  intro pins s σ H x y v u Q I rx ry h
  obtain ⟨d, e, hd, he, ha, hn, hdp, q⟩ := h
  obtain ⟨as, r1⟩ := Dp.reads I d x v hd rx
  obtain ⟨bs, r2⟩ := Dp.reads I e y u he ry
  exact PySem.W.lt_data r1 r2 ha hn (by have := Nat.min_le_left d.depth e.depth; omega) ⟨.bl _, H, I, rfl, q⟩
end Pf


namespace Pf
open PySem PySem.Spec PyProof.Rows L2
def rSumE (K : PySem.W.Frag) : List V → Hp → VK → Prop := fun vs H Q => ∃ (a b : Addr) (ls : List (Addr × List V)), vs = [.ref a, .ref b] ∧ SqL K H a (ls.map fun x => .ref x.1) ∧ (∀ x ∈ ls, H x.1 = some (.lst x.2)) ∧ H b = some (.lst []) ∧ (ls.map (·.2)).flatten.length ≤ sizeLine ∧
  ∀ p H', Ext H H' → H' p = some (.lst (ls.map (·.2)).flatten) → Q (.ref p) H'
theorem sumE (K : PySem.W.Frag) {X : Cx} (hcalm : X.calm = true) (hK : X.K = K := by rfl) : CallR X (.builtin "sum") (rSumE K) := fun pins s σ H vs us Q I r h => by
  obtain ⟨a, b, ls, rfl, h1, h2, h3, h4, q⟩ := h
  refine cr_sumL K hcalm hK pins s σ H _ us Q I r ⟨a, b, ls, [], rfl, h1, h2, h3, by rw [List.length_nil, Nat.zero_add]; exact h4, fun e => ?_, fun _ p hp => ?_⟩
  · refine q b H Ext.refl ?_
    rw [e]
    exact h3
  · exact q p _ (Ext.new hp) upd_same
theorem sum_len_le {m : Nat} : ∀ {ys : List Str}, (∀ y ∈ ys, y.length ≤ m) → (ys.map (·.length)).sum ≤ ys.length * m
  | [], _ => Nat.zero_le _
  | y :: r, h => by
    have h1 := h y (List.mem_cons_self ..)
    have h2 := sum_len_le (ys := r) fun x hx => h x (List.mem_cons_of_mem _ hx)
    rw [List.map_cons, List.sum_cons, List.length_cons, Nat.succ_mul]
    omega
theorem fits_join {ys : List Str} {k m : Nat} (hk : ys.length ≤ k) (h : ∀ y ∈ ys, y.length ≤ m) (hm : k * m ≤ 1000000) : (ys.map (·.length)).sum + ys.length * ("" : Str).length ≤ 16777216 := by
  have h1 := sum_len_le h
  have h2 : ys.length * m ≤ k * m := Nat.mul_le_mul_right m hk
  have h3 : ("" : Str).length = 0 := by decide +kernel
  rw [h3, Nat.mul_zero]
  omega
def Of (L x : Str) : Prop := ∀ c ∈ x.cps.toList, c ∈ L.cps.toList
theorem Of.small {L x : Str} (h : Of L x) (hs : Small L) : Small x := fun c hc => hs c (h c hc)
theorem Of.app {L a b : Str} (ha : Of L a) (hb : Of L b) : Of L (a ++ b) := fun c h => by
  rw [Str.cps_append, Array.toList_append, List.mem_append] at h
  exact h.elim (ha c) (hb c)
theorem of_nil (L : Str) : Of L "" := by
  have : ("" : Str).cps.toList = [] := by decide +kernel
  intro c hc
  rw [this] at hc
  cases hc
theorem sjoin_of {L : Str} : ∀ {ys : List Str}, (∀ y ∈ ys, Of L y) → Of L (Str.join "" ys)
  | [], _ => of_nil L
  | [y], h => h y (List.mem_cons_self ..)
  | y :: z :: r, h => ((h y (List.mem_cons_self ..)).app (of_nil L)).app (sjoin_of (ys := z :: r) fun x hx => h x (List.mem_cons_of_mem _ hx))
theorem cutS_of {L x : Str} (h : Of L x) (lo hi : Option Int) : Of L (cutS x lo hi) := fun c hc => by
  unfold cutS at hc
  exact h c (List.mem_of_mem_drop (List.mem_of_mem_take hc))
theorem cutS_one (x : Str) : (cutS x none (some 1)).length ≤ 1 := by
  show (((x.cps.toList.drop (HT.sIx x.length 0 none)).take (HT.sIx x.length x.length (some 1) - HT.sIx x.length 0 none)).toArray).size ≤ 1
  rw [List.size_toArray, List.length_take]
  have : HT.sIx x.length x.length (some ((1 : Nat) : Int)) = min 1 x.length := HT.sIx_nat _ _ _
  have h2 : HT.sIx x.length x.length (some (1 : Int)) = min 1 x.length := this
  rw [h2]
  omega
/-! ### a dict by texts, of small numbers -/
def encT (y : Str × Int) : Key × V := (.inr y.1, .int y.2)
theorem put_encT (t : List (Str × Int)) (k : Str) (z : Int) (hn : (t.map (·.1)).Nodup) : ∃ t' : List (Str × Int), putK (t.map encT) (.inr k) (.int z) = t'.map encT ∧ (t'.map (·.1)).Nodup ∧ t'.length ≤ t.length + 1 ∧ ∀ y ∈ t', y ∈ t ∨ y = (k, z) := by
  unfold putK
  by_cases h : k ∈ t.map (·.1)
  · rw [if_pos (by
      rw [List.any_eq_true]
      obtain ⟨y, hy, e⟩ := List.mem_map.mp h
      exact ⟨encT y, List.mem_map.mpr ⟨y, hy, rfl⟩, decide_eq_true (by rw [← e]; rfl)⟩)]
    refine ⟨t.map fun y => if y.1 = k then (k, z) else y, ?_, ?_, by rw [List.length_map]; omega, fun y hy => ?_⟩
    · rw [List.map_map, List.map_map]
      refine List.map_congr_left fun y _ => ?_
      show (if (Sum.inr y.1 : Key) = Sum.inr k then (Sum.inr y.1, V.int z) else encT y) = encT (if y.1 = k then (k, z) else y)
      by_cases e : y.1 = k
      · rw [if_pos (by rw [e]), if_pos e, e]
        rfl
      · rw [if_neg (fun w => e (Sum.inr.inj w)), if_neg e]
    · rw [List.map_map]
      have e : ((fun y : Str × Int => y.1) ∘ fun y => if y.1 = k then (k, z) else y) = fun y => y.1 := by
        funext y
        show (if y.1 = k then (k, z) else y).1 = y.1
        split
        · rename_i e
          exact e.symm
        · rfl
      rw [e]
      exact hn
    · obtain ⟨y0, hy0, rfl⟩ := List.mem_map.mp hy
      split
      · exact .inr rfl
      · exact .inl hy0
  · rw [if_neg (by
      intro w
      obtain ⟨kv, hkv, e⟩ := List.any_eq_true.mp w
      obtain ⟨y, hy, rfl⟩ := List.mem_map.mp hkv
      have e : (Sum.inr y.1 : Key) = Sum.inr k := of_decide_eq_true e
      exact h (List.mem_map.mpr ⟨y, hy, Sum.inr.inj e⟩))]
    refine ⟨t ++ [(k, z)], by rw [List.map_append]; rfl, ?_, by rw [List.length_append]; exact Nat.le_refl _, fun y hy => ?_⟩
    · rw [List.map_append]
      refine List.nodup_append.mpr ⟨hn, List.pairwise_singleton _ _, fun a ha b hb => ?_⟩
      rw [List.mem_singleton.mp hb]
      intro e
      have e : a = k := e
      exact h (by rw [← e]; exact ha)
    · rcases List.mem_append.mp hy with hy | hy
      · exact .inl hy
      · exact .inr (List.mem_singleton.mp hy)
abbrev scTie : Scope := { kind := .function, names := [(".0", .local), ("_law_one", .cell), ("_law_letters", .cell)], isGenerator := false, isCoroutine := false }
section
variable {P : Program} {w : World} {K : PySem.W.Frag} {mg : Str → Option Value} {base : Heap}
abbrev s_law_ties : Stmt := topS 32
theorem sc_law_ties : FnScope ["_law_pen_here", "_law_letters", "_law_upto", "_law_every", "_law_many", "_law_found", "_law_turn", "_law_k", "_law_one", "_law_other"] ["_law_pen_here", "_law_letters", "_law_upto"] (defScope s_law_ties) :=
  ⟨rfl, rfl, rfl, by decide +kernel, rfl, by decide +kernel, by decide +kernel⟩
def spTies : Sp := fun vs H Q _ => ∃ (p c : Addr) (sg : Str) (n : Nat), vs = [.ref p, .str sg, .int 12] ∧ Pen H p c n ∧ n + 60 < 1000000 ∧ 1 ≤ sg.length ∧ sg.length ≤ 6 ∧ Small sg ∧
  ∀ (v : V) (prs : List (Str × Int)) (H' : Hp), FrzOf PairAt H' v prs → prs.length ≤ 12 → (prs.map (·.1)).Nodup → (∀ y ∈ prs, Two y.1 ∧ Of sg y.1 ∧ -99 ≤ y.2 ∧ y.2 ≤ 99) → Kp p H H' → Pen H' p c (n + 52) → Q v H'
theorem ok_ties {f : Addr} {fd : FuncData} (F : Fun K "_law_ties" "_law_ties" s_law_ties f fd) (c_law_pick : CDraw P w K mg base) (c_law_some_worth : CWorth P w K mg base) (msum : mg "sum" = none) (mmin : mg "min" = none) (mlen : mg "len" = none) (mrange : mg "range" = none) (msorted : mg "sorted" = none) (mtuple : mg "tuple" = none) : FnOk P w K mg base CX0 3 f fd ["_law_pen_here", "_law_letters", "_law_upto"] spTies := by
  refine F.ok sc_law_ties (fun vs H Q E h => ?_) (fun cdv A outer s H vs Q E hr h => ?_)
  · obtain ⟨p, c, sg, n, rfl, _⟩ := h
    rfl
  · obtain ⟨p, c, sg, n, rfl, hP, hn, hs1, hs6, hsm, q⟩ := h
    refine ⟨_, (pss_cons (ps_set (i := 3) sc_law_ties.nd rfl (.inl rfl) (pe_callB (sumE K rfl) (by rfl) msum (by decide +kernel) (pa_cons (pe_lc (own := [("_law_one", 8)]) (g := gName 8) (by rfl) sc_law_ties.nd (pi_str (pv 1)) (blkOk_by (own := [("_law_one", 8)]) (N := ["_law_pen_here", "_law_letters", "_law_upto", "_law_every", "_law_many", "_law_found", "_law_turn", "_law_k", "_law_one", "_law_other"]) (sc := defScope s_law_ties) (by decide +kernel)) (fun _ _ _ _ _ => (pg_name (i := 8) sc_law_ties.nd rfl (.inr rfl))) (fun _ _ _ _ _ => pts_nil) (fun _ _ _ _ _ => (pe_lc (own := [("_law_other", 9)]) (g := gName 9) (by rfl) sc_law_ties.nd (pi_str (pv 1)) (blkOk_by (own := [("_law_other", 9)]) (N := ["_law_pen_here", "_law_letters", "_law_upto", "_law_every", "_law_many", "_law_found", "_law_turn", "_law_k", "_law_one", "_law_other"]) (sc := scTie) (by decide +kernel)) (fun _ _ _ _ _ => (pg_name (i := 9) sc_law_ties.nd rfl (.inl rfl))) (fun _ _ _ _ _ => pts_nil) (fun _ _ _ _ _ => (pe_op op_add_str (pv 8) (pv 9)))))) (pa_cons (pe_lst pa_nil) pa_nil))))
      (pss_cons (ps_set (i := 4) sc_law_ties.nd rfl (.inl rfl) (pe_callB (call_min3 rfl) (by rfl) mmin (by decide +kernel) (pa_cons pe_int (pa_cons (pv 2) (pa_cons (pe_ix (ixL K) (pe_lst (pa_cons (pe_callB (lenQ K) (by rfl) mlen (by decide +kernel) (pa_cons (pv 3) pa_nil)) (pa_cons (pe_op op_add pe_int (pe_ca c_law_pick (hr.mono (by decide)) (by rfl) (pa_cons (pv 0) (pa_cons (pe_callB (lenQ K) (by rfl) mlen (by decide +kernel) (pa_cons (pv 3) pa_nil)) pa_nil)))) (pa_cons pe_int (pa_cons pe_int pa_nil))))) (pe_ca c_law_pick (hr.mono (by decide)) (by rfl) (pa_cons (pv 0) (pa_cons pe_int pa_nil))) (fun _ _ => rfl)) pa_nil)))))
      (pss_cons (ps_set (i := 5) sc_law_ties.nd rfl (.inl rfl) pe_dnewK)
      (pss_cons (ps_set (i := 6) sc_law_ties.nd rfl (.inl rfl) (pe_ca c_law_pick (hr.mono (by decide)) (by rfl) (pa_cons (pv 0) (pa_cons (pe_callB (lenQ K) (by rfl) mlen (by decide +kernel) (pa_cons (pv 3) pa_nil)) pa_nil))))
      (pss_cons (ps_for PassesOwn.never rfl (pi_range1 (by rfl) mrange (pa_cons (pv 4) pa_nil)) (pg_name (i := 7) sc_law_ties.nd rfl (.inl rfl)) (pss_one (ps_dput (hu_of hr) (pv 5) (pe_ix (ixL K) (pv 3) (pe_op op_mod (pe_op op_add (pv 6) (pv 7)) (pe_callB (lenQ K) (by rfl) mlen (by decide +kernel) (pa_cons (pv 3) pa_nil))) (fun _ _ => rfl)) (pe_ca c_law_some_worth (hr.mono (by decide)) (by rfl) (pa_cons (pv 0) pa_nil)) rfl)))
      (pss_one (ps_ret (pe_callTy (tupleFz K) (by rfl) mtuple (by decide +kernel) (pa_cons (pe_sortItemsS rfl hr.units (by rfl) msorted (pv 5)) pa_nil))))))))), ?_⟩
    have hsz : sg.cps.size ≤ 6 := hs6
    have hsz1 : 1 ≤ sg.cps.size := hs1
    -- every text of two letters
    refine ⟨_, rfl, _, rfl, fun D hD => lc_str (fun i H2 => ∃ ls : List (Addr × List Str), H2 D = some (.lst (ls.map fun x => .ref x.1)) ∧ ls.length = i ∧ (∀ x ∈ ls, x.1 ≠ D ∧ H2 x.1 = some (.lst (x.2.map V.str)) ∧ x.2.length = sg.cps.size ∧ ∀ t ∈ x.2, Two t ∧ Of sg t) ∧ Ext H H2)
      ⟨[], upd_same, rfl, (fun x hx => by cases hx), Ext.new hD⟩ (fun i ch H2 hi hv => ?_) (fun H2 hv => ?_)⟩
    · obtain ⟨ls, hL2, hll, hls, k2⟩ := hv
      have hi6 : i < sg.cps.size := (Array.getElem?_eq_some_iff.mp hi).1
      have hci : ch ∈ sg.cps.toList := Array.mem_toList_iff.mpr (Array.mem_of_getElem? hi)
      refine ⟨rfl, _, rfl, _, rfl, fun D2 hD2 => lc_str (fun j H3 => ∃ zs : List Str, zs.length = j ∧ (∀ t ∈ zs, Two t ∧ Of sg t) ∧ Ext H2 H3 ∧ H3 D2 = some (.lst (zs.map V.str))) ⟨[], rfl, (fun t h => by cases h), Ext.new hD2, upd_same⟩ (fun j cj H3 hj hv => ?_) (fun H3 hv => ?_)⟩
      · obtain ⟨zs, hzs, hz2, k3, hL3⟩ := hv
        have hj6 : j < sg.cps.size := (Array.getElem?_eq_some_iff.mp hj).1
        have hcj : cj ∈ sg.cps.toList := Array.mem_toList_iff.mpr (Array.mem_of_getElem? hj)
        refine ⟨rfl, _, rfl, _, rfl, _, _, rfl, rfl, szL (show 1 + 1 ≤ 1000000 by decide), _, hL3, szLt ?_, zs ++ [⟨#[ch]⟩ ++ ⟨#[cj]⟩], ?_, fun t ht => ?_, k3.put hD2, ?_⟩
        · rw [List.length_map]
          omega
        · rw [List.length_append, List.length_singleton]
          omega
        · rcases List.mem_append.mp ht with ht | ht
          · exact hz2 t ht
          · rw [List.mem_singleton.mp ht]
            refine ⟨⟨rfl, (Small.one (hsm.at hi)).app (Small.one (hsm.at hj))⟩, Of.app (fun c hc => ?_) (fun c hc => ?_)⟩
            · have : c = ch := by simpa using hc
              rw [this]
              exact hci
            · have : c = cj := by simpa using hc
              rw [this]
              exact hcj
        · rw [upd_same, List.map_append]
          rfl
      · obtain ⟨zs, hzs, hz2, k3, hL3⟩ := hv
        have hLD := k3 _ _ hL2
        have nD : D2 ≠ D := fun z => by
          rw [z, hL2] at hD2
          cases hD2
        refine ⟨_, hLD, szLt (by rw [List.length_map]; omega), ls ++ [(D2, zs)], by rw [upd_same, List.map_append]; rfl, by rw [List.length_append, List.length_singleton, hll], fun x hx => ?_, (k2.trans k3).put hD⟩
        rcases List.mem_append.mp hx with hx | hx
        · obtain ⟨h1, h2, h3, h4⟩ := hls x hx
          refine ⟨h1, ?_, h3, h4⟩
          rw [upd_ne h1]
          exact k3 _ _ h2
        · rw [List.mem_singleton.mp hx]
          refine ⟨nD, ?_, hzs, hz2⟩
          rw [upd_ne nD]
          exact hL3
    obtain ⟨ls, hL2, hll, hls, k2⟩ := hv
    refine ⟨Nat.zero_le _, fun b3 hb3 => ?_⟩
    have x3 := Ext.new (o := .lst []) hb3
    have hfl : ((ls.map fun x => (x.1, x.2.map V.str)).map (·.2)).flatten = (ls.map (·.2)).flatten.map V.str := by
      rw [List.map_map, List.map_flatten, List.map_map]
      rfl
    have hlen : ((ls.map (·.2)).flatten).length = ls.length * sg.cps.size := by
      have : ∀ l : List (Addr × List Str), (∀ x ∈ l, x.2.length = sg.cps.size) → ((l.map (·.2)).flatten).length = l.length * sg.cps.size := by
        intro l
        induction l with
        | nil => intro _; rw [List.length_nil, Nat.zero_mul]; rfl
        | cons x l ih =>
          intro h
          rw [List.map_cons, List.flatten_cons, List.length_append, h x (List.mem_cons_self ..), ih fun y hy => h y (List.mem_cons_of_mem _ hy), List.length_cons, Nat.succ_mul]
          omega
      exact this ls fun x hx => (hls x hx).2.2.1
    have hl36 : ls.length * sg.cps.size ≤ 6 * 6 := Nat.mul_le_mul (by omega) hsz
    have hl1 : 1 * 1 ≤ ls.length * sg.cps.size := Nat.mul_le_mul (by omega) hsz1
    refine ⟨D, b3, ls.map fun x => (x.1, x.2.map V.str), rfl, SqL.of (by rw [List.map_map]; exact x3 _ _ hL2), fun x hx => ?_, upd_same, szL (by rw [hfl, List.length_map]; omega), fun le H4 k4 hLe => ?_⟩
    · obtain ⟨y, hy, rfl⟩ := List.mem_map.mp hx
      exact x3 _ _ (hls y hy).2.1
    rw [hfl] at hLe
    obtain ⟨ts, hts⟩ : ∃ ts, ts = (ls.map (·.2)).flatten := ⟨_, rfl⟩
    rw [← hts] at hLe hlen
    have ht2 : ∀ t ∈ ts, Two t ∧ Of sg t := fun t ht => by
      rw [hts] at ht
      obtain ⟨l, hl, ht⟩ := List.mem_flatten.mp ht
      obtain ⟨x, hx, rfl⟩ := List.mem_map.mp hl
      exact (hls x hx).2.2.2 t ht
    have kp4 : Kp p H H4 := Kp.ext ((k2.trans x3).trans k4)
    have hP4 := hP.ext ((k2.trans x3).trans k4)
    have htl : 1 ≤ ts.length := by omega
    have nle : le ≠ p := fun z => by
      obtain ⟨cells, a, r, hp, _⟩ := hP4
      rw [z, hp] at hLe
      injection hLe with hLe
      injection hLe with hLe
      cases ts with
      | nil => cases hLe
      | cons t ts =>
        injection hLe with h1 _
        cases h1
    have hll : (ts.map V.str).length = ts.length := List.length_map ..
    -- how many
    refine ⟨_, rfl, _, rfl, le, _, rfl, .inl (SqL.of hLe), _, rfl, _, rfl, le, _, rfl, .inl (SqL.of hLe), p, c, _, _, rfl, hP4, by omega, by omega, by omega, fun d H5 d0 d1 k5 hP5 => ⟨1, d, rfl, rfl, szL (show 4 ≤ 1000000 by decide), fun l5 hl5 => ?_⟩⟩
    have hP5' := hP5.new (o := .lst [.int ((ts.map V.str).length : Nat), .int (1 + d), .int 3, .int 0]) hl5
    refine ⟨_, rfl, p, c, 4, _, rfl, hP5', by omega, by decide, by decide, fun e H6 e0 e1 k6 hP6 => ?_⟩
    obtain ⟨z, hz, hat6⟩ := atI_ints (ns := [((ts.map V.str).length : Int), 1 + d, 3, 0]) e0 e1
    have hz0 : 0 ≤ z := by
      simp only [List.mem_cons, List.not_mem_nil, or_false] at hz
      omega
    refine ⟨l5, _, e, _, rfl, rfl, SqL.of (k6 _ _ (hP5.ne hl5).1 upd_same), hat6, 12, 12, z, rfl, fun m m1 m2 m3 m4 => ?_⟩
    have kp6 : Kp p H4 H6 := (k5.trans (Kp.new hl5)).trans k6
    have hLe6 := kp6 _ _ nle hLe
    -- a dict
    refine fun D7 hD7 => ?_
    have nD7 := hP6.ne hD7
    have hLe7 := (Kp.new (p := p) (o := .dK []) hD7) _ _ nle hLe6
    have hP7 := hP6.new (o := .dK []) hD7
    refine ⟨_, rfl, _, rfl, le, _, rfl, .inl (SqL.of hLe7), p, c, _, _, rfl, hP7, by omega, by omega, by omega, fun tn H8 t0 t1 k8 hP8 => ?_⟩
    have hD8 := k8 _ _ nD7.1 (upd_same (H := H6) (a := D7) (o := .dK []))
    have hLe8 := k8 _ _ nle hLe7
    have kp8 : Kp p H6 H8 := (Kp.new hD7).trans k8
    refine ⟨_, rfl, m, rfl, by omega, by omega, for_range (lo := 0) (n := m.toNat) (fun i σ H9 => ∃ (y7 : Option V) (t : List (Str × Int)), σ = [some (.ref p), some (.str sg), some (.int 12), some (.ref le), some (.int m), some (.ref D7), some (.int tn), y7, none, none] ∧ H9 D7 = some (.dK (t.map encT)) ∧ t.length ≤ i ∧ (t.map (·.1)).Nodup ∧ (∀ y ∈ t, Two y.1 ∧ Of sg y.1 ∧ -99 ≤ y.2 ∧ y.2 ≤ 99) ∧ H9 le = some (.lst (ts.map V.str)) ∧ Kp p H6 H9 ∧ Pen H9 p c (n + 3 + 4 * i))
      ⟨none, [], rfl, hD8, Nat.le_refl _, List.Pairwise.nil, (fun y hy => by cases hy), hLe8, kp8, hP8.mono (by omega)⟩ (fun i σ H9 hi hv => ?_) (fun σ H9 hv => ?_)⟩
    · obtain ⟨y7, t, rfl, hD9, htl9, htn, htb, hLe9, k9, hP9⟩ := hv
      refine ⟨_, rfl, p, c, _, rfl, hP9, by omega, fun wv H10 w0 w1 k10 hP10 => ?_⟩
      have hD10 := k10 _ _ nD7.1 hD9
      have hLe10 := k10 _ _ nle hLe9
      have g0 := Int.emod_nonneg (tn + (0 + (i : Int))) (show ((ts.map V.str).length : Int) ≠ 0 by omega)
      have g1 := Int.emod_lt_of_pos (tn + (0 + (i : Int))) (show (0 : Int) < ((ts.map V.str).length : Int) by omega)
      obtain ⟨u, hu⟩ : ∃ u, ts[((tn + (0 + (i : Int))) % ((ts.map V.str).length : Int)).toNat]? = some u := ⟨_, List.getElem?_eq_getElem (by omega)⟩
      have hat : atI (ts.map V.str) ((tn + (0 + (i : Int))) % ((ts.map V.str).length : Int)) = some (.str u) := by
        have e1 : (ts.map V.str)[((tn + (0 + (i : Int))) % ((ts.map V.str).length : Int)).toNat]? = some (.str u) := by
          rw [List.getElem?_map, hu]
          rfl
        rw [atI_get g0 g1, ← e1, List.getElem?_eq_getElem]
      obtain ⟨t', e', hn', hl', hb'⟩ := put_encT t u wv htn
      refine ⟨_, rfl, _, rfl, _, rfl, _, rfl, _, _, rfl, rfl, _, rfl, le, _, rfl, .inl (SqL.of hLe10), _, _, rfl, rfl, (show (0 : Int) < ((ts.map V.str).length : Int) by omega), le, _, _, _, rfl, rfl, SqL.of hLe10, hat, D7, _, rfl, DPut.k (k := .inr u) hD10 (szLt (by rw [List.length_map]; omega)), ?_⟩
      have nDl : le ≠ D7 := fun z => by
        rw [z, hD10] at hLe10
        cases hLe10
      have hD7H6 : H6 D7 = none := hD7
      refine ⟨_, t', rfl, by rw [upd_same, e'], by omega, hn', fun y hy => ?_, ?_, (k9.trans k10).put hD7H6, (hP10.put nD7.1 nD7.2).mono (by omega)⟩
      · rcases hb' y hy with h | rfl
        · exact htb y h
        · have := ht2 u (List.mem_of_getElem? hu)
          exact ⟨this.1, this.2, w0, w1⟩
      · rw [upd_ne nDl]
        exact hLe10
    · obtain ⟨y7, t, rfl, hD9, htl9, htn, htb, hLe9, k9, hP9⟩ := hv
      refine ⟨_, rfl, D7, t, rfl, hD9, fun p10 ys H10 hp10 k10 hL10 hys e10 => ?_⟩
      refine ⟨p10, _, rfl, SqL.of hL10, fun l o hl ho => ?_⟩
      have x11 := Ext.new (o := .frz o (.tup (ys.map fun y => V.ref y.1))) hl
      have pm : (ys.map (·.2)).Perm t := by
        rw [e10]
        exact List.mergeSort_perm _ _
      refine q (.ref l) (ys.map (·.2)) _ ⟨l, o, _, rfl, upd_same, ho, ?_⟩ ?_ ?_ (fun y hy => htb y (pm.mem_iff.mp hy)) (((kp4.trans kp6).trans k9).trans (Kp.ext (k10.trans x11))) ((hP9.ext (k10.trans x11)).mono (by omega))
      · have aux : ∀ l : List (Addr × Str × Int), (∀ y ∈ l, H10 y.1 = some (.tup [.str y.2.1, .int y.2.2])) → Paired (PairAt H10) (l.map fun y => V.ref y.1) (l.map (·.2)) := by
          intro l
          induction l with
          | nil => intro _; exact .nil
          | cons y l ih => intro h; exact .cons ⟨y.1, rfl, h y (List.mem_cons_self ..)⟩ (ih fun z hz => h z (List.mem_cons_of_mem _ hz))
        exact paired_imp (fun _ _ ⟨a, e, h⟩ => ⟨a, e, x11 _ _ h⟩) (aux ys hys)
      · rw [pm.length_eq]
        omega
      · exact (pm.map (·.1)).nodup_iff.mpr htn
abbrev CTies (P : Program) (w : World) (K : PySem.W.Frag) (mg : Str → Option Value) (base : Heap) : Prop := Ca P w K mg base 3 "_law_ties" ["_law_pen_here", "_law_letters", "_law_upto"] spTies
end
end Pf


namespace Pf
open PySem PySem.Spec PyProof.Rows L2
/-! ### rules as data -/
theorem dpIntsAt {K : PySem.W.Frag} {H : Hp} : ∀ {vs : List V} {ns : List Int}, Paired (IntAt H) vs ns → DpAll K H vs (ns.map PyData.int)
  | _, _, .nil => .nil
  | _, _, .cons e t => .cons ((show _ = V.int _ from e) ▸ .int _) (dpIntsAt t)
def dPr (x : Str × Int) : PyData := .tuple [.str x.1, .int x.2]
theorem dpPairs {K : PySem.W.Frag} {H : Hp} : ∀ {vs : List V} {prs : List (Str × Int)}, Paired (PairAt H) vs prs → DpAll K H vs (prs.map dPr)
  | _, _, .nil => .nil
  | _, _, .cons ⟨_, e, h⟩ t => .cons (e ▸ .tup (SqT.of h) (.cons (.str _) (.cons (.int _) .nil))) (dpPairs t)
theorem sm_prs {prs : List (Str × Int)} (hn : prs.length ≤ 12) (h : ∀ x ∈ prs, Two x.1 ∧ -99 ≤ x.2 ∧ x.2 ≤ 99) : Sm 2000 2 (.tuple (prs.map dPr)) := by
  refine Sm.tup (n := 12) (m := 130) (k := 1) (by rw [List.length_map]; exact hn) (fun d hd => ?_) (by decide)
  obtain ⟨x, hx, rfl⟩ := List.mem_map.mp hd
  have h1 := h x hx
  refine Sm.tup (n := 2) (m := 64) (k := 0) (Nat.le_refl _) (fun d hd => ?_) (by decide)
  simp only [List.mem_cons, List.not_mem_nil, or_false] at hd
  rcases hd with rfl | rfl
  · exact (Sm.str h1.1.2.ok (Nat.le_refl _)).le (by rw [h1.1.1]; decide) (Nat.le_refl _)
  · exact Sm.int (by omega) (by omega)
def dSt (x : Str × Str × Int) : PyData := .tuple [.str x.1, .str x.2.1, .int x.2.2]
theorem dpStacks {K : PySem.W.Frag} {H : Hp} : ∀ {vs : List V} {ps : List (Str × Str × Int)}, Paired (StackAt H) vs ps → DpAll K H vs (ps.map dSt)
  | _, _, .nil => .nil
  | _, _, .cons ⟨_, e, h⟩ t => .cons (e ▸ .tup (SqT.of h) (.cons (.str _) (.cons (.str _) (.cons (.int _) .nil)))) (dpStacks t)
def dRl (r : Rl) : PyData := .tuple [.str r.letters, .tuple (r.prs.map dPr), .int r.span, .tuple (r.loops.map PyData.int), .tuple (r.stk.map dSt)]
theorem dp_rules {K : PySem.W.Frag} {H : Hp} {v : V} {r : Rl} (h : RulesAt H v r) : Dp K H v (dRl r) := by
  obtain ⟨a, vp, vl, vs, rfl, hA, ⟨ap, oz, us, rfl, hp, _, hP⟩, ⟨al, ls, rfl, hl, hL⟩, ⟨as, ss, rfl, hs, hS⟩⟩ := h
  exact .tup (SqT.of hA) (.cons (.str _) (.cons (.tup (SqT.fz hp) (dpPairs hP)) (.cons (.int _) (.cons (.tup (SqT.of hl) (dpIntsAt hL)) (.cons (.tup (SqT.of hs) (dpStacks hS)) .nil)))))
theorem sm_rules {r : Rl} (ok : RlOk r) : Sm 50000 3 (dRl r) := by
  refine Sm.tup (n := 5) (m := 5000) (k := 2) (Nat.le_refl _) (fun d hd => ?_) (by decide)
  simp only [List.mem_cons, List.not_mem_nil, or_false] at hd
  have h3 := ok.sp0
  have h4 := ok.sp3
  rcases hd with rfl | rfl | rfl | rfl | rfl
  · exact (Sm.str ok.small.ok ok.let6).le (by decide) (by decide)
  · exact (sm_prs ok.prs ok.pr).le (by decide) (by decide)
  · exact (Sm.int (by omega) (by omega)).le (by decide) (by decide)
  · refine (Sm.tup (n := 9) (m := 64) (k := 0) (by rw [List.length_map, ok.lo9]; exact Nat.le_refl _) (fun d hd => ?_) (Nat.le_refl _)).le (by decide) (by decide)
    obtain ⟨z, hz, rfl⟩ := List.mem_map.mp hd
    have := ok.lo z hz
    exact Sm.int (by omega) (by omega)
  · refine (Sm.tup (n := 12) (m := 200) (k := 1) (by rw [List.length_map]; exact ok.stk) (fun d hd => ?_) (Nat.le_refl _)).le (by decide) (by decide)
    obtain ⟨z, hz, rfl⟩ := List.mem_map.mp hd
    have hk := ok.st z hz
    refine Sm.tup (n := 3) (m := 64) (k := 0) (Nat.le_refl _) (fun d hd => ?_) (by decide)
    simp only [List.mem_cons, List.not_mem_nil, or_false] at hd
    rcases hd with rfl | rfl | rfl
    · exact (Sm.str hk.1.2.ok (Nat.le_of_eq hk.1.1)).le (by decide) (by decide)
    · exact (Sm.str hk.2.1.2.ok (Nat.le_of_eq hk.2.1.1)).le (by decide) (by decide)
    · exact Sm.int (by omega) (by omega)
def dKept (r : Rl) (x : Str) : PyData := .tuple [dRl r, .str x]
theorem sm_kept {r : Rl} (ok : RlOk r) {x : Str} (hx : x.length ≤ 20) (hs : Of r.letters x) : Sm 200000 4 (dKept r x) := by
  refine Sm.tup (n := 2) (m := 60000) (k := 3) (Nat.le_refl _) (fun d hd => ?_) (by decide)
  simp only [List.mem_cons, List.not_mem_nil, or_false] at hd
  rcases hd with rfl | rfl
  · exact (sm_rules ok).le (by decide) (by decide)
  · exact (Sm.str (hs.small ok.small).ok hx).le (by decide) (by decide)
theorem cutS_list (x : Str) {lo hi : Nat} (h : lo ≤ hi) (hx : hi ≤ x.length) : (cutS x (some (lo : Int)) (some (hi : Int))).cps.toList = (x.cps.toList.drop lo).take (hi - lo) := by
  show ((x.cps.toList.drop (HT.sIx x.length 0 (some (lo : Int)))).take (HT.sIx x.length x.length (some (hi : Int)) - HT.sIx x.length 0 (some (lo : Int)))).toArray.toList = _
  have e1 : HT.sIx x.length 0 (some (lo : Int)) = min lo x.length := HT.sIx_nat _ _ _
  have e2 : HT.sIx x.length x.length (some (hi : Int)) = min hi x.length := HT.sIx_nat _ _ _
  have m1 : min lo x.length = lo := Nat.min_eq_left (by omega)
  have m2 : min hi x.length = hi := Nat.min_eq_left hx
  rw [e1, e2, m1, m2]
theorem len_list (x : Str) : x.cps.toList.length = x.length := Array.length_toList
theorem part_len {x x' : Str} {s m : Nat} (h : x'.cps.toList = (x.cps.toList.drop s).take m) (hm : s + m ≤ x.length) : x'.length = m := by
  rw [← len_list, h, List.length_take, List.length_drop, len_list]
  omega
theorem none_of {p : Addr} {H H' : Hp} (k : Kp p H H') {b : Addr} (nb : b ≠ p) (h : H' b = none) : H b = none := by
  cases e : H b with
  | none => rfl
  | some o =>
    rw [k b o nb e] at h
    cases h
/-- texts of pairs are of the letters; the last letter of all is none of them -/
def OfP (r : Rl) : Prop := (∀ y ∈ r.prs, Of r.letters y.1) ∧ ∀ ch ∈ r.letters.cps.toList, ch < 122 ∧ ch ≤ r.letters.cps.toList.getD (r.letters.length - 1) 0
def alpha : Str := "abcdefghijklmnopqrstuvwxyz"
theorem alpha_len : alpha.length = 26 := by decide +kernel
theorem alpha_low : ∀ a0, a0 < 20 → ∀ a1, a1 < 7 → ∀ ch ∈ (alpha.cps.toList.drop a0).take a1, ch < 122 ∧ ch ≤ ((alpha.cps.toList.drop a0).take a1).getD (a1 - 1) 0 := by decide +kernel
theorem alpha_small : Small alpha := by unfold Small; decide +kernel
section
variable {P : Program} {w : World} {K : PySem.W.Frag} {mg : Str → Option Value} {base : Heap}
abbrev s_law_code : Stmt := topS 33
theorem sc_law_code : FnScope ["_law_pen_here", "_law_way", "_law_first", "_law_letters", "_law_ties_here", "_law_even", "_law_k", "_law_loops", "_law_stacks", "_law_one", "_law_other", "_law_piles", "_law_key"] ["_law_pen_here"] (defScope s_law_code) :=
  ⟨rfl, rfl, rfl, by decide +kernel, rfl, by decide +kernel, by decide +kernel⟩
def spRules : Sp := fun vs H Q _ => ∃ (p c : Addr) (n : Nat), vs = [.ref p] ∧ Pen H p c n ∧ n + 300 < 1000000 ∧
  ∀ v r H', RulesAt H' v r → RlOk r → OfP r → Kp p H H' → Pen H' p c (n + 300) → Q v H'
theorem ok_rules {f : Addr} {fd : FuncData} (F : Fun K "_law_code" "_law_code" s_law_code f fd) (c_law_pick : CDraw P w K mg base) (c_law_some_worth : CWorth P w K mg base) (c_law_ties : CTies P w K mg base)
    (mlen : mg "len" = none) (mint : mg "int" = none) (mtuple : mg "tuple" = none) (mrange : mg "range" = none) (msorted : mg "sorted" = none) : FnOk P w K mg base CX0 4 f fd ["_law_pen_here"] spRules := by
  refine F.ok sc_law_code (fun vs H Q E h => ?_) (fun cdv A outer s H vs Q E hr h => ?_)
  · obtain ⟨p, c, n, rfl, _⟩ := h
    rfl
  · obtain ⟨p, c, n, rfl, hP, hn, q⟩ := h
    refine ⟨_, (pss_cons (ps_set (i := 1) sc_law_code.nd rfl (.inl rfl) (pe_ca c_law_pick (hr.mono (by decide)) (by rfl) (pa_cons (pv 0) (pa_cons pe_int pa_nil))))
      (pss_cons (ps_set (i := 2) sc_law_code.nd rfl (.inl rfl) (pe_ca c_law_pick (hr.mono (by decide)) (by rfl) (pa_cons (pv 0) (pa_cons pe_int pa_nil))))
      (pss_cons (ps_set (i := 3) sc_law_code.nd rfl (.inl rfl) (pe_slice sl_str pe_str (po_some (pv 2)) (po_some (pe_op op_add (pv 2) (pe_ix (ixL K) (pe_lst (pa_cons (pe_op op_add pe_int (pe_ca c_law_pick (hr.mono (by decide)) (by rfl) (pa_cons (pv 0) (pa_cons pe_int pa_nil)))) (pa_cons pe_int (pa_cons (pe_op op_add pe_int (pe_ca c_law_pick (hr.mono (by decide)) (by rfl) (pa_cons (pv 0) (pa_cons pe_int pa_nil)))) pa_nil)))) (pv 1) (fun _ _ => rfl))))))
      (pss_cons (ps_set (i := 4) sc_law_code.nd rfl (.inl rfl) (pe_ca c_law_ties (hr.mono (by decide)) (by rfl) (pa_cons (pv 0) (pa_cons (pv 3) (pa_cons pe_int pa_nil)))))
      (pss_cons (ps_set (i := 5) sc_law_code.nd rfl (.inr rfl) (pe_cmpR op_eq (pe_ca c_law_pick (hr.mono (by decide)) (by rfl) (pa_cons (pv 0) (pa_cons pe_int pa_nil))) pe_int (nomark _)))
      (pss_cons (ps_setLc (i := 7) (own := [("_law_k", 6)]) (g := gName 6) (by rfl) sc_law_code.nd rfl rfl (sw_true rfl rfl rfl (by decide +kernel)) (pi_range1 (by rfl) mrange (pa_cons pe_int pa_nil)) (blkOk_by (own := [("_law_k", 6)]) (N := ["_law_pen_here", "_law_way", "_law_first", "_law_letters", "_law_ties_here", "_law_even", "_law_k", "_law_loops", "_law_stacks", "_law_one", "_law_other", "_law_piles", "_law_key"]) (sc := defScope s_law_code) (by decide +kernel)) (fun _ _ _ _ _ => (pg_name (i := 6) sc_law_code.nd rfl (.inl rfl))) (fun _ _ _ _ _ => pts_nil) (fun _ _ _ _ _ => (pe_ifExp (pt_val (pv 5)) pe_int (pe_ca c_law_some_worth (hr.mono (by decide)) (by rfl) (pa_cons (pv 0) pa_nil)))))
      (pss_cons (ps_set (i := 8) sc_law_code.nd rfl (.inr rfl) pe_dnewT)
      (pss_cons (ps_for PassesOwn.never rfl (pi_range1 (by rfl) mrange (pa_cons (pe_op op_mul (pe_ix (ixL K) (pe_lst (pa_cons pe_int (pa_cons (pe_ca c_law_pick (hr.mono (by decide)) (by rfl) (pa_cons (pv 0) (pa_cons pe_int pa_nil))) pa_nil))) (pe_ca c_law_pick (hr.mono (by decide)) (by rfl) (pa_cons (pv 0) (pa_cons pe_int pa_nil))) (fun _ _ => rfl)) (pe_callTy call_int1 (by rfl) mint (by decide +kernel) (pa_cons (pe_cmpR (neD K hr.units) (pv 4) (pe_tup pa_nil) (nomark _)) pa_nil))) pa_nil)) (pg_name (i := 6) sc_law_code.nd rfl (.inl rfl)) (pss_cons (ps_par (i := 9) (j := 10) rfl sc_law_code.nd rfl rfl (by decide) rfl rfl (pa_cons (pe_ix (ixT K) (pe_ix (ixT K) (pv 4) (pe_ca c_law_pick (hr.mono (by decide)) (by rfl) (pa_cons (pv 0) (pa_cons (pe_callB (lenQ K) (by rfl) mlen (by decide +kernel) (pa_cons (pv 4) pa_nil)) pa_nil))) (fun _ _ => rfl)) pe_int (fun _ _ => rfl)) (pa_cons (pe_ix (ixT K) (pe_ix (ixT K) (pv 4) (pe_ca c_law_pick (hr.mono (by decide)) (by rfl) (pa_cons (pv 0) (pa_cons (pe_callB (lenQ K) (by rfl) mlen (by decide +kernel) (pa_cons (pv 4) pa_nil)) pa_nil))) (fun _ _ => rfl)) pe_int (fun _ _ => rfl)) pa_nil)) (by rfl))
      (pss_one (ps_dput (hu_of hr) (pv 8) (pe_tup (pa_cons (pv 9) (pa_cons (pv 10) pa_nil))) (pe_ca c_law_some_worth (hr.mono (by decide)) (by rfl) (pa_cons (pv 0) pa_nil)) rfl))))
      (pss_cons (ps_set (i := 11) sc_law_code.nd rfl (.inl rfl) (pe_callTy (tupleOf K) (by rfl) mtuple (by decide +kernel) (pa_cons (pe_lc (own := [("_law_key", 12)]) (g := gName 12) (by rfl) sc_law_code.nd (pi_list (pe_callB (cr_sortKT K rfl hr.units) (by rfl) msorted (by decide +kernel) (pa_cons (pv 8) pa_nil))) (blkOk_by (own := [("_law_key", 12)]) (N := ["_law_pen_here", "_law_way", "_law_first", "_law_letters", "_law_ties_here", "_law_even", "_law_k", "_law_loops", "_law_stacks", "_law_one", "_law_other", "_law_piles", "_law_key"]) (sc := defScope s_law_code) (by decide +kernel)) (fun _ _ _ _ _ => (pg_name (i := 12) sc_law_code.nd rfl (.inl rfl))) (fun _ _ _ _ _ => pts_nil) (fun _ _ _ _ _ => (pe_op (catT K) (pv 12) (pe_tup (pa_cons (pe_dget (hu_of hr) (pv 8) (pv 12) (fun _ _ => rfl)) pa_nil))))) pa_nil)))
      (pss_one (ps_ret (pe_tup (pa_cons (pv 3) (pa_cons (pv 4) (pa_cons (pe_ix (ixL K) (pe_lst (pa_cons pe_int (pa_cons pe_int (pa_cons (pe_ca c_law_pick (hr.mono (by decide)) (by rfl) (pa_cons (pv 0) (pa_cons pe_int pa_nil))) pa_nil)))) (pe_ca c_law_pick (hr.mono (by decide)) (by rfl) (pa_cons (pv 0) (pa_cons pe_int pa_nil))) (fun _ _ => rfl)) (pa_cons (pe_callTy (tupleOf K) (by rfl) mtuple (by decide +kernel) (pa_cons (pv 7) pa_nil)) (pa_cons (pv 11) pa_nil))))))))))))))))), ?_⟩
    refine ⟨_, rfl, p, c, 3, n, rfl, hP, by omega, by decide, by decide, fun way H1 wa wb k1 hP1 => ?_⟩
    refine ⟨_, rfl, p, c, 20, _, rfl, hP1, by omega, by decide, by decide, fun fi H2 fa fb k2 hP2 => ?_⟩
    -- letters
    refine ⟨_, rfl, _, rfl, _, rfl, _, rfl, p, c, 6, _, rfl, hP2, by omega, by decide, by decide, fun g1 H3 ga gb k3 hP3 => ⟨1, g1, rfl, rfl, ?_⟩⟩
    refine ⟨_, rfl, p, c, 3, _, rfl, hP3, by omega, by decide, by decide, fun g2 H4 gc gd k4 hP4 => ⟨1, g2, rfl, rfl, szL (show 3 ≤ 1000000 by decide), fun l5 hl5 => ?_⟩⟩
    obtain ⟨sz', hsz', hat5⟩ := atI_ints (ns := [1 + g1, 2, 1 + g2]) wa wb
    have hszb : 1 ≤ sz' ∧ sz' ≤ 6 := by
      simp only [List.mem_cons, List.not_mem_nil, or_false] at hsz'
      omega
    refine ⟨_, rfl, l5, _, _, _, rfl, rfl, SqL.of upd_same, hat5, _, _, rfl, rfl, _, rfl, alpha, rfl, szL (by rw [alpha_len]; decide), ?_⟩
    obtain ⟨a0, rfl⟩ : ∃ a0 : Nat, fi = (a0 : Int) := ⟨fi.toNat, by omega⟩
    obtain ⟨a1, rfl⟩ : ∃ a1 : Nat, sz' = (a1 : Int) := ⟨sz'.toNat, by omega⟩
    have hcut := cutS_list alpha (lo := a0) (hi := a0 + a1) (by omega) (by rw [alpha_len]; omega)
    have hcast : ((a0 + a1 : Nat) : Int) = (a0 : Int) + (a1 : Int) := by omega
    rw [hcast, Nat.add_sub_cancel_left] at hcut
    have hsl := part_len hcut (by rw [alpha_len]; omega)
    have hsm : Small (cutS alpha (some (a0 : Int)) (some ((a0 : Int) + (a1 : Int)))) := fun ch hc => by
      rw [hcut] at hc
      exact alpha_small ch (List.mem_of_mem_drop (List.mem_of_mem_take hc))
    have hsz : ∀ ch ∈ (cutS alpha (some (a0 : Int)) (some ((a0 : Int) + (a1 : Int)))).cps.toList, ch < 122 ∧ ch ≤ (cutS alpha (some (a0 : Int)) (some ((a0 : Int) + (a1 : Int)))).cps.toList.getD ((cutS alpha (some (a0 : Int)) (some ((a0 : Int) + (a1 : Int)))).length - 1) 0 := fun ch hc => by
      rw [hsl, hcut]
      rw [hcut] at hc
      exact alpha_low a0 (by omega) a1 (by omega) ch hc
    show gName 3 (V.str (cutS alpha (some (a0 : Int)) (some ((a0 : Int) + (a1 : Int))))) _ _ _
    generalize cutS alpha (some (a0 : Int)) (some ((a0 : Int) + (a1 : Int))) = sg at hsl hsm hsz ⊢
    have hP5 := hP4.new (o := .lst [.int (1 + g1), .int 2, .int (1 + g2)]) hl5
    have k05 : Kp p H (upd H4 l5 (.lst [.int (1 + g1), .int 2, .int (1 + g2)])) := (((k1.trans k2).trans k3).trans k4).trans (Kp.new hl5)
    generalize upd H4 l5 (.lst [.int (1 + g1), .int 2, .int (1 + g2)]) = H5 at hP5 k05 ⊢
    clear hP1 hP2 hP3 hP4 k1 k2 k3 k4 hl5 hcut
    -- ties
    refine ⟨_, rfl, _, rfl, p, c, sg, _, rfl, hP5, by omega, by omega, by omega, hsm, fun vt prs H10 hTp hprl hpn hpb k10 hP10 => ?_⟩
    obtain ⟨tp, oz, tus, rfl, htp, hoz, hTr0⟩ := id hTp
    have kp10 : Kp p H H10 := k05.trans k10
    have htul := paired_len hTr0
    have hOk : ∀ x ∈ prs, Two x.1 ∧ -99 ≤ x.2 ∧ x.2 ≤ 99 := fun x hx => ⟨(hpb x hx).1, (hpb x hx).2.2⟩
    -- even
    refine ⟨_, rfl, p, c, 3, _, rfl, hP10, by omega, by decide, by decide, fun ev H11 ea eb k11 hP11 => ⟨rfl, ?_⟩⟩
    -- loops
    refine ⟨9, rfl, by decide, by decide, fun D22 hD22 => lc_range (lo := 0) (n := 9) (fun i H22 => ∃ ns : List Int, ns.length = i ∧ (∀ x ∈ ns, -99 ≤ x ∧ x ≤ 99) ∧ H22 D22 = some (.lst (ns.map V.int)) ∧ Kp p H11 H22 ∧ Pen H22 p c (n + 60 + 4 * i)) ⟨[], rfl, (fun x h => by cases h), upd_same, Kp.new hD22, (hP11.new hD22).mono (by omega)⟩ (fun i H22 hi hv => ?_) (fun H22 hv => ?_)⟩
    · obtain ⟨ns, hns, hnb, hL22, k22, hP22⟩ := hv
      have nD := hP11.ne hD22
      have done : ∀ (wv : Int) (H23 : Hp), -99 ≤ wv → wv ≤ 99 → Kp p H22 H23 → Pen H23 p c (n + 60 + 4 * i + 4) → ∃ acc, H23 D22 = some (.lst acc) ∧ acc.length < sizeLine ∧ ∃ ns : List Int, ns.length = i + 1 ∧ (∀ x ∈ ns, -99 ≤ x ∧ x ≤ 99) ∧ (upd H23 D22 (.lst (acc ++ [.int wv]))) D22 = some (.lst (ns.map V.int)) ∧ Kp p H11 (upd H23 D22 (.lst (acc ++ [.int wv]))) ∧ Pen (upd H23 D22 (.lst (acc ++ [.int wv]))) p c (n + 60 + 4 * (i + 1)) := fun wv H23 w0 w1 k23 hP23 => by
        refine ⟨_, k23 _ _ nD.1 hL22, szLt (by rw [List.length_map]; omega), ns ++ [wv], by rw [List.length_append, List.length_singleton, hns], fun x hx => ?_, by rw [upd_same, List.map_append]; rfl, (k22.trans k23).put hD22, (hP23.put nD.1 nD.2).mono (by omega)⟩
        rcases List.mem_append.mp hx with hx | hx
        · exact hnb x hx
        · rw [List.mem_singleton.mp hx]
          exact ⟨w0, w1⟩
      refine ⟨rfl, _, rfl, _, rfl, ite2 (fun e => ?_) (fun e => ?_)⟩
      · exact done 0 H22 (by decide) (by decide) Kp.refl (hP22.mono (by omega))
      · exact ⟨_, rfl, p, c, _, rfl, hP22, by omega, fun wv H23 w0 w1 k23 hP23 => done wv H23 w0 w1 k23 hP23⟩
    obtain ⟨ns, hns, hnb, hL22, k22, hP22⟩ := hv
    have nD22 := hP11.ne hD22
    have k1022 : Kp p H10 H22 := k11.trans k22
    -- stacks
    refine fun st hst => ?_
    have nst := hP22.ne hst
    have hP13 := hP22.new (o := .dT []) hst
    have k1013 : Kp p H10 (upd H22 st (.dT [])) := k1022.trans (Kp.new hst)
    have hD13 : (upd H22 st (.dT [])) st = some (.dT []) := upd_same
    have hL13 := (Kp.new (p := p) (o := .dT []) hst) _ _ nD22.1 hL22
    generalize hH13 : upd H22 st (.dT []) = H13 at hP13 k1013 hD13 hL13 ⊢
    refine ⟨_, rfl, p, c, 13, _, rfl, hP13, by omega, by decide, by decide, fun r1 H14 ra rb k14 hP14 => ⟨szL (show 2 ≤ 1000000 by decide), fun l15 hl15 => ?_⟩⟩
    refine ⟨_, rfl, p, c, 2, _, rfl, hP14.new hl15, by omega, by decide, by decide, fun r2 H16 rc rd k16 hP16 => ?_⟩
    obtain ⟨y, hy, haty⟩ := atI_ints (ns := [0, r1]) rc rd
    have hy2 : 0 ≤ y ∧ y ≤ 12 := by
      simp only [List.mem_cons, List.not_mem_nil, or_false] at hy
      omega
    have k1316 : Kp p H13 H16 := (k14.trans (Kp.new hl15)).trans k16
    have hTp16 : FrzOf PairAt H16 (.ref tp) prs := FrzOf.mono PairAt.mono _ _ _ _ (TupK.of (k1013.trans k1316) hP10) hTp
    refine ⟨l15, _, r2, _, rfl, rfl, SqL.of (k16 _ _ (hP14.ne hl15).1 upd_same), haty, _, rfl, Nat.zero_le _, fun d17 hd17 => ?_⟩
    have x17 := Ext.new (o := .tup []) hd17
    have hTp17 : FrzOf PairAt (upd H16 d17 (.tup [])) (.ref tp) prs := FrzOf.mono PairAt.mono _ _ _ _ (TupK.ext x17) hTp16
    have dp17 : Dp K (upd H16 d17 (.tup [])) (.ref tp) (.tuple (prs.map dPr)) := by
      obtain ⟨tp', oz', tus', e', htp', _, hTr'⟩ := hTp17
      cases e'
      exact .tup (SqT.fz htp') (dpPairs hTr')
    refine ⟨.tuple (prs.map dPr), .tuple [], dp17, .tup (SqT.of upd_same) .nil, (sm_prs hprl hOk).shaped (by decide), by decide, .inr ⟨_, rfl, y, _, rfl, rfl, .inl ⟨by omega, by omega⟩, ?_⟩⟩
    obtain ⟨cnt, hcnt, cnt0, cnt12, cntU⟩ : ∃ cnt : Int, cnt = y * (if (!PyData.eqv (.tuple (prs.map dPr)) (.tuple [])) = true then 1 else 0) ∧ 0 ≤ cnt ∧ cnt ≤ 12 ∧ (0 < cnt → 0 < prs.length) := by
      refine ⟨_, rfl, ?_⟩
      cases prs with
      | nil =>
        have : (!PyData.eqv (.tuple (([] : List (Str × Int)).map dPr)) (.tuple [])) = false := by simp [PyData.eqv, PyData.eqvAll]
        rw [this]
        simp
      | cons y z =>
        have : (!PyData.eqv (.tuple ((y :: z).map dPr)) (.tuple [])) = true := by simp [PyData.eqv, PyData.eqvAll]
        rw [this, if_pos rfl, Int.mul_one, List.length_cons]
        omega
    have k1617 := k1316.trans (Kp.ext x17)
    have hD17 := k1617 _ _ nst.1 hD13
    have hL17 := k1617 _ _ nD22.1 hL13
    have hP17 := hP16.ext x17
    generalize upd H16 d17 (.tup []) = H17 at x17 hTp17 k1617 hD17 hL17 hP17 ⊢
    have nDst : D22 ≠ st := fun z => by
      rw [z, hD13] at hL13
      cases hL13
    refine ⟨cnt, congrArg (fun z => [V.int z]) hcnt.symm, by omega, by omega, for_range (lo := 0) (n := cnt.toNat) (fun i σ H16 => ∃ (y6 y9 y10 : Option V) (es : List (Str × Str × Int)), σ = [some (.ref p), some (.int way), some (.int (a0 : Int)), some (.str sg), some (.ref tp), some (.bl (decide (V.int ev = V.int 0))), y6, some (.ref D22), some (.ref st), y9, y10, none, none] ∧ H16 st = some (.dT (es.map encE)) ∧ es.length ≤ i ∧ (es.map fun x => (x.1, x.2.1)).Nodup ∧ (∀ x ∈ es, Two x.1 ∧ Two x.2.1 ∧ -99 ≤ x.2.2 ∧ x.2.2 ≤ 99) ∧ H16 D22 = some (.lst (ns.map V.int)) ∧ TupK H17 H16 ∧ Kp p H H16 ∧ Pen H16 p c (n + 110 + 6 * i))
      ⟨_, _, _, [], rfl, hD17, Nat.zero_le _, List.nodup_nil, (fun x h => by cases h), hL17, ⟨fun _ _ e => e, fun _ _ _ e => e⟩, (kp10.trans k1013).trans k1617, hP17.mono (by omega)⟩ (fun i σ H16 hi hv => ?_) (fun σ H16 hv => ?_)⟩
    · obtain ⟨y6, y9, y10, es, rfl, hD16, hel, hnd, hok, hL16, tk16, k16, hP16⟩ := hv
      have hu0 : 0 < prs.length := cntU (by omega)
      have pick : ∀ {H' : Hp} {d : Int}, TupK H17 H' → 0 ≤ d → d < prs.length → ∃ (us : List V) (oz : Obj) (a1 : Addr) (t1 : Str × Int), H' tp = some (.frz oz (.tup us)) ∧ us.length = prs.length ∧ atI us d = some (.ref a1) ∧ H' a1 = some (.tup [.str t1.1, .int t1.2]) ∧ t1 ∈ prs := fun {H' d} tk d0 d1 => by
        obtain ⟨tp', oz', us', e', h1, h2, h3⟩ := FrzOf.mono PairAt.mono _ _ _ _ tk hTp17
        cases e'
        have hl := paired_len h3
        obtain ⟨u, hu⟩ : ∃ u, us'[d.toNat]? = some u := ⟨_, List.getElem?_eq_getElem (by omega)⟩
        obtain ⟨t1, ht1, a1, rfl, ha1⟩ := paired_get h3 hu
        refine ⟨us', oz', a1, t1, h1, hl, ?_, ha1, List.mem_of_getElem? ht1⟩
        rw [atI_get d0 (by omega), ← hu, List.getElem?_eq_getElem]
      obtain ⟨us0, oz0, _, _, hf0, hl0, _⟩ := pick (d := 0) tk16 (Int.le_refl _) (by omega)
      refine ⟨_, rfl, _, rfl, _, rfl, tp, _, rfl, .inr (SqT.fz hf0), p, c, _, _, rfl, hP16, by omega, by omega, by omega, fun d1 H18 da db k18 hP18 => ?_⟩
      have tk18 := tk16.trans (TupK.of k18 hP16)
      obtain ⟨us1, oz1, b1, t1, hf1, hl1, hat1, hb1, ht1⟩ := pick (d := d1) tk18 da (by omega)
      refine ⟨tp, _, d1, _, rfl, rfl, SqT.fz hf1, hat1, b1, _, 0, _, rfl, rfl, SqT.of hb1, rfl, ?_⟩
      refine ⟨_, rfl, _, rfl, _, rfl, tp, _, rfl, .inr (SqT.fz hf1), p, c, _, _, rfl, hP18, by omega, by omega, by omega, fun d2 H19 dc dd k19 hP19 => ?_⟩
      have tk19 := tk18.trans (TupK.of k19 hP18)
      obtain ⟨us2, oz2, b2, t2, hf2, hl2, hat2, hb2, ht2⟩ := pick (d := d2) tk19 dc (by omega)
      refine ⟨tp, _, d2, _, rfl, rfl, SqT.fz hf2, hat2, b2, _, 0, _, rfl, rfl, SqT.of hb2, rfl, _, _, rfl, ?_⟩
      refine ⟨_, rfl, p, c, _, rfl, hP19, by omega, fun w H20 wa wb k20 hP20 => ?_⟩
      refine ⟨_, rfl, _, rfl, _, rfl, szL (show 2 ≤ 1000000 by decide), fun tk htk => ?_⟩
      have x21 := Ext.new (o := .tup [.str t1.1, .str t2.1]) htk
      have hD20 := x21 _ _ (k20 _ _ nst.1 (k19 _ _ nst.1 (k18 _ _ nst.1 hD16)))
      have hL20 := x21 _ _ (k20 _ _ nD22.1 (k19 _ _ nD22.1 (k18 _ _ nD22.1 hL16)))
      have hP21 := hP20.ext x21
      refine ⟨st, _, rfl, DPut.t (k := [.inr t1.1, .inr t2.1]) hD20 upd_same (szLt (by rw [List.length_map]; omega)), ?_⟩
      rw [put_enc]
      have tkd : TupK (upd H20 tk (.tup [.str t1.1, .str t2.1])) (upd (upd H20 tk (.tup [.str t1.1, .str t2.1])) st (.dT ((putE es t1.1 t2.1 w).map encE))) := ⟨fun b xs e => by rw [upd_ne (ne_of e hD20 (by intro z; cases z))]; exact e, fun b o u e => by rw [upd_ne (ne_of e hD20 (by intro z; cases z))]; exact e⟩
      refine ⟨_, _, _, putE es t1.1 t2.1 w, rfl, upd_same, ?_, putE_keys _ _ _ _ hnd, putE_all hok ⟨(hOk t1 ht1).1, (hOk t2 ht2).1, wa, wb⟩, ?_, ?_, ?_, ?_⟩
      · have := putE_len es t1.1 t2.1 w
        omega
      · rw [upd_ne (ne_of hL20 hD20 (by intro z; cases z))]
        exact hL20
      · exact ((tk19.trans (TupK.of k20 hP19)).trans (TupK.ext x21)).trans tkd
      · have hst0 : H st = none := none_of (kp10.trans k1022) nst.1 hst
        exact ((((k16.trans k18).trans k19).trans k20).trans (Kp.ext x21)).put hst0
      · exact (hP21.put nst.1 nst.2).mono (by omega)
    · obtain ⟨y6, y9, y10, es, rfl, hD16, hel, hnd, hok, hL16, tk16, k16, hP16⟩ := hv
      have hes12 : es.length ≤ 12 := by omega
      -- piles
      refine ⟨_, rfl, st, _, rfl, .inl hD16, fun bs hkeys => ?_⟩
      obtain ⟨bes, hb1, hb2, hb3⟩ := keys_zip hkeys
      refine ⟨_, fun x => x.1, fun x => .tuple [.str x.2.1, .str x.2.2.1], bes, hb1.symm, fun x hx => ⟨.tup (SqT.of (hb3 x hx)) (.cons (.str _) (.cons (.str _) .nil)), by simp [PyData.depth, PyData.depthAll]⟩, ?_, .inl ?_, fun ls hls2 => ?_⟩
      · intro d1 h1 d2 h2
        obtain ⟨x1, _, rfl⟩ := List.mem_map.mp h1
        obtain ⟨x2, _, rfl⟩ := List.mem_map.mp h2
        simp [PySem.W.alike, PySem.W.alikeAll]
      · intro d1 h1
        obtain ⟨x1, _, rfl⟩ := List.mem_map.mp h1
        exact ⟨_, _, rfl⟩
      · obtain ⟨S, hS⟩ : ∃ S, S = bes.mergeSort (PySem.W.dataLe false fun x => PyData.tuple [.str x.2.1, .str x.2.2.1]) := ⟨_, rfl⟩
        rw [← hS]
        have hperm : S.Perm bes := hS ▸ List.mergeSort_perm _ _
        have hSl : S.length ≤ 12 := by
          rw [hperm.length_eq]
          have := congrArg List.length hb2
          rw [List.length_map] at this
          omega
        have e17 := Ext.new (o := .lst (S.map fun x => V.ref x.1)) hls2
        refine ⟨ls, rfl, ⟨_, SqL.of upd_same⟩, fun D hD => lc_list (K := K) (xs := S.map fun x => V.ref x.1) (fun i H18 => ∃ (vs : List V) (stk : List (Str × Str × Int)), H18 D = some (.lst vs) ∧ Paired (StackAt H18) vs stk ∧ stk = (S.take i).map (·.2) ∧ Ext (upd H16 ls (.lst (S.map fun x => V.ref x.1))) H18)
          ⟨[], [], upd_same, .nil, rfl, Ext.new hD⟩ (fun i H18 _ ⟨_, _, _, _, _, k⟩ => SqL.of (k _ _ upd_same)) (fun i u H18 hi hv => ?_) (fun H18 hv => ?_)⟩
        · obtain ⟨vs, stk, hL18, hPr18, hstk, k18⟩ := hv
          rw [List.getElem?_map] at hi
          obtain ⟨x, hx, rfl⟩ : ∃ x, S[i]? = some x ∧ u = V.ref x.1 := by
            cases e : S[i]? with
            | none => rw [e] at hi; cases hi
            | some x => rw [e] at hi; exact ⟨x, rfl, (Option.some.inj hi).symm⟩
          have hxm : x ∈ bes := hperm.mem_iff.mp (List.mem_of_getElem? hx)
          have hxe : x.2 ∈ es := hb2 ▸ List.mem_map.mpr ⟨x, hxm, rfl⟩
          have hb18 := k18 _ _ (e17 _ _ (hb3 x hxm))
          have hD18 := k18 _ _ (e17 _ _ hD16)
          have hdg : DGet H18 st (.ref x.1) (some (.int x.2.2.2)) := val_enc hnd hxe ▸ DGet.t (k := [.inr x.2.1, .inr x.2.2.1]) hD18 hb18
          refine ⟨rfl, _, rfl, _, rfl, _, rfl, st, _, rfl, hdg, szL (show 1 ≤ 1000000 by decide), fun t1 ht1 => ?_⟩
          have e19 := Ext.new (o := .tup [.int x.2.2.2]) ht1
          refine ⟨x.1, t1, _, _, rfl, rfl, SqT.of (e19 _ _ hb18), SqT.of upd_same, (fun z => by cases z), szL (show 2 + 1 ≤ 1000000 by decide), (fun z => by cases z), fun _ t2 ht2 => ?_⟩
          have e20 := e19.trans (Ext.new (o := .tup [.str x.2.1, .str x.2.2.1, .int x.2.2.2]) ht2)
          have hL20 := e20 _ _ hL18
          have nDt : t2 ≠ D := by
            intro z
            rw [← z] at hL20
            rw [upd_same] at hL20
            cases hL20
          have hvl : vs.length ≤ 12 := by
            rw [paired_len hPr18, hstk, List.length_map, List.length_take]
            omega
          refine ⟨vs, hL20, szLt (by omega), vs ++ [.ref t2], stk ++ [x.2], upd_same, ?_, ?_, (k18.trans e20).put hD⟩
          · refine (paired_imp (fun _ _ => StackAt.mono _ _ _ _ ((TupK.ext e20).trans (TupK.lst hL20))) hPr18).snoc ⟨t2, rfl, ?_⟩
            rw [upd_ne nDt, upd_same]
          · rw [List.take_add_one, hx, List.map_append, hstk]
            rfl
        · obtain ⟨vs, stk, hL18, hPr18, hstk, k18⟩ := hv
          rw [List.length_map, List.take_of_length_le (Nat.le_refl _)] at hstk
          have hkeys2 : (stk.map fun x => (x.1, x.2.1)).Nodup := by
            rw [hstk, List.map_map]
            have : (S.map ((fun x : Str × Str × Int => (x.1, x.2.1)) ∘ fun x : Addr × Str × Str × Int => x.2)).Perm (es.map fun x => (x.1, x.2.1)) := by
              rw [← hb2, List.map_map]
              exact hperm.map _
            exact this.nodup_iff.mpr hnd
          have hstE : ∀ x ∈ stk, x ∈ es := fun x hx => by
            rw [hstk] at hx
            obtain ⟨y, hy, rfl⟩ := List.mem_map.mp hx
            exact hb2 ▸ List.mem_map.mpr ⟨y, hperm.mem_iff.mp hy, rfl⟩
          have hst12 : stk.length ≤ 12 := by
            rw [hstk, List.length_map]
            exact hSl
          refine ⟨D, _, rfl, .inl ⟨SqL.of hL18, fun tr htr => ?_⟩⟩
          have e21 := (e17.trans k18).trans (Ext.new (o := .tup vs) htr)
          have hTr : TupOf StackAt (upd H18 tr (.tup vs)) (.ref tr) stk := ⟨tr, vs, rfl, upd_same, paired_imp (fun _ _ => StackAt.mono _ _ _ _ (TupK.new htr)) hPr18⟩
          have hL21 := e21 _ _ hL16
          have hP21 := hP16.ext e21
          have k21 := k16.trans (Kp.ext e21)
          have tk21 := tk16.trans (TupK.ext e21)
          generalize upd H18 tr (.tup vs) = H21 at hTr hP21 k21 tk21 hL21 ⊢
          -- the span, and the whole
          refine ⟨_, rfl, _, rfl, _, rfl, p, c, 4, _, rfl, hP21, by omega, by decide, by decide, fun r4 H23 rg rh k23 hP23 => ⟨szL (show 3 ≤ 1000000 by decide), fun l24 hl24 => ?_⟩⟩
          refine ⟨_, rfl, p, c, 3, _, rfl, hP23.new hl24, by omega, by decide, by decide, fun r5 H25 ri rj k25 hP25 => ?_⟩
          obtain ⟨z, hz, hatz⟩ := atI_ints (ns := [0, 1, r4]) ri rj
          have hz2 : 0 ≤ z ∧ z ≤ 3 := by
            simp only [List.mem_cons, List.not_mem_nil, or_false] at hz
            omega
          have k2125 : Kp p H21 H25 := (k23.trans (Kp.new hl24)).trans k25
          have hL25 := k2125 _ _ nD22.1 hL21
          refine ⟨l24, _, r5, _, rfl, rfl, SqL.of (k25 _ _ (hP23.ne hl24).1 upd_same), hatz, _, rfl, D22, _, rfl, .inl ⟨SqL.of hL25, fun tl htl => ?_⟩⟩
          have x23 := Ext.new (o := .tup (ns.map V.int)) htl
          have hTl : (upd H25 tl (.tup (ns.map V.int))) tl = some (.tup (ns.map V.int)) := upd_same
          refine ⟨_, rfl, szL (show 5 ≤ 1000000 by decide), fun tR htR => ?_⟩
          have xR := Ext.new (o := .tup [.str sg, .ref tp, .int z, .ref tl, .ref tr]) htR
          have kR := k2125.trans (Kp.ext (x23.trans xR))
          have tkR : TupK H17 _ := tk21.trans (TupK.of kR hP21)
          exact q _ ⟨sg, prs, z, _, stk⟩ _ ⟨tR, .ref tp, .ref tl, .ref tr, rfl, upd_same, FrzOf.mono PairAt.mono _ _ _ _ tkR hTp17, ⟨tl, _, rfl, xR _ _ hTl, paired_ints ns⟩, TupOf.mono StackAt.mono _ _ _ _ (TupK.of kR hP21) hTr⟩
            ⟨show sg.length ≤ 6 by omega, show 1 ≤ sg.length by omega, hsm, hprl, hOk, hz2.1, hz2.2, hns, hnb, hst12, fun x hx => hok x (hstE x hx), hkeys2, hpn⟩ ⟨fun y hy => (hpb y hy).2.1, hsz⟩ (k21.trans kR) ((hP25.ext (x23.trans xR)).mono (by omega))
abbrev CRules (P : Program) (w : World) (K : PySem.W.Frag) (mg : Str → Option Value) (base : Heap) : Prop := Ca P w K mg base 4 "_law_code" ["_law_pen_here"] spRules
end
end Pf


namespace Pf
open PySem PySem.Spec PyProof.Rows L2
def sgn (x : Str) (i : Int) : Str := ⟨#[x.cps.toList.getD i.toNat 0]⟩
theorem sgn_at {x : Str} {i : Int} (h0 : 0 ≤ i) (h1 : i < x.length) : atI x.cps.toList i = some (x.cps.toList.getD i.toNat 0) := by
  have h2 : i < x.cps.toList.length := by
    rw [Array.length_toList]
    exact h1
  rw [atI_get h0 h2, List.getD_eq_getElem?_getD, List.getElem?_eq_getElem (by omega)]
  rfl
def tx2 (x : Str) (p : Int × Int) : Str := sgn x p.1 ++ sgn x p.2
def pwV : List (Str × Int) → Str → V
  | [], _ => .non
  | (t, x) :: r, b => if t = b then .int x else pwV r b
theorem pwV_at {prs : List (Str × Int)} {i : Nat} {t : Str} {x : Int} (h : prs[i]? = some (t, x)) (b : Str) : pwV (prs.drop i) b = if t = b then .int x else pwV (prs.drop (i + 1)) b := by
  obtain ⟨hi, e⟩ := List.getElem?_eq_some_iff.mp h
  rw [List.drop_eq_getElem_cons hi, e, pwV]
theorem pwV_end {prs : List (Str × Int)} {i : Nat} (h : prs.length ≤ i) (b : Str) : pwV (prs.drop i) b = .non := by
  rw [List.drop_eq_nil_of_le h, pwV]
theorem pwV_is : ∀ (prs : List (Str × Int)) (b : Str), (!decide (pwV prs b = .non)) = decide (b ∈ prs.map (·.1))
  | [], _ => rfl
  | (t, x) :: r, b => by
    rw [pwV, List.map_cons]
    by_cases e : t = b
    · rw [if_pos e, decide_eq_false (fun z => by cases z), decide_eq_true (by rw [e]; exact List.mem_cons_self ..)]
      rfl
    · rw [if_neg e, pwV_is r b]
      refine decide_eq_decide.mpr ⟨fun h => List.mem_cons_of_mem _ h, fun h => ?_⟩
      rcases List.mem_cons.mp h with h | h
      · exact absurd h.symm e
      · exact h
def mayC (r : Rl) (x : Str) (i j : Int) : Bool := decide (r.span < j - i) && decide (tx2 x (i, j) ∈ r.prs.map (·.1))
def encP (x : Str × Int) : Key × V := (.inr x.1, .int x.2)
theorem val_isSome : ∀ (prs : List (Str × Int)) (b : Str), (valV (prs.map encP) (.inr b)).isSome = decide (b ∈ prs.map (·.1))
  | [], _ => rfl
  | (t, x) :: r, b => by
    rw [List.map_cons, List.map_cons]
    by_cases e : t = b
    · rw [valV_pos (show (encP (t, x)).1 = Sum.inr b by rw [e]; rfl), decide_eq_true (by rw [e]; exact List.mem_cons_self ..)]
      rfl
    · rw [valV_neg (show ¬ (encP (t, x)).1 = Sum.inr b from fun z => e (Sum.inr.inj z)), val_isSome r b]
      refine decide_eq_decide.mpr ⟨fun h => List.mem_cons_of_mem _ h, fun h => ?_⟩
      rcases List.mem_cons.mp h with h | h
      · exact absurd h.symm e
      · exact h
theorem merge_nd : ∀ (kvs acc : List (Key × V)), ((acc ++ kvs).map (·.1)).Nodup → mergeK acc kvs = acc ++ kvs
  | [], acc, _ => by rw [List.append_nil]; rfl
  | (k, v) :: r, acc, h => by
    have hno : (acc.any fun kv => decide (kv.1 = k)) = false := by
      rw [List.any_eq_false]
      intro kv hkv e
      have e := of_decide_eq_true e
      rw [List.map_append, List.map_cons] at h
      have := (List.nodup_append.mp h).2.2 kv.1 (List.mem_map.mpr ⟨kv, hkv, rfl⟩) k (List.mem_cons_self ..)
      exact this e
    have e1 : putK acc k v = acc ++ [(k, v)] := by
      unfold putK
      rw [hno, if_neg Bool.false_ne_true]
    show mergeK (putK acc k v) r = _
    rw [e1, merge_nd r (acc ++ [(k, v)]) (by rw [List.append_assoc]; exact h), List.append_assoc]
    rfl
theorem merge_prs {prs : List (Str × Int)} (h : (prs.map (·.1)).Nodup) : mergeK [] (prs.map encP) = prs.map encP := by
  rw [merge_nd, List.nil_append]
  rw [List.nil_append, List.map_map]
  have e : ((fun x : Key × V => x.1) ∘ encP) = (fun x : Str × Int => (Sum.inr x.1 : Key)) := rfl
  rw [e]
  have e2 : (prs.map fun x : Str × Int => (Sum.inr x.1 : Key)) = (prs.map (·.1)).map Sum.inr := by
    rw [List.map_map]
    rfl
  rw [e2]
  exact List.Pairwise.map _ (fun a b z y => z (Sum.inr.inj y)) h
section
variable {P : Program} {w : World} {K : PySem.W.Frag} {mg : Str → Option Value} {base : Heap}
abbrev s_pair_worth : Stmt := topS 5
theorem sc_pair_worth : FnScope ["rules", "both", "text", "worth"] ["rules", "both"] (defScope s_pair_worth) :=
  ⟨rfl, rfl, rfl, by decide +kernel, rfl, by decide +kernel, by decide +kernel⟩
def spPW : Sp := fun vs H Q _ => ∃ (v : V) (r : Rl) (b : Str), vs = [v, .str b] ∧ RulesW H v r ∧ Q (pwV r.prs b) H
theorem ok_pw {f : Addr} {fd : FuncData} {k : Nat} (F : Fun K "pair_worth" "pair_worth" s_pair_worth f fd) : FnOk P w K mg base CX0 (k + 1) f fd ["rules", "both"] spPW := by
  refine F.ok sc_pair_worth (fun vs H Q E h => ?_) (fun cdv A outer s H vs Q E hr h => ?_)
  · obtain ⟨v, r, b, rfl, _⟩ := h
    rfl
  · obtain ⟨v, r, b, rfl, ⟨a, vp, vl, vs, rfl, hA, ⟨ap, us, rfl, hp, hR⟩, _, _⟩, q⟩ := h
    refine ⟨_, (pss_cons (ps_for PassesOwn.never rfl (pi_tup (pe_ix (ixT K) (pv 0) pe_int (fun _ _ => rfl))) (pg_tup rfl (pgs_cons (pg_name (i := 2) sc_pair_worth.nd rfl (.inl rfl)) (pgs_cons (pg_name (i := 3) sc_pair_worth.nd rfl (.inl rfl)) pgs_nil))) (pss_one (ps_if (pt_cmpR op_eq (pv 2) (pv 1) (nomark _)) (pss_one (ps_ret (pv 3))) pss_nil)))
      (pss_one (ps_ret pe_non))), ?_⟩
    have hlen := paired_len hR
    refine ⟨_, rfl, a, _, 1, _, rfl, rfl, SqT.of hA, rfl, ap, rfl, ⟨_, SqT.w hp⟩, for_tup (xs := us) (fun i σ H2 => ∃ (y2 y3 : Option V), σ = [some (.ref a), some (.str b), y2, y3] ∧ H2 = H ∧ pwV (r.prs.drop i) b = pwV r.prs b)
      ⟨none, none, rfl, rfl, rfl⟩ (fun i σ H2 _ ⟨y2, y3, _, e, _⟩ => SqT.w (by rw [e]; exact hp)) (fun i u σ H2 hi hv => ?_) (fun σ H2 hv => ?_)⟩
    · obtain ⟨y2, y3, rfl, rfl, hd⟩ := hv
      obtain ⟨⟨t, x⟩, hx, a1, rfl, ha1⟩ := paired_get hR hi
      rw [pwV_at hx] at hd
      refine ⟨a1, _, rfl, SqT.of ha1, rfl, _, _, rfl, _, _, rfl, rfl, ?_⟩
      refine ⟨_, rfl, _, rfl, rfl, _, rfl, ite2 (fun e => ?_) (fun e => ?_)⟩
      · have e2 : t = b := V.str.inj (of_decide_eq_true e)
        rw [if_pos e2] at hd
        refine ⟨_, rfl, ?_⟩
        show Q (.int x) _
        rw [hd]
        exact q
      · have e2 : ¬ t = b := fun z => e (decide_eq_true (congrArg V.str z))
        rw [if_neg e2] at hd
        exact ⟨_, _, rfl, rfl, hd⟩
    · obtain ⟨y2, y3, rfl, rfl, hd⟩ := hv
      rw [pwV_end (by omega)] at hd
      show Q .non _
      rw [hd]
      exact q
abbrev CPW (P : Program) (w : World) (K : PySem.W.Frag) (mg : Str → Option Value) (base : Heap) : Prop := Ca P w K mg base 1 "pair_worth" ["rules", "both"] spPW
abbrev s_text_of : Stmt := topS 11
theorem sc_text_of : FnScope ["string", "pair"] ["string", "pair"] (defScope s_text_of) :=
  ⟨rfl, rfl, rfl, by decide +kernel, rfl, by decide +kernel, by decide +kernel⟩
def spTextOf : Sp := fun vs H Q _ => ∃ (x : Str) (t : Addr) (y : Int × Int), vs = [.str x, .ref t] ∧ H t = some (.tup [.int y.1, .int y.2]) ∧ x.length ≤ 1000 ∧ 0 ≤ y.1 ∧ y.1 < x.length ∧ 0 ≤ y.2 ∧ y.2 < x.length ∧ Q (.str (tx2 x y)) H
theorem ok_text_of {f : Addr} {fd : FuncData} {k : Nat} (F : Fun K "text_of" "text_of" s_text_of f fd) : FnOk P w K mg base CX0 (k + 1) f fd ["string", "pair"] spTextOf := by
  refine F.ok sc_text_of (fun vs H Q E h => ?_) (fun cdv A outer s H vs Q E hr h => ?_)
  · obtain ⟨x, t, y, rfl, _⟩ := h
    rfl
  · obtain ⟨x, t, y, rfl, hT, hx, i0, i1, j0, j1, q⟩ := h
    refine ⟨_, (pss_one (ps_ret (pe_op op_add_str (pe_ix ix_str (pv 0) (pe_ix (ixT K) (pv 1) pe_int (fun _ _ => rfl)) (fun _ _ => rfl)) (pe_ix ix_str (pv 0) (pe_ix (ixT K) (pv 1) pe_int (fun _ _ => rfl)) (fun _ _ => rfl))))), ?_⟩
    refine ⟨_, rfl, _, rfl, t, _, 0, _, rfl, rfl, SqT.of hT, rfl, x, y.1, _, rfl, rfl, szL (by omega), sgn_at i0 i1, ?_⟩
    refine ⟨_, rfl, _, rfl, t, _, 1, _, rfl, rfl, SqT.of hT, rfl, x, y.2, _, rfl, rfl, szL (by omega), sgn_at j0 j1, ?_⟩
    exact ⟨_, _, rfl, rfl, szL (show 1 + 1 ≤ 1000000 by decide), q⟩
abbrev CTx (P : Program) (w : World) (K : PySem.W.Frag) (mg : Str → Option Value) (base : Heap) : Prop := Ca P w K mg base 1 "text_of" ["string", "pair"] spTextOf
abbrev s_may_pair : Stmt := topS 12
theorem sc_may_pair : FnScope ["rules", "string", "i", "j"] ["rules", "string", "i", "j"] (defScope s_may_pair) :=
  ⟨rfl, rfl, rfl, by decide +kernel, rfl, by decide +kernel, by decide +kernel⟩
def spMP : Sp := fun vs H Q _ => ∃ (v : V) (r : Rl) (x : Str) (i j : Int), vs = [v, .str x, .int i, .int j] ∧ RulesW H v r ∧ x.length ≤ 1000 ∧ 0 ≤ i ∧ i < j ∧ j < x.length ∧ ∀ H', Ext H H' → Q (.bl (mayC r x i j)) H'
theorem ok_mp {f : Addr} {fd : FuncData} (F : Fun K "may_pair" "may_pair" s_may_pair f fd) (ctext_of : CTx P w K mg base) (cpair_worth : CPW P w K mg base) (mlen : mg "len" = none) : FnOk P w K mg base CX0 2 f fd ["rules", "string", "i", "j"] spMP := by
  refine F.ok sc_may_pair (fun vs H Q E h => ?_) (fun cdv A outer s H vs Q E hr h => ?_)
  · obtain ⟨v, r, x, i, j, rfl, _⟩ := h
    rfl
  · obtain ⟨v, r, x, i, j, rfl, hR, hx, e1, e2, e3, q⟩ := h
    obtain ⟨a, vp, vl, vs, rfl, hA, hp, hl, hs⟩ := id hR
    refine ⟨_, (pss_cons (ps_if (pt_not (pt_chain3 op_le op_lt op_lt pe_int (pv 2) (pv 3) (pe_callB call_len_str (by rfl) mlen (by decide +kernel) (pa_cons (pv 1) pa_nil)))) (pss_one (ps_ret pe_bl)) pss_nil)
      (pss_cons (ps_if (pt_cmpR op_lt (pe_op op_sub (pe_op op_sub (pv 3) (pv 2)) pe_int) (pe_ix (ixT K) (pv 0) pe_int (fun _ _ => rfl)) (nomark _)) (pss_one (ps_ret pe_bl)) pss_nil)
      (pss_one (ps_ret (pe_cmpR op_notN (pe_ca cpair_worth (hr.mono (by decide)) (by rfl) (pa_cons (pv 0) (pa_cons (pe_ca ctext_of (hr.mono (by decide)) (by rfl) (pa_cons (pv 1) (pa_cons (pe_tup (pa_cons (pv 2) (pa_cons (pv 3) pa_nil))) pa_nil))) pa_nil))) pe_non (nomark _)))))), ?_⟩
    refine ⟨_, rfl, 0, i, rfl, rfl, _, rfl, ?_⟩
    rw [decide_eq_true e1]
    refine iteT ⟨_, rfl, i, j, rfl, rfl, _, rfl, ?_⟩
    rw [decide_eq_true e2]
    refine iteT ⟨_, rfl, x, rfl, szL (by omega), _, _, rfl, rfl, _, rfl, ?_⟩
    rw [decide_eq_true e3]
    refine iteF ⟨_, rfl, _, rfl, _, _, rfl, rfl, _, 1, rfl, rfl, _, rfl, a, _, 2, _, rfl, rfl, SqT.of hA, rfl, _, _, rfl, rfl, _, rfl, ite2 (fun e4 => ?_) (fun e4 => ?_)⟩
    · have e4 : j - i - 1 < r.span := of_decide_eq_true e4
      have e : mayC r x i j = false := by
        unfold mayC
        rw [decide_eq_false (show ¬ r.span < j - i by omega), Bool.false_and]
      have := q H Ext.refl
      rw [e] at this
      exact this
    · have e4 : ¬ j - i - 1 < r.span := fun z => e4 (decide_eq_true z)
      refine ⟨_, rfl, _, rfl, _, rfl, _, rfl, szL (show 2 ≤ 1000000 by decide), fun t ht => ?_⟩
      refine ⟨x, t, (i, j), rfl, upd_same, hx, e1, (show i < x.length by omega), (show 0 ≤ j by omega), e3, ?_⟩
      refine ⟨_, r, _, rfl, RulesW.mono _ _ _ _ (TupK.new ht) hR, rfl, ?_⟩
      have e : mayC r x i j = !decide (pwV r.prs (tx2 x (i, j)) = .non) := by
        unfold mayC
        rw [decide_eq_true (show r.span < j - i by omega), Bool.true_and, pwV_is]
      have := q _ (Ext.new (o := .tup [.int i, .int j]) ht)
      rw [e] at this
      exact this
abbrev CMP (P : Program) (w : World) (K : PySem.W.Frag) (mg : Str → Option Value) (base : Heap) : Prop := Ca P w K mg base 2 "may_pair" ["rules", "string", "i", "j"] spMP
abbrev s_is_string : Stmt := topS 9
theorem sc_is_string : FnScope ["rules", "thing", "letter"] ["rules", "thing"] (defScope s_is_string) :=
  ⟨rfl, rfl, rfl, by decide +kernel, rfl, by decide +kernel, by decide +kernel⟩
def spIS : Sp := fun vs H Q _ => ∃ (v : V) (r : Rl) (x : Str), vs = [v, .str x] ∧ RulesW H v r ∧ x.length ≤ 12 ∧ Of r.letters x ∧ ∀ H', Ext H H' → Q (.bl true) H'
theorem ok_is {f : Addr} {fd : FuncData} {k : Nat} (F : Fun K "is_string" "is_string" s_is_string f fd) {tM : Tok} (gMOST_PLACES : mg "MOST_PLACES" = some (.int 12 tM)) (misinstance : mg "isinstance" = none) (mstr : mg "str" = none) (mlen : mg "len" = none) (mall : mg "all" = none) : FnOk P w K mg base CX0 (k + 1) f fd ["rules", "thing"] spIS := by
  refine F.ok sc_is_string (fun vs H Q E h => ?_) (fun cdv A outer s H vs Q E hr h => ?_)
  · obtain ⟨v, r, x, rfl, _⟩ := h
    rfl
  · obtain ⟨v, r, x, rfl, hR, hx, hof, q⟩ := h
    obtain ⟨a, vp, vl, vs, rfl, hA, hp, hl, hs⟩ := id hR
    refine ⟨_, (pss_cons (ps_if (PW.pt (pw_or (pt_not (pt_val (pe_callB (isi1 K) (by rfl) misinstance (by decide +kernel) (pa_cons (pv 1) (pa_cons (pe_bltn (v := .ty "str") (by rfl) mstr (by decide +kernel) rfl) pa_nil))))) (pw_or1 (pt_cmpR op_gt (pe_callB call_len_str (by rfl) mlen (by decide +kernel) (pa_cons (pv 1) pa_nil)) (pe_glob (v := .int 12) (by rfl) gMOST_PLACES ⟨_, rfl⟩) (nomark _))))) (pss_one (ps_ret pe_bl)) pss_nil)
      (pss_one (ps_ret (pe_callB (cr_all rfl) (by rfl) mall (by decide +kernel) (pa_cons (pe_lc (own := [("letter", 2)]) (g := gName 2) (by rfl) sc_is_string.nd (pi_str (pv 1)) (blkOk_by (own := [("letter", 2)]) (N := ["rules", "thing", "letter"]) (sc := defScope s_is_string) (by decide +kernel)) (fun _ _ _ _ _ => (pg_name (i := 2) sc_is_string.nd rfl (.inl rfl))) (fun _ _ _ _ _ => pts_nil) (fun _ _ _ _ _ => (pe_cmpR op_in_sign (pv 2) (pe_ix (ixT K) (pv 0) pe_int (fun _ _ => rfl)) (by rfl)))) pa_nil))))), ?_⟩
    refine ⟨_, rfl, .str x, .ty "str", _, _, true, rfl, .ty _, .base (.str x), kit_ty (by decide +kernel), true, rfl, iteF ?_⟩
    refine ⟨_, rfl, x, rfl, szL (by omega), _, _, rfl, rfl, _, rfl, ?_⟩
    rw [decide_eq_false (show ¬ (x.length : Int) > 12 by omega)]
    refine iteF ⟨_, rfl, _, rfl, fun D hD => lc_str (fun i H2 => H2 D = some (.lst ((List.replicate i true).map V.bl)) ∧ Ext H H2) ⟨upd_same, Ext.new hD⟩ (fun i ch H2 hi hv => ?_) (fun H2 hv => ?_)⟩
    · obtain ⟨hL, k2⟩ := hv
      have hi12 : i < x.length := (Array.getElem?_eq_some_iff.mp hi).1
      have hm : ch ∈ r.letters.cps.toList := hof ch (Array.mem_toList_iff.mpr (Array.mem_of_getElem? hi))
      refine ⟨rfl, _, rfl, _, rfl, a, _, 0, _, rfl, rfl, SqT.of (k2 _ _ hA), rfl, ch, r.letters, rfl, rfl, _, hL, szLt ?_, ?_, k2.put hD⟩
      · rw [List.length_map, List.length_replicate]
        omega
      · rw [upd_same, List.replicate_succ', List.map_append, decide_eq_true hm]
        rfl
    · obtain ⟨hL, k2⟩ := hv
      refine ⟨D, _, rfl, SqL.of hL, ?_⟩
      have : (List.replicate x.cps.size true).all id = true := by
        rw [List.all_replicate]
        simp
      rw [this]
      exact q _ k2
abbrev CIS (P : Program) (w : World) (K : PySem.W.Frag) (mg : Str → Option Value) (base : Heap) : Prop := Ca P w K mg base 1 "is_string" ["rules", "thing"] spIS
abbrev s_need_string : Stmt := topS 10
theorem sc_need_string : FnScope ["rules", "thing"] ["rules", "thing"] (defScope s_need_string) :=
  ⟨rfl, rfl, rfl, by decide +kernel, rfl, by decide +kernel, by decide +kernel⟩
def spNS : Sp := fun vs H Q _ => ∃ (v : V) (r : Rl) (x : Str), vs = [v, .str x] ∧ RulesW H v r ∧ x.length ≤ 12 ∧ Of r.letters x ∧ ∀ H', Ext H H' → Q .non H'
theorem ok_ns {f : Addr} {fd : FuncData} (F : Fun K "need_string" "need_string" s_need_string f fd) (cis_string : CIS P w K mg base) : FnOk P w K mg base CX0 2 f fd ["rules", "thing"] spNS := by
  refine F.ok sc_need_string (fun vs H Q E h => ?_) (fun cdv A outer s H vs Q E hr h => ?_)
  · obtain ⟨v, r, x, rfl, _⟩ := h
    rfl
  · obtain ⟨v, r, x, rfl, hR, hx, hof, q⟩ := h
    refine ⟨_, (pss_one (ps_if (pt_not (pt_val (pe_ca cis_string (hr.mono (by decide)) (by rfl) (pa_cons (pv 0) (pa_cons (pv 1) pa_nil))))) (pss_one ps_never) pss_nil)), ?_⟩
    exact ⟨_, rfl, _, rfl, v, r, x, rfl, hR, hx, hof, fun H' k => ⟨_, rfl, iteF (q H' k)⟩⟩
abbrev CNS (P : Program) (w : World) (K : PySem.W.Frag) (mg : Str → Option Value) (base : Heap) : Prop := Ca P w K mg base 2 "need_string" ["rules", "thing"] spNS
abbrev s_law_may : Stmt := topS 35
theorem sc_law_may : FnScope ["_law_code_here", "_law_page_here", "_law_i", "_law_j"] ["_law_code_here", "_law_page_here", "_law_i", "_law_j"] (defScope s_law_may) :=
  ⟨rfl, rfl, rfl, by decide +kernel, rfl, by decide +kernel, by decide +kernel⟩
def spMay : Sp := fun vs H Q _ => ∃ (v : V) (r : Rl) (x : Str) (i j : Int), vs = [v, .str x, .int i, .int j] ∧ RulesAt H v r ∧ RlOk r ∧ x.length ≤ 1000 ∧ 0 ≤ i ∧ i < x.length ∧ 0 ≤ j ∧ j < x.length ∧ ∀ H', Ext H H' → Q (.bl (mayC r x i j)) H'
theorem ok_may {f : Addr} {fd : FuncData} {k : Nat} (F : Fun K "_law_may" "_law_may" s_law_may f fd) (mdict : mg "dict" = none) : FnOk P w K mg base CX0 (k + 1) f fd ["_law_code_here", "_law_page_here", "_law_i", "_law_j"] spMay := by
  refine F.ok sc_law_may (fun vs H Q E h => ?_) (fun cdv A outer s H vs Q E hr h => ?_)
  · obtain ⟨v, r, x, i, j, rfl, _⟩ := h
    rfl
  · obtain ⟨v, r, x, i, j, rfl, hR, ok, hx, i0, i1, j0, j1, q⟩ := h
    obtain ⟨a, vp, vl, vs, rfl, hA, ⟨ap, oz, pus, rfl, hp, hoz, hRp⟩, _, _⟩ := id hR
    refine ⟨_, (pss_one (ps_ret (pe_and (pe_cmpR op_gt (pe_op op_sub (pv 3) (pv 2)) (pe_ix (ixT K) (pv 0) pe_int (fun _ _ => rfl)) (nomark _)) (pe_one (pe_cmp (pc_din (hu_of hr) (pe_op op_add_str (pe_ix ix_str (pv 1) (pv 2) (fun _ _ => rfl)) (pe_ix ix_str (pv 1) (pv 3) (fun _ _ => rfl))) (pe_callTy (dictT K) (by rfl) mdict (by decide +kernel) (pa_cons (pe_ix (ixT K) (pv 0) pe_int (fun _ _ => rfl)) pa_nil))) rfl))))), ?_⟩
    refine ⟨_, rfl, _, rfl, _, _, rfl, rfl, _, rfl, a, _, 2, _, rfl, rfl, SqT.of hA, rfl, _, _, rfl, rfl, _, rfl, ite2 (fun e => ?_) (fun e => ?_)⟩
    · have e : decide (r.span < j - i) = true := e
      obtain ⟨pas, hpas, hpp⟩ : ∃ pas : List Addr, pus = pas.map V.ref ∧ Paired (fun p kv => SqT K H p [kV kv.1, kv.2]) pas (r.prs.map encP) := by
        have aux : ∀ {us : List V} {ps : List (Str × Int)}, Paired (PairAt H) us ps → ∃ pas : List Addr, us = pas.map V.ref ∧ Paired (fun p kv => SqT K H p [kV kv.1, kv.2]) pas (ps.map encP) := by
          intro us ps h
          induction h with
          | nil => exact ⟨[], rfl, .nil⟩
          | cons h t ih =>
            obtain ⟨pas, e, hpp⟩ := ih
            obtain ⟨a1, e1, h1⟩ := h
            exact ⟨a1 :: pas, by rw [e1, e]; rfl, .cons (SqT.of h1) hpp⟩
        exact aux hRp
      refine ⟨_, rfl, _, rfl, x, i, _, rfl, rfl, szL (by omega), sgn_at i0 i1, _, rfl, _, rfl, x, j, _, rfl, rfl, szL (by omega), sgn_at j0 j1, _, _, rfl, rfl, szL (show 1 + 1 ≤ 1000000 by decide), ?_⟩
      refine ⟨_, rfl, a, _, 1, _, rfl, rfl, SqT.of hA, rfl, ap, oz, pas, r.prs.map encP, rfl, by rw [← hpas]; exact hp, hoz, hpp, fun d hd => ?_⟩
      rw [merge_prs ok.pn]
      refine ⟨d, _, rfl, DGet.k (k := .inr (tx2 x (i, j))) upd_same, ?_⟩
      rw [val_isSome]
      have := q _ (Ext.new (o := .dK (r.prs.map encP)) hd)
      unfold mayC at this
      rw [e, Bool.true_and] at this
      exact this
    · have e : decide (r.span < j - i) = false := Bool.eq_false_iff.mpr e
      have := q H Ext.refl
      unfold mayC at this
      rw [e, Bool.false_and] at this
      exact this
abbrev CMay (P : Program) (w : World) (K : PySem.W.Frag) (mg : Str → Option Value) (base : Heap) : Prop := Ca P w K mg base 1 "_law_may" ["_law_code_here", "_law_page_here", "_law_i", "_law_j"] spMay
end
end Pf


namespace Pf
open PySem PySem.Spec PyProof.Rows L2
abbrev Fo : Type := List (Int × Int)
/-! ### all foldings of a stretch, one behind another -/
def seg (r : Rl) (x : Str) (W : Nat → Int → List Fo) (n : Nat) (a : Int) (t : Nat) : List Fo :=
  if mayC r x a (a + 1 + t) = true then (W t (a + 1)).flatMap fun one => (W (n - 1 - t) (a + 2 + t)).map fun other => (a, a + 1 + t) :: (one ++ other) else []
def ws (r : Rl) (x : Str) : Nat → Nat → Int → List Fo
  | 0, _, _ => [[]]
  | _ + 1, 0, _ => [[]]
  | f + 1, n + 1, a => ws r x f n (a + 1) ++ (List.range n).flatMap fun t => seg r x (ws r x f) n a t
theorem seg_congr {r : Rl} {x : Str} {W W' : Nat → Int → List Fo} {n : Nat} {a : Int} {t : Nat} (ht : t < n) (h : ∀ m b, m < n → W m b = W' m b) : seg r x W n a t = seg r x W' n a t := by
  unfold seg
  rw [h t _ ht, h (n - 1 - t) _ (by omega)]
theorem flat_congr {α β : Type} {f g : α → List β} {l : List α} (h : ∀ y ∈ l, f y = g y) : l.flatMap f = l.flatMap g := by
  rw [List.flatMap_def, List.flatMap_def, List.map_congr_left h]
theorem ws_fuel (r : Rl) (x : Str) : ∀ (n f g : Nat) (a : Int), n ≤ f → n ≤ g → ws r x f n a = ws r x g n a := by
  intro n
  induction n using Nat.strongRecOn with
  | ind n ih =>
    intro f g a hf hg
    match n, f, g, hf, hg, ih with
    | 0, 0, 0, _, _, _ => rfl
    | 0, 0, g + 1, _, _, _ => rfl
    | 0, f + 1, 0, _, _, _ => rfl
    | 0, f + 1, g + 1, _, _, _ => rfl
    | n + 1, f + 1, g + 1, hf, hg, ih =>
      rw [ws, ws, ih n (by omega) f g (a + 1) (by omega) (by omega)]
      congr 1
      refine flat_congr fun t ht => ?_
      have ht := List.mem_range.mp ht
      exact seg_congr ht fun m b hm => ih m (by omega) f g b (by omega) (by omega)
def WA (r : Rl) (x : Str) (n : Nat) (a : Int) : List Fo := ws r x n n a
theorem WA_zero (r : Rl) (x : Str) (a : Int) : WA r x 0 a = [[]] := rfl
theorem WA_succ (r : Rl) (x : Str) (n : Nat) (a : Int) : WA r x (n + 1) a = WA r x n (a + 1) ++ (List.range n).flatMap fun t => seg r x (WA r x) n a t := by
  unfold WA
  rw [ws]
  congr 1
  refine flat_congr fun t ht => ?_
  have ht := List.mem_range.mp ht
  exact seg_congr ht fun m b hm => ws_fuel r x m n m b (by omega) (Nat.le_refl _)
theorem WA_one (r : Rl) (x : Str) (a : Int) : WA r x 1 a = [[]] := by
  rw [WA_succ, WA_zero]
  rfl
theorem WA_head (r : Rl) (x : Str) : ∀ (n : Nat) (a : Int), ∃ t, WA r x n a = [] :: t
  | 0, _ => ⟨[], rfl⟩
  | n + 1, a => by
    obtain ⟨t, e⟩ := WA_head r x n (a + 1)
    rw [WA_succ, e]
    exact ⟨_, rfl⟩
/-! ### how many, how long -/
def mz : Nat → Nat → Nat
  | 0, _ => 1
  | _ + 1, 0 => 1
  | f + 1, n + 1 => mz f n + ((List.range n).map fun t => mz f t * mz f (n - 1 - t)).sum
theorem sum_le {f g : Nat → Nat} : ∀ {l : List Nat}, (∀ t ∈ l, f t ≤ g t) → (l.map f).sum ≤ (l.map g).sum
  | [], _ => Nat.le_refl _
  | t :: r, h => by
    have h1 := h t (List.mem_cons_self ..)
    have h2 := sum_le (l := r) fun y hy => h y (List.mem_cons_of_mem _ hy)
    rw [List.map_cons, List.sum_cons, List.map_cons, List.sum_cons]
    omega
theorem flat_len {α β : Type} (f : α → List β) : ∀ l : List α, (l.flatMap f).length = (l.map fun y => (f y).length).sum
  | [] => rfl
  | y :: r => by
    rw [List.flatMap_cons, List.length_append, flat_len f r, List.map_cons, List.sum_cons]
theorem flat_const {α β : Type} {f : α → List β} {c : Nat} : ∀ {l : List α}, (∀ y ∈ l, (f y).length = c) → (l.flatMap f).length = l.length * c
  | [], _ => by rw [List.length_nil, Nat.zero_mul]; rfl
  | y :: r, h => by
    rw [List.flatMap_cons, List.length_append, h y (List.mem_cons_self ..), flat_const fun z hz => h z (List.mem_cons_of_mem _ hz), List.length_cons, Nat.succ_mul]
    omega
theorem seg_len {r : Rl} {x : Str} {W : Nat → Int → List Fo} {n : Nat} {a : Int} {t : Nat} : (seg r x W n a t).length ≤ (W t (a + 1)).length * (W (n - 1 - t) (a + 2 + t)).length := by
  unfold seg
  split
  · rw [flat_const (c := (W (n - 1 - t) (a + 2 + t)).length) fun y _ => List.length_map ..]
    exact Nat.le_refl _
  · exact Nat.zero_le _
theorem ws_len (r : Rl) (x : Str) : ∀ (f n : Nat) (a : Int), (ws r x f n a).length ≤ mz f n
  | 0, _, _ => Nat.le_refl _
  | _ + 1, 0, _ => Nat.le_refl _
  | f + 1, n + 1, a => by
    rw [ws, mz, List.length_append, flat_len]
    refine Nat.add_le_add (ws_len r x f n (a + 1)) (sum_le fun t _ => ?_)
    exact Nat.le_trans seg_len (Nat.mul_le_mul (ws_len r x f t _) (ws_len r x f _ _))
theorem WA_len (r : Rl) (x : Str) {n : Nat} (hn : n ≤ 12) (a : Int) : (WA r x n a).length ≤ 15511 := by
  have h1 := ws_len r x n n a
  have h2 : ∀ m : Nat, m < 13 → mz m m ≤ 15511 := by decide +kernel
  exact Nat.le_trans h1 (h2 n (by omega))
theorem WA_len10 (r : Rl) (x : Str) {n : Nat} (hn : n ≤ 10) (a : Int) : (WA r x n a).length ≤ 2188 := by
  have h1 := ws_len r x n n a
  have h2 : ∀ m : Nat, m < 11 → mz m m ≤ 2188 := by decide +kernel
  exact Nat.le_trans h1 (h2 n (by omega))
/-- each folding of a stretch: places within it, at most half as many pairs -/
theorem WA_in (r : Rl) (x : Str) : ∀ (n : Nat) (a : Int), ∀ q ∈ WA r x n a, (∀ y ∈ q, a ≤ y.1 ∧ y.1 < y.2 ∧ y.2 < a + n) ∧ 2 * q.length ≤ n := by
  intro n
  induction n using Nat.strongRecOn with
  | ind n ih =>
    intro a q hq
    match n, ih, hq with
    | 0, _, hq =>
      rw [WA_zero, List.mem_singleton] at hq
      subst hq
      exact ⟨(fun y hy => by cases hy), Nat.zero_le _⟩
    | n + 1, ih, hq =>
      rw [WA_succ] at hq
      rcases List.mem_append.mp hq with hq | hq
      · have := ih n (by omega) (a + 1) q hq
        exact ⟨fun y hy => by have := this.1 y hy; omega, by omega⟩
      · obtain ⟨t, ht, hq⟩ := List.mem_flatMap.mp hq
        have ht := List.mem_range.mp ht
        unfold seg at hq
        split at hq
        · obtain ⟨one, h1, hq⟩ := List.mem_flatMap.mp hq
          obtain ⟨other, h2, rfl⟩ := List.mem_map.mp hq
          have i1 := ih t (by omega) (a + 1) one h1
          have i2 := ih (n - 1 - t) (by omega) (a + 2 + t) other h2
          refine ⟨fun y hy => ?_, ?_⟩
          · rcases List.mem_cons.mp hy with rfl | hy
            · show a ≤ a ∧ a < a + 1 + t ∧ a + 1 + t < a + (n + 1 : Nat)
              omega
            · rcases List.mem_append.mp hy with hy | hy
              · have := i1.1 y hy
                omega
              · have := i2.1 y hy
                omega
          · rw [List.length_cons, List.length_append]
            omega
        · cases hq
/-! ### foldings in the heap, in a list -/
abbrev FoAt : Hp → V → Fo → Prop := TupOf TwoAt
theorem FoAt.mono : Mono FoAt := TupOf.mono TwoAt.mono
theorem paired_get2 {α β : Type} {R : α → β → Prop} {xs : List α} {ys : List β} {i : Nat} {x : α} (h : Paired R xs ys) (e : xs[i]? = some x) : ∃ y, ys[i]? = some y ∧ R x y := paired_get h e
section
variable {β : Type} {R : Hp → V → β → Prop} {D : Addr} {H H1 H4 : Hp} {bs : List β} {i n : Nat} {v : V} {b : β}
def GenP (R : Hp → V → β → Prop) (D : Addr) (H1 : Hp) (bs : List β) (i : Nat) (H : Hp) : Prop := ∃ vs, H D = some (.lst vs) ∧ Paired (R H) vs (bs.take i) ∧ Ext H1 H
theorem gen_new (hD : H1 D = none) : GenP R D H1 bs 0 (upd H1 D (.lst [])) := ⟨[], upd_same, by rw [List.take_zero]; exact .nil, Ext.new hD⟩
theorem GenP.ext (h : GenP R D H1 bs i H) : Ext H1 H := by
  obtain ⟨_, _, _, k⟩ := h
  exact k
theorem gen_step (m : Mono R) (hD : H1 D = none) (h : GenP R D H1 bs i H) (k : Ext H H4) (hv : R H4 v b) (hb : bs[i]? = some b) (hn : bs.length ≤ 1000000) : ∃ acc, H4 D = some (.lst acc) ∧ acc.length < sizeLine ∧ GenP R D H1 bs (i + 1) (upd H4 D (.lst (acc ++ [v]))) := by
  obtain ⟨vs, hL, hP, k1⟩ := h
  have hl := paired_len hP
  rw [List.length_take] at hl
  have hi := (List.getElem?_eq_some_iff.mp hb).1
  have hL4 := k _ _ hL
  refine ⟨vs, hL4, szLt (by omega), vs ++ [v], upd_same, ?_, (k1.trans k).put hD⟩
  rw [List.take_add_one, hb]
  exact paired_app (paired_imp (fun _ _ => m _ _ _ _ ((TupK.ext k).trans (TupK.lst hL4))) hP) (.cons (m _ _ _ _ (TupK.lst hL4) hv) .nil)
theorem gen_end (h : GenP R D H1 bs n H) (hn : bs.length ≤ n) : ∃ vs, H D = some (.lst vs) ∧ Paired (R H) vs bs ∧ Ext H1 H := by
  obtain ⟨vs, hL, hP, k⟩ := h
  rw [List.take_of_length_le hn] at hP
  exact ⟨vs, hL, hP, k⟩
end
section
variable {P : Program} {w : World} {K : PySem.W.Frag} {mg : Str → Option Value} {base : Heap}
/-! ### sorted -/
def dTwo (x : Int × Int) : PyData := .tuple [.int x.1, .int x.2]
def dFo (q : Fo) : PyData := .tuple (q.map dTwo)
theorem dpTwos {K : PySem.W.Frag} {H : Hp} : ∀ {vs : List V} {ps : List (Int × Int)}, Paired (TwoAt H) vs ps → DpAll K H vs (ps.map dTwo)
  | _, _, .nil => .nil
  | _, _, .cons ⟨_, e, h⟩ t => .cons (e ▸ .tup (SqT.of h) (.cons (.int _) (.cons (.int _) .nil))) (dpTwos t)
theorem dp_fo {K : PySem.W.Frag} {H : Hp} {v : V} {q : Fo} (h : FoAt H v q) : Dp K H v (dFo q) := by
  obtain ⟨a, vs, rfl, h1, h2⟩ := h
  exact .tup (SqT.of h1) (dpTwos h2)
theorem dpFos {K : PySem.W.Frag} {H : Hp} : ∀ {vs : List V} {L : List Fo}, Paired (FoAt H) vs L → DpAll K H vs (L.map dFo)
  | _, _, .nil => .nil
  | _, _, .cons h t => .cons (dp_fo h) (dpFos t)
theorem dep_twos : ∀ q : List (Int × Int), PyData.depthAll (q.map dTwo) ≤ 1
  | [] => by simp [PyData.depthAll]
  | y :: r => by
    rw [List.map_cons, PyData.depthAll]
    have := dep_twos r
    have h1 : (dTwo y).depth = 1 := by simp [dTwo, PyData.depth, PyData.depthAll]
    rw [h1]
    omega
theorem dep_fo (q : Fo) : (dFo q).depth ≤ 2 := by
  unfold dFo
  rw [PyData.depth]
  have := dep_twos q
  omega
theorem alike_twos : ∀ q s : List (Int × Int), PySem.W.alikeAll (q.map dTwo) (s.map dTwo) = true
  | [], _ => by simp [PySem.W.alikeAll]
  | _ :: _, [] => by simp [PySem.W.alikeAll]
  | y :: q, z :: s => by
    rw [List.map_cons, List.map_cons, PySem.W.alikeAll, alike_twos q s]
    simp [dTwo, PySem.W.alike, PySem.W.alikeAll]
def SF (L : List Fo) : List Fo := L.mergeSort (PySem.W.dataLe false dFo)
theorem sort_fos {K : PySem.W.Frag} {H : Hp} {l : Addr} {us : List V} {L : List Fo} {t : List Fo} {Q : VK} (hL : H l = some (.lst us)) (hP : Paired (FoAt H) us L) (h0 : L = [] :: t) (q : ∀ (p : Addr) (ws : List V) (H' : Hp), H p = none → H' p = some (.lst ws) → Paired (FoAt H') ws (SF L) → Ext H H' → Q (.ref p) H') : rSortE K [.ref l] H Q := by
  have hz := paired_len hP
  have e1 : (us.zip L).map (·.1) = us := List.map_fst_zip (by omega)
  have e2 : (us.zip L).map (·.2) = L := List.map_snd_zip (by omega)
  have hall : ∀ b ∈ us.zip L, FoAt H b.1 b.2 := by
    clear e1 e2 hz h0 q hL
    induction hP with
    | nil => intro b hb; cases hb
    | cons r _ ih =>
      intro b hb
      rw [List.zip_cons_cons] at hb
      rcases List.mem_cons.mp hb with rfl | hb
      · exact r
      · exact ih b hb
  have ed : (us.zip L).map (fun b => dFo b.2) = L.map dFo := by
    have := congrArg (List.map dFo) e2
    rw [List.map_map] at this
    exact this
  refine ⟨V × Fo, fun b => b.1, fun b => dFo b.2, l, us.zip L, t.map dFo, rfl, SqL.of (by rw [e1]; exact hL), fun b hb => ⟨dp_fo (hall b hb), Nat.le_trans (dep_fo _) (by decide)⟩, ?_, ?_, ?_, fun p hp => ?_⟩
  · intro d1 h1 d2 h2
    obtain ⟨b1, _, rfl⟩ := List.mem_map.mp h1
    obtain ⟨b2, _, rfl⟩ := List.mem_map.mp h2
    show PySem.W.alike (.tuple _) (.tuple _) = true
    rw [PySem.W.alike]
    exact alike_twos _ _
  · rw [ed, h0]
    rfl
  · intro e he
    obtain ⟨b1, _, rfl⟩ := List.mem_map.mp he
    exact ⟨_, rfl⟩
  · have x1 := Ext.new (o := .lst (((us.zip L).mergeSort (PySem.W.dataLe false fun b => dFo b.2)).map fun b => b.1)) hp
    refine q p _ _ hp upd_same ?_ x1
    have es : ((us.zip L).mergeSort (PySem.W.dataLe false fun b => dFo b.2)).map (·.2) = SF L := by
      have hm := List.map_mergeSort (r := PySem.W.dataLe false fun b : V × Fo => dFo b.2) (s := PySem.W.dataLe false dFo) (f := fun b : V × Fo => b.2) (l := us.zip L) (fun a _ b _ => rfl)
      rw [e2] at hm
      exact hm
    rw [← es]
    have hm : ∀ b ∈ (us.zip L).mergeSort (PySem.W.dataLe false fun b => dFo b.2), FoAt H b.1 b.2 := fun b hb => hall b ((List.mergeSort_perm _ _).mem_iff.mp hb)
    generalize (us.zip L).mergeSort (PySem.W.dataLe false fun b => dFo b.2) = S at hm x1
    have : ∀ {T : List (V × Fo)} {H2 : Hp}, (∀ b ∈ T, FoAt H b.1 b.2) → Ext H H2 → Paired (FoAt H2) (T.map (·.1)) (T.map (·.2)) := by
      intro T H2 hT hx
      induction T with
      | nil => exact .nil
      | cons b T ih => exact .cons (FoAt.mono _ _ _ _ (TupK.ext hx) (hT b (List.mem_cons_self ..))) (ih fun c hc => hT c (List.mem_cons_of_mem _ hc))
    exact this hm x1
end
end Pf


namespace Pf
open PySem PySem.Spec PyProof.Rows L2
/-! ### loops: what is asked -/
def swI : List (Str × Str × Int) → Str → Str → Int
  | [], _, _ => 0
  | (t, u, x) :: r, o, n => if t = o ∧ u = n then x else swI r o n
theorem swI_at {stk : List (Str × Str × Int)} {i : Nat} {t u : Str} {x : Int} (h : stk[i]? = some (t, u, x)) (o n : Str) : swI (stk.drop i) o n = if t = o ∧ u = n then x else swI (stk.drop (i + 1)) o n := by
  obtain ⟨hi, e⟩ := List.getElem?_eq_some_iff.mp h
  rw [List.drop_eq_getElem_cons hi, e, swI]
theorem swI_end {stk : List (Str × Str × Int)} {i : Nat} (h : stk.length ≤ i) (o n : Str) : swI (stk.drop i) o n = 0 := by
  rw [List.drop_eq_nil_of_le h, swI]
theorem swI_bound {stk : List (Str × Str × Int)} (h : ∀ y ∈ stk, -99 ≤ y.2.2 ∧ y.2.2 ≤ 99) (o n : Str) : -99 ≤ swI stk o n ∧ swI stk o n ≤ 99 := by
  induction stk with
  | nil => exact ⟨by show -99 ≤ (0 : Int); decide, by show (0 : Int) ≤ 99; decide⟩
  | cons y r ih =>
    rw [swI]
    by_cases e : y.1 = o ∧ y.2.1 = n
    · rw [if_pos e]
      exact h y (List.mem_cons_self ..)
    · rw [if_neg e]
      exact ih fun z hz => h z (List.mem_cons_of_mem _ hz)
inductive Sep2 : Int → Int → List (Int × Int) → Prop
  | nil {lo hi : Int} : lo ≤ hi → Sep2 lo hi []
  | cons {lo hi p q : Int} {ks : List (Int × Int)} : lo ≤ p → p ≤ q → Sep2 (q + 1) hi ks → Sep2 lo hi ((p, q) :: ks)
def wid (ks : List (Int × Int)) : Int := (ks.map fun y => y.2 - y.1 + 1).sum
theorem Sep2.wid {lo hi : Int} {ks : List (Int × Int)} (h : Sep2 lo hi ks) : 0 ≤ wid ks ∧ wid ks ≤ hi - lo := by
  induction h with
  | nil h => exact ⟨Int.le_refl _, by show (0 : Int) ≤ _; omega⟩
  | @cons lo hi p q ks h1 h2 _ ih =>
    have e : Pf.wid ((p, q) :: ks) = (q - p + 1) + Pf.wid ks := by
      unfold Pf.wid
      rw [List.map_cons, List.sum_cons]
    rw [e]
    omega
def freeI (one : Int × Int) (ks : List (Int × Int)) : Int := one.2 - one.1 - 1 - wid ks
theorem free_sep {one : Int × Int} {ks : List (Int × Int)} (h : Sep2 (one.1 + 1) one.2 ks) : 0 ≤ freeI one ks ∧ freeI one ks ≤ one.2 - one.1 - 1 := by
  have := h.wid
  unfold freeI
  omega
def lo (r : Rl) (i : Nat) : Int := r.loops.getD i 0
def kindN (free : Int) (n : Nat) : Str := if n = 0 then "lone" else if 1 < n then "forked" else if 0 < free then "inner" else "stacked"
def lpW (r : Rl) (x : Str) (one : Int × Int) (ks : List (Int × Int)) : Int :=
  if ks.length = 0 then lo r 6 + freeI one ks * lo r 7 else if 1 < ks.length then lo r 3 + (ks.length * lo r 4 + freeI one ks * lo r 5) else if 0 < freeI one ks then lo r 1 + freeI one ks * lo r 2 else lo r 0 + swI r.stk (tx2 x one) (tx2 x (ks.headD (0, 0)))
def LN : List Str := ["stacked", "inner", "inner free", "forked", "branch", "fork free", "lone", "lone free", "open"]
theorem LN_nd : LN.Nodup := by decide +kernel
def dLo (cs : List Int) : List (Key × V) := (LN.zip cs).map fun x => (.inr x.1, .int x.2)
theorem val_zip : ∀ {ns : List Str} {cs : List Int} {i : Nat} {n : Str} {c : Int}, ns.Nodup → ns[i]? = some n → cs[i]? = some c → valV ((ns.zip cs).map fun x => ((.inr x.1 : Key), V.int x.2)) (.inr n) = some (.int c)
  | [], _, i, _, _, _, h, _ => by simp at h
  | _ :: _, [], i, _, _, _, _, h => by simp at h
  | a :: ns, b :: cs, 0, n, c, _, h, h2 => by
    rw [List.getElem?_cons_zero] at h h2
    cases h
    cases h2
    rw [List.zip_cons_cons, List.map_cons, valV_pos rfl]
  | a :: ns, b :: cs, i + 1, n, c, hn, h, h2 => by
    rw [List.getElem?_cons_succ] at h h2
    have hne : ¬ (Sum.inr a : Key) = Sum.inr n := fun z => by
      have z := Sum.inr.inj z
      rw [z] at hn
      exact (List.nodup_cons.mp hn).1 (List.mem_of_getElem? h)
    rw [List.zip_cons_cons, List.map_cons, valV_neg hne]
    exact val_zip (List.nodup_cons.mp hn).2 h h2
theorem dLo_keys : ∀ {ns : List Str} {cs : List Int}, ns.length = cs.length → ((ns.zip cs).map fun x => ((.inr x.1 : Key), V.int x.2)).map (·.1) = ns.map Sum.inr
  | [], _, _ => rfl
  | _ :: _, [], h => by cases h
  | a :: ns, b :: cs, h => by
    rw [List.zip_cons_cons, List.map_cons, List.map_cons, List.map_cons, dLo_keys (Nat.succ.inj h)]
theorem dLo_merge {cs : List Int} (h : cs.length = 9) : mergeK [] (dLo cs) = dLo cs := by
  rw [merge_nd, List.nil_append]
  rw [List.nil_append]
  unfold dLo
  rw [dLo_keys (by rw [h]; rfl)]
  show (LN.map (Sum.inr : Str → Key)).Nodup
  decide +kernel
theorem get_lo {H : Hp} {d : Addr} {cs : List Int} (h : H d = some (.dK (dLo cs))) (hc : cs.length = 9) {i : Nat} {n : Str} (hn : LN[i]? = some n) : DGet H d (.str n) (some (.int (cs.getD i 0))) := by
  have hi : i < 9 := (List.getElem?_eq_some_iff.mp hn).1
  have e : cs[i]? = some (cs.getD i 0) := by
    rw [List.getD_eq_getElem?_getD, List.getElem?_eq_getElem (by omega)]
    rfl
  have := val_zip (cs := cs) LN_nd hn e
  exact this ▸ DGet.k (k := .inr n) h
theorem dLo_vals : ∀ {ns : List Str} {cs : List Int}, ns.length = cs.length → ((ns.zip cs).map fun x => ((.inr x.1 : Key), V.int x.2)).map (·.2) = cs.map V.int
  | [], [], _ => rfl
  | [], _ :: _, h => by cases h
  | _ :: _, [], h => by cases h
  | a :: ns, b :: cs, h => by
    rw [List.zip_cons_cons, List.map_cons, List.map_cons, List.map_cons, dLo_vals (Nat.succ.inj h)]
theorem dLo_kV : ∀ {ns : List Str} {cs : List Int}, ns.length = cs.length → (((ns.zip cs).map fun x => ((.inr x.1 : Key), V.int x.2)).map fun x => kV x.1) = ns.map V.str
  | [], _, _ => rfl
  | _ :: _, [], h => by cases h
  | a :: ns, b :: cs, h => by
    rw [List.zip_cons_cons, List.map_cons, List.map_cons, List.map_cons, dLo_kV (Nat.succ.inj h)]
    rfl
theorem ints_of {H : Hp} : ∀ {vs : List V} {ns : List Int}, Paired (IntAt H) vs ns → vs = ns.map V.int
  | _, _, .nil => rfl
  | _, _, .cons h t => by
    have h : _ = V.int _ := h
    rw [List.map_cons, ← ints_of t, h]
theorem lo_bound {r : Rl} (ok : RlOk r) {i : Nat} (hi : i < 9) : -99 ≤ lo r i ∧ lo r i ≤ 99 := by
  have h : i < r.loops.length := by
    rw [ok.lo9]
    exact hi
  have e : lo r i = r.loops[i] := by
    unfold lo
    rw [List.getD_eq_getElem?_getD, List.getElem?_eq_getElem h]
    rfl
  rw [e]
  exact ok.lo _ (List.getElem_mem h)
section
variable {P : Program} {w : World} {K : PySem.W.Frag} {mg : Str → Option Value} {base : Heap}
theorem sumI (K : PySem.W.Frag) {X : Cx} (hc : X.calm = true := by rfl) (h : X.K = K := by rfl) : CallR X (.builtin "sum") (rSum K) := h ▸ cr_sum hc
abbrev s_stack_worth : Stmt := topS 6
theorem sc_stack_worth : FnScope ["rules", "outer", "within", "text", "inner", "worth"] ["rules", "outer", "within"] (defScope s_stack_worth) :=
  ⟨rfl, rfl, rfl, by decide +kernel, rfl, by decide +kernel, by decide +kernel⟩
def spSW : Sp := fun vs H Q _ => ∃ (v : V) (r : Rl) (o n : Str), vs = [v, .str o, .str n] ∧ RulesW H v r ∧ Q (.int (swI r.stk o n)) H
theorem ok_sw {f : Addr} {fd : FuncData} {k : Nat} (F : Fun K "stack_worth" "stack_worth" s_stack_worth f fd) : FnOk P w K mg base CX0 (k + 1) f fd ["rules", "outer", "within"] spSW := by
  refine F.ok sc_stack_worth (fun vs H Q E h => ?_) (fun cdv A outer s H vs Q E hr h => ?_)
  · obtain ⟨v, r, o, n, rfl, _⟩ := h
    rfl
  · obtain ⟨v, r, o, n, rfl, ⟨a, vp, vl, vs, rfl, hA, _, _, ⟨as, us, rfl, hp, hR⟩⟩, q⟩ := h
    refine ⟨_, (pss_cons (ps_for PassesOwn.never rfl (pi_tup (pe_ix (ixT K) (pv 0) pe_int (fun _ _ => rfl))) (pg_tup rfl (pgs_cons (pg_name (i := 3) sc_stack_worth.nd rfl (.inl rfl)) (pgs_cons (pg_name (i := 4) sc_stack_worth.nd rfl (.inl rfl)) (pgs_cons (pg_name (i := 5) sc_stack_worth.nd rfl (.inl rfl)) pgs_nil)))) (pss_one (ps_if (PW.pt (pw_and (pt_cmpR op_eq (pv 3) (pv 1) (nomark _)) (pw_and1 (pt_cmpR op_eq (pv 4) (pv 2) (nomark _))))) (pss_one (ps_ret (pv 5))) pss_nil)))
      (pss_one (ps_ret pe_int))), ?_⟩
    have hlen := paired_len hR
    refine ⟨_, rfl, a, _, 4, _, rfl, rfl, SqT.of hA, rfl, as, rfl, ⟨_, SqT.of hp⟩, for_tup (xs := us) (fun i σ H2 => ∃ (y2 y3 y4 : Option V), σ = [some (.ref a), some (.str o), some (.str n), y2, y3, y4] ∧ H2 = H ∧ swI (r.stk.drop i) o n = swI r.stk o n)
      ⟨none, none, none, rfl, rfl, rfl⟩ (fun i σ H2 _ ⟨y2, y3, y4, _, e, _⟩ => SqT.of (by rw [e]; exact hp)) (fun i u σ H2 hi hv => ?_) (fun σ H2 hv => ?_)⟩
    · obtain ⟨y2, y3, y4, rfl, rfl, hd⟩ := hv
      obtain ⟨⟨t, t2, x⟩, hx, a1, rfl, ha1⟩ := paired_get hR hi
      rw [swI_at hx] at hd
      refine ⟨a1, _, rfl, SqT.of ha1, rfl, _, _, rfl, _, _, rfl, _, _, rfl, rfl, ?_⟩
      refine ⟨_, rfl, _, rfl, rfl, _, rfl, ite2 (fun e => ?_) (fun e => ?_)⟩
      · have e2 : t = o := V.str.inj (of_decide_eq_true e)
        refine ⟨_, rfl, _, rfl, rfl, _, rfl, ite2 (fun e3 => ?_) (fun e3 => ?_)⟩
        · have e4 : t2 = n := V.str.inj (of_decide_eq_true e3)
          rw [if_pos ⟨e2, e4⟩] at hd
          refine ⟨_, rfl, ?_⟩
          show Q (.int x) _
          rw [hd]
          exact q
        · have e4 : ¬ (t = o ∧ t2 = n) := fun z => e3 (decide_eq_true (congrArg V.str z.2))
          rw [if_neg e4] at hd
          exact ⟨_, _, _, rfl, rfl, hd⟩
      · have e4 : ¬ (t = o ∧ t2 = n) := fun z => e (decide_eq_true (congrArg V.str z.1))
        rw [if_neg e4] at hd
        exact ⟨_, _, _, rfl, rfl, hd⟩
    · obtain ⟨y2, y3, y4, rfl, rfl, hd⟩ := hv
      rw [swI_end (by omega)] at hd
      show Q (.int 0) _
      rw [hd]
      exact q
abbrev s_loop_worths : Stmt := topS 15
theorem sc_loop_worths : FnScope ["rules"] ["rules"] (defScope s_loop_worths) :=
  ⟨rfl, rfl, rfl, by decide +kernel, rfl, by decide +kernel, by decide +kernel⟩
def spLW : Sp := fun vs H Q _ => ∃ (v : V) (r : Rl), vs = [v] ∧ RulesW H v r ∧ r.loops.length = 9 ∧ ∀ d, H d = none → Q (.ref d) (upd H d (.dK (dLo r.loops)))
theorem ok_lw {f : Addr} {fd : FuncData} {k : Nat} {aLOOPS : Addr} (F : Fun K "loop_worths" "loop_worths" s_loop_worths f fd) (gLOOPS : mg "LOOPS" = some (.ref aLOOPS)) (hL : ∀ H : Hp, SqT K H aLOOPS (LN.map V.str)) (mdict : mg "dict" = none) (mzip : mg "zip" = none) : FnOk P w K mg base CX0 (k + 1) f fd ["rules"] spLW := by
  refine F.ok sc_loop_worths (fun vs H Q E h => ?_) (fun cdv A outer s H vs Q E hr h => ?_)
  · obtain ⟨v, r, rfl, _⟩ := h
    rfl
  · obtain ⟨v, r, rfl, ⟨a, vp, vl, vs, rfl, hA, _, ⟨al, us, rfl, hl, hR⟩, _⟩, h9, q⟩ := h
    refine ⟨_, (pss_one (ps_ret (pe_dictZip (by rfl) mdict (by rfl) mzip rfl (pa_cons (pe_glob (v := .ref aLOOPS) (by rfl) gLOOPS rfl) (pa_cons (pe_ix (ixT K) (pv 0) pe_int (fun _ _ => rfl)) pa_nil))))), ?_⟩
    have e9 : LN.length = r.loops.length := by
      rw [h9]
      rfl
    refine ⟨_, rfl, a, _, 3, _, rfl, rfl, SqT.of hA, rfl, aLOOPS, al, dLo r.loops, rfl, ?_, ?_, fun d hd => ?_⟩
    · unfold dLo
      rw [dLo_kV e9]
      exact hL H
    · unfold dLo
      rw [dLo_vals e9, ← ints_of hR]
      exact SqT.of hl
    · rw [dLo_merge h9]
      exact q d hd
abbrev s_kind_of : Stmt := topS 16
theorem sc_kind_of : FnScope ["free", "branches"] ["free", "branches"] (defScope s_kind_of) :=
  ⟨rfl, rfl, rfl, by decide +kernel, rfl, by decide +kernel, by decide +kernel⟩
def spKO : Sp := fun vs H Q _ => ∃ (fr : Int) (n : Nat), vs = [.int fr, .int (n : Nat)] ∧ Q (.str (kindN fr n)) H
theorem ok_ko {f : Addr} {fd : FuncData} {k : Nat} (F : Fun K "kind_of" "kind_of" s_kind_of f fd) : FnOk P w K mg base CX0 (k + 1) f fd ["free", "branches"] spKO := by
  refine F.ok sc_kind_of (fun vs H Q E h => ?_) (fun cdv A outer s H vs Q E hr h => ?_)
  · obtain ⟨fr, n, rfl, _⟩ := h
    rfl
  · obtain ⟨fr, n, rfl, q⟩ := h
    refine ⟨_, (pss_cons (ps_if (pt_cmpR op_eq (pv 1) pe_int (nomark _)) (pss_one (ps_ret pe_str)) pss_nil)
      (pss_cons (ps_if (pt_cmpR op_gt (pv 1) pe_int (nomark _)) (pss_one (ps_ret pe_str)) pss_nil)
      (pss_one (ps_ret (pe_ifExp (pt_cmpR op_gt (pv 0) pe_int (nomark _)) pe_str pe_str))))), ?_⟩
    unfold kindN at q
    refine ⟨_, rfl, rfl, _, rfl, ite2 (fun e => ?_) (fun e => ?_)⟩
    · have e : n = 0 := by
        have := V.int.inj (of_decide_eq_true e)
        omega
      rw [if_pos e] at q
      exact q
    · have e : ¬ n = 0 := fun z => e (decide_eq_true (by rw [z]; rfl))
      rw [if_neg e] at q
      refine ⟨_, rfl, _, _, rfl, rfl, _, rfl, ite2 (fun e1 => ?_) (fun e1 => ?_)⟩
      · have e1 : (1 : Int) < n := of_decide_eq_true e1
        rw [if_pos (by omega)] at q
        exact q
      · have e1 : ¬ (1 : Int) < n := fun z => e1 (decide_eq_true z)
        rw [if_neg (by omega)] at q
        refine ⟨_, rfl, _, _, rfl, rfl, _, rfl, ite2 (fun e2 => ?_) (fun e2 => ?_)⟩
        · have e2 : 0 < fr := of_decide_eq_true e2
          rw [if_pos e2] at q
          exact q
        · have e2 : ¬ 0 < fr := fun z => e2 (decide_eq_true z)
          rw [if_neg e2] at q
          exact q
end
def InX (x : Str) (qs : List (Int × Int)) : Prop := ∀ y ∈ qs, 0 ≤ y.1 ∧ y.1 < x.length ∧ 0 ≤ y.2 ∧ y.2 < x.length
theorem dget_ne {H H' : Hp} {d : Addr} {cs : List Int} (k : Ext H H') (h : H d = some (.dK (dLo cs))) : H' d = some (.dK (dLo cs)) := k _ _ h
theorem k_ne {a b : Str} (h : (a == b) = false) : (decide ((V.str a : V) = V.str b)) = false := decide_eq_false fun z => by
  have z := V.str.inj z
  rw [z] at h
  simp at h
section
variable {P : Program} {w : World} {K : PySem.W.Frag} {mg : Str → Option Value} {base : Heap}
abbrev CSW (P : Program) (w : World) (K : PySem.W.Frag) (mg : Str → Option Value) (base : Heap) : Prop := Ca P w K mg base 1 "stack_worth" ["rules", "outer", "within"] spSW
abbrev CLW (P : Program) (w : World) (K : PySem.W.Frag) (mg : Str → Option Value) (base : Heap) : Prop := Ca P w K mg base 1 "loop_worths" ["rules"] spLW
abbrev CKO (P : Program) (w : World) (K : PySem.W.Frag) (mg : Str → Option Value) (base : Heap) : Prop := Ca P w K mg base 1 "kind_of" ["free", "branches"] spKO
abbrev s_loop_within : Stmt := topS 17
theorem sc_loop_within : FnScope ["rules", "string", "pair", "within", "free", "kind", "told", "worth", "p", "q"] ["rules", "string", "pair", "within"] (defScope s_loop_within) :=
  ⟨rfl, rfl, rfl, by decide +kernel, rfl, by decide +kernel, by decide +kernel⟩
def spLoopW : Sp := fun vs H Q _ => ∃ (v : V) (r : Rl) (x : Str) (t l : Addr) (one : Int × Int) (us : List V) (ks : List (Int × Int)), vs = [v, .str x, .ref t, .ref l] ∧ RulesW H v r ∧ RlOk r ∧ x.length ≤ 1000 ∧ H t = some (.tup [.int one.1, .int one.2]) ∧ H l = some (.lst us) ∧ Paired (TwoAt H) us ks ∧ ks.length ≤ 1000 ∧ InX x [one] ∧ InX x ks ∧ 0 ≤ freeI one ks ∧ freeI one ks ≤ 1000 ∧
  ∀ (a : Addr) (H' : Hp), H' a = some (.tup [.str (kindN (freeI one ks) ks.length), .int (freeI one ks), .int (lpW r x one ks)]) → Ext H H' → Q (.ref a) H'
theorem ok_loopw {f : Addr} {fd : FuncData} (F : Fun K "loop_within" "loop_within" s_loop_within f fd) (cstack_worth : CSW P w K mg base) (ctext_of : CTx P w K mg base) (cloop_worths : CLW P w K mg base) (ckind_of : CKO P w K mg base) (msum : mg "sum" = none) (mlen : mg "len" = none) : FnOk P w K mg base CX0 2 f fd ["rules", "string", "pair", "within"] spLoopW := by
  refine F.ok sc_loop_within (fun vs H Q E h => ?_) (fun cdv A outer s H vs Q E hr h => ?_)
  · obtain ⟨v, r, x, t, l, one, us, ks, rfl, _⟩ := h
    rfl
  · obtain ⟨v, r, x, t, l, one, us, ks, rfl, hRu, ok, hx, hT, hL, hPk, hkl, hin1, hink, hf0, hf1, q⟩ := h
    refine ⟨_, (pss_cons (ps_set (i := 4) sc_loop_within.nd rfl (.inl rfl) (pe_op op_sub (pe_op op_sub (pe_op op_sub (pe_ix (ixT K) (pv 2) pe_int (fun _ _ => rfl)) (pe_ix (ixT K) (pv 2) pe_int (fun _ _ => rfl))) pe_int) (pe_callB (sumI K) (by rfl) msum (by decide +kernel) (pa_cons (pe_lc (own := [("p", 8), ("q", 9)]) (g := gTup K 2 (gCons (gName 8) (gCons (gName 9) gNil))) (by rfl) sc_loop_within.nd (pi_list (pv 3)) (blkOk_by (own := [("p", 8), ("q", 9)]) (N := ["rules", "string", "pair", "within", "free", "kind", "told", "worth", "p", "q"]) (sc := defScope s_loop_within) (by decide +kernel)) (fun _ _ _ _ _ => (pgT K rfl (pgs_cons (pg_name (i := 8) sc_loop_within.nd rfl (.inl rfl)) (pgs_cons (pg_name (i := 9) sc_loop_within.nd rfl (.inl rfl)) pgs_nil)))) (fun _ _ _ _ _ => pts_nil) (fun _ _ _ _ _ => (pe_op op_add (pe_op op_sub (pv 9) (pv 8)) pe_int))) pa_nil))))
      (pss_cons (ps_set (i := 5) sc_loop_within.nd rfl (.inl rfl) (pe_ca ckind_of (hr.mono (by decide)) (by rfl) (pa_cons (pv 4) (pa_cons (pe_callB (lenQ K) (by rfl) mlen (by decide +kernel) (pa_cons (pv 3) pa_nil)) pa_nil))))
      (pss_cons (ps_set (i := 6) sc_loop_within.nd rfl (.inl rfl) (pe_ca cloop_worths (hr.mono (by decide)) (by rfl) (pa_cons (pv 0) pa_nil)))
      (pss_cons (ps_set (i := 7) sc_loop_within.nd rfl (.inl rfl) (pe_dget (hu_of hr) (pv 6) (pv 5) (fun _ _ => rfl)))
      (pss_cons (ps_if (pt_cmpR op_eq (pv 5) pe_str (nomark _)) (pss_one (ps_aug (i := 7) sc_loop_within.nd rfl (.inl rfl) (pe_op op_mul (pv 4) (pe_dget (hu_of hr) (pv 6) pe_str (fun _ _ => rfl))) ip_add)) (pss_one (ps_if (pt_cmpR op_eq (pv 5) pe_str (nomark _)) (pss_one (ps_aug (i := 7) sc_loop_within.nd rfl (.inl rfl) (pe_op op_mul (pv 4) (pe_dget (hu_of hr) (pv 6) pe_str (fun _ _ => rfl))) ip_add)) (pss_one (ps_if (pt_cmpR op_eq (pv 5) pe_str (nomark _)) (pss_one (ps_aug (i := 7) sc_loop_within.nd rfl (.inl rfl) (pe_ca cstack_worth (hr.mono (by decide)) (by rfl) (pa_cons (pv 0) (pa_cons (pe_ca ctext_of (hr.mono (by decide)) (by rfl) (pa_cons (pv 1) (pa_cons (pv 2) pa_nil))) (pa_cons (pe_ca ctext_of (hr.mono (by decide)) (by rfl) (pa_cons (pv 1) (pa_cons (pe_ix (ixL K) (pv 3) pe_int (fun _ _ => rfl)) pa_nil))) pa_nil)))) ip_add)) (pss_one (ps_aug (i := 7) sc_loop_within.nd rfl (.inl rfl) (pe_op op_add (pe_op op_mul (pe_callB (lenQ K) (by rfl) mlen (by decide +kernel) (pa_cons (pv 3) pa_nil)) (pe_dget (hu_of hr) (pv 6) pe_str (fun _ _ => rfl))) (pe_op op_mul (pv 4) (pe_dget (hu_of hr) (pv 6) pe_str (fun _ _ => rfl)))) ip_add)))))))
      (pss_one (ps_ret (pe_tup (pa_cons (pv 5) (pa_cons (pv 4) (pa_cons (pv 7) pa_nil))))))))))), ?_⟩
    have hul := paired_len hPk
    have in1 := hin1 one (List.mem_singleton.mpr rfl)
    -- free
    refine ⟨_, rfl, t, _, 1, _, rfl, rfl, SqT.of hT, rfl, _, rfl, t, _, 0, _, rfl, rfl, SqT.of hT, rfl, _, _, rfl, rfl, _, 1, rfl, rfl, _, rfl, l, rfl, ⟨_, SqL.of hL⟩, fun D hD => lc_list (K := K) (xs := us) (fun i H2 => H2 D = some (.lst (((ks.take i).map fun y => y.2 - y.1 + 1).map V.int)) ∧ Ext H H2)
      ⟨upd_same, Ext.new hD⟩ (fun i H2 _ ⟨_, k⟩ => SqL.of (k _ _ hL)) (fun i u H2 hi hv => ?_) (fun H2 hv => ?_)⟩
    · obtain ⟨hL2, k2⟩ := hv
      obtain ⟨y, hy, a1, rfl, ha1⟩ := paired_get hPk hi
      have hil : i < us.length := (List.getElem?_eq_some_iff.mp hi).1
      refine ⟨a1, _, rfl, SqT.of (k2 _ _ ha1), rfl, _, _, rfl, _, _, rfl, rfl, rfl, _, rfl, _, rfl, _, _, rfl, rfl, _, 1, rfl, rfl, _, hL2, szLt ?_, ?_, k2.put hD⟩
      · rw [List.length_map, List.length_map, List.length_take]
        omega
      · rw [upd_same, List.take_add_one, hy, List.map_append, List.map_append]
        rfl
    · obtain ⟨hL2, k2⟩ := hv
      rw [List.take_of_length_le (by omega)] at hL2
      refine ⟨D, _, rfl, SqL.of hL2, _, _, rfl, rfl, ?_⟩
      have hf0' : 0 ≤ one.2 - one.1 - 1 - (ks.map fun y => y.2 - y.1 + 1).sum := hf0
      have hf1' : one.2 - one.1 - 1 - (ks.map fun y => y.2 - y.1 + 1).sum ≤ 1000 := hf1
      -- kind
      refine ⟨_, rfl, _, rfl, l, us, rfl, .inl (SqL.of (k2 _ _ hL)), freeI one ks, us.length, rfl, ?_⟩
      rw [hul]
      -- told
      refine ⟨_, rfl, v, r, rfl, RulesW.mono _ _ _ _ (TupK.ext k2) hRu, ok.lo9, fun d hd => ?_⟩
      have e3 := Ext.new (o := .dK (dLo r.loops)) hd
      have hd3 : (upd H2 d (.dK (dLo r.loops))) d = some (.dK (dLo r.loops)) := upd_same
      have k3 := k2.trans e3
      have fin : ∀ (wo : Int) (H9 : Hp), wo = lpW r x one ks → Ext (upd H2 d (.dK (dLo r.loops))) H9 → ∀ p, H9 p = none → Q (.ref p) (upd H9 p (.tup [.str (kindN (freeI one ks) ks.length), .int (freeI one ks), .int wo])) := fun wo H9 e k9 p hp => by
        rw [e]
        exact q p _ upd_same ((k3.trans k9).trans (Ext.new hp))
      have l0 := lo_bound ok (show 0 < 9 by decide)
      have l1 := lo_bound ok (show 1 < 9 by decide)
      have l2 := lo_bound ok (show 2 < 9 by decide)
      have l4 := lo_bound ok (show 4 < 9 by decide)
      have l5 := lo_bound ok (show 5 < 9 by decide)
      have l7 := lo_bound ok (show 7 < 9 by decide)
      by_cases c0 : ks.length = 0
      · have ek : kindN (freeI one ks) ks.length = "lone" := by
          unfold kindN
          rw [if_pos c0]
        rw [ek] at fin ⊢
        refine ⟨_, rfl, _, rfl, d, _, rfl, get_lo hd3 ok.lo9 (i := 6) (by decide +kernel), ?_⟩
        refine ⟨_, rfl, rfl, _, rfl, iteT ?_⟩
        refine ⟨_, rfl, _, rfl, _, rfl, d, _, rfl, get_lo hd3 ok.lo9 (i := 7) (by decide +kernel), _, _, rfl, rfl, .inl ⟨by omega, by omega⟩, _, _, rfl, rfl, ?_⟩
        refine ⟨_, rfl, _, rfl, _, rfl, szL (show 3 ≤ 1000000 by decide), fun p hp => fin _ _ ?_ Ext.refl p hp⟩
        unfold lpW
        rw [if_pos c0]
        rfl
      · by_cases c1 : 1 < ks.length
        · have ek : kindN (freeI one ks) ks.length = "forked" := by
            unfold kindN
            rw [if_neg c0, if_pos c1]
          rw [ek] at fin ⊢
          refine ⟨_, rfl, _, rfl, d, _, rfl, get_lo hd3 ok.lo9 (i := 3) (by decide +kernel), ?_⟩
          refine ⟨_, rfl, rfl, _, rfl, ?_⟩
          rw [k_ne (by decide +kernel)]
          refine iteF ⟨_, rfl, rfl, _, rfl, ?_⟩
          rw [k_ne (by decide +kernel)]
          refine iteF ⟨_, rfl, rfl, _, rfl, ?_⟩
          rw [k_ne (by decide +kernel)]
          refine iteF ⟨_, rfl, _, rfl, l, us, rfl, .inl (SqL.of (k3 _ _ hL)), _, rfl, d, _, rfl, get_lo hd3 ok.lo9 (i := 4) (by decide +kernel), _, _, rfl, rfl, .inl ⟨by omega, by omega⟩, ?_⟩
          refine ⟨_, rfl, _, rfl, d, _, rfl, get_lo hd3 ok.lo9 (i := 5) (by decide +kernel), _, _, rfl, rfl, .inl ⟨by omega, by omega⟩, _, _, rfl, rfl, _, _, rfl, rfl, ?_⟩
          refine ⟨_, rfl, _, rfl, _, rfl, szL (show 3 ≤ 1000000 by decide), fun p hp => fin _ _ ?_ Ext.refl p hp⟩
          unfold lpW
          rw [if_neg c0, if_pos c1, hul]
          rfl
        · by_cases c2 : 0 < freeI one ks
          · have ek : kindN (freeI one ks) ks.length = "inner" := by
              unfold kindN
              rw [if_neg c0, if_neg c1, if_pos c2]
            rw [ek] at fin ⊢
            refine ⟨_, rfl, _, rfl, d, _, rfl, get_lo hd3 ok.lo9 (i := 1) (by decide +kernel), ?_⟩
            refine ⟨_, rfl, rfl, _, rfl, ?_⟩
            rw [k_ne (by decide +kernel)]
            refine iteF ⟨_, rfl, rfl, _, rfl, iteT ?_⟩
            refine ⟨_, rfl, _, rfl, _, rfl, d, _, rfl, get_lo hd3 ok.lo9 (i := 2) (by decide +kernel), _, _, rfl, rfl, .inl ⟨by omega, by omega⟩, _, _, rfl, rfl, ?_⟩
            refine ⟨_, rfl, _, rfl, _, rfl, szL (show 3 ≤ 1000000 by decide), fun p hp => fin _ _ ?_ Ext.refl p hp⟩
            unfold lpW
            rw [if_neg c0, if_neg c1, if_pos c2]
            rfl
          · have ek : kindN (freeI one ks) ks.length = "stacked" := by
              unfold kindN
              rw [if_neg c0, if_neg c1, if_neg c2]
            rw [ek] at fin ⊢
            refine ⟨_, rfl, _, rfl, d, _, rfl, get_lo hd3 ok.lo9 (i := 0) (by decide +kernel), ?_⟩
            refine ⟨_, rfl, rfl, _, rfl, ?_⟩
            rw [k_ne (by decide +kernel)]
            refine iteF ⟨_, rfl, rfl, _, rfl, ?_⟩
            rw [k_ne (by decide +kernel)]
            refine iteF ⟨_, rfl, rfl, _, rfl, iteT ?_⟩
            have c3 : 0 < us.length := by omega
            obtain ⟨y, hy, a1, ev, ha1⟩ := paired_get hPk (List.getElem?_eq_getElem c3)
            have iny := hink y (List.mem_of_getElem? hy)
            have hat : atI us 0 = some (.ref a1) := by
              rw [atI_get (by decide) (by omega), ← ev]
              rfl
            refine ⟨_, rfl, _, rfl, _, rfl, _, rfl, x, t, one, rfl, k3 _ _ hT, hx, in1.1, in1.2.1, in1.2.2.1, in1.2.2.2, ?_⟩
            refine ⟨_, rfl, _, rfl, l, us, _, _, rfl, rfl, SqL.of (k3 _ _ hL), hat, x, a1, y, rfl, k3 _ _ ha1, hx, iny.1, iny.2.1, iny.2.2.1, iny.2.2.2, ?_⟩
            refine ⟨v, r, _, _, rfl, RulesW.mono _ _ _ _ (TupK.ext k3) hRu, _, _, rfl, rfl, ?_⟩
            refine ⟨_, rfl, _, rfl, _, rfl, szL (show 3 ≤ 1000000 by decide), fun p hp => fin _ _ ?_ Ext.refl p hp⟩
            have eh : ks.headD (0, 0) = y := by
              cases ks with
              | nil => cases hy
              | cons z zs =>
                rw [List.getElem?_cons_zero] at hy
                cases hy
                rfl
            unfold lpW
            rw [if_neg c0, if_neg c1, if_neg c2, eh]
            rfl
abbrev CLoopW (P : Program) (w : World) (K : PySem.W.Frag) (mg : Str → Option Value) (base : Heap) : Prop := Ca P w K mg base 2 "loop_within" ["rules", "string", "pair", "within"] spLoopW
end
end Pf


namespace Pf
open PySem PySem.Spec PyProof.Rows L2
/-! ### dict(list of pairs) by tuples -/
abbrev TKV : Type := List Key × Addr × V
def TkR (kv : TKV) (x : List Key × Addr × Value) : Prop := kv.1 = x.1 ∧ kv.2.1 = x.2.1 ∧ RelV kv.2.2 x.2.2
def TkP (K : PySem.W.Frag) (H : Hp) (p : Addr) (kv : TKV) : Prop := SqT K H p [.ref kv.2.1, kv.2.2] ∧ H kv.2.1 = some (.tup (kv.1.map kV))
theorem tkeys_of {X : Cx} {pins : List (Addr × Obj)} {σ : L2.St} {H : Hp} {s : Shared} (I : Inv X pins σ H s) : ∀ {ps : List Addr} {kvs : List TKV}, Paired (TkP X.K H) ps kvs →
    ∃ xs : List (List Key × Addr × Value), Paired TkR kvs xs ∧ xs.length = ps.length ∧ ∀ (j : Nat) (x : List Key × Addr × Value), xs[j]? = some x → H x.2.1 = some (.tup (x.1.map kV)) ∧ ∃ b, ps[j]? = some b ∧ IsTup s.heap b #[.ref x.2.1, x.2.2]
  | _, _, .nil => ⟨[], .nil, rfl, fun j q e => by simp at e⟩
  | _, _, .cons (a := p) (b := kv) h t => by
    obtain ⟨xs, r, hl, hp⟩ := tkeys_of I t
    obtain ⟨its, rv, ht, _⟩ := I.tuple h.1
    obtain ⟨u, y, ei, ru, ry⟩ := vals2 rv
    subst ei
    obtain rfl : u = Value.ref kv.2.1 := ru
    refine ⟨(kv.1, kv.2.1, y) :: xs, .cons ⟨rfl, rfl, ry⟩ r, by rw [List.length_cons, List.length_cons, hl], fun j q e => ?_⟩
    cases j with
    | zero =>
      have e' : (kv.1, kv.2.1, y) = q := Option.some.inj e
      subst e'
      exact ⟨h.2, p, rfl, ht⟩
    | succ j =>
      obtain ⟨e0, b, e1, e2⟩ := hp j q (by simpa using e)
      exact ⟨e0, b, by simpa using e1, e2⟩
def mergeT (acc : List (List Key × V)) (kvs : List TKV) : List (List Key × V) := kvs.foldl (fun acc x => putK acc x.1 x.2.2) acc
theorem mergeT_len : ∀ (kvs : List TKV) (acc : List (List Key × V)), (mergeT acc kvs).length ≤ acc.length + kvs.length
  | [], acc => Nat.le_refl _
  | x :: kvs, acc => by
    have h1 := mergeT_len kvs (putK acc x.1 x.2.2)
    have h2 := length_putK acc x.1 x.2.2
    rw [List.length_cons]
    show (mergeT (putK acc x.1 x.2.2) kvs).length ≤ _
    omega
theorem kt_merge {H : Hp} : ∀ {kvs : List TKV} {xs : List (List Key × Addr × Value)} {acc : List (List Key × V)} {ys : List (List Key × Addr × Value)}, Paired TkR kvs xs → (∀ x ∈ xs, H x.2.1 = some (.tup (x.1.map kV))) → KT H acc ys → KT H (mergeT acc kvs) (storedAllH ys xs)
  | _, _, _, _, .nil, _, r => r
  | _, _, acc, ys, .cons (a := kv) (b := x) h t, hH, r => by
    have hb := hH x (List.mem_cons_self ..)
    have r1 := r.put x.1 hb h.2.2
    have := kt_merge t (fun z hz => hH z (List.mem_cons_of_mem _ hz)) r1
    rw [← h.1] at this
    show KT H (mergeT (putK acc kv.1 kv.2.2) _) (storedAllH (storedH ys x.1 x.2.1 x.2.2) _)
    rw [← h.1]
    exact this
def rDictLT (K : PySem.W.Frag) : List V → Hp → VK → Prop := fun xs H Q => ∃ (a : Addr) (ps : List Addr) (kvs : List TKV), xs = [.ref a] ∧ SqL K H a (ps.map V.ref) ∧ Paired (TkP K H) ps kvs ∧ ∀ p, H p = none → Q (.ref p) (upd H p (.dT (mergeT [] kvs)))
theorem dictLT (K : PySem.W.Frag) {X : Cx} (hu : X.A.units + 64 < cLine) (calm : X.calm = true := by rfl) (hK : X.K = K := by rfl) : CallR X (.type "dict") (rDictLT K) := by
  subst hK
  intro pins s σ H xs us Q I r q
  obtain ⟨a, ps, kvs, ex, hq, hp, q⟩ := q
  subst ex
  obtain ⟨u, eu, rx⟩ := vals1 r
  subst eu
  cases rx
  obtain ⟨its, rv, pl, hz⟩ := I.list hq
  have ei := refs_at rv
  subst ei
  rw [List.length_map] at hz
  obtain ⟨xs, rel, hl, hpr⟩ := tkeys_of I hp
  obtain ⟨o, n, ho, hc, hd, hdat⟩ := pl
  have hH : ∀ x ∈ xs, H x.2.1 = some (.tup (x.1.map kV)) := fun x hx => by
    obtain ⟨j, hj⟩ := List.mem_iff_getElem?.mp hx
    exact (hpr j x hj).1
  have lkv : kvs.length = ps.length := (Paired.length rel).trans hl
  refine call_dict_pairsH (knd := tupleKind (mixKind X.prog X.w)) (ps := xs) (PairArg.list a (ps.map Value.ref).toArray (fun j => ps.getD j 0) (xs.map fun x => (Value.ref x.2.1, x.2.2))) (I.ok.hd calm) (show X.A.units + 2 < cLine by omega) ⟨⟨o, n, ho, hc, hd, hdat⟩, by simp [hl], fun j k v e => ?_⟩ ⟨by simp, fun i key v e => ?_⟩ (fun h' hk x hx => ?_) (by rw [List.length_map, hl]; exact hz) (fun h' tk hd' hk => ?_)
  · rw [List.getElem?_map] at e
    cases ex : xs[j]? with
    | none => rw [ex] at e; cases e
    | some x =>
      rw [ex] at e
      cases e
      obtain ⟨_, b, e1, e2⟩ := hpr j x ex
      refine ⟨by simp [e1], .inl ?_⟩
      have : ps.getD j 0 = b := by
        rw [List.getD_eq_getElem?_getD, e1]
        rfl
      show s.heap.IsTuple (ps.getD j 0) _
      rw [this]
      exact e2
  · rw [show PairRel (xs.map fun x => (Value.ref x.2.1, x.2.2)) i key v ↔ _ from Iff.rfl] at e
    have e : (xs.map fun x => (Value.ref x.2.1, x.2.2))[i]? = some (key, v) := e
    rw [List.getElem?_map] at e
    cases ex : xs[i]? with
    | none => rw [ex] at e; cases e
    | some x =>
      rw [ex] at e
      cases e
      exact ⟨x.1, x.2.1, rfl, rfl⟩
  · obtain ⟨o1, its1, n1, h1, h2, h3, h4⟩ := key_of I.hok (hH x hx)
    exact ⟨o1, its1, n1, hk _ _ (Nat.ne_of_lt (Heap.lt_size h1)) (by simp) h1, h2, h3, h4⟩
  · have hm : (s.heap.objs.size == sysModules) = false := beq_eq_false_iff_ne.mpr (Nat.ne_of_gt I.big)
    have fresh := I.hok.fresh (Nat.le_refl s.heap.objs.size)
    have hlen : (mergeT [] kvs).length ≤ sizeLine := by
      refine Nat.le_trans (mergeT_len kvs []) ?_
      rw [List.length_nil, Nat.zero_add, lkv]
      exact hz
    have kt : KT H (mergeT [] kvs) (storedAllH [] xs) := kt_merge rel hH .nil
    obtain ⟨ob, es, ep, e1, e2, e3, e4, _, e5⟩ := hd'
    exact ⟨.ref s.heap.objs.size, upd H s.heap.objs.size (.dT (mergeT [] kvs)), I.laid (t' := tk) (fun b o e => hk b o (by simp) e) (Nat.le_refl _) (show ObjOk X.prog X.w _ _ _ (.dT (mergeT [] kvs)) from ⟨hlen, hm, _, kt.keeps fun b ys e => by rw [upd_ne (ne_of_none e fresh)]; exact e, ob, es, ep, e1, e2, e3, e4, e5⟩), rfl, q _ fresh⟩
end Pf


namespace Pf
open PySem PySem.Spec PyProof.Rows L2
def pwI : List (Str × Int) → Str → Int
  | [], _ => 0
  | (t, x) :: r, b => if t = b then x else pwI r b
theorem pwV_int : ∀ {prs : List (Str × Int)} {b : Str}, b ∈ prs.map (·.1) → pwV prs b = .int (pwI prs b)
  | [], _, h => by cases h
  | (t, x) :: r, b, h => by
    rw [pwV, pwI]
    by_cases e : t = b
    · rw [if_pos e, if_pos e]
    · rw [if_neg e, if_neg e]
      rcases List.mem_cons.mp h with z | z
      · exact absurd z.symm e
      · exact pwV_int z
/-! ### outermost pairs, pairs straight within -/
def topF (z : Int) : Fo → Fo
  | [] => []
  | p :: r => if z ≤ p.1 then p :: topF (p.2 + 1) r else topF z r
def tops : Fo → Fo
  | [] => []
  | p :: r => p :: topF (p.2 + 1) r
theorem topF_skip {z : Int} : ∀ {u w : Fo}, (∀ p ∈ u, p.1 < z) → topF z (u ++ w) = topF z w
  | [], _, _ => rfl
  | p :: u, w, h => by
    have := h p (List.mem_cons_self ..)
    rw [List.cons_append, topF, if_neg (by omega)]
    exact topF_skip fun q hq => h q (List.mem_cons_of_mem _ hq)
theorem topF_tops {z : Int} : ∀ {w : Fo}, (∀ p ∈ w, z ≤ p.1) → topF z w = tops w
  | [], _ => rfl
  | p :: w, h => by
    rw [topF, if_pos (h p (List.mem_cons_self ..))]
    rfl
theorem tops_pair {a k : Int} {u w : Fo} (hu : ∀ p ∈ u, p.1 < k + 1) (hw : ∀ p ∈ w, k + 1 ≤ p.1) : tops ((a, k) :: (u ++ w)) = (a, k) :: tops w := by
  rw [tops, topF_skip hu, topF_tops hw]
theorem tops_nil {w : Fo} : tops w = [] ↔ w = [] := by
  cases w with
  | nil => exact ⟨fun _ => rfl, fun _ => rfl⟩
  | cons p r => exact ⟨(fun h => by cases h), (fun h => by cases h)⟩
def nestB (one two : Int × Int) : Bool := decide (two.1 < one.1) && decide (one.2 < two.2)
def nn (u : Fo) : Fo := u.filter fun one => (u.filter (nestB one)).isEmpty
def withinC (w : Fo) (i j : Int) : Fo := w.filter fun p => decide (i < p.1) && decide (p.2 < j)
def strC (w : Fo) (i j : Int) : Fo := nn (withinC w i j)
theorem WA_cases {r : Rl} {x : Str} {n : Nat} {a : Int} {q : Fo} (h : q ∈ WA r x (n + 1) a) : q ∈ WA r x n (a + 1) ∨ ∃ t one other, t < n ∧ mayC r x a (a + 1 + (t : Nat)) = true ∧ one ∈ WA r x t (a + 1) ∧ other ∈ WA r x (n - 1 - t) (a + 2 + (t : Nat)) ∧ q = (a, a + 1 + (t : Nat)) :: (one ++ other) := by
  rw [WA_succ] at h
  rcases List.mem_append.mp h with h | h
  · exact .inl h
  · obtain ⟨t, ht, hq⟩ := List.mem_flatMap.mp h
    have ht := List.mem_range.mp ht
    unfold seg at hq
    split at hq
    · rename_i hm
      obtain ⟨one, h1, hq⟩ := List.mem_flatMap.mp hq
      obtain ⟨other, h2, rfl⟩ := List.mem_map.mp hq
      exact .inr ⟨t, one, other, ht, hm, h1, h2, rfl⟩
    · cases hq
theorem filter_none {α : Type} {f : α → Bool} {l : List α} (h : ∀ y ∈ l, f y = false) : l.filter f = [] := by
  rw [List.filter_eq_nil_iff]
  intro y hy
  rw [h y hy]
  exact Bool.false_ne_true
theorem filter_all {α : Type} {f : α → Bool} {l : List α} (h : ∀ y ∈ l, f y = true) : l.filter f = l := List.filter_eq_self.mpr h
/-- where a folding is a pair around one, and one behind -/
structure Cut (a k : Int) (u w : Fo) : Prop where
  ak : a < k
  ui : ∀ p ∈ u, a < p.1 ∧ p.1 < p.2 ∧ p.2 < k
  wi : ∀ p ∈ w, k < p.1 ∧ p.1 < p.2
theorem Cut.of {r : Rl} {x : Str} {n t : Nat} {a : Int} {one other : Fo} (h1 : one ∈ WA r x t (a + 1)) (h2 : other ∈ WA r x n (a + 2 + (t : Nat))) : Cut a (a + 1 + (t : Nat)) one other :=
  ⟨by omega, fun p hp => by have := (WA_in r x t (a + 1) one h1).1 p hp; omega, fun p hp => by have := (WA_in r x n (a + 2 + (t : Nat)) other h2).1 p hp; omega⟩
theorem Cut.tops {a k : Int} {u w : Fo} (c : Cut a k u w) : tops ((a, k) :: (u ++ w)) = (a, k) :: tops w :=
  tops_pair (fun p hp => by have := c.ui p hp; omega) (fun p hp => by have := c.wi p hp; omega)
theorem dand {p q : Prop} [Decidable p] [Decidable q] (h : p ∧ q) : (decide p && decide q) = true := by
  rw [decide_eq_true h.1, decide_eq_true h.2]
  rfl
theorem dnot {p q : Prop} [Decidable p] [Decidable q] (h : ¬ (p ∧ q)) : (decide p && decide q) = false := by
  by_cases hp : p
  · have hq : ¬ q := fun z => h ⟨hp, z⟩
    rw [decide_eq_false hq, Bool.and_false]
  · rw [decide_eq_false hp, Bool.false_and]
theorem Cut.nn {a k : Int} {u w : Fo} (c : Cut a k u w) : nn ((a, k) :: (u ++ w)) = (a, k) :: nn w := by
  have hak := c.ak
  have n0 : nestB (a, k) (a, k) = false := dnot (by simp)
  have n1 : u.filter (nestB (a, k)) = [] := filter_none fun p hp => dnot (by have := c.ui p hp; simp; omega)
  have n2 : w.filter (nestB (a, k)) = [] := filter_none fun p hp => dnot (by have := c.wi p hp; simp; omega)
  unfold Pf.nn
  rw [List.filter_cons_of_pos (by rw [List.filter_cons_of_neg (by rw [n0]; exact Bool.false_ne_true), List.filter_append, n1, n2]; rfl), List.filter_append]
  congr 1
  have e1 : u.filter (fun one => (((a, k) :: (u ++ w)).filter (nestB one)).isEmpty) = [] := filter_none fun p hp => by
    have h := c.ui p hp
    have m0 : nestB p (a, k) = true := dand (show a < p.1 ∧ p.2 < k by omega)
    rw [List.filter_cons_of_pos m0]
    rfl
  have e2 : w.filter (fun one => (((a, k) :: (u ++ w)).filter (nestB one)).isEmpty) = w.filter (fun one => (w.filter (nestB one)).isEmpty) := List.filter_congr fun p hp => by
    have h := c.wi p hp
    have m0 : nestB p (a, k) = false := dnot (show ¬ (a < p.1 ∧ p.2 < k) by omega)
    have m1 : u.filter (nestB p) = [] := filter_none fun q hq => dnot (by have := c.ui q hq; omega)
    rw [List.filter_cons_of_neg (by rw [m0]; exact Bool.false_ne_true), List.filter_append, m1, List.nil_append]
  rw [e1, e2, List.nil_append]
theorem nn_tops (r : Rl) (x : Str) : ∀ (n : Nat) (a : Int), ∀ q ∈ WA r x n a, nn q = tops q := by
  intro n
  induction n using Nat.strongRecOn with
  | ind n ih =>
    intro a q hq
    match n, ih, hq with
    | 0, _, hq =>
      rw [WA_zero, List.mem_singleton] at hq
      subst hq
      rfl
    | n + 1, ih, hq =>
      rcases WA_cases hq with h | ⟨t, one, other, ht, hm, h1, h2, rfl⟩
      · exact ih n (by omega) _ _ h
      · have c := Cut.of h1 h2
        rw [c.nn, c.tops, ih (n - 1 - t) (by omega) _ _ h2]
theorem Cut.str0 {a k : Int} {u w : Fo} (c : Cut a k u w) : withinC ((a, k) :: (u ++ w)) a k = u := by
  unfold withinC
  rw [List.filter_cons_of_neg (by rw [dnot (by simp)]; exact Bool.false_ne_true), List.filter_append, filter_all (fun p hp => dand (by have := c.ui p hp; omega)), filter_none (fun p hp => dnot (by have := c.wi p hp; omega)), List.append_nil]
theorem Cut.str1 {a k : Int} {u w : Fo} (c : Cut a k u w) {p : Int × Int} (hp : p ∈ u) : withinC ((a, k) :: (u ++ w)) p.1 p.2 = withinC u p.1 p.2 := by
  have h := c.ui p hp
  unfold withinC
  rw [List.filter_cons_of_neg (by rw [dnot (show ¬ (p.1 < a ∧ k < p.2) by omega)]; exact Bool.false_ne_true), List.filter_append, filter_none (l := w) (fun q hq => dnot (by have := c.wi q hq; omega)), List.append_nil]
theorem Cut.str2 {a k : Int} {u w : Fo} (c : Cut a k u w) {p : Int × Int} (hp : p ∈ w) : withinC ((a, k) :: (u ++ w)) p.1 p.2 = withinC w p.1 p.2 := by
  have h := c.wi p hp
  have hak := c.ak
  unfold withinC
  rw [List.filter_cons_of_neg (by rw [dnot (show ¬ (p.1 < a ∧ k < p.2) by omega)]; exact Bool.false_ne_true), List.filter_append, filter_none (l := u) (fun q hq => dnot (by have := c.ui q hq; omega)), List.nil_append]
/-! ### worths -/
theorem wid_cons (p : Int × Int) (ks : Fo) : wid (p :: ks) = (p.2 - p.1 + 1) + wid ks := by
  unfold wid
  rw [List.map_cons, List.sum_cons]
/-! ### what rows stand for -/
theorem str_in (r : Rl) (x : Str) : ∀ (n : Nat) (a : Int), ∀ q ∈ WA r x n a, ∀ y ∈ q, ∃ (t : Nat) (u : Fo), u ∈ WA r x t (y.1 + 1) ∧ y.2 = y.1 + 1 + (t : Nat) ∧ strC q y.1 y.2 = tops u := by
  intro n
  induction n using Nat.strongRecOn with
  | ind n ih =>
    intro a q hq
    match n, ih, hq with
    | 0, _, hq =>
      rw [WA_zero, List.mem_singleton] at hq
      subst hq
      intro y hy
      cases hy
    | n + 1, ih, hq =>
      rcases WA_cases hq with h | ⟨t, one, other, ht, hm, h1, h2, rfl⟩
      · exact ih n (by omega) _ _ h
      · have c := Cut.of h1 h2
        intro y hy
        rcases List.mem_cons.mp hy with rfl | hy
        · refine ⟨t, one, h1, rfl, ?_⟩
          unfold strC
          rw [show withinC ((a, a + 1 + (t : Nat)) :: (one ++ other)) (a, a + 1 + (t : Nat)).1 (a, a + 1 + (t : Nat)).2 = one from c.str0, nn_tops r x t (a + 1) one h1]
        · rcases List.mem_append.mp hy with hy | hy
          · obtain ⟨t', u, h3, h4, h5⟩ := ih t (by omega) _ _ h1 y hy
            refine ⟨t', u, h3, h4, ?_⟩
            unfold strC at h5 ⊢
            rw [c.str1 hy]
            exact h5
          · obtain ⟨t', u, h3, h4, h5⟩ := ih (n - 1 - t) (by omega) _ _ h2 y hy
            refine ⟨t', u, h3, h4, ?_⟩
            unfold strC at h5 ⊢
            rw [c.str2 hy]
            exact h5
theorem wid_tops (r : Rl) (x : Str) : ∀ (n : Nat) (a : Int), ∀ q ∈ WA r x n a, wid (tops q) ≤ n := by
  intro n
  induction n using Nat.strongRecOn with
  | ind n ih =>
    intro a q hq
    match n, ih, hq with
    | 0, _, hq =>
      rw [WA_zero, List.mem_singleton] at hq
      subst hq
      exact (show (0 : Int) ≤ 0 by decide)
    | n + 1, ih, hq =>
      rcases WA_cases hq with h | ⟨t, one, other, ht, hm, h1, h2, rfl⟩
      · have := ih n (by omega) _ _ h
        omega
      · have := ih (n - 1 - t) (by omega) _ _ h2
        rw [(Cut.of h1 h2).tops, wid_cons]
        show a + 1 + (t : Nat) - a + 1 + wid (tops other) ≤ _
        omega
theorem free_nn {r : Rl} {x : Str} {n : Nat} {a : Int} {q : Fo} (hq : q ∈ WA r x n a) {y : Int × Int} (hy : y ∈ q) : 0 ≤ freeI y (strC q y.1 y.2) := by
  obtain ⟨t, u, h1, h2, h3⟩ := str_in r x n a q hq y hy
  have := wid_tops r x t (y.1 + 1) u h1
  unfold freeI
  rw [h3]
  omega
end Pf


namespace Pf
open PySem PySem.Spec PyProof.Rows L2
/-! ### all foldings of a stretch, told by what they are -/
structure Fo4 (r : Rl) (x : Str) (a b : Int) (q : Fo) : Prop where
  srt : q.Pairwise fun y z => y.1 < z.1
  inn : ∀ y ∈ q, a ≤ y.1 ∧ y.1 < y.2 ∧ y.2 < b
  may : ∀ y ∈ q, mayC r x y.1 y.2 = true
  sep : ∀ y ∈ q, ∀ z ∈ q, y.1 < z.1 → z.2 < y.2 ∨ y.2 < z.1
theorem fo4_of (r : Rl) (x : Str) : ∀ (n : Nat) (a : Int), ∀ q ∈ WA r x n a, Fo4 r x a (a + n) q := by
  intro n
  induction n using Nat.strongRecOn with
  | ind n ih =>
    intro a q hq
    match n, ih, hq with
    | 0, _, hq =>
      rw [WA_zero, List.mem_singleton] at hq
      subst hq
      exact ⟨.nil, (fun y hy => by cases hy), (fun y hy => by cases hy), (fun y hy => by cases hy)⟩
    | n + 1, ih, hq =>
      rcases WA_cases hq with h | ⟨t, one, other, ht, hm, h1, h2, rfl⟩
      · have := ih n (by omega) _ _ h
        exact ⟨this.srt, fun y hy => by have := this.inn y hy; omega, this.may, this.sep⟩
      · have f1 := ih t (by omega) _ _ h1
        have f2 := ih (n - 1 - t) (by omega) _ _ h2
        refine ⟨?_, fun y hy => ?_, fun y hy => ?_, fun y hy z hz hlt => ?_⟩
        · refine List.pairwise_cons.mpr ⟨fun z hz => ?_, List.pairwise_append.mpr ⟨f1.srt, f2.srt, fun y hy z hz => ?_⟩⟩
          · rcases List.mem_append.mp hz with hz | hz
            · have := f1.inn z hz
              show a < z.1
              omega
            · have := f2.inn z hz
              show a < z.1
              omega
          · have := f1.inn y hy
            have := f2.inn z hz
            omega
        · rcases List.mem_cons.mp hy with rfl | hy
          · show a ≤ a ∧ a < a + 1 + (t : Nat) ∧ a + 1 + (t : Nat) < a + (n + 1 : Nat)
            omega
          · rcases List.mem_append.mp hy with hy | hy
            · have := f1.inn y hy
              omega
            · have := f2.inn y hy
              omega
        · rcases List.mem_cons.mp hy with rfl | hy
          · exact hm
          · rcases List.mem_append.mp hy with hy | hy
            · exact f1.may y hy
            · exact f2.may y hy
        · rcases List.mem_cons.mp hy with rfl | hy
          · rcases List.mem_cons.mp hz with rfl | hz
            · omega
            · rcases List.mem_append.mp hz with hz | hz
              · have := f1.inn z hz
                left
                show z.2 < a + 1 + (t : Nat)
                omega
              · have := f2.inn z hz
                right
                show a + 1 + (t : Nat) < z.1
                omega
          · rcases List.mem_cons.mp hz with rfl | hz
            · have hlt : y.1 < a := hlt
              rcases List.mem_append.mp hy with hy | hy
              · have := f1.inn y hy
                omega
              · have := f2.inn y hy
                omega
            · rcases List.mem_append.mp hy with hy | hy
              · rcases List.mem_append.mp hz with hz | hz
                · exact f1.sep y hy z hz hlt
                · have := f1.inn y hy
                  have := f2.inn z hz
                  right
                  omega
              · rcases List.mem_append.mp hz with hz | hz
                · have := f1.inn z hz
                  have := f2.inn y hy
                  omega
                · exact f2.sep y hy z hz hlt
theorem split_at (k : Int) : ∀ {t : Fo}, t.Pairwise (fun y z => y.1 < z.1) → t = t.filter (fun z => decide (z.1 < k)) ++ t.filter fun z => decide (¬ z.1 < k)
  | [], _ => rfl
  | y :: t, h => by
    have hp := List.pairwise_cons.mp h
    by_cases c : y.1 < k
    · rw [List.filter_cons_of_pos (by simpa using c), List.filter_cons_of_neg (by simpa using c), List.cons_append, ← split_at k hp.2]
    · rw [List.filter_cons_of_neg (by simpa using c), List.filter_cons_of_pos (by simpa using c)]
      have e1 : t.filter (fun z => decide (z.1 < k)) = [] := filter_none fun z hz => decide_eq_false (by have := hp.1 z hz; omega)
      have e2 : t.filter (fun z => decide (¬ z.1 < k)) = t := filter_all fun z hz => decide_eq_true (by have := hp.1 z hz; omega)
      rw [e1, e2]
      rfl
theorem Fo4.sub {r : Rl} {x : Str} {a b a' b' : Int} {q q' : Fo} (h : Fo4 r x a b q) (hs : q'.Sublist q) (hin : ∀ y ∈ q', a' ≤ y.1 ∧ y.1 < y.2 ∧ y.2 < b') : Fo4 r x a' b' q' :=
  ⟨h.srt.sublist hs, hin, fun y hy => h.may y (hs.subset hy), fun y hy z hz => h.sep y (hs.subset hy) z (hs.subset hz)⟩
theorem of_fo4 (r : Rl) (x : Str) : ∀ (n : Nat) (a : Int) (q : Fo), Fo4 r x a (a + n) q → q ∈ WA r x n a := by
  intro n
  induction n using Nat.strongRecOn with
  | ind n ih =>
    intro a q hq
    match n, ih, hq with
    | 0, _, hq =>
      cases q with
      | nil => exact List.mem_cons_self ..
      | cons y t =>
        have := hq.inn y (List.mem_cons_self ..)
        omega
    | n + 1, ih, hq =>
      rw [WA_succ]
      cases q with
      | nil =>
        refine List.mem_append_left _ ?_
        obtain ⟨t, e⟩ := WA_head r x n (a + 1)
        rw [e]
        exact List.mem_cons_self ..
      | cons y t =>
        have hp := List.pairwise_cons.mp hq.srt
        have hy := hq.inn y (List.mem_cons_self ..)
        by_cases c : y.1 = a
        · obtain ⟨i, k⟩ := y
          have c : i = a := c
          subst c
          have hy : i ≤ i ∧ i < k ∧ k < i + ((n + 1 : Nat) : Int) := hy
          obtain ⟨m, hm⟩ : ∃ m : Nat, k = i + 1 + (m : Nat) := ⟨(k - i - 1).toNat, by omega⟩
          have s1 : (t.filter fun z => decide (z.1 < k)).Sublist t := List.filter_sublist
          have s2 : (t.filter fun z => decide (¬ z.1 < k)).Sublist t := List.filter_sublist
          have o1 := ih m (by omega) (i + 1) (t.filter fun z => decide (z.1 < k)) (hq.sub (s1.trans (List.sublist_cons_self ..)) fun z hz => by
            have hzt := s1.subset hz
            have hzk : z.1 < k := of_decide_eq_true (List.mem_filter.mp hz).2
            have h1 := hq.inn z (List.mem_cons_of_mem _ hzt)
            have h2 : i < z.1 := hp.1 z hzt
            have h3 : z.2 < k ∨ k < z.1 := hq.sep (i, k) (List.mem_cons_self ..) z (List.mem_cons_of_mem _ hzt) h2
            omega)
          have o2 := ih (n - 1 - m) (by omega) (i + 2 + (m : Nat)) (t.filter fun z => decide (¬ z.1 < k)) (hq.sub (s2.trans (List.sublist_cons_self ..)) fun z hz => by
            have hzt := s2.subset hz
            have hzk : ¬ z.1 < k := of_decide_eq_true (List.mem_filter.mp hz).2
            have h1 := hq.inn z (List.mem_cons_of_mem _ hzt)
            have h2 : i < z.1 := hp.1 z hzt
            have h3 : z.2 < k ∨ k < z.1 := hq.sep (i, k) (List.mem_cons_self ..) z (List.mem_cons_of_mem _ hzt) h2
            omega)
          refine List.mem_append_right _ (List.mem_flatMap.mpr ⟨m, List.mem_range.mpr (by omega), ?_⟩)
          have hmay : mayC r x i (i + 1 + (m : Nat)) = true := by
            rw [← hm]
            exact hq.may (i, k) (List.mem_cons_self ..)
          unfold seg
          rw [if_pos hmay]
          refine List.mem_flatMap.mpr ⟨_, o1, List.mem_map.mpr ⟨_, o2, ?_⟩⟩
          rw [← split_at k hp.2, hm]
        · refine List.mem_append_left _ (ih n (by omega) (a + 1) _ ⟨hq.srt, fun z hz => ?_, hq.may, hq.sep⟩)
          have h1 := hq.inn z hz
          rcases List.mem_cons.mp hz with rfl | hz
          · omega
          · have h2 := hp.1 z hz
            omega
theorem WA_iff (r : Rl) (x : Str) (n : Nat) (a : Int) (q : Fo) : q ∈ WA r x n a ↔ Fo4 r x a (a + n) q := ⟨fo4_of r x n a q, of_fo4 r x n a q⟩
/-- none stands twice -/
theorem WA_nd (r : Rl) (x : Str) : ∀ (n : Nat) (a : Int), (WA r x n a).Nodup := by
  intro n
  induction n using Nat.strongRecOn with
  | ind n ih =>
    intro a
    match n, ih with
    | 0, _ => exact List.pairwise_singleton _ _
    | n + 1, ih =>
      rw [WA_succ]
      refine List.pairwise_append.mpr ⟨ih n (by omega) (a + 1), List.pairwise_flatMap.mpr ⟨fun t ht => ?_, ?_⟩, fun q hq q' hq' => ?_⟩
      · have ht := List.mem_range.mp ht
        unfold seg
        split
        · refine List.pairwise_flatMap.mpr ⟨fun one h1 => List.pairwise_map.mpr ?_, ?_⟩
          · refine (ih (n - 1 - t) (by omega) (a + 2 + t)).imp fun hne e => hne ?_
            injection e with _ e
            exact List.append_cancel_left e
          · refine List.Pairwise.imp_of_mem (R := (· ≠ ·)) (fun {o1 o2} m1 m2 hne => ?_) (ih t (by omega) (a + 1))
            rintro u hu u' hu' rfl
            obtain ⟨w1, hw1, e1⟩ := List.mem_map.mp hu
            obtain ⟨w2, hw2, e2⟩ := List.mem_map.mp hu'
            rw [← e2] at e1
            injection e1 with _ e1
            refine hne ?_
            have g1 := fo4_of r x t (a + 1) o1 m1
            have g2 := fo4_of r x t (a + 1) o2 m2
            have v1 := fo4_of r x (n - 1 - t) (a + 2 + t) w1 hw1
            have v2 := fo4_of r x (n - 1 - t) (a + 2 + t) w2 hw2
            have c1 : (o1 ++ w1).filter (fun z => decide (z.1 < a + 1 + (t : Nat))) = o1 := by
              rw [List.filter_append, filter_all (fun z hz => decide_eq_true (by have := g1.inn z hz; omega)), filter_none (fun z hz => decide_eq_false (by have := v1.inn z hz; omega)), List.append_nil]
            have c2 : (o2 ++ w2).filter (fun z => decide (z.1 < a + 1 + (t : Nat))) = o2 := by
              rw [List.filter_append, filter_all (fun z hz => decide_eq_true (by have := g2.inn z hz; omega)), filter_none (fun z hz => decide_eq_false (by have := v2.inn z hz; omega)), List.append_nil]
            rw [← c1, ← c2, e1]
        · exact .nil
      · refine List.Pairwise.imp_of_mem (R := (· < ·)) (fun {t1 t2} _ _ hlt => ?_) List.pairwise_lt_range
        rintro u hu u' hu' rfl
        unfold seg at hu hu'
        split at hu
        · split at hu'
          · obtain ⟨o1, _, hu⟩ := List.mem_flatMap.mp hu
            obtain ⟨w1, _, e1⟩ := List.mem_map.mp hu
            obtain ⟨o2, _, hu'⟩ := List.mem_flatMap.mp hu'
            obtain ⟨w2, _, e2⟩ := List.mem_map.mp hu'
            rw [← e2] at e1
            injection e1 with e1 _
            have := congrArg Prod.snd e1
            have : a + 1 + (t1 : Int) = a + 1 + (t2 : Int) := this
            omega
          · cases hu'
        · cases hu
      · rintro rfl
        have h1 := fo4_of r x n (a + 1) q hq
        obtain ⟨t, _, hs⟩ := List.mem_flatMap.mp hq'
        unfold seg at hs
        split at hs
        · obtain ⟨o1, _, hs⟩ := List.mem_flatMap.mp hs
          obtain ⟨w1, _, rfl⟩ := List.mem_map.mp hs
          have := h1.inn (a, a + 1 + (t : Nat)) (List.mem_cons_self ..)
          have : a + 1 ≤ a := this.1
          omega
        · cases hs
/-! ### lists without one twice -/
theorem nd_count {α : Type} [DecidableEq α] {y : α} : ∀ {l : List α}, l.Nodup → y ∈ l → l.count y = 1
  | [], _, h => by cases h
  | z :: l, hl, h => by
    have hp := List.nodup_cons.mp hl
    by_cases e : z = y
    · subst e
      rw [List.count_cons_self, List.count_eq_zero.mpr hp.1]
    · rw [List.count_cons_of_ne (by simpa using e)]
      rcases List.mem_cons.mp h with h | h
      · exact absurd h.symm e
      · exact nd_count hp.2 h
theorem perm_nd {α : Type} [DecidableEq α] {l m : List α} (hl : l.Nodup) (hm : m.Nodup) (h : ∀ y, y ∈ l ↔ y ∈ m) : l.Perm m := List.perm_iff_count.mpr fun y => by
  by_cases c : y ∈ l
  · rw [nd_count hl c, nd_count hm ((h y).mp c)]
  · rw [List.count_eq_zero.mpr c, List.count_eq_zero.mpr fun z => c ((h y).mpr z)]
theorem len_nd {α : Type} [DecidableEq α] : ∀ {l m : List α}, l.Nodup → (∀ y ∈ l, y ∈ m) → l.length ≤ m.length
  | [], _, _, _ => Nat.zero_le _
  | y :: l, m, hl, h => by
    have hp := List.nodup_cons.mp hl
    have hy := h y (List.mem_cons_self ..)
    have := len_nd (l := l) (m := m.erase y) hp.2 fun z hz => (List.mem_erase_of_ne (fun e : z = y => hp.1 (by rw [← e]; exact hz))).mpr (h z (List.mem_cons_of_mem _ hz))
    rw [List.length_erase_of_mem hy] at this
    have : 0 < m.length := List.length_pos_of_mem hy
    rw [List.length_cons]
    omega
end Pf


namespace Pf
open PySem PySem.Spec PyProof.Rows L2
/-! ### foldings as data -/
theorem sm_i32 {i : Int} (h0 : 0 ≤ i) (h1 : i < 32) : Sm 5 0 (.int i) := by
  have h := Sm.int (i := i) (by omega) (by omega)
  refine ⟨h.lay, h.sho, h.ish, ?_, h.dep⟩
  have hl : i.natAbs.log2 < 5 := by
    by_cases z : i.natAbs = 0
    · rw [z]
      decide
    · exact (Nat.log2_lt z).mpr (by omega)
  simp only [PyData.weight]
  split <;> omega
theorem sm_fo {q : Fo} (hn : q.length ≤ 6) (h : ∀ y ∈ q, 0 ≤ y.1 ∧ y.1 < 32 ∧ 0 ≤ y.2 ∧ y.2 < 32) : Sm 78 2 (dFo q) := by
  refine Sm.tup (n := 6) (m := 12) (k := 1) (by rw [List.length_map]; exact hn) (fun d hd => ?_) (by decide)
  obtain ⟨y, hy, rfl⟩ := List.mem_map.mp hd
  have := h y hy
  refine Sm.tup (n := 2) (m := 5) (k := 0) (Nat.le_refl _) (fun d hd => ?_) (by decide)
  simp only [List.mem_cons, List.not_mem_nil, or_false] at hd
  rcases hd with rfl | rfl
  · exact sm_i32 (by omega) (by omega)
  · exact sm_i32 (by omega) (by omega)
theorem sm_fos {r : Rl} {x : Str} {n : Nat} (hn : n ≤ 10) {L : List Fo} (hp : L.Perm (WA r x n 0)) : Sm 1000000 3 (.list (L.map dFo)) := by
  have hl := WA_len10 r x hn 0
  refine Sm.lst (n := 2188) (m := 78) (k := 2) (by rw [List.length_map, hp.length_eq]; exact hl) (fun d hd => ?_) (by decide)
  obtain ⟨q, hq, rfl⟩ := List.mem_map.mp hd
  have hi := WA_in r x n 0 q (hp.mem_iff.mp hq)
  refine sm_fo (by omega) fun y hy => ?_
  have := hi.1 y hy
  omega
theorem SF_perm (L : List Fo) : (SF L).Perm L := List.mergeSort_perm _ _
/-! ### pairs as data -/
theorem lay_twos : ∀ L : Fo, PyData.canLayAll0 (L.map dTwo) = true
  | [] => by simp [PyData.canLayAll0]
  | y :: L => by
    rw [List.map_cons]
    simp [PyData.canLayAll0, PyData.canLay0, dTwo, lay_twos L]
theorem shaped_twos (L : Fo) : SeqAt.shaped (.list (L.map dTwo)) = true := by
  show (PyData.canLay0 (.list (L.map dTwo)) && decide (PyData.depth (.list (L.map dTwo)) ≤ 64)) = true
  have h1 : PyData.canLay0 (.list (L.map dTwo)) = true := by
    rw [PyData.canLay0]
    exact lay_twos L
  have h2 : PyData.depth (.list (L.map dTwo)) ≤ 64 := by
    rw [PyData.depth]
    have := dep_twos L
    omega
  rw [h1, decide_eq_true h2]
  rfl
theorem eqv_nil (L : Fo) : PyData.eqv (.list (L.map dTwo)) (.list []) = L.isEmpty := by
  cases L with
  | nil => simp [PyData.eqv, PyData.eqvAll]
  | cons y L => simp [PyData.eqv, PyData.eqvAll]
/-- what a comprehension keeps of pairs -/
def KeepL (E1 : Addr) (H : Hp) (L : Fo) (n : Nat) (H2 : Hp) : Prop := ∃ vs, H2 E1 = some (.lst vs) ∧ Paired (TwoAt H2) vs L ∧ L.length ≤ n ∧ Ext H H2
theorem KeepL.new {E1 : Addr} {H : Hp} (h : H E1 = none) : KeepL E1 H [] 0 (upd H E1 (.lst [])) := ⟨[], upd_same, .nil, Nat.le_refl _, Ext.new h⟩
theorem KeepL.add {E1 a1 : Addr} {H H2 H3 : Hp} {L : Fo} {n : Nat} {y : Int × Int} (hE : H E1 = none) (h : KeepL E1 H L n H2) (k : Ext H2 H3) (ha : H3 a1 = some (.tup [.int y.1, .int y.2])) (hn : n ≤ 1000) : ∃ acc, H3 E1 = some (.lst acc) ∧ acc.length < sizeLine ∧ KeepL E1 H (L ++ [y]) (n + 1) (upd H3 E1 (.lst (acc ++ [.ref a1]))) := by
  obtain ⟨vs, hL, hP, hl, k2⟩ := h
  have hL3 := k _ _ hL
  have := paired_len hP
  refine ⟨vs, hL3, szLt (by omega), _, upd_same, paired_app (paired_imp (fun _ _ => TwoAt.mono _ _ _ _ ((TupK.ext k).trans (TupK.lst hL3))) hP) (.cons (TwoAt.mono _ _ _ _ (TupK.lst hL3) ⟨a1, rfl, ha⟩) .nil), by rw [List.length_append, List.length_singleton]; omega, (k2.trans k).put hE⟩
theorem KeepL.skip {E1 : Addr} {H H2 H3 : Hp} {L : Fo} {n : Nat} (h : KeepL E1 H L n H2) (k : Ext H2 H3) : KeepL E1 H L (n + 1) H3 := by
  obtain ⟨vs, hL, hP, hl, k2⟩ := h
  exact ⟨vs, k _ _ hL, paired_imp (fun _ _ => TwoAt.mono _ _ _ _ (TupK.ext k)) hP, by omega, k2.trans k⟩
theorem KeepL.ext {E1 : Addr} {H H2 : Hp} {L : Fo} {n : Nat} (h : KeepL E1 H L n H2) : Ext H H2 := by
  obtain ⟨vs, hL, hP, hl, k2⟩ := h
  exact k2
theorem take_filt {w : Fo} {c : Nat} {y : Int × Int} {p : Int × Int → Bool} (h : w[c]? = some y) : (w.take (c + 1)).filter p = (w.take c).filter p ++ (if p y = true then [y] else []) := by
  rw [List.take_add_one, h, List.filter_append]
  congr 1
  by_cases e : p y = true
  · rw [if_pos e]
    exact List.filter_cons_of_pos e
  · rw [if_neg e]
    exact List.filter_cons_of_neg e
theorem str_sub (q0 : Fo) (i j : Int) : ∀ y ∈ strC q0 i j, y ∈ q0 := fun y hy => by
  unfold strC nn withinC at hy
  exact (List.mem_filter.mp (List.mem_filter.mp hy).1).1
theorem str_len (q0 : Fo) (i j : Int) : (strC q0 i j).length ≤ q0.length := by
  unfold strC nn withinC
  exact Nat.le_trans (List.length_filter_le _ _) (List.length_filter_le _ _)
theorem val_prs : ∀ (prs : List (Str × Int)) (b : Str), b ∈ prs.map (·.1) → valV (prs.map encP) (.inr b) = some (.int (pwI prs b))
  | [], _, h => by cases h
  | (t, x) :: r, b, h => by
    rw [List.map_cons, pwI]
    by_cases e : t = b
    · rw [valV_pos (show (encP (t, x)).1 = .inr b by rw [e]; rfl), if_pos e]
      rfl
    · rw [valV_neg (show ¬ (encP (t, x)).1 = .inr b from fun z => e (Sum.inr.inj z)), if_neg e]
      refine val_prs r b ?_
      rcases List.mem_cons.mp h with h | h
      · exact absurd h.symm e
      · exact h
end Pf


namespace Pf
open PySem PySem.Spec PyProof.Rows L2
/-! ### pairs straight within, as the program finds them -/
def ins (pr : Option (Int × Int)) (x : Int × Int) : Bool := match pr with
  | none => true
  | some q => decide (q.1 < x.1) && decide (x.2 < q.2)
def fits (acc : List (Int × Int)) (x : Int × Int) : Bool := acc.isEmpty || decide ((acc.getLast?.map (·.2)).getD 0 < x.1)
def gstep (pr : Option (Int × Int)) (acc : List (Int × Int)) (x : Int × Int) : List (Int × Int) := if (ins pr x && fits acc x) = true then acc ++ [x] else acc
def gr : Option Int → List (Int × Int) → List (Int × Int)
  | _, [] => []
  | e, x :: r => if (e.isNone || decide (e.getD 0 < x.1)) = true then x :: gr (some x.2) r else gr e r
theorem fits_last (acc : List (Int × Int)) (x : Int × Int) : fits acc x = ((acc.getLast?.map (·.2)).isNone || decide ((acc.getLast?.map (·.2)).getD 0 < x.1)) := by
  unfold fits
  cases acc with
  | nil => rfl
  | cons a r =>
    rw [List.getLast?_cons]
    rfl
theorem fold_gr (pr : Option (Int × Int)) : ∀ (ps acc : List (Int × Int)), ps.foldl (gstep pr) acc = acc ++ gr (acc.getLast?.map (·.2)) (ps.filter (ins pr))
  | [], acc => by
    rw [List.foldl_nil, List.filter_nil, gr, List.append_nil]
  | x :: r, acc => by
    rw [List.foldl_cons, fold_gr pr r]
    unfold gstep
    by_cases h : ins pr x = true
    · rw [List.filter_cons_of_pos h, gr, h, Bool.true_and, ← fits_last]
      by_cases h2 : fits acc x = true
      · rw [if_pos h2, if_pos h2, List.append_assoc]
        simp
      · rw [if_neg h2, if_neg h2]
    · rw [List.filter_cons_of_neg h, if_neg (by simp [h])]
def swL (pr : Option (Int × Int)) (ps : List (Int × Int)) : List (Int × Int) := ps.foldl (gstep pr) []
def OneAt (H : Hp) (v : V) (pr : Option (Int × Int)) : Prop := match pr with
  | none => v = .non
  | some q => TwoAt H v q
theorem OneAt.mono : Mono OneAt := fun H H' v x k h => by
  cases x with
  | none => exact h
  | some q => exact TwoAt.mono _ _ _ _ k h
theorem last_at {H : Hp} {vs : List V} {qs : List (Int × Int)} (hPr : Paired (TwoAt H) vs qs) (h : 0 < vs.length) : ∃ (a : Addr) (q : Int × Int), atI vs (-1) = some (.ref a) ∧ H a = some (.tup [.int q.1, .int q.2]) ∧ qs.getLast? = some q := by
  have hl := paired_len hPr
  have h1 : vs[vs.length - 1]? = some (vs[vs.length - 1]'(by omega)) := List.getElem?_eq_getElem _
  obtain ⟨q, hq, a, ea, ha⟩ := paired_get hPr h1
  refine ⟨a, q, ?_, ha, ?_⟩
  · unfold atI ixN
    rw [if_neg (by decide), if_pos (by omega)]
    show vs[(-1 + (vs.length : Int)).toNat]? = _
    rw [show (-1 + (vs.length : Int)).toNat = vs.length - 1 by omega, h1, ea]
  · rw [List.getLast?_eq_getElem?, ← hl]
    exact hq
theorem fold_take {α β : Type} {f : β → α → β} {b : β} {xs : List α} {i : Nat} {x : α} (h : xs[i]? = some x) : (xs.take (i + 1)).foldl f b = f ((xs.take i).foldl f b) x := by
  rw [List.take_add_one, h, List.foldl_append]
  rfl
theorem gstep_len (pr : Option (Int × Int)) (acc : List (Int × Int)) (x : Int × Int) : (gstep pr acc x).length ≤ acc.length + 1 := by
  unfold gstep
  split
  · rw [List.length_append]
    exact Nat.le_refl _
  · omega
theorem fold_len (pr : Option (Int × Int)) : ∀ (ps acc : List (Int × Int)), (ps.foldl (gstep pr) acc).length ≤ acc.length + ps.length
  | [], acc => by simp
  | x :: r, acc => by
    have h1 := fold_len pr r (gstep pr acc x)
    have h2 := gstep_len pr acc x
    rw [List.foldl_cons, List.length_cons]
    omega
theorem gr_some : ∀ (e : Int) (q : Fo), gr (some e) q = topF (e + 1) q
  | _, [] => rfl
  | e, y :: q => by
    rw [gr, topF]
    by_cases h : e < y.1
    · rw [if_pos (by simp; exact h), if_pos (by omega), gr_some y.2 q]
    · rw [if_neg (by simp; omega), if_neg (by omega), gr_some e q]
theorem gr_none (q : Fo) : gr none q = tops q := by
  cases q with
  | nil => rfl
  | cons y q =>
    rw [gr, tops, if_pos (by rfl), gr_some]
theorem sw_tops (pr : Option (Int × Int)) (q : Fo) : swL pr q = tops (q.filter (ins pr)) := by
  unfold swL
  rw [fold_gr, List.nil_append]
  exact gr_none _
theorem sw_none (q : Fo) : swL none q = tops q := by
  rw [sw_tops, filter_all (f := ins none) (fun y _ => rfl)]
/-- within a pair of a folding -/
theorem within_WA {r : Rl} {x : Str} {n : Nat} {a : Int} {q : Fo} (hq : q ∈ WA r x n a) {y : Int × Int} (hy : y ∈ q) : ∃ t : Nat, withinC q y.1 y.2 ∈ WA r x t (y.1 + 1) := by
  have f := fo4_of r x n a q hq
  have hb := f.inn y hy
  refine ⟨(y.2 - y.1 - 1).toNat, of_fo4 r x _ _ _ (f.sub (List.filter_sublist ..) fun z hz => ?_)⟩
  obtain ⟨hz1, hz2⟩ := List.mem_filter.mp hz
  rw [Bool.and_eq_true] at hz2
  have h1 : y.1 < z.1 := of_decide_eq_true hz2.1
  have h2 : z.2 < y.2 := of_decide_eq_true hz2.2
  have := f.inn z hz1
  omega
theorem sw_some {r : Rl} {x : Str} {n : Nat} {a : Int} {q : Fo} (hq : q ∈ WA r x n a) {y : Int × Int} (hy : y ∈ q) : swL (some y) q = strC q y.1 y.2 := by
  obtain ⟨t, ht⟩ := within_WA hq hy
  rw [sw_tops]
  show tops (withinC q y.1 y.2) = nn (withinC q y.1 y.2)
  exact (nn_tops r x t (y.1 + 1) _ ht).symm
theorem free_le {r : Rl} {x : Str} {n : Nat} {a : Int} {q : Fo} (hq : q ∈ WA r x n a) {y : Int × Int} (hy : y ∈ q) : freeI y (strC q y.1 y.2) ≤ y.2 - y.1 - 1 := by
  have f := fo4_of r x n a q hq
  unfold freeI wid
  have : 0 ≤ ((strC q y.1 y.2).map fun y => y.2 - y.1 + 1).sum := by
    have aux : ∀ l : Fo, (∀ z ∈ l, z ∈ q) → 0 ≤ (l.map fun y => y.2 - y.1 + 1).sum := by
      intro l
      induction l with
      | nil => intro _; exact Int.le_refl _
      | cons z l ih =>
        intro h
        rw [List.map_cons, List.sum_cons]
        have h1 := f.inn z (h z (List.mem_cons_self ..))
        have h2 := ih fun w hw => h w (List.mem_cons_of_mem _ hw)
        omega
    exact aux _ fun z hz => str_sub q y.1 y.2 z hz
  omega
theorem tops_len : ∀ q : Fo, (tops q).length ≤ q.length
  | [] => Nat.le_refl _
  | y :: q => by
    have aux : ∀ (z : Int) (q : Fo), (topF z q).length ≤ q.length := by
      intro z q
      induction q generalizing z with
      | nil => exact Nat.le_refl _
      | cons y q ih =>
        rw [topF]
        split
        · rw [List.length_cons, List.length_cons]
          have := ih (y.2 + 1)
          omega
        · rw [List.length_cons]
          have := ih z
          omega
    rw [tops, List.length_cons, List.length_cons]
    have := aux (y.2 + 1) q
    omega
def woV (r : Rl) (x : Str) (qs : Fo) : Int := (qs.map fun y => pwI r.prs (tx2 x y)).sum + (qs.map fun y => lpW r x y (strC qs y.1 y.2)).sum + ((tops qs).length : Int) * lo r 8
abbrev Row : Type := Int × Int × Str × Int × Int
def RowAt (H : Hp) (v : V) (y : Row) : Prop := ∃ a, v = .ref a ∧ H a = some (.tup [.int y.1, .int y.2.1, .str y.2.2.1, .int y.2.2.2.1, .int y.2.2.2.2])
theorem RowAt.mono : Mono RowAt := fun H H' v x k ⟨a, e, h⟩ => ⟨a, e, k _ _ h⟩
def lpR (r : Rl) (x : Str) (qs : List (Int × Int)) (one : Int × Int) : Row := (one.1, one.2, kindN (freeI one (strC qs one.1 one.2)) (strC qs one.1 one.2).length, freeI one (strC qs one.1 one.2), lpW r x one (strC qs one.1 one.2))
section
variable {P : Program} {w : World} {K : PySem.W.Frag} {mg : Str → Option Value} {base : Heap}
abbrev s_straight_within : Stmt := topS 14
theorem sc_straight_within : FnScope ["folding", "pair", "found", "i", "j", "inside"] ["folding", "pair"] (defScope s_straight_within) :=
  ⟨rfl, rfl, rfl, by decide +kernel, rfl, by decide +kernel, by decide +kernel⟩
def spWithin : Sp := fun vs H Q _ => ∃ (vf vp : V) (ps : List (Int × Int)) (pr : Option (Int × Int)), vs = [vf, vp] ∧ TupOf TwoAt H vf ps ∧ ps.length ≤ 1000 ∧ OneAt H vp pr ∧
  ∀ (l : Addr) (us : List V) (H' : Hp), H l = none → H' l = some (.lst us) → Paired (TwoAt H') us (swL pr ps) → Ext H H' → Q (.ref l) H'
theorem ok_within {f : Addr} {fd : FuncData} {k : Nat} (F : Fun K "straight_within" "straight_within" s_straight_within f fd) : FnOk P w K mg base CX0 (k + 1) f fd ["folding", "pair"] spWithin := by
  refine F.ok sc_straight_within (fun vs H Q E h => ?_) (fun cdv A outer s H vs Q E hr h => ?_)
  · obtain ⟨vf, vp, ps, pr, rfl, _⟩ := h
    rfl
  · obtain ⟨vf, vp, ps, pr, rfl, ⟨af, fs, rfl, hF, hPs⟩, hpl, hpr, q⟩ := h
    refine ⟨_, (pss_cons (ps_set (i := 2) sc_straight_within.nd rfl (.inl rfl) (pe_lst pa_nil))
      (pss_cons (ps_for PassesOwn.never rfl (pi_tup (pv 0)) (pg_tup rfl (pgs_cons (pg_name (i := 3) sc_straight_within.nd rfl (.inl rfl)) (pgs_cons (pg_name (i := 4) sc_straight_within.nd rfl (.inl rfl)) pgs_nil))) (pss_cons (ps_set (i := 5) sc_straight_within.nd rfl (.inl rfl) (pe_or (pe_cmpR op_isN (pv 1) pe_non (nomark _)) (pe_one (pe_and (pe_cmpR op_lt (pe_ix (ixT K) (pv 1) pe_int (fun _ _ => rfl)) (pv 3) (nomark _)) (pe_one (pe_cmpR op_lt (pv 4) (pe_ix (ixT K) (pv 1) pe_int (fun _ _ => rfl)) (nomark _)))))))
      (pss_one (ps_if (PW.pt (pw_and (pt_val (pv 5)) (pw_and1 (PW.pt (pw_or (pt_not (pt_truth (pv 2) (by intro _; rfl))) (pw_or1 (pt_cmpR op_lt (pe_ix (ixT K) (pe_ix (ixL K) (pv 2) (pe_un un_neg pe_int) (fun _ _ => rfl)) pe_int (fun _ _ => rfl)) (pv 3) (nomark _)))))))) (pss_one (ps_expr (pe_bm PySem.F.plainAttrs_list PySem.F.slot_list_append PySem.F.type_list_append mt_append (pv 2) (pa_cons (pe_tup (pa_cons (pv 3) (pa_cons (pv 4) pa_nil))) pa_nil)))) pss_nil))))
      (pss_one (ps_ret (pv 2))))), ?_⟩
    have hfl := paired_len hPs
    refine ⟨Nat.zero_le _, fun l hl => ?_⟩
    refine ⟨_, rfl, af, rfl, ⟨_, SqT.of (Ext.new hl _ _ hF)⟩, for_tup (xs := fs) (fun i σ H2 => ∃ (y3 y4 y5 : Option V) (us : List V), σ = [some (.ref af), some vp, some (.ref l), y3, y4, y5] ∧ H2 l = some (.lst us) ∧ Paired (TwoAt H2) us ((ps.take i).foldl (gstep pr) []) ∧ Ext H H2)
      ⟨none, none, none, [], rfl, upd_same, .nil, Ext.new hl⟩ (fun i σ H2 _ ⟨_, _, _, _, _, _, _, k⟩ => SqT.of (k _ _ hF)) (fun i u σ H2 hi hv => ?_) (fun σ H2 hv => ?_)⟩
    · obtain ⟨y3, y4, y5, us, rfl, hL2, hPr, k2⟩ := hv
      obtain ⟨⟨a, b⟩, hx, a1, rfl, ha1⟩ := paired_get hPs hi
      rw [fold_take hx]
      have hus := paired_len hPr
      have hul : us.length ≤ 1000 := by
        have := fold_len pr (ps.take i) []
        rw [List.length_take, List.length_nil] at this
        omega
      refine ⟨a1, _, rfl, SqT.of (k2 _ _ ha1), rfl, _, _, rfl, _, _, rfl, rfl, ?_⟩
      generalize (ps.take i).foldl (gstep pr) [] = acc at hPr hus
      cases pr with
      | none =>
        obtain rfl : vp = .non := hpr
        have hI : ins none (a, b) = true := rfl
        generalize (none : Option (Int × Int)) = pr at hI ⊢
        refine ⟨_, rfl, rfl, _, rfl, iteT ?_⟩
        refine ⟨_, rfl, _, rfl, ite2 (fun e => ?_) (fun e => ?_)⟩
        · have hI' : ins pr (a, b) = true := hI.trans e
          refine ⟨_, rfl, _, .inl ⟨us, SqL.of hL2, rfl⟩, ?_⟩
          cases us with
          | nil =>
            cases hPr
            refine iteT ?_
            refine iteT ?_
            refine ⟨_, rfl, .inl ⟨rfl, _, SqL.of hL2⟩, _, rfl, _, rfl, szL (show 2 ≤ 1000000 by decide), fun t ht => ?_⟩
            have e8 := Ext.new (o := .tup [.int a, .int b]) ht
            refine ⟨l, _, _, rfl, rfl, e8 _ _ hL2, szLt (show 0 < 1000000 by decide), ?_⟩
            refine ⟨_, _, _, [.ref t], rfl, upd_same, ?_, (k2.trans e8).put hl⟩
            unfold gstep
            rw [if_pos (by rw [hI']; rfl)]
            refine .cons ⟨t, rfl, ?_⟩ .nil
            rw [upd_ne (ne_of_none hL2 ht).symm, upd_same]
          | cons u0 us0 =>
            refine iteF ?_
            obtain ⟨ak, qk, hat, hak, hlast⟩ := last_at hPr (by rw [List.length_cons]; omega)
            have hfit : fits acc (a, b) = decide (qk.2 < a) := by
              rw [fits_last, hlast]
              rfl
            refine ⟨_, rfl, 1, rfl, l, _, -1, _, rfl, rfl, SqL.of hL2, hat, ak, _, 1, _, rfl, rfl, SqT.of hak, rfl, _, rfl, _, _, rfl, rfl, _, rfl, ite2 (fun e2 => ?_) (fun e2 => ?_)⟩
            · refine ⟨_, rfl, .inl ⟨rfl, _, SqL.of hL2⟩, _, rfl, _, rfl, szL (show 2 ≤ 1000000 by decide), fun t ht => ?_⟩
              have e8 := Ext.new (o := .tup [.int a, .int b]) ht
              have hL8 := e8 _ _ hL2
              refine ⟨l, _, _, rfl, rfl, hL8, szLt (by omega), ?_⟩
              refine ⟨_, _, _, (u0 :: us0) ++ [.ref t], rfl, upd_same, ?_, (k2.trans e8).put hl⟩
              unfold gstep
              rw [if_pos (by rw [hI', hfit]; exact e2)]
              refine (paired_imp (fun _ _ => TwoAt.mono _ _ _ _ ((TupK.ext e8).trans (TupK.lst hL8))) hPr).snoc ⟨t, rfl, ?_⟩
              rw [upd_ne (ne_of_none hL2 ht).symm, upd_same]
            · refine ⟨_, _, _, u0 :: us0, rfl, hL2, ?_, k2⟩
              unfold gstep
              rw [if_neg (by rw [hI', hfit]; exact e2)]
              exact hPr
        · have hI' : ins pr (a, b) = false := hI.trans (Bool.eq_false_iff.mpr e)
          refine ⟨_, _, _, us, rfl, hL2, ?_, k2⟩
          unfold gstep
          rw [if_neg (by rw [hI']; exact Bool.false_ne_true)]
          exact hPr
      | some q0 =>
        obtain ⟨ap, rfl, hap⟩ : TwoAt H vp q0 := hpr
        refine ⟨_, rfl, rfl, _, rfl, ?_⟩
        rw [decide_eq_false (show ¬ V.ref ap = V.non from fun z => by cases z)]
        refine iteF ⟨_, rfl, ap, _, 0, _, rfl, rfl, SqT.of (k2 _ _ hap), rfl, _, rfl, _, _, rfl, rfl, _, rfl, ite2 (fun e0 => ?_) (fun e0 => ?_)⟩
        · have hI : ins (some q0) (a, b) = decide (b < q0.2) := by
            show (decide (q0.1 < a) && decide (b < q0.2)) = _
            have e0 : decide (q0.1 < a) = true := e0
            rw [e0, Bool.true_and]
          refine ⟨_, rfl, _, rfl, ap, _, 1, _, rfl, rfl, SqT.of (k2 _ _ hap), rfl, _, _, rfl, rfl, ?_⟩
          generalize (some q0 : Option (Int × Int)) = pr at hI ⊢
          refine ⟨_, rfl, _, rfl, ite2 (fun e => ?_) (fun e => ?_)⟩
          · have hI' : ins pr (a, b) = true := hI.trans e
            refine ⟨_, rfl, _, .inl ⟨us, SqL.of hL2, rfl⟩, ?_⟩
            cases us with
            | nil =>
              cases hPr
              refine iteT ?_
              refine iteT ?_
              refine ⟨_, rfl, .inl ⟨rfl, _, SqL.of hL2⟩, _, rfl, _, rfl, szL (show 2 ≤ 1000000 by decide), fun t ht => ?_⟩
              have e8 := Ext.new (o := .tup [.int a, .int b]) ht
              refine ⟨l, _, _, rfl, rfl, e8 _ _ hL2, szLt (show 0 < 1000000 by decide), ?_⟩
              refine ⟨_, _, _, [.ref t], rfl, upd_same, ?_, (k2.trans e8).put hl⟩
              unfold gstep
              rw [if_pos (by rw [hI']; rfl)]
              refine .cons ⟨t, rfl, ?_⟩ .nil
              rw [upd_ne (ne_of_none hL2 ht).symm, upd_same]
            | cons u0 us0 =>
              refine iteF ?_
              obtain ⟨ak, qk, hat, hak, hlast⟩ := last_at hPr (by rw [List.length_cons]; omega)
              have hfit : fits acc (a, b) = decide (qk.2 < a) := by
                rw [fits_last, hlast]
                rfl
              refine ⟨_, rfl, 1, rfl, l, _, -1, _, rfl, rfl, SqL.of hL2, hat, ak, _, 1, _, rfl, rfl, SqT.of hak, rfl, _, rfl, _, _, rfl, rfl, _, rfl, ite2 (fun e2 => ?_) (fun e2 => ?_)⟩
              · refine ⟨_, rfl, .inl ⟨rfl, _, SqL.of hL2⟩, _, rfl, _, rfl, szL (show 2 ≤ 1000000 by decide), fun t ht => ?_⟩
                have e8 := Ext.new (o := .tup [.int a, .int b]) ht
                have hL8 := e8 _ _ hL2
                refine ⟨l, _, _, rfl, rfl, hL8, szLt (by omega), ?_⟩
                refine ⟨_, _, _, (u0 :: us0) ++ [.ref t], rfl, upd_same, ?_, (k2.trans e8).put hl⟩
                unfold gstep
                rw [if_pos (by rw [hI', hfit]; exact e2)]
                refine (paired_imp (fun _ _ => TwoAt.mono _ _ _ _ ((TupK.ext e8).trans (TupK.lst hL8))) hPr).snoc ⟨t, rfl, ?_⟩
                rw [upd_ne (ne_of_none hL2 ht).symm, upd_same]
              · refine ⟨_, _, _, u0 :: us0, rfl, hL2, ?_, k2⟩
                unfold gstep
                rw [if_neg (by rw [hI', hfit]; exact e2)]
                exact hPr
          · have hI' : ins pr (a, b) = false := hI.trans (Bool.eq_false_iff.mpr e)
            refine ⟨_, _, _, us, rfl, hL2, ?_, k2⟩
            unfold gstep
            rw [if_neg (by rw [hI']; exact Bool.false_ne_true)]
            exact hPr
        · have hI : ins (some q0) (a, b) = false := by
            show (decide (q0.1 < a) && decide (b < q0.2)) = _
            have e0 : decide (q0.1 < a) = false := Bool.eq_false_iff.mpr e0
            rw [e0, Bool.false_and]
          generalize (some q0 : Option (Int × Int)) = pr at hI ⊢
          refine ⟨_, rfl, _, rfl, ite2 (fun e => ?_) (fun e => ?_)⟩
          · have hI' : ins pr (a, b) = true := hI.trans e
            refine ⟨_, rfl, _, .inl ⟨us, SqL.of hL2, rfl⟩, ?_⟩
            cases us with
            | nil =>
              cases hPr
              refine iteT ?_
              refine iteT ?_
              refine ⟨_, rfl, .inl ⟨rfl, _, SqL.of hL2⟩, _, rfl, _, rfl, szL (show 2 ≤ 1000000 by decide), fun t ht => ?_⟩
              have e8 := Ext.new (o := .tup [.int a, .int b]) ht
              refine ⟨l, _, _, rfl, rfl, e8 _ _ hL2, szLt (show 0 < 1000000 by decide), ?_⟩
              refine ⟨_, _, _, [.ref t], rfl, upd_same, ?_, (k2.trans e8).put hl⟩
              unfold gstep
              rw [if_pos (by rw [hI']; rfl)]
              refine .cons ⟨t, rfl, ?_⟩ .nil
              rw [upd_ne (ne_of_none hL2 ht).symm, upd_same]
            | cons u0 us0 =>
              refine iteF ?_
              obtain ⟨ak, qk, hat, hak, hlast⟩ := last_at hPr (by rw [List.length_cons]; omega)
              have hfit : fits acc (a, b) = decide (qk.2 < a) := by
                rw [fits_last, hlast]
                rfl
              refine ⟨_, rfl, 1, rfl, l, _, -1, _, rfl, rfl, SqL.of hL2, hat, ak, _, 1, _, rfl, rfl, SqT.of hak, rfl, _, rfl, _, _, rfl, rfl, _, rfl, ite2 (fun e2 => ?_) (fun e2 => ?_)⟩
              · refine ⟨_, rfl, .inl ⟨rfl, _, SqL.of hL2⟩, _, rfl, _, rfl, szL (show 2 ≤ 1000000 by decide), fun t ht => ?_⟩
                have e8 := Ext.new (o := .tup [.int a, .int b]) ht
                have hL8 := e8 _ _ hL2
                refine ⟨l, _, _, rfl, rfl, hL8, szLt (by omega), ?_⟩
                refine ⟨_, _, _, (u0 :: us0) ++ [.ref t], rfl, upd_same, ?_, (k2.trans e8).put hl⟩
                unfold gstep
                rw [if_pos (by rw [hI', hfit]; exact e2)]
                refine (paired_imp (fun _ _ => TwoAt.mono _ _ _ _ ((TupK.ext e8).trans (TupK.lst hL8))) hPr).snoc ⟨t, rfl, ?_⟩
                rw [upd_ne (ne_of_none hL2 ht).symm, upd_same]
              · refine ⟨_, _, _, u0 :: us0, rfl, hL2, ?_, k2⟩
                unfold gstep
                rw [if_neg (by rw [hI', hfit]; exact e2)]
                exact hPr
          · have hI' : ins pr (a, b) = false := hI.trans (Bool.eq_false_iff.mpr e)
            refine ⟨_, _, _, us, rfl, hL2, ?_, k2⟩
            unfold gstep
            rw [if_neg (by rw [hI']; exact Bool.false_ne_true)]
            exact hPr
    · obtain ⟨y3, y4, y5, us, rfl, hL2, hPr, k2⟩ := hv
      rw [List.take_of_length_le (by omega)] at hPr
      exact ⟨_, rfl, q l us H2 hl hL2 hPr k2⟩
abbrev CWithin (P : Program) (w : World) (K : PySem.W.Frag) (mg : Str → Option Value) (base : Heap) : Prop := Ca P w K mg base 1 "straight_within" ["folding", "pair"] spWithin
abbrev s_loops_of : Stmt := topS 18
theorem sc_loops_of : FnScope ["rules", "string", "folding", "pair"] ["rules", "string", "folding"] (defScope s_loops_of) :=
  ⟨rfl, rfl, rfl, by decide +kernel, rfl, by decide +kernel, by decide +kernel⟩
def spLoops : Sp := fun vs H Q _ => ∃ (v vf : V) (r : Rl) (x : Str) (qs : Fo) (r0 : Rl), vs = [v, .str x, vf] ∧ RulesW H v r ∧ RlOk r ∧ x.length ≤ 1000 ∧ TupOf TwoAt H vf qs ∧ x.length ≤ 12 ∧ qs ∈ WA r0 x x.length 0 ∧
  ∀ (l : Addr) (us : List V) (H' : Hp), H' l = some (.lst us) → Paired (RowAt H') us (qs.map (lpR r x qs)) → H l = none → Ext H H' → Q (.ref l) H'
theorem ok_loops {f : Addr} {fd : FuncData} (F : Fun K "loops_of" "loops_of" s_loops_of f fd) (cloop_within : CLoopW P w K mg base) (cstraight_within : CWithin P w K mg base) : FnOk P w K mg base CX0 3 f fd ["rules", "string", "folding"] spLoops := by
  refine F.ok sc_loops_of (fun vs H Q E h => ?_) (fun cdv A outer s H vs Q E hr h => ?_)
  · obtain ⟨v, vf, r, x, qs, r0, rfl, _⟩ := h
    rfl
  · obtain ⟨v, vf, r, x, qs, r0, rfl, hRu, ok, hx, ⟨af, fs, rfl, hF, hPf⟩, hx12, hq, q⟩ := h
    have hWi := WA_in r0 x x.length 0 qs hq
    have hql : qs.length ≤ 1000 := by omega
    refine ⟨_, (pss_one (ps_ret (pe_lc (own := [("pair", 3)]) (g := gName 3) (by rfl) sc_loops_of.nd (pi_tup (pv 2)) (blkOk_by (own := [("pair", 3)]) (N := ["rules", "string", "folding", "pair"]) (sc := defScope s_loops_of) (by decide +kernel)) (fun _ _ _ _ _ => (pg_name (i := 3) sc_loops_of.nd rfl (.inl rfl))) (fun _ _ _ _ _ => pts_nil) (fun _ _ _ _ _ => (pe_op (catT K) (pv 3) (pe_ca cloop_within (hr.mono (by decide)) (by rfl) (pa_cons (pv 0) (pa_cons (pv 1) (pa_cons (pv 3) (pa_cons (pe_ca cstraight_within (hr.mono (by decide)) (by rfl) (pa_cons (pv 2) (pa_cons (pv 3) pa_nil))) pa_nil)))))))))), ?_⟩
    have hfl := paired_len hPf
    have hInX : InX x qs := fun y hy => by
      have := hWi.1 y hy
      omega
    refine ⟨_, rfl, af, rfl, ⟨_, SqT.of hF⟩, fun D hD => lc_tup (K := K) (xs := fs) (fun i H2 => ∃ us : List V, H2 D = some (.lst us) ∧ Paired (RowAt H2) us ((qs.take i).map (lpR r x qs)) ∧ Ext H H2)
      ⟨[], upd_same, .nil, Ext.new hD⟩ (fun i H2 _ ⟨_, _, _, k⟩ => SqT.of (k _ _ hF)) (fun i u H2 hi' hv => ?_) (fun H2 hv => ?_)⟩
    · obtain ⟨us, hL2, hPr2, k2⟩ := hv
      obtain ⟨one, hone, a1, rfl, ha1⟩ := paired_get hPf hi'
      have hm1 := List.mem_of_getElem? hone
      have hb1 := hWi.1 one hm1
      have hfr : 0 ≤ freeI one (strC qs one.1 one.2) ∧ freeI one (strC qs one.1 one.2) ≤ one.2 - one.1 - 1 := ⟨free_nn hq hm1, free_le hq hm1⟩
      have hkl := str_len qs one.1 one.2
      have hul := paired_len hPr2
      rw [List.length_map, List.length_take] at hul
      have hil : i < fs.length := (List.getElem?_eq_some_iff.mp hi').1
      refine ⟨rfl, _, rfl, _, rfl, _, rfl, _, rfl, _, rfl, _, rfl, .ref af, .ref a1, qs, some one, rfl, ⟨af, fs, rfl, k2 _ _ hF, paired_imp (fun _ _ => TwoAt.mono _ _ _ _ (TupK.ext k2)) hPf⟩, hql, ⟨a1, rfl, k2 _ _ ha1⟩, fun l ws H3 hl hL3 hPr3 k3 => ?_⟩
      have k23 := k2.trans k3
      rw [sw_some hq hm1] at hPr3
      refine ⟨v, r, x, a1, l, one, ws, _, rfl, RulesW.mono _ _ _ _ (TupK.ext k23) hRu, ok, hx, k23 _ _ ha1, hL3, hPr3, by omega, fun y hy => ?_, fun y hy => hInX y (str_sub qs one.1 one.2 y hy), hfr.1, by omega, fun a H4 hA4 k4 => ?_⟩
      · rw [List.mem_singleton.mp hy]
        exact hInX one hm1
      · have k14 := k3.trans k4
        refine ⟨a1, a, _, _, rfl, rfl, SqT.of (k4 _ _ (k23 _ _ ha1)), SqT.of hA4, by (intro z; cases z), szL (show 5 ≤ 1000000 by decide), (fun z => by cases z), fun _ p hp => ⟨us, Ext.new hp _ _ (k14 _ _ hL2), szLt (by omega), us ++ [.ref p], upd_same, ?_, ((k2.trans k14).trans (Ext.new hp)).put hD⟩⟩
        have e5 := Ext.new (o := .tup ([.int one.1, .int one.2] ++ [.str (kindN (freeI one (strC qs one.1 one.2)) (strC qs one.1 one.2).length), .int (freeI one (strC qs one.1 one.2)), .int (lpW r x one (strC qs one.1 one.2))])) hp
        have hL5 := e5 _ _ (k14 _ _ hL2)
        have tk := (TupK.ext (k14.trans e5)).trans (TupK.lst (o := .lst (us ++ [.ref p])) hL5)
        rw [List.take_add_one, hone, List.map_append]
        refine (paired_imp (fun _ _ => RowAt.mono _ _ _ _ tk) hPr2).snoc ⟨p, rfl, ?_⟩
        rw [upd_ne (ne_of_none (k14 _ _ hL2) hp).symm, upd_same]
        rfl
    · obtain ⟨us, hL2, hPr2, k2⟩ := hv
      rw [List.take_of_length_le (by omega)] at hPr2
      exact q D us H2 hL2 hPr2 hD k2
abbrev CLoops (P : Program) (w : World) (K : PySem.W.Frag) (mg : Str → Option Value) (base : Heap) : Prop := Ca P w K mg base 3 "loops_of" ["rules", "string", "folding"] spLoops
abbrev s_worth_of : Stmt := topS 19
theorem sc_worth_of : FnScope ["rules", "string", "folding", "pairs", "loops", "pair", "loop"] ["rules", "string", "folding"] (defScope s_worth_of) :=
  ⟨rfl, rfl, rfl, by decide +kernel, rfl, by decide +kernel, by decide +kernel⟩
def spWO : Sp := fun vs H Q _ => ∃ (v vf : V) (r : Rl) (x : Str) (qs : Fo) (r0 : Rl), vs = [v, .str x, vf] ∧ RulesW H v r ∧ RlOk r ∧ x.length ≤ 1000 ∧ TupOf TwoAt H vf qs ∧ x.length ≤ 12 ∧ qs ∈ WA r0 x x.length 0 ∧ (∀ y ∈ qs, tx2 x y ∈ r.prs.map (·.1)) ∧ ∀ H', Ext H H' → Q (.int (woV r x qs)) H'
theorem ok_wo {f : Addr} {fd : FuncData} (F : Fun K "worth_of" "worth_of" s_worth_of f fd) (cpair_worth : CPW P w K mg base) (ctext_of : CTx P w K mg base) (cloops_of : CLoops P w K mg base) (cstraight_within : CWithin P w K mg base) (cloop_worths : CLW P w K mg base) (msum : mg "sum" = none) (mlen : mg "len" = none) : FnOk P w K mg base CX0 4 f fd ["rules", "string", "folding"] spWO := by
  refine F.ok sc_worth_of (fun vs H Q E h => ?_) (fun cdv A outer s H vs Q E hr h => ?_)
  · obtain ⟨v, vf, r, x, qs, r0, rfl, _⟩ := h
    rfl
  · obtain ⟨v, vf, r, x, qs, r0, rfl, hRu, ok, hx, ⟨af, fs, rfl, hF, hPf⟩, hx12, hq, hMy, q⟩ := h
    have hWi := WA_in r0 x x.length 0 qs hq
    have hql : qs.length ≤ 1000 := by omega
    refine ⟨_, (pss_cons (ps_set (i := 3) sc_worth_of.nd rfl (.inl rfl) (pe_callB (sumI K) (by rfl) msum (by decide +kernel) (pa_cons (pe_lc (own := [("pair", 5)]) (g := gName 5) (by rfl) sc_worth_of.nd (pi_tup (pv 2)) (blkOk_by (own := [("pair", 5)]) (N := ["rules", "string", "folding", "pairs", "loops", "pair", "loop"]) (sc := defScope s_worth_of) (by decide +kernel)) (fun _ _ _ _ _ => (pg_name (i := 5) sc_worth_of.nd rfl (.inl rfl))) (fun _ _ _ _ _ => pts_nil) (fun _ _ _ _ _ => (pe_ca cpair_worth (hr.mono (by decide)) (by rfl) (pa_cons (pv 0) (pa_cons (pe_ca ctext_of (hr.mono (by decide)) (by rfl) (pa_cons (pv 1) (pa_cons (pv 5) pa_nil))) pa_nil))))) pa_nil)))
      (pss_cons (ps_set (i := 4) sc_worth_of.nd rfl (.inl rfl) (pe_callB (sumI K) (by rfl) msum (by decide +kernel) (pa_cons (pe_lc (own := [("loop", 6)]) (g := gName 6) (by rfl) sc_worth_of.nd (pi_list (pe_ca cloops_of (hr.mono (by decide)) (by rfl) (pa_cons (pv 0) (pa_cons (pv 1) (pa_cons (pv 2) pa_nil))))) (blkOk_by (own := [("loop", 6)]) (N := ["rules", "string", "folding", "pairs", "loops", "pair", "loop"]) (sc := defScope s_worth_of) (by decide +kernel)) (fun _ _ _ _ _ => (pg_name (i := 6) sc_worth_of.nd rfl (.inl rfl))) (fun _ _ _ _ _ => pts_nil) (fun _ _ _ _ _ => (pe_ix (ixT K) (pv 6) pe_int (fun _ _ => rfl)))) pa_nil)))
      (pss_one (ps_ret (pe_op op_add (pe_op op_add (pv 3) (pv 4)) (pe_op op_mul (pe_callB (lenQ K) (by rfl) mlen (by decide +kernel) (pa_cons (pe_ca cstraight_within (hr.mono (by decide)) (by rfl) (pa_cons (pv 2) (pa_cons pe_non pa_nil))) pa_nil)) (pe_dget (hu_of hr) (pe_ca cloop_worths (hr.mono (by decide)) (by rfl) (pa_cons (pv 0) pa_nil)) pe_str (fun _ _ => rfl)))))))), ?_⟩
    have hfl := paired_len hPf
    have hInX : InX x qs := fun y hy => by
      have := hWi.1 y hy
      omega
    refine ⟨_, rfl, af, rfl, ⟨_, SqT.of hF⟩, fun D hD => lc_tup (K := K) (xs := fs) (fun i H2 => H2 D = some (.lst (((qs.take i).map fun y => pwI r.prs (tx2 x y)).map V.int)) ∧ Ext H H2)
      ⟨upd_same, Ext.new hD⟩ (fun i H2 _ ⟨_, k⟩ => SqT.of (k _ _ hF)) (fun i u H2 hi' hv => ?_) (fun H2 hv => ?_)⟩
    · obtain ⟨hL2, k2⟩ := hv
      obtain ⟨one, hone, a1, rfl, ha1⟩ := paired_get hPf hi'
      have hm1 := List.mem_of_getElem? hone
      have in1 := hInX one hm1
      have hil : i < fs.length := (List.getElem?_eq_some_iff.mp hi').1
      refine ⟨rfl, _, rfl, _, rfl, _, rfl, x, a1, one, rfl, k2 _ _ ha1, hx, in1.1, in1.2.1, in1.2.2.1, in1.2.2.2, v, r, _, rfl, RulesW.mono _ _ _ _ (TupK.ext k2) hRu, ?_⟩
      rw [pwV_int (hMy one hm1)]
      refine ⟨_, hL2, szLt ?_, ?_, k2.put hD⟩
      · rw [List.length_map, List.length_map, List.length_take]
        omega
      · rw [upd_same, List.take_add_one, hone, List.map_append, List.map_append]
        rfl
    · obtain ⟨hL2, k2⟩ := hv
      rw [List.take_of_length_le (by omega)] at hL2
      refine ⟨D, _, rfl, SqL.of hL2, ?_⟩
      refine ⟨_, rfl, _, rfl, _, rfl, v, .ref af, r, x, qs, r0, rfl, RulesW.mono _ _ _ _ (TupK.ext k2) hRu, ok, hx, ⟨af, fs, rfl, k2 _ _ hF, paired_imp (fun _ _ => TwoAt.mono _ _ _ _ (TupK.ext k2)) hPf⟩, hx12, hq, fun l us H3 hL3 hPr3 hl k3 => ?_⟩
      have hul := paired_len hPr3
      rw [List.length_map] at hul
      refine ⟨l, rfl, ⟨_, SqL.of hL3⟩, fun D2 hD2 => lc_list (K := K) (xs := us) (fun i H4 => H4 D2 = some (.lst (((qs.take i).map fun y => lpW r x y (strC qs y.1 y.2)).map V.int)) ∧ Ext H3 H4)
        ⟨upd_same, Ext.new hD2⟩ (fun i H4 _ ⟨_, k⟩ => SqL.of (k _ _ hL3)) (fun i u H4 hi' hv => ?_) (fun H4 hv => ?_)⟩
      · obtain ⟨hL4, k4⟩ := hv
        obtain ⟨row, hrow, a1, rfl, ha1⟩ := paired_get hPr3 hi'
        have hil : i < us.length := (List.getElem?_eq_some_iff.mp hi').1
        obtain ⟨one, hone, e1⟩ : ∃ one, qs[i]? = some one ∧ lpR r x qs one = row := by
          rw [List.getElem?_map, List.getElem?_eq_getElem (show i < qs.length by omega)] at hrow
          exact ⟨_, List.getElem?_eq_getElem (show i < qs.length by omega), Option.some.inj hrow⟩
        subst e1
        refine ⟨rfl, _, rfl, a1, _, 4, _, rfl, rfl, SqT.of (k4 _ _ ha1), rfl, _, hL4, szLt ?_, ?_, k4.put hD2⟩
        · rw [List.length_map, List.length_map, List.length_take]
          omega
        · rw [upd_same, List.take_add_one, hone, List.map_append, List.map_append]
          rfl
      · obtain ⟨hL4, k4⟩ := hv
        rw [List.take_of_length_le (by omega)] at hL4
        have k04 := (k2.trans k3).trans k4
        refine ⟨D2, _, rfl, SqL.of hL4, ?_⟩
        refine ⟨_, rfl, _, rfl, _, _, rfl, rfl, _, rfl, .ref af, .non, qs, none, rfl, ⟨af, fs, rfl, k04 _ _ hF, paired_imp (fun _ _ => TwoAt.mono _ _ _ _ (TupK.ext k04)) hPf⟩, hql, rfl, fun l5 us5 H5 hl5 hL5 hPr5 k5 => ?_⟩
        rw [sw_none] at hPr5
        have h5l := paired_len hPr5
        have hol := tops_len qs
        have l8 := lo_bound ok (show 8 < 9 by decide)
        refine ⟨l5, us5, rfl, .inl (SqL.of hL5), _, rfl, v, r, rfl, RulesW.mono _ _ _ _ (TupK.ext (k04.trans k5)) hRu, ok.lo9, fun d hd => ?_⟩
        refine ⟨d, _, rfl, get_lo upd_same ok.lo9 (i := 8) (by decide +kernel), _, _, rfl, rfl, .inl ⟨by omega, by omega⟩, _, _, rfl, rfl, ?_⟩
        rw [h5l]
        exact q _ ((k04.trans k5).trans (Ext.new hd))
abbrev CWO (P : Program) (w : World) (K : PySem.W.Frag) (mg : Str → Option Value) (base : Heap) : Prop := Ca P w K mg base 4 "worth_of" ["rules", "string", "folding"] spWO
end
end Pf


namespace Pf
open PySem PySem.Spec PyProof.Rows L2
theorem cutS_tail (x : Str) {lo : Nat} (h : lo ≤ x.length) : (cutS x (some (lo : Int)) none).cps.toList = (x.cps.toList.drop lo).take (x.length - lo) := by
  show ((x.cps.toList.drop (HT.sIx x.length 0 (some (lo : Int)))).take (HT.sIx x.length x.length none - HT.sIx x.length 0 (some (lo : Int)))).toArray.toList = _
  have e1 : HT.sIx x.length 0 (some (lo : Int)) = min lo x.length := HT.sIx_nat _ _ _
  have e2 : HT.sIx x.length x.length none = x.length := rfl
  rw [e1, e2, Nat.min_eq_left h]
theorem cutS_head (x : Str) {hi : Nat} (h : hi ≤ x.length) : (cutS x none (some (hi : Int))).cps.toList = (x.cps.toList.drop 0).take (hi - 0) := by
  show ((x.cps.toList.drop (HT.sIx x.length 0 none)).take (HT.sIx x.length x.length (some (hi : Int)) - HT.sIx x.length 0 none)).toArray.toList = _
  have e1 : HT.sIx x.length 0 none = 0 := rfl
  have e2 : HT.sIx x.length x.length (some (hi : Int)) = min hi x.length := HT.sIx_nat _ _ _
  rw [e1, e2, Nat.min_eq_left h]
theorem app_len (x y : Str) : (x ++ y).length = x.length + y.length := by
  show (x.cps ++ y.cps).size = x.cps.size + y.cps.size
  exact Array.size_append
theorem sgn_of {L x : Str} (h : Of L x) {i : Int} (h0 : 0 ≤ i) (h1 : i < x.length) : Of L (sgn x i) := fun c hc => by
  have hc : c = x.cps.toList.getD i.toNat 0 := by simpa [sgn] using hc
  have hl : i.toNat < x.cps.toList.length := by
    have : x.cps.toList.length = x.length := Array.length_toList
    omega
  rw [hc, List.getD_eq_getElem?_getD, List.getElem?_eq_getElem hl]
  exact h _ (List.getElem_mem hl)
theorem sgn_len (x : Str) (i : Int) : (sgn x i).length = 1 := rfl
theorem of_self (x : Str) : Of x x := fun c hc => hc
theorem cut_len (x : Str) (lo hi : Option Int) : (cutS x lo hi).length ≤ x.length := L2.cutS_length x lo hi
/-- an if, gone into by several ways -/
theorem if_by {c : TT} {t u : TS} {D : Ends} {σ : L2.St} {H : Hp} (R1 R2 : Hp → Prop) (hc : ∀ Q : Bool → Hp → Prop, (∀ H', R1 H' → Q true H') → (∀ H', R2 H' → Q false H') → c σ H Q) (h1 : ∀ H', R1 H' → t D σ H') (h2 : ∀ H', R2 H' → u D σ H') : tIfS c t u D σ H := hc _ (fun H' r => by rw [if_pos rfl]; exact h1 H' r) fun H' r => by
  rw [if_neg Bool.false_ne_true]
  exact h2 H' r
theorem if_byS {c : TT} {t u : TS} {D : Ends} {σ : L2.St} {H : Hp} (R1 R2 : Hp → Prop) (hc : ∀ Q : Bool → Hp → Prop, (∀ H', R1 H' → Q true H') → (∀ H', R2 H' → Q false H') → c σ H Q) (h1 : ∀ H', R1 H' → t { D with nx := u D } σ H') (h2 : ∀ H', R2 H' → u D σ H') : tSeq (tIfS c t tNext) u D σ H := if_by (D := { D with nx := u D }) R1 R2 hc h1 h2
theorem go_name {i : Nat} {v : V} {σ : L2.St} {H : Hp} {Q : L2.St → Hp → Prop} (h : Q (σ.set i (some v)) H) : gName i v σ H Q := h
theorem go_next {D : Ends} {σ : L2.St} {H : Hp} (h : D.nx σ H) : tNext D σ H := h
section
variable {P : Program} {w : World} {K : PySem.W.Frag} {mg : Str → Option Value} {base : Heap}
abbrev s_law_page : Stmt := topS 34
theorem sc_law_page : FnScope ["_law_pen_here", "_law_code_here", "_law_upto", "_law_letters", "_law_ties_here", "_law_size", "_law_found", "_law_both", "_law_way", "_law_spot", "_law_k"] ["_law_pen_here", "_law_code_here", "_law_upto"] (defScope s_law_page) :=
  ⟨rfl, rfl, rfl, by decide +kernel, rfl, by decide +kernel, by decide +kernel⟩
def spLetters : Sp := fun vs H Q _ => ∃ (p c : Addr) (v : V) (r : Rl) (m : Int) (n : Nat), vs = [.ref p, v, .int m] ∧ RulesAt H v r ∧ RlOk r ∧ OfP r ∧ 0 ≤ m ∧ m ≤ 12 ∧ Pen H p c n ∧ n + 60 < 1000000 ∧
  ∀ (x : Str) H', (x.length : Int) ≤ m → Of r.letters x → Kp p H H' → Pen H' p c (n + 60) → Q (.str x) H'
theorem ok_letters {f : Addr} {fd : FuncData} (F : Fun K "_law_page" "_law_page" s_law_page f fd) (c_law_pick : CDraw P w K mg base) (mrange : mg "range" = none) (mlen : mg "len" = none) : FnOk P w K mg base CX0 2 f fd ["_law_pen_here", "_law_code_here", "_law_upto"] spLetters := by
  refine F.ok sc_law_page (fun vs H Q E h => ?_) (fun cdv A outer s H vs Q E hr h => ?_)
  · obtain ⟨p, c, v, r, m, n, rfl, _⟩ := h
    rfl
  · obtain ⟨p, c, v, r, m, n, rfl, hR, ok, ofp, m0, m12, hP, hn, q⟩ := h
    obtain ⟨a, vp, vl, vs, rfl, hA, ⟨ap, oz, pus, rfl, hp, hoz, hRp⟩, hvl, hvs⟩ := id hR
    refine ⟨_, (pss_cons (ps_asg (pe_slice (slE K) (pv 1) po_none (po_some pe_int)) (pg_tup rfl (pgs_cons (pg_name (i := 3) sc_law_page.nd rfl (.inr rfl)) (pgs_cons (pg_name (i := 4) sc_law_page.nd rfl (.inl rfl)) pgs_nil))))
      (pss_cons (ps_set (i := 5) sc_law_page.nd rfl (.inl rfl) (pe_ix (ixL K) (pe_lst (pa_cons (pe_ca c_law_pick (hr.mono (by decide)) (by rfl) (pa_cons (pv 0) (pa_cons (pe_op op_add (pv 2) pe_int) pa_nil))) (pa_cons (pv 2) pa_nil))) (pe_ca c_law_pick (hr.mono (by decide)) (by rfl) (pa_cons (pv 0) (pa_cons pe_int pa_nil))) (fun _ _ => rfl)))
      (pss_cons (ps_if (PW.pt (pw_or (pt_cmpR (eqD K hr.units) (pv 4) (pe_tup pa_nil) (nomark _)) (pw_or1 (pt_cmpR op_eq (pe_ca c_law_pick (hr.mono (by decide)) (by rfl) (pa_cons (pv 0) (pa_cons pe_int pa_nil))) pe_int (nomark _))))) (pss_one (ps_ret (pe_join pe_str (pe_lc (own := [("_law_k", 10)]) (g := gName 10) (by rfl) sc_law_page.nd (pi_range1 (by rfl) mrange (pa_cons (pv 5) pa_nil)) (blkOk_by (own := [("_law_k", 10)]) (N := ["_law_pen_here", "_law_code_here", "_law_upto", "_law_letters", "_law_ties_here", "_law_size", "_law_found", "_law_both", "_law_way", "_law_spot", "_law_k"]) (sc := defScope s_law_page) (by decide +kernel)) (fun _ _ _ _ _ => (pg_name (i := 10) sc_law_page.nd rfl (.inl rfl))) (fun _ _ _ _ _ => pts_nil) (fun _ _ _ _ _ => (pe_ix ix_str (pv 3) (pe_ca c_law_pick (hr.mono (by decide)) (by rfl) (pa_cons (pv 0) (pa_cons (pe_callB call_len_str (by rfl) mlen (by decide +kernel) (pa_cons (pv 3) pa_nil)) pa_nil))) (fun _ _ => rfl))))))) pss_nil)
      (pss_cons (ps_set (i := 6) sc_law_page.nd rfl (.inl rfl) pe_str)
      (pss_cons (ps_while PassesOwn.never (pt_cmpR op_lt (pe_op op_add (pe_callB call_len_str (by rfl) mlen (by decide +kernel) (pa_cons (pv 6) pa_nil)) pe_int) (pv 5) (nomark _)) (pss_cons (ps_set (i := 7) sc_law_page.nd rfl (.inl rfl) (pe_ix (ixT K) (pe_ix (ixT K) (pv 4) (pe_ca c_law_pick (hr.mono (by decide)) (by rfl) (pa_cons (pv 0) (pa_cons (pe_callB (lenQ K) (by rfl) mlen (by decide +kernel) (pa_cons (pv 4) pa_nil)) pa_nil))) (fun _ _ => rfl)) pe_int (fun _ _ => rfl)))
      (pss_cons (ps_set (i := 8) sc_law_page.nd rfl (.inl rfl) (pe_ca c_law_pick (hr.mono (by decide)) (by rfl) (pa_cons (pv 0) (pa_cons pe_int pa_nil))))
      (pss_cons (ps_set (i := 6) sc_law_page.nd rfl (.inl rfl) (pe_ix (ixL K) (pe_lst (pa_cons (pe_op op_add_str (pe_op op_add_str (pe_ix ix_str (pv 7) pe_int (fun _ _ => rfl)) (pv 6)) (pe_ix ix_str (pv 7) pe_int (fun _ _ => rfl))) (pa_cons (pe_op op_add_str (pv 6) (pv 7)) (pa_cons (pe_op op_add_str (pv 7) (pv 6)) (pa_cons (pe_op op_add_str (pe_op op_add_str (pe_ix ix_str (pv 7) pe_int (fun _ _ => rfl)) (pv 6)) (pe_ix ix_str (pv 7) pe_int (fun _ _ => rfl))) pa_nil))))) (pv 8) (fun _ _ => rfl)))
      (pss_one (ps_if (PW.pt (pw_and (pt_cmpR op_gt (pv 8) pe_int (nomark _)) (pw_and1 (pt_cmpR op_lt (pe_callB call_len_str (by rfl) mlen (by decide +kernel) (pa_cons (pv 6) pa_nil)) (pv 5) (nomark _))))) (pss_cons (ps_set (i := 9) sc_law_page.nd rfl (.inl rfl) (pe_ca c_law_pick (hr.mono (by decide)) (by rfl) (pa_cons (pv 0) (pa_cons (pe_op op_add (pe_callB call_len_str (by rfl) mlen (by decide +kernel) (pa_cons (pv 6) pa_nil)) pe_int) pa_nil))))
      (pss_one (ps_set (i := 6) sc_law_page.nd rfl (.inl rfl) (pe_op op_add_str (pe_op op_add_str (pe_slice sl_str (pv 6) po_none (po_some (pv 9))) (pe_ix ix_str (pv 3) (pe_ca c_law_pick (hr.mono (by decide)) (by rfl) (pa_cons (pv 0) (pa_cons (pe_callB call_len_str (by rfl) mlen (by decide +kernel) (pa_cons (pv 3) pa_nil)) pa_nil))) (fun _ _ => rfl))) (pe_slice sl_str (pv 6) (po_some (pv 9)) po_none))))) pss_nil))))))
      (pss_one (ps_ret (pe_slice sl_str (pv 6) po_none (po_some (pv 5)))))))))), ?_⟩
    have hl6 := ok.let6
    have hl1 := ok.let1
    have hpl := paired_len hRp
    have hp12 := ok.prs
    refine ⟨_, rfl, 2, rfl, a, _, rfl, hA, fun t1 H1 k1 hT1 => ?_⟩
    rw [show cutV [.str r.letters, .ref ap, .int r.span, vl, vs] none (some 2) = [.str r.letters, .ref ap] from cut_to (k := 2)] at hT1
    refine ⟨t1, _, rfl, SqT.of hT1, rfl, _, _, rfl, _, _, rfl, rfl, ?_⟩
    have hP1 := hP.ext k1
    have tk01 := TupK.ext k1
    -- size
    refine ⟨_, rfl, _, rfl, m, 1, rfl, rfl, p, c, _, _, rfl, hP1, by omega, by omega, by omega, fun s1 H2 sa sb k2 hP2 => ⟨_, rfl, szL (show 2 ≤ 1000000 by decide), fun l3 hl3 => ?_⟩⟩
    refine ⟨_, rfl, p, c, 2, _, rfl, hP2.new hl3, by omega, by decide, by decide, fun s2 H3 sc sd k3 hP3 => ?_⟩
    obtain ⟨sz, hsz, hat3⟩ := atI_ints (ns := [s1, m]) sc sd
    have hszb : 0 ≤ sz ∧ sz ≤ m := by
      simp only [List.mem_cons, List.not_mem_nil, or_false] at hsz
      omega
    refine ⟨l3, _, s2, _, rfl, rfl, SqL.of (k3 _ _ (hP2.ne hl3).1 upd_same), hat3, ?_⟩
    have k13 : Kp p H1 H3 := (k2.trans (Kp.new hl3)).trans k3
    have k03 : Kp p H H3 := (Kp.ext k1).trans k13
    have tk03 : TupK H H3 := tk01.trans (TupK.of k13 hP1)
    have hF3 : FrzOf PairAt H3 (.ref ap) r.prs := FrzOf.mono PairAt.mono _ _ _ _ tk03 ⟨ap, oz, pus, rfl, hp, hoz, hRp⟩
    -- drawn letters
    refine go_name ?_
    dsimp only
    refine if_byS (fun H5 => Kp p H3 H5 ∧ Pen H5 p c (n + 3)) (fun H5 => Kp p H3 H5 ∧ Pen H5 p c (n + 3) ∧ r.prs ≠ []) (fun Q q1 q2 => ?_) (fun H5 h5 => ?_) (fun H5 h5 => ?_)
    · refine ⟨_, rfl, Nat.zero_le _, fun t4 ht4 => ?_⟩
      have x4 := Ext.new (o := .tup []) ht4
      have dp4 : Dp K (upd H3 t4 (.tup [])) (.ref ap) (.tuple (r.prs.map dPr)) := by
        obtain ⟨tp', oz', tus', e', htp', _, hTr'⟩ := FrzOf.mono PairAt.mono _ _ _ _ (TupK.ext x4) hF3
        cases e'
        exact .tup (SqT.fz htp') (dpPairs hTr')
      refine ⟨.tuple (r.prs.map dPr), .tuple [], dp4, .tup (SqT.of upd_same) .nil, (sm_prs ok.prs ok.pr).shaped (by decide), by decide, _, rfl, ?_⟩
      have ee : PyData.eqv (.tuple (r.prs.map dPr)) (.tuple []) = r.prs.isEmpty := by
        cases r.prs with
        | nil => simp [PyData.eqv, PyData.eqvAll]
        | cons y l => simp [PyData.eqv, PyData.eqvAll]
      rw [ee]
      refine ite2 (fun e => ?_) (fun e => ?_)
      · exact q1 _ ⟨Kp.ext x4, (hP3.ext x4).mono (by omega)⟩
      · have hne : r.prs ≠ [] := fun z => e (by rw [z]; rfl)
        refine ⟨_, rfl, p, c, 3, _, rfl, hP3.ext x4, by omega, by decide, by decide, fun s3 H5 se sf k5 hP5 => ⟨rfl, _, rfl, ?_⟩⟩
        cases hb : decide (V.int s3 = V.int 0) with
        | true => exact q1 _ ⟨(Kp.ext x4).trans k5, hP5⟩
        | false => exact q2 _ ⟨(Kp.ext x4).trans k5, hP5, hne⟩
    · obtain ⟨k5, hP5⟩ := h5
      refine ⟨⟨_, rfl⟩, _, rfl, sz, rfl, by omega, by omega, fun D hD => lc_range (lo := 0) (n := sz.toNat) (fun i H4 => ∃ ys : List Str, ys.length = i ∧ (∀ y ∈ ys, y.length = 1 ∧ Of r.letters y) ∧ H4 D = some (.lst (ys.map V.str)) ∧ Kp p H5 H4 ∧ Pen H4 p c (n + 3 + i)) ⟨[], rfl, (fun y h => by cases h), upd_same, Kp.new hD, (hP5.new hD).mono (by omega)⟩ (fun i H4 hi hv => ?_) (fun H4 hv => ?_)⟩
      · obtain ⟨ys, hyl, hyo, hL4, k4, hP4⟩ := hv
        refine ⟨rfl, _, rfl, _, rfl, _, rfl, r.letters, rfl, szL (by omega), p, c, (r.letters.length : Int), _, rfl, hP4, by omega, by omega, by omega, fun r5 H6 r5a r5b k6 hP6 => ?_⟩
        obtain ⟨ch, hch, hat5⟩ := atI_mem (xs := r.letters.cps.toList) r5a (by rw [Array.length_toList]; exact r5b)
        have nD := hP5.ne hD
        refine ⟨r.letters, r5, ch, rfl, rfl, szL (by omega), hat5, _, k6 _ _ nD.1 hL4, szLt ?_, ys ++ [⟨#[ch]⟩], ?_, fun y hy => ?_, ?_, (k4.trans k6).put hD, (hP6.put nD.1 nD.2)⟩
        · rw [List.length_map]
          omega
        · rw [List.length_append, List.length_singleton]
          omega
        · rcases List.mem_append.mp hy with hy | hy
          · exact hyo y hy
          · rw [List.mem_singleton.mp hy]
            refine ⟨rfl, fun c hc => ?_⟩
            have : c = ch := by simpa using hc
            rw [this]
            exact hch
        · rw [upd_same, List.map_append]
          rfl
      obtain ⟨ys, hyl, hyo, hL4, k4, hP4⟩ := hv
      refine ⟨"", D, ys, rfl, rfl, .inl (SqL.of hL4), fits_join (k := 20) (m := 1) (by omega) (fun y hy => Nat.le_of_eq (hyo y hy).1) (by decide), ?_⟩
      rw [join_str]
      have hj1 := sjoin_le (m := 1) fun y hy => Nat.le_of_eq (hyo y hy).1
      have hj2 := sjoin_of (L := r.letters) fun y hy => (hyo y hy).2
      exact q _ _ (by omega) hj2 ((k03.trans k5).trans k4) (hP4.mono (by omega))
    · obtain ⟨k5, hP5, hne⟩ := h5
      have hp0 : 0 < r.prs.length := List.length_pos_iff.mpr hne
      have pick : ∀ {H' : Hp} {d : Int}, Kp p H3 H' → 0 ≤ d → d < r.prs.length → ∃ (us : List V) (oz : Obj) (a1 : Addr) (t1 : Str × Int), H' ap = some (.frz oz (.tup us)) ∧ us.length = r.prs.length ∧ atI us d = some (.ref a1) ∧ H' a1 = some (.tup [.str t1.1, .int t1.2]) ∧ t1 ∈ r.prs := fun {H' d} k d0 d1 => by
        obtain ⟨tp', oz', us', e', h1, h2, h3⟩ := FrzOf.mono PairAt.mono _ _ _ _ (TupK.of k hP3) hF3
        cases e'
        have hl := paired_len h3
        obtain ⟨u, hu⟩ : ∃ u, us'[d.toNat]? = some u := ⟨_, List.getElem?_eq_getElem (by omega)⟩
        obtain ⟨t1, ht1, a1, rfl, ha1⟩ := paired_get h3 hu
        refine ⟨us', oz', a1, t1, h1, hl, ?_, ha1, List.mem_of_getElem? ht1⟩
        rw [atI_get d0 (by omega), ← hu, List.getElem?_eq_getElem]
      refine ⟨fun mm σ H6 => ∃ (y7 y8 y9 : Option V) (x : Str), σ = [some (.ref p), some (.ref a), some (.int m), some (.str r.letters), some (.ref ap), some (.int sz), some (.str x), y7, y8, y9, none] ∧ mm = 20 - x.length ∧ x.length ≤ 14 ∧ Of r.letters x ∧ Kp p H3 H6 ∧ Pen H6 p c (n + 3 + 2 * x.length),
        ⟨_, none, none, none, "", rfl, rfl, by decide, of_nil _, k5, hP5⟩, fun mm σ H6 hv => ?_⟩
      obtain ⟨y7, y8, y9, x, rfl, rfl, hxl, hxo, k6, hP6⟩ := hv
      refine ⟨_, rfl, x, rfl, szL (by omega), _, 1, rfl, rfl, _, rfl, _, _, rfl, rfl, _, rfl, ite2 (fun e => ?_) (fun e => ?_)⟩
      · have e : (x.length : Int) + 1 < sz := of_decide_eq_true e
        refine ⟨_, fun σ' H' h => h, ?_⟩
        obtain ⟨us0, oz0, _, _, hf0, hl0, _⟩ := pick (d := 0) k6 (Int.le_refl _) (by omega)
        refine ⟨_, rfl, _, rfl, _, rfl, ap, _, rfl, .inr (SqT.fz hf0), p, c, _, _, rfl, hP6, by omega, by omega, by omega, fun d1 H7 da db k7 hP7 => ?_⟩
        have k37 := k6.trans k7
        obtain ⟨us1, oz1, b1, t1, hf1, hl1, hat1, hb1, ht1⟩ := pick (d := d1) k37 da (by omega)
        have two := ok.pr t1 ht1
        have l2 : t1.1.length = 2 := two.1.1
        have of1 := ofp.1 t1 ht1
        refine ⟨ap, _, d1, _, rfl, rfl, SqT.fz hf1, hat1, b1, _, 0, _, rfl, rfl, SqT.of hb1, rfl, ?_⟩
        refine ⟨_, rfl, p, c, 4, _, rfl, hP7, by omega, by decide, by decide, fun wy H8 wa wb k8 hP8 => ?_⟩
        have k38 := k37.trans k8
        have s0 := sgn_at (x := t1.1) (i := 0) (by decide) (by omega)
        have s1' := sgn_at (x := t1.1) (i := 1) (by decide) (by omega)
        have f0 := sgn_of of1 (i := 0) (by decide) (by omega)
        have f1 := sgn_of of1 (i := 1) (by decide) (by omega)
        have e1 : (sgn t1.1 0 ++ x).length = 1 + x.length := app_len _ _
        have e2 : (sgn t1.1 0 ++ x ++ sgn t1.1 1).length = 1 + x.length + 1 := by rw [app_len, e1]; rfl
        have e3 : (x ++ t1.1).length = x.length + 2 := by rw [app_len, l2]
        have e4 : (t1.1 ++ x).length = 2 + x.length := by rw [app_len, l2]
        refine ⟨_, rfl, t1.1, 0, _, rfl, rfl, szL (by omega), s0, _, rfl, _, _, rfl, rfl, szL (show 1 + x.length ≤ 1000000 by omega), _, rfl, t1.1, 1, _, rfl, rfl, szL (by omega), s1', _, _, rfl, rfl, szL (show (sgn t1.1 0 ++ x).length + 1 ≤ 1000000 by omega), ?_⟩
        refine ⟨_, rfl, _, rfl, _, _, rfl, rfl, szL (by omega), _, rfl, _, rfl, _, _, rfl, rfl, szL (by omega), ?_⟩
        refine ⟨_, rfl, t1.1, 0, _, rfl, rfl, szL (by omega), s0, _, rfl, _, _, rfl, rfl, szL (show 1 + x.length ≤ 1000000 by omega), _, rfl, t1.1, 1, _, rfl, rfl, szL (by omega), s1', _, _, rfl, rfl, szL (show (sgn t1.1 0 ++ x).length + 1 ≤ 1000000 by omega), szL (show 4 ≤ 1000000 by decide), fun l9 hl9 => ?_⟩
        obtain ⟨yv, hyv, hat9⟩ := atI_mem (xs := [V.str (sgn t1.1 0 ++ x ++ sgn t1.1 1), .str (x ++ t1.1), .str (t1.1 ++ x), .str (sgn t1.1 0 ++ x ++ sgn t1.1 1)]) wa wb
        obtain ⟨y, rfl, hyl, hyo⟩ : ∃ y : Str, yv = .str y ∧ y.length = x.length + 2 ∧ Of r.letters y := by
          simp only [List.mem_cons, List.not_mem_nil, or_false] at hyv
          rcases hyv with rfl | rfl | rfl | rfl
          · exact ⟨_, rfl, by omega, (f0.app hxo).app f1⟩
          · exact ⟨_, rfl, by omega, hxo.app of1⟩
          · exact ⟨_, rfl, by omega, of1.app hxo⟩
          · exact ⟨_, rfl, by omega, (f0.app hxo).app f1⟩
        refine ⟨_, rfl, l9, _, wy, _, rfl, rfl, SqL.of upd_same, hat9, ?_⟩
        have x9 := Ext.new (o := .lst [V.str (sgn t1.1 0 ++ x ++ sgn t1.1 1), .str (x ++ t1.1), .str (t1.1 ++ x), .str (sgn t1.1 0 ++ x ++ sgn t1.1 1)]) hl9
        have k39 := k38.trans (Kp.ext x9)
        have hP9 := hP8.ext x9
        refine go_name ?_
        refine ⟨_, rfl, _, _, rfl, rfl, _, rfl, ite2 (fun e5 => ?_) (fun e5 => ?_)⟩
        · refine ⟨_, rfl, y, rfl, szL (by omega), _, rfl, _, _, rfl, rfl, _, rfl, ite2 (fun e6 => ?_) (fun e6 => ?_)⟩
          · have e6 : (y.length : Int) < sz := of_decide_eq_true e6
            refine ⟨_, rfl, _, rfl, y, rfl, szL (by omega), _, 1, rfl, rfl, p, c, _, _, rfl, hP9, by omega, by omega, by omega, fun sp H10 spa spb k10 hP10 => ?_⟩
            refine ⟨_, rfl, _, rfl, _, rfl, y, rfl, szL (by omega), ?_⟩
            refine ⟨_, rfl, _, rfl, _, rfl, r.letters, rfl, szL (by omega), p, c, _, _, rfl, hP10, by omega, by omega, by omega, fun gl H11 gla glb k11 hP11 => ?_⟩
            obtain ⟨g, rfl⟩ : ∃ g' : Nat, sp = (g' : Int) := ⟨sp.toNat, by omega⟩
            have h1 := cutS_head y (hi := g) (by omega)
            have h2 := cutS_tail y (lo := g) (by omega)
            have l1' := part_len h1 (by omega)
            have l2' := part_len h2 (by omega)
            have o1 := cutS_of hyo none (some (g : Int))
            have o2 := cutS_of hyo (some (g : Int)) none
            have og := sgn_of (of_self r.letters) gla glb
            have e7 : (cutS y none (some (g : Int)) ++ sgn r.letters gl).length = g + 1 := by rw [app_len, l1']; rfl
            refine ⟨r.letters, gl, _, rfl, rfl, szL (by omega), sgn_at gla glb, _, _, rfl, rfl, szL (show (cutS y none (some (g : Int))).length + 1 ≤ 1000000 by omega), ?_⟩
            refine ⟨_, rfl, _, rfl, _, rfl, y, rfl, szL (by omega), _, _, rfl, rfl, szL (show (cutS y none (some (g : Int)) ++ sgn r.letters gl).length + (cutS y (some (g : Int)) none).length ≤ 1000000 by omega), ?_⟩
            have e8 : (cutS y none (some (g : Int)) ++ sgn r.letters gl ++ cutS y (some (g : Int)) none).length = y.length + 1 := by
              rw [app_len, e7]
              omega
            exact ⟨20 - (y.length + 1), by omega, _, _, _, cutS y none (some (g : Int)) ++ sgn r.letters gl ++ cutS y (some (g : Int)) none, rfl, by rw [e8], by omega, (o1.app og).app o2, (k39.trans k10).trans k11, hP11.mono (by omega)⟩
          · exact ⟨20 - y.length, by omega, _, _, _, y, rfl, rfl, by omega, hyo, k39, hP9.mono (by omega)⟩
        · exact ⟨20 - y.length, by omega, _, _, _, y, rfl, rfl, by omega, hyo, k39, hP9.mono (by omega)⟩
      · refine ⟨_, rfl, _, rfl, _, rfl, x, rfl, szL (by omega), ?_⟩
        have hcl : ((cutS x none (some sz)).length : Int) ≤ m := by
          obtain ⟨z, rfl⟩ : ∃ z : Nat, sz = (z : Int) := ⟨sz.toNat, by omega⟩
          have e1 : HT.sIx x.length x.length (some (z : Int)) = min z x.length := HT.sIx_nat _ _ _
          have e2 : (cutS x none (some (z : Int))).length ≤ z := by
            show (((x.cps.toList.drop (HT.sIx x.length 0 none)).take (HT.sIx x.length x.length (some (z : Int)) - HT.sIx x.length 0 none)).toArray).size ≤ z
            rw [List.size_toArray, List.length_take, e1]
            omega
          omega
        exact q _ _ hcl (cutS_of hxo _ _) (k03.trans k6) (hP6.mono (by omega))
abbrev CLetters (P : Program) (w : World) (K : PySem.W.Frag) (mg : Str → Option Value) (base : Heap) : Prop := Ca P w K mg base 2 "_law_page" ["_law_pen_here", "_law_code_here", "_law_upto"] spLetters
end
end Pf


namespace Pf
open PySem PySem.Spec PyProof.Rows L2
def stF (stk : List (Str × Str × Int)) (o n : Str) : List Int := (stk.filter fun z => decide (z.1 = o ∧ z.2.1 = n)).map (·.2.2)
theorem stF_no : ∀ {stk : List (Str × Str × Int)} {o n : Str}, (o, n) ∉ stk.map (fun z => (z.1, z.2.1)) → stF stk o n = []
  | [], _, _, _ => rfl
  | z :: r, o, n, h => by
    rw [List.map_cons, List.mem_cons, not_or] at h
    unfold stF
    rw [List.filter_cons_of_neg (p := fun z : Str × Str × Int => decide (z.1 = o ∧ z.2.1 = n)) (by
      intro e
      have e := of_decide_eq_true e
      exact h.1 (by rw [← e.1, ← e.2]))]
    exact stF_no h.2
theorem stF_sum : ∀ {stk : List (Str × Str × Int)} {o n : Str}, (stk.map fun z => (z.1, z.2.1)).Nodup → (stF stk o n).sum = swI stk o n
  | [], _, _, _ => rfl
  | (t, u, x) :: r, o, n, h => by
    rw [List.map_cons, List.nodup_cons] at h
    unfold swI
    by_cases c : t = o ∧ u = n
    · rw [if_pos c]
      unfold stF
      rw [List.filter_cons_of_pos (p := fun z : Str × Str × Int => decide (z.1 = o ∧ z.2.1 = n)) (decide_eq_true c), List.map_cons, List.sum_cons]
      have := stF_no (stk := r) (o := o) (n := n) (by rw [← c.1, ← c.2]; exact h.1)
      unfold stF at this
      rw [this]
      simp
    · rw [if_neg c, ← stF_sum h.2]
      unfold stF
      rw [List.filter_cons_of_neg (p := fun z : Str × Str × Int => decide (z.1 = o ∧ z.2.1 = n)) (by simpa using c)]
theorem eqv_two (a b c d : Str) : PyData.eqv (.tuple [.str a, .str b]) (.tuple [.str c, .str d]) = decide (a = c ∧ b = d) := by
  simp [PyData.eqv, PyData.eqvAll]
  by_cases h1 : a = c <;> by_cases h2 : b = d <;> simp [h1, h2]
theorem sm_two {a b : Str} (ha : Two a) (hb : Two b) : SeqAt.shaped (.tuple [.str a, .str b]) = true := by
  refine (Sm.tup (n := 2) (m := 2) (k := 0) (M := 1000000) (ds := [.str a, .str b]) (Nat.le_refl 2) (fun d hd => ?_) (by decide)).shaped (by decide)
  rcases List.mem_cons.mp hd with rfl | hd
  · exact Sm.str ha.2.ok (Nat.le_of_eq ha.1)
  · rw [List.mem_singleton.mp hd]
    exact Sm.str hb.2.ok (Nat.le_of_eq hb.1)
theorem getD_in {x : Str} {i : Int} (h0 : 0 ≤ i) (h1 : i < x.length) : x.cps.toList.getD i.toNat 0 ∈ x.cps.toList := by
  have h2 : i.toNat < x.cps.toList.length := by
    rw [Array.length_toList]
    have : i < (x.cps.size : Int) := h1
    omega
  rw [List.getD_eq_getElem?_getD, List.getElem?_eq_getElem h2]
  exact List.getElem_mem _
theorem two_tx {x : Str} {p : Int × Int} (h : Small x) (i0 : 0 ≤ p.1) (i1 : p.1 < x.length) (j0 : 0 ≤ p.2) (j1 : p.2 < x.length) : Two (tx2 x p) := ⟨rfl, (Small.one (h _ (getD_in i0 i1))).app (Small.one (h _ (getD_in j0 j1)))⟩
theorem within_all {q0 : Fo} {L : Int} (h : ∀ y ∈ q0, 0 ≤ y.1 ∧ y.2 < L) : withinC q0 (-1) L = q0 := filter_all fun y hy => dand (by have := h y hy; omega)
theorem sum_take {l : List Int} {c : Nat} {y : Int} (h : l[c]? = some y) : (l.take (c + 1)).sum = (l.take c).sum + y := by
  rw [List.take_add_one, h, List.sum_append]
  simp
theorem may_pr {r : Rl} {x : Str} {i j : Int} (h : mayC r x i j = true) : tx2 x (i, j) ∈ r.prs.map (·.1) := by
  unfold mayC at h
  rw [Bool.and_eq_true] at h
  exact of_decide_eq_true h.2
def pV1 (r : Rl) (x : Str) (w : Fo) (p : Int × Int) : Int := pwI r.prs (tx2 x p) + lpW r x p (strC w p.1 p.2)
section
variable {P : Program} {w : World} {K : PySem.W.Frag} {mg : Str → Option Value} {base : Heap}
abbrev s_law_straight : Stmt := topS 37
theorem sc_law_straight : FnScope ["_law_shape", "_law_i", "_law_j", "_law_one", "_law_inner", "_law_found", "_law_other"] ["_law_shape", "_law_i", "_law_j"] (defScope s_law_straight) :=
  ⟨rfl, rfl, rfl, by decide +kernel, rfl, by decide +kernel, by decide +kernel⟩
def spStrL : Sp := fun vs H Q _ => ∃ (sv : V) (q0 : Fo) (i j : Int), vs = [sv, .int i, .int j] ∧ FoAt H sv q0 ∧ q0.length ≤ 100 ∧ ∀ (l : Addr) (us : List V) (H' : Hp), H l = none → H' l = some (.lst us) → Paired (TwoAt H') us (strC q0 i j) → Ext H H' → Q (.ref l) H'
theorem ok_strL {f : Addr} {fd : FuncData} {k : Nat} (F : Fun K "_law_straight" "_law_straight" s_law_straight f fd) : FnOk P w K mg base CX0 (k + 1) f fd ["_law_shape", "_law_i", "_law_j"] spStrL := by
  refine F.ok sc_law_straight (fun vs H Q E h => ?_) (fun cdv A outer s H vs Q E hr h => ?_)
  · obtain ⟨sv, q0, i, j, rfl, _⟩ := h
    rfl
  · obtain ⟨sv, q0, i, j, rfl, ⟨sa, us, rfl, hS, hP⟩, hn, q⟩ := h
    refine ⟨_, (pss_cons (ps_setLc (i := 4) (own := [("_law_one", 3)]) (g := gName 3) (by rfl) sc_law_straight.nd rfl rfl (sw_true rfl rfl rfl (by decide +kernel)) (pi_tup (pv 0)) (blkOk_by (own := [("_law_one", 3)]) (N := ["_law_shape", "_law_i", "_law_j", "_law_one", "_law_inner", "_law_found", "_law_other"]) (sc := defScope s_law_straight) (by decide +kernel)) (fun _ _ _ _ _ => (pg_name (i := 3) sc_law_straight.nd rfl (.inl rfl))) (fun _ _ _ _ _ => (pts_one (PW.pt (pw_and (pt_cmpR op_lt (pv 1) (pe_ix (ixT K) (pv 3) pe_int (fun _ _ => rfl)) (nomark _)) (pw_and1 (pt_cmpR op_lt (pe_ix (ixT K) (pv 3) pe_int (fun _ _ => rfl)) (pv 2) (nomark _))))))) (fun _ _ _ _ _ => (pv 3)))
      (pss_cons (ps_set (i := 5) sc_law_straight.nd rfl (.inl rfl) (pe_lst pa_nil))
      (pss_cons (ps_for PassesOwn.never rfl (pi_list (pv 4)) (pg_name (i := 3) sc_law_straight.nd rfl (.inr rfl)) (pss_one (ps_if (pt_cmpR (eqD K hr.units) (pe_lc (own := [("_law_other", 6)]) (g := gName 6) (by rfl) sc_law_straight.nd (pi_list (pv 4)) (blkOk_by (own := [("_law_other", 6)]) (N := ["_law_shape", "_law_i", "_law_j", "_law_one", "_law_inner", "_law_found", "_law_other"]) (sc := defScope s_law_straight) (by decide +kernel)) (fun _ _ _ _ _ => (pg_name (i := 6) sc_law_straight.nd rfl (.inl rfl))) (fun _ _ _ _ _ => (pts_one (PW.pt (pw_and (pt_cmpR op_lt (pe_ix (ixT K) (pv 6) pe_int (fun _ _ => rfl)) (pe_ix (ixT K) (pv 3) pe_int (fun _ _ => rfl)) (nomark _)) (pw_and1 (pt_cmpR op_lt (pe_ix (ixT K) (pv 3) pe_int (fun _ _ => rfl)) (pe_ix (ixT K) (pv 6) pe_int (fun _ _ => rfl)) (nomark _))))))) (fun _ _ _ _ _ => (pv 6))) (pe_lst pa_nil) (nomark _)) (pss_one (ps_expr (pe_bm PySem.F.plainAttrs_list PySem.F.slot_list_append PySem.F.type_list_append mt_append (pv 5) (pa_cons (pv 3) pa_nil)))) pss_nil)))
      (pss_one (ps_ret (pv 5)))))), ?_⟩
    have hul := paired_len hP
    refine ⟨_, rfl, sa, rfl, ⟨_, SqT.of hS⟩, fun E1 hE1 => lc_tup (K := K) (xs := us) (fun c H2 => KeepL E1 H ((q0.take c).filter fun p => decide (i < p.1) && decide (p.2 < j)) c H2)
      (KeepL.new hE1) (fun c H2 _ h => SqT.of (h.ext _ _ hS)) (fun c u H2 hc hv => ?_) (fun H2 hv => ?_)⟩
    · obtain ⟨y, hy, a1, rfl, ha1⟩ := paired_get hP hc
      have ha2 := hv.ext _ _ ha1
      have cl : c < us.length := (List.getElem?_eq_some_iff.mp hc).1
      rw [take_filt hy]
      refine ⟨rfl, _, rfl, _, rfl, a1, _, 0, _, rfl, rfl, SqT.of ha2, rfl, _, _, rfl, rfl, _, rfl, ite2 (fun e1 => ?_) (fun e1 => ?_)⟩
      · refine ⟨_, rfl, a1, _, 1, _, rfl, rfl, SqT.of ha2, rfl, _, rfl, _, _, rfl, rfl, _, rfl, ite2 (fun e2 => ?_) (fun e2 => ?_)⟩
        · rw [if_pos (show (decide (i < y.1) && decide (y.2 < j)) = true by rw [show decide (i < y.1) = true from e1, show decide (y.2 < j) = true from e2]; rfl)]
          exact ⟨_, rfl, KeepL.add hE1 hv Ext.refl ha2 (by omega)⟩
        · rw [if_neg (show ¬ (decide (i < y.1) && decide (y.2 < j)) = true by rw [show decide (y.2 < j) = false from Bool.eq_false_iff.mpr e2, Bool.and_false]; exact Bool.false_ne_true), List.append_nil]
          exact hv.skip Ext.refl
      · rw [if_neg (show ¬ (decide (i < y.1) && decide (y.2 < j)) = true by rw [show decide (i < y.1) = false from Bool.eq_false_iff.mpr e1, Bool.false_and]; exact Bool.false_ne_true), List.append_nil]
        exact hv.skip Ext.refl
    rw [List.take_of_length_le (by omega)] at hv
    obtain ⟨ws, hL2, hP2, hl2, k2⟩ := hv
    have ew : (q0.filter fun p => decide (i < p.1) && decide (p.2 < j)) = withinC q0 i j := rfl
    rw [ew] at hP2 hl2
    have hwl := paired_len hP2
    obtain ⟨W, hW⟩ : ∃ W, W = withinC q0 i j := ⟨_, rfl⟩
    have q' : ∀ (l : Addr) (us : List V) (H' : Hp), H l = none → H' l = some (.lst us) → Paired (TwoAt H') us (nn W) → Ext H H' → Q (.ref l) H' := by
      rw [hW]
      exact q
    rw [← hW] at hP2 hl2 hwl
    refine ⟨Nat.zero_le _, fun E2 hE2 => ?_⟩
    refine ⟨_, rfl, E1, rfl, ⟨_, SqL.of (Ext.new hE2 _ _ hL2)⟩, for_list (K := K) (xs := ws) (fun c σ H3 => ∃ y3 : Option V, σ = [some (.ref sa), some (.int i), some (.int j), y3, some (.ref E1), some (.ref E2), none] ∧ KeepL E2 H2 ((W.take c).filter fun one => (W.filter (nestB one)).isEmpty) c H3)
      ⟨none, rfl, KeepL.new hE2⟩ (fun c σ H3 _ ⟨_, _, h⟩ => SqL.of (h.ext _ _ hL2)) (fun c u σ H3 hc hv => ?_) (fun σ H3 hv => ?_)⟩
    · obtain ⟨y3, rfl, hv⟩ := hv
      obtain ⟨y, hy, a1, rfl, ha1⟩ := paired_get hP2 hc
      have cl : c < ws.length := (List.getElem?_eq_some_iff.mp hc).1
      have k3 := hv.ext
      rw [take_filt hy]
      have hL3 := k3 _ _ hL2
      refine ⟨_, rfl, E1, rfl, ⟨_, SqL.of hL3⟩, fun E3 hE3 => lc_list (K := K) (xs := ws) (fun d H4 => KeepL E3 H3 ((W.take d).filter (nestB y)) d H4)
        (KeepL.new hE3) (fun d H4 _ h => SqL.of (h.ext _ _ hL3)) (fun d u H4 hd hw => ?_) (fun H4 hw => ?_)⟩
      · obtain ⟨z, hz, a2, rfl, ha2⟩ := paired_get hP2 hd
        have k4 := k3.trans hw.ext
        have hy4 := k4 _ _ ha1
        have hz4 := k4 _ _ ha2
        have dl : d < ws.length := (List.getElem?_eq_some_iff.mp hd).1
        rw [take_filt hz]
        refine ⟨rfl, _, rfl, a2, _, 0, _, rfl, rfl, SqT.of hz4, rfl, _, rfl, a1, _, 0, _, rfl, rfl, SqT.of hy4, rfl, _, _, rfl, rfl, _, rfl, ite2 (fun e1 => ?_) (fun e1 => ?_)⟩
        · refine ⟨_, rfl, a1, _, 1, _, rfl, rfl, SqT.of hy4, rfl, _, rfl, a2, _, 1, _, rfl, rfl, SqT.of hz4, rfl, _, _, rfl, rfl, _, rfl, ite2 (fun e2 => ?_) (fun e2 => ?_)⟩
          · rw [if_pos (show nestB y z = true by unfold nestB; rw [show decide (z.1 < y.1) = true from e1, show decide (y.2 < z.2) = true from e2]; rfl)]
            exact ⟨_, rfl, KeepL.add hE3 hw Ext.refl hz4 (by omega)⟩
          · rw [if_neg (show ¬ nestB y z = true by unfold nestB; rw [show decide (y.2 < z.2) = false from Bool.eq_false_iff.mpr e2, Bool.and_false]; exact Bool.false_ne_true), List.append_nil]
            exact hw.skip Ext.refl
        · rw [if_neg (show ¬ nestB y z = true by unfold nestB; rw [show decide (z.1 < y.1) = false from Bool.eq_false_iff.mpr e1, Bool.false_and]; exact Bool.false_ne_true), List.append_nil]
          exact hw.skip Ext.refl
      · rw [List.take_of_length_le (by omega)] at hw
        obtain ⟨zs, hL4, hP4, _, k4⟩ := hw
        refine ⟨Nat.zero_le _, fun l5 hl5 => ?_⟩
        have x5 := Ext.new (o := .lst []) hl5
        refine ⟨.list ((W.filter (nestB y)).map dTwo), .list [], .lst (SqL.of (x5 _ _ hL4)) (dpTwos (paired_imp (fun _ _ => TwoAt.mono _ _ _ _ (TupK.ext x5)) hP4)), .lst (SqL.of upd_same) .nil, shaped_twos _, by decide +kernel, _, rfl, ?_⟩
        rw [eqv_nil]
        have k35 := k4.trans x5
        refine ite2 (fun e => ?_) (fun e => ?_)
        · rw [if_pos e]
          obtain ⟨acc, h1, h2, h3⟩ := KeepL.add hE2 hv k35 (k35 _ _ (k3 _ _ ha1)) (by omega)
          exact ⟨_, rfl, .inl ⟨rfl, _, SqL.of h1⟩, _, rfl, E2, acc, _, rfl, rfl, h1, h2, _, rfl, h3⟩
        · rw [if_neg e, List.append_nil]
          exact ⟨_, rfl, hv.skip k35⟩
    · obtain ⟨y3, rfl, hv⟩ := hv
      rw [List.take_of_length_le (by omega)] at hv
      obtain ⟨zs, hL3, hP3, _, k3⟩ := hv
      exact ⟨_, rfl, q' E2 zs H3 (k2.none hE2) hL3 hP3 (k2.trans k3)⟩
abbrev CStrL (P : Program) (w : World) (K : PySem.W.Frag) (mg : Str → Option Value) (base : Heap) : Prop := Ca P w K mg base 1 "_law_straight" ["_law_shape", "_law_i", "_law_j"] spStrL
abbrev s_law_loop : Stmt := topS 38
theorem sc_law_loop : FnScope ["_law_code_here", "_law_page_here", "_law_shape", "_law_i", "_law_j", "_law_inner", "_law_free", "_law_loops", "_law_both", "_law_one", "_law_row"] ["_law_code_here", "_law_page_here", "_law_shape", "_law_i", "_law_j"] (defScope s_law_loop) :=
  ⟨rfl, rfl, rfl, by decide +kernel, rfl, by decide +kernel, by decide +kernel⟩
def spLoopN : Sp := fun vs H Q _ => ∃ (v sv : V) (r : Rl) (x : Str) (q0 : Fo) (one : Int × Int), vs = [v, .str x, sv, .int one.1, .int one.2] ∧ RulesAt H v r ∧ RlOk r ∧ x.length ≤ 12 ∧ Of r.letters x ∧ FoAt H sv q0 ∧ q0.length ≤ 12 ∧ (∀ y ∈ q0, 0 ≤ y.1 ∧ y.1 < x.length ∧ 0 ≤ y.2 ∧ y.2 < x.length) ∧ 0 ≤ one.1 ∧ one.1 < x.length ∧ 0 ≤ one.2 ∧ one.2 < x.length ∧
  ∀ (a : Addr) (kd : Str) (fr : Int) (H' : Hp), kd = kindN (freeI one (strC q0 one.1 one.2)) (strC q0 one.1 one.2).length → (0 ≤ freeI one (strC q0 one.1 one.2) → fr = freeI one (strC q0 one.1 one.2)) → H' a = some (.tup [.str kd, .int fr, .int (lpW r x one (strC q0 one.1 one.2))]) → Ext H H' → Q (.ref a) H'
theorem ok_loopN {f : Addr} {fd : FuncData} (F : Fun K "_law_loop" "_law_loop" s_law_loop f fd) (c_law_straight : CStrL P w K mg base) (mlen : mg "len" = none) (msum : mg "sum" = none) : FnOk P w K mg base CX0 2 f fd ["_law_code_here", "_law_page_here", "_law_shape", "_law_i", "_law_j"] spLoopN := by
  refine F.ok sc_law_loop (fun vs H Q E h => ?_) (fun cdv A outer s H vs Q E hr h => ?_)
  · obtain ⟨v, sv, r, x, q0, one, rfl, _⟩ := h
    rfl
  · obtain ⟨v, sv, r, x, q0, one, rfl, hR, ok, hx, hO, hF, hq0, hin, i0, i1, j0, j1, q⟩ := h
    refine ⟨_, (pss_cons (ps_set (i := 5) sc_law_loop.nd rfl (.inl rfl) (pe_ca c_law_straight (hr.mono (by decide)) (by rfl) (pa_cons (pv 2) (pa_cons (pv 3) (pa_cons (pv 4) pa_nil)))))
      (pss_cons (ps_set (i := 6) sc_law_loop.nd rfl (.inl rfl) (pe_op op_sub (pe_op op_sub (pe_op op_sub (pv 4) (pv 3)) pe_int) (pe_callB (sumI K) (by rfl) msum (by decide +kernel) (pa_cons (pe_lc (own := [("_law_one", 9)]) (g := gName 9) (by rfl) sc_law_loop.nd (pi_list (pv 5)) (blkOk_by (own := [("_law_one", 9)]) (N := ["_law_code_here", "_law_page_here", "_law_shape", "_law_i", "_law_j", "_law_inner", "_law_free", "_law_loops", "_law_both", "_law_one", "_law_row"]) (sc := defScope s_law_loop) (by decide +kernel)) (fun _ _ _ _ _ => (pg_name (i := 9) sc_law_loop.nd rfl (.inl rfl))) (fun _ _ _ _ _ => pts_nil) (fun _ _ _ _ _ => (pe_op op_add (pe_op op_sub (pe_ix (ixT K) (pv 9) pe_int (fun _ _ => rfl)) (pe_ix (ixT K) (pv 9) pe_int (fun _ _ => rfl))) pe_int))) pa_nil))))
      (pss_cons (ps_set (i := 7) sc_law_loop.nd rfl (.inl rfl) (pe_ix (ixT K) (pv 0) pe_int (fun _ _ => rfl)))
      (pss_cons (ps_if (pt_cmpR (eqD K hr.units) (pv 5) (pe_lst pa_nil) (nomark _)) (pss_one (ps_ret (pe_tup (pa_cons pe_str (pa_cons (pv 6) (pa_cons (pe_op op_add (pe_ix (ixT K) (pv 7) pe_int (fun _ _ => rfl)) (pe_op op_mul (pv 6) (pe_ix (ixT K) (pv 7) pe_int (fun _ _ => rfl)))) pa_nil)))))) pss_nil)
      (pss_cons (ps_if (pt_cmpR op_gt (pe_callB (lenQ K) (by rfl) mlen (by decide +kernel) (pa_cons (pv 5) pa_nil)) pe_int (nomark _)) (pss_one (ps_ret (pe_tup (pa_cons pe_str (pa_cons (pv 6) (pa_cons (pe_op op_add (pe_op op_add (pe_ix (ixT K) (pv 7) pe_int (fun _ _ => rfl)) (pe_op op_mul (pe_callB (lenQ K) (by rfl) mlen (by decide +kernel) (pa_cons (pv 5) pa_nil)) (pe_ix (ixT K) (pv 7) pe_int (fun _ _ => rfl)))) (pe_op op_mul (pv 6) (pe_ix (ixT K) (pv 7) pe_int (fun _ _ => rfl)))) pa_nil)))))) pss_nil)
      (pss_cons (ps_if (pt_cmpR op_gt (pv 6) pe_int (nomark _)) (pss_one (ps_ret (pe_tup (pa_cons pe_str (pa_cons (pv 6) (pa_cons (pe_op op_add (pe_ix (ixT K) (pv 7) pe_int (fun _ _ => rfl)) (pe_op op_mul (pv 6) (pe_ix (ixT K) (pv 7) pe_int (fun _ _ => rfl)))) pa_nil)))))) pss_nil)
      (pss_cons (ps_set (i := 8) sc_law_loop.nd rfl (.inr rfl) (pe_tup (pa_cons (pe_op op_add_str (pe_ix ix_str (pv 1) (pv 3) (fun _ _ => rfl)) (pe_ix ix_str (pv 1) (pv 4) (fun _ _ => rfl))) (pa_cons (pe_op op_add_str (pe_ix ix_str (pv 1) (pe_ix (ixT K) (pe_ix (ixL K) (pv 5) pe_int (fun _ _ => rfl)) pe_int (fun _ _ => rfl)) (fun _ _ => rfl)) (pe_ix ix_str (pv 1) (pe_ix (ixT K) (pe_ix (ixL K) (pv 5) pe_int (fun _ _ => rfl)) pe_int (fun _ _ => rfl)) (fun _ _ => rfl))) pa_nil))))
      (pss_one (ps_ret (pe_tup (pa_cons pe_str (pa_cons pe_int (pa_cons (pe_op op_add (pe_ix (ixT K) (pv 7) pe_int (fun _ _ => rfl)) (pe_callB (sumI K) (by rfl) msum (by decide +kernel) (pa_cons (pe_lc (own := [("_law_row", 10)]) (g := gName 10) (by rfl) sc_law_loop.nd (pi_tup (pe_ix (ixT K) (pv 0) pe_int (fun _ _ => rfl))) (blkOk_by (own := [("_law_row", 10)]) (N := ["_law_code_here", "_law_page_here", "_law_shape", "_law_i", "_law_j", "_law_inner", "_law_free", "_law_loops", "_law_both", "_law_one", "_law_row"]) (sc := defScope s_law_loop) (by decide +kernel)) (fun _ _ _ _ _ => (pg_name (i := 10) sc_law_loop.nd rfl (.inl rfl))) (fun _ _ _ _ _ => (pts_one (pt_cmpR (eqD K hr.units) (pe_slice (slE K) (pv 10) po_none (po_some pe_int)) (pv 8) (nomark _)))) (fun _ _ _ _ _ => (pe_ix (ixT K) (pv 10) pe_int (fun _ _ => rfl)))) pa_nil))) pa_nil))))))))))))), ?_⟩
    obtain ⟨a, vp, vl, vs, rfl, hA, _, ⟨al, ls, rfl, hl9, hLo⟩, ⟨as, ss, rfl, hs9, hSt⟩⟩ := id hR
    have ils := ints_of hLo
    subst ils
    refine ⟨_, rfl, _, rfl, _, rfl, sv, q0, one.1, one.2, rfl, hF, by omega, fun l us H1 hl hL hP k1 => ?_⟩
    obtain ⟨ks, hks⟩ : ∃ ks, ks = strC q0 one.1 one.2 := ⟨_, rfl⟩
    have hkl : ks.length ≤ q0.length := by
      rw [hks]
      exact str_len _ _ _
    have hkin : ∀ y ∈ ks, 0 ≤ y.1 ∧ y.1 < x.length ∧ 0 ≤ y.2 ∧ y.2 < x.length := fun y hy => hin y (str_sub q0 one.1 one.2 y (hks ▸ hy))
    rw [← hks] at q hP
    have hul := paired_len hP
    have hsx : Small x := hO.small ok.small
    -- free
    refine ⟨_, rfl, _, rfl, _, _, rfl, rfl, _, 1, rfl, rfl, _, rfl, l, rfl, ⟨_, SqL.of hL⟩, fun D hD => lc_list (K := K) (xs := us) (fun i H2 => H2 D = some (.lst (((ks.take i).map fun y => y.2 - y.1 + 1).map V.int)) ∧ Ext H1 H2)
      ⟨upd_same, Ext.new hD⟩ (fun i H2 _ ⟨_, k⟩ => SqL.of (k _ _ hL)) (fun i u H2 hi hv => ?_) (fun H2 hv => ?_)⟩
    · obtain ⟨hL2, k2⟩ := hv
      obtain ⟨y, hy, a1, rfl, ha1⟩ := paired_get hP hi
      have hil : i < us.length := (List.getElem?_eq_some_iff.mp hi).1
      refine ⟨rfl, _, rfl, a1, _, 1, _, rfl, rfl, SqT.of (k2 _ _ ha1), rfl, _, rfl, a1, _, 0, _, rfl, rfl, SqT.of (k2 _ _ ha1), rfl, _, _, rfl, rfl, _, 1, rfl, rfl, _, hL2, szLt ?_, ?_, k2.put hD⟩
      · rw [List.length_map, List.length_map, List.length_take]
        omega
      · rw [upd_same, List.take_add_one, hy, List.map_append, List.map_append]
        rfl
    obtain ⟨hL2, k2⟩ := hv
    rw [List.take_of_length_le (by omega)] at hL2
    refine ⟨D, _, rfl, SqL.of hL2, _, _, rfl, rfl, ?_⟩
    obtain ⟨fr, hfr⟩ : ∃ fr : Int, fr = one.2 - one.1 - 1 - (ks.map fun y => y.2 - y.1 + 1).sum := ⟨_, rfl⟩
    have hfr2 : fr = freeI one ks := hfr
    show gName 6 (V.int (one.2 - one.1 - 1 - (ks.map fun y => y.2 - y.1 + 1).sum)) _ _ _
    rw [← hfr]
    have k02 := k1.trans k2
    refine ⟨_, rfl, a, _, 3, _, rfl, rfl, SqT.of (k02 _ _ hA), rfl, ?_⟩
    have at9 : ∀ (i : Nat), i < 9 → atI (r.loops.map V.int) (i : Int) = some (.int (lo r i)) := fun i hi => by
      have h9 := ok.lo9
      rw [atI_get (by omega) (by rw [List.length_map]; omega)]
      have e : lo r i = r.loops[i]'(by omega) := by
        unfold lo
        rw [List.getD_eq_getElem?_getD, List.getElem?_eq_getElem (by omega)]
        rfl
      rw [e]
      simp
    have hL1 := k2 _ _ hL
    -- inner == []
    refine ⟨_, rfl, Nat.zero_le _, fun l3 hl3 => ?_⟩
    have x3 := Ext.new (o := .lst []) hl3
    have k03 := k02.trans x3
    have hl93 := k03 _ _ hl9
    have hL3 := x3 _ _ hL1
    refine ⟨.list (ks.map dTwo), .list [], .lst (SqL.of hL3) (dpTwos (paired_imp (fun _ _ => TwoAt.mono _ _ _ _ (TupK.ext (k2.trans x3))) hP)), .lst (SqL.of upd_same) .nil, shaped_twos _, by decide +kernel, _, rfl, ?_⟩
    rw [eqv_nil]
    have l2 := lo_bound ok (show 2 < 9 by decide)
    have l4 := lo_bound ok (show 4 < 9 by decide)
    have l5 := lo_bound ok (show 5 < 9 by decide)
    have l7 := lo_bound ok (show 7 < 9 by decide)
    refine ite2 (fun e => ?_) (fun e => ?_)
    · have c0 : ks.length = 0 := by
        cases ks with
        | nil => rfl
        | cons _ _ => cases e
      refine ⟨_, rfl, _, rfl, al, _, 6, _, rfl, rfl, SqT.of hl93, at9 6 (by decide), _, rfl, _, rfl, al, _, 7, _, rfl, rfl, SqT.of hl93, at9 7 (by decide), _, _, rfl, rfl, .inr ⟨by omega, by omega⟩, _, _, rfl, rfl, szL (show 3 ≤ 1000000 by decide), fun tr htr => ?_⟩
      refine q tr "lone" fr _ (by unfold kindN; rw [if_pos c0]) (fun _ => hfr2) ?_ (k03.trans (Ext.new htr))
      unfold lpW
      rw [if_pos c0, ← hfr2]
      exact upd_same
    · have c0 : ¬ ks.length = 0 := by
        cases ks with
        | nil => exact absurd rfl e
        | cons _ _ => exact Nat.succ_ne_zero _
      refine ⟨_, rfl, l, us, rfl, .inl (SqL.of hL3), _, 1, rfl, rfl, _, rfl, ite2 (fun e => ?_) (fun e => ?_)⟩
      · have c1 : 1 < ks.length := by
          have : (us.length : Int) > 1 := by simpa using e
          omega
        refine ⟨_, rfl, _, rfl, al, _, 3, _, rfl, rfl, SqT.of hl93, at9 3 (by decide), _, rfl, l, us, rfl, .inl (SqL.of hL3), _, rfl, al, _, 4, _, rfl, rfl, SqT.of hl93, at9 4 (by decide), _, _, rfl, rfl, .inr ⟨by omega, by omega⟩, _, _, rfl, rfl, _, rfl, _, rfl, al, _, 5, _, rfl, rfl, SqT.of hl93, at9 5 (by decide), _, _, rfl, rfl, .inr ⟨by omega, by omega⟩, _, _, rfl, rfl, szL (show 3 ≤ 1000000 by decide), fun tr htr => ?_⟩
        refine q tr "forked" fr _ (by unfold kindN; rw [if_neg c0, if_pos c1]) (fun _ => hfr2) ?_ (k03.trans (Ext.new htr))
        unfold lpW
        rw [if_neg c0, if_pos c1, ← hfr2, ← hul]
        have e5 : lo r 3 + (us.length : Int) * lo r 4 + fr * lo r 5 = lo r 3 + ((us.length : Int) * lo r 4 + fr * lo r 5) := by omega
        rw [← e5]
        exact upd_same
      · have c1 : ¬ 1 < ks.length := by
          have : ¬ (us.length : Int) > 1 := by simpa using e
          omega
        refine ⟨_, rfl, _, _, rfl, rfl, _, rfl, ite2 (fun e => ?_) (fun e => ?_)⟩
        · have c2 : 0 < fr := by simpa using e
          refine ⟨_, rfl, _, rfl, al, _, 1, _, rfl, rfl, SqT.of hl93, at9 1 (by decide), _, rfl, _, rfl, al, _, 2, _, rfl, rfl, SqT.of hl93, at9 2 (by decide), _, _, rfl, rfl, .inr ⟨by omega, by omega⟩, _, _, rfl, rfl, szL (show 3 ≤ 1000000 by decide), fun tr htr => ?_⟩
          refine q tr "inner" fr _ (by unfold kindN; rw [if_neg c0, if_neg c1, ← hfr2, if_pos c2]) (fun _ => hfr2) ?_ (k03.trans (Ext.new htr))
          unfold lpW
          rw [if_neg c0, if_neg c1, ← hfr2, if_pos c2]
          exact upd_same
        · have c2 : ¬ 0 < fr := by simpa using e
          obtain ⟨y, hyk⟩ : ∃ y, ks = [y] := by
            match ks, c0, c1 with
            | [], c0, _ => exact absurd rfl c0
            | [y], _, _ => exact ⟨y, rfl⟩
            | _ :: _ :: _, _, c1 => exact absurd (by simp) c1
          subst hyk
          obtain ⟨u0, hu0, a2, hu2, ha2⟩ : ∃ u0, us = [u0] ∧ ∃ a2, u0 = .ref a2 ∧ H1 a2 = some (.tup [.int y.1, .int y.2]) := by
            cases hP with
            | cons r t =>
              cases t
              obtain ⟨a2, e1, e2⟩ := r
              exact ⟨_, rfl, a2, e1, e2⟩
          subst hu2
          subst hu0
          have hy := hkin y (List.mem_singleton.mpr rfl)
          have ha3 := x3 _ _ (k2 _ _ ha2)
          have hA3 := k03 _ _ hA
          have hs93 := k03 _ _ hs9
          have hSt3 := paired_imp (fun _ _ => StackAt.mono _ _ _ _ (TupK.ext k03)) hSt
          have hsl := paired_len hSt3
          have hst := ok.stk
          refine ⟨_, rfl, _, rfl, x, one.1, _, rfl, rfl, szL (by omega), sgn_at i0 i1, _, rfl, _, rfl, x, one.2, _, rfl, rfl, szL (by omega), sgn_at j0 j1, _, _, rfl, rfl, szL (show 1 + 1 ≤ 1000000 by decide), ?_⟩
          refine ⟨_, rfl, _, rfl, l, _, 0, _, rfl, rfl, SqL.of hL3, rfl, a2, _, 0, _, rfl, rfl, SqT.of ha3, rfl, x, y.1, _, rfl, rfl, szL (by omega), sgn_at hy.1 hy.2.1, _, rfl, _, rfl, l, _, 0, _, rfl, rfl, SqL.of hL3, rfl, a2, _, 1, _, rfl, rfl, SqT.of ha3, rfl, x, y.2, _, rfl, rfl, szL (by omega), sgn_at hy.2.2.1 hy.2.2.2, _, _, rfl, rfl, szL (show 1 + 1 ≤ 1000000 by decide), szL (show 2 ≤ 1000000 by decide), fun t8 ht8 => ?_⟩
          have x8 := Ext.new (o := .tup [.str (tx2 x one), .str (tx2 x y)]) ht8
          have hT8 : upd (upd H2 l3 (.lst [])) t8 (.tup [.str (tx2 x one), .str (tx2 x y)]) t8 = some (.tup [.str (tx2 x one), .str (tx2 x y)]) := upd_same
          have k08 := k03.trans x8
          have hl98 := x8 _ _ hl93
          have hA8 := x8 _ _ hA3
          have hs98 := x8 _ _ hs93
          have hSt8 := paired_imp (fun _ _ => StackAt.mono _ _ _ _ (TupK.ext x8)) hSt3
          refine ⟨_, rfl, al, _, 0, _, rfl, rfl, SqT.of hl98, at9 0 (by decide), ?_⟩
          refine ⟨_, rfl, a, _, 4, _, rfl, rfl, SqT.of hA8, rfl, as, rfl, ⟨_, SqT.of hs98⟩, fun E5 hE5 => ?_⟩
          refine lc_tup (K := K) (xs := ss) (fun c H5 => H5 E5 = some (.lst ((stF (r.stk.take c) (tx2 x one) (tx2 x y)).map V.int)) ∧ Ext (upd (upd H2 l3 (.lst [])) t8 (.tup [.str (tx2 x one), .str (tx2 x y)])) H5)
            ⟨upd_same, Ext.new hE5⟩ (fun c H5 _ ⟨_, k⟩ => SqT.of (k _ _ hs98)) (fun c u H5 hc hv => ?_) (fun H5 hv => ?_)
          · obtain ⟨hE, k5⟩ := hv
            obtain ⟨z, hz, b1, rfl, hb1⟩ := paired_get hSt8 hc
            have hb5 := k5 _ _ hb1
            have cl : c < ss.length := (List.getElem?_eq_some_iff.mp hc).1
            have hzo := ok.st z (List.mem_of_getElem? hz)
            have hle : (stF (r.stk.take c) (tx2 x one) (tx2 x y)).length ≤ 12 := by
              unfold stF
              rw [List.length_map]
              refine Nat.le_trans (List.length_filter_le _ _) ?_
              rw [List.length_take]
              omega
            refine ⟨rfl, _, rfl, 2, rfl, b1, _, rfl, hb5, fun p6 H6 k6 hp6 => ?_⟩
            have hp6 : H6 p6 = some (.tup [.str z.1, .str z.2.1]) := hp6
            have k58 := k6
            refine ⟨_, rfl, .tuple [.str z.1, .str z.2.1], .tuple [.str (tx2 x one), .str (tx2 x y)], .tup (SqT.of hp6) (.cons (.str _) (.cons (.str _) .nil)), .tup (SqT.of ((k5.trans k6) _ _ hT8)) (.cons (.str _) (.cons (.str _) .nil)), ?_, ?_, _, rfl, ?_⟩
            · exact sm_two hzo.1 hzo.2.1
            · exact sm_two (two_tx hsx i0 i1 j0 j1) (two_tx hsx hy.1 hy.2.1 hy.2.2.1 hy.2.2.2)
            rw [eqv_two]
            refine ite2 (fun e => ?_) (fun e => ?_)
            · refine ⟨_, rfl, b1, _, 2, _, rfl, rfl, SqT.of (k58 _ _ hb5), rfl, _, k58 _ _ hE, szLt (by rw [List.length_map]; omega), ?_, (k5.trans k58).put hE5⟩
              rw [upd_same, List.take_add_one, hz]
              unfold stF
              rw [List.filter_append, show (some z).toList = [z] from rfl, List.filter_cons_of_pos (p := fun z : Str × Str × Int => decide (z.1 = tx2 x one ∧ z.2.1 = tx2 x y)) e, List.map_append, List.map_append]
              rfl
            · refine ⟨?_, k5.trans k58⟩
              rw [List.take_add_one, hz]
              unfold stF
              rw [List.filter_append, show (some z).toList = [z] from rfl, List.filter_cons_of_neg (p := fun z : Str × Str × Int => decide (z.1 = tx2 x one ∧ z.2.1 = tx2 x y)) e, List.filter_nil, List.append_nil]
              exact k58 _ _ hE
          · obtain ⟨hE, k5⟩ := hv
            rw [List.take_of_length_le (by omega)] at hE
            refine ⟨E5, _, rfl, SqL.of hE, _, _, rfl, rfl, szL (show 3 ≤ 1000000 by decide), fun tr htr => ?_⟩
            refine q tr "stacked" 0 _ (by unfold kindN; rw [if_neg c0, if_neg c1, ← hfr2, if_neg c2]) (fun h => by rw [← hfr2] at h ⊢; omega) ?_ ((k08.trans k5).trans (Ext.new htr))
            unfold lpW
            rw [if_neg c0, if_neg c1, ← hfr2, if_neg c2, stF_sum ok.nd]
            exact upd_same
abbrev CLoopN (P : Program) (w : World) (K : PySem.W.Frag) (mg : Str → Option Value) (base : Heap) : Prop := Ca P w K mg base 2 "_law_loop" ["_law_code_here", "_law_page_here", "_law_shape", "_law_i", "_law_j"] spLoopN
abbrev s_law_worth : Stmt := topS 39
theorem sc_law_worth : FnScope ["_law_code_here", "_law_page_here", "_law_shape", "_law_found", "_law_i", "_law_j"] ["_law_code_here", "_law_page_here", "_law_shape"] (defScope s_law_worth) :=
  ⟨rfl, rfl, rfl, by decide +kernel, rfl, by decide +kernel, by decide +kernel⟩
def spValL : Sp := fun vs H Q _ => ∃ (v sv : V) (r : Rl) (x : Str) (q0 : Fo), vs = [v, .str x, sv] ∧ RulesAt H v r ∧ RlOk r ∧ x.length ≤ 12 ∧ Of r.letters x ∧ FoAt H sv q0 ∧ q0 ∈ WA r x x.length 0 ∧ ∀ H', Ext H H' → Q (.int (lo r 8 * ((tops q0).length : Int) + (q0.map (pV1 r x q0)).sum)) H'
theorem ok_valL {f : Addr} {fd : FuncData} (F : Fun K "_law_worth" "_law_worth" s_law_worth f fd) (c_law_straight : CStrL P w K mg base) (c_law_loop : CLoopN P w K mg base) (mlen : mg "len" = none) (mdict : mg "dict" = none) : FnOk P w K mg base CX0 3 f fd ["_law_code_here", "_law_page_here", "_law_shape"] spValL := by
  refine F.ok sc_law_worth (fun vs H Q E h => ?_) (fun cdv A outer s H vs Q E hr h => ?_)
  · obtain ⟨v, sv, r, x, q0, rfl, _⟩ := h
    rfl
  · obtain ⟨v, sv, r, x, q0, rfl, hR, ok, hx, hO, hF, hq0, q⟩ := h
    refine ⟨_, (pss_cons (ps_set (i := 3) sc_law_worth.nd rfl (.inl rfl) (pe_op op_mul (pe_ix (ixT K) (pe_ix (ixT K) (pv 0) pe_int (fun _ _ => rfl)) pe_int (fun _ _ => rfl)) (pe_callB (lenQ K) (by rfl) mlen (by decide +kernel) (pa_cons (pe_ca c_law_straight (hr.mono (by decide)) (by rfl) (pa_cons (pv 2) (pa_cons (pe_un un_neg pe_int) (pa_cons (pe_callB call_len_str (by rfl) mlen (by decide +kernel) (pa_cons (pv 1) pa_nil)) pa_nil)))) pa_nil))))
      (pss_cons (ps_for PassesOwn.never rfl (pi_tup (pv 2)) (pg_tup rfl (pgs_cons (pg_name (i := 4) sc_law_worth.nd rfl (.inl rfl)) (pgs_cons (pg_name (i := 5) sc_law_worth.nd rfl (.inl rfl)) pgs_nil))) (pss_cons (ps_set (i := 3) sc_law_worth.nd rfl (.inl rfl) (pe_op op_add (pv 3) (pe_dget (hu_of hr) (pe_callTy (dictT K) (by rfl) mdict (by decide +kernel) (pa_cons (pe_ix (ixT K) (pv 0) pe_int (fun _ _ => rfl)) pa_nil)) (pe_op op_add_str (pe_ix ix_str (pv 1) (pv 4) (fun _ _ => rfl)) (pe_ix ix_str (pv 1) (pv 5) (fun _ _ => rfl))) (fun _ _ => rfl))))
      (pss_one (ps_set (i := 3) sc_law_worth.nd rfl (.inl rfl) (pe_op op_add (pv 3) (pe_ix (ixT K) (pe_ca c_law_loop (hr.mono (by decide)) (by rfl) (pa_cons (pv 0) (pa_cons (pv 1) (pa_cons (pv 2) (pa_cons (pv 4) (pa_cons (pv 5) pa_nil)))))) pe_int (fun _ _ => rfl)))))))
      (pss_one (ps_ret (pv 3))))), ?_⟩
    obtain ⟨hin, hlen⟩ := WA_in r x x.length 0 q0 hq0
    have hmay := (fo4_of r x x.length 0 q0 hq0).may
    have hin' : ∀ y ∈ q0, 0 ≤ y.1 ∧ y.1 < x.length ∧ 0 ≤ y.2 ∧ y.2 < x.length := fun y hy => by
      have := hin y hy
      omega
    obtain ⟨a, vp, vl, vs, rfl, hA, ⟨ap, oz, pus, rfl, hp, hoz, hRp⟩, ⟨al, ls, rfl, hl9, hLo⟩, hvs⟩ := id hR
    have ils := ints_of hLo
    subst ils
    have h9 := ok.lo9
    have at8 : atI (r.loops.map V.int) 8 = some (.int (lo r 8)) := by
      rw [atI_get (by omega) (by rw [List.length_map]; omega)]
      have e : lo r 8 = r.loops[8]'(by omega) := by
        unfold lo
        rw [List.getD_eq_getElem?_getD, List.getElem?_eq_getElem (by omega)]
        rfl
      rw [e]
      simp
    have l8 := lo_bound ok (show 8 < 9 by decide)
    refine ⟨_, rfl, a, _, 3, _, rfl, rfl, SqT.of hA, rfl, al, _, 8, _, rfl, rfl, SqT.of hl9, at8, ?_⟩
    refine ⟨_, rfl, 1, rfl, _, rfl, x, rfl, szL (by omega), sv, q0, -1, (x.length : Int), rfl, hF, by omega, fun l us H1 hl hL hP k1 => ?_⟩
    have est : strC q0 (-1) (x.length : Int) = tops q0 := by
      unfold strC
      rw [within_all (fun y hy => by have := hin y hy; omega)]
      exact nn_tops r x x.length 0 q0 hq0
    rw [est] at hP
    have hul := paired_len hP
    refine ⟨l, us, rfl, .inl (SqL.of hL), _, _, rfl, rfl, .inl ⟨by omega, by omega⟩, ?_⟩
    obtain ⟨sa, fs, rfl, hS, hPf⟩ := hF
    have hfl := paired_len hPf
    obtain ⟨pas, hpas, hpp⟩ : ∃ pas : List Addr, pus = pas.map V.ref ∧ Paired (fun p kv => H p = some (.tup [kV kv.1, kv.2])) pas (r.prs.map encP) := by
      have aux : ∀ {us : List V} {ps : List (Str × Int)}, Paired (PairAt H) us ps → ∃ pas : List Addr, us = pas.map V.ref ∧ Paired (fun p kv => H p = some (.tup [kV kv.1, kv.2])) pas (ps.map encP) := by
        intro us ps h
        induction h with
        | nil => exact ⟨[], rfl, .nil⟩
        | cons h t ih =>
          obtain ⟨pas, e, hpp⟩ := ih
          obtain ⟨a1, e1, h1⟩ := h
          exact ⟨a1 :: pas, by rw [e1, e]; rfl, .cons h1 hpp⟩
      exact aux hRp
    refine ⟨_, rfl, sa, rfl, ⟨_, SqT.of (k1 _ _ hS)⟩, for_tup (K := K) (xs := fs) (fun c σ H2 => ∃ (y4 y5 : Option V), σ = [some (.ref a), some (.str x), some (.ref sa), some (.int (lo r 8 * (us.length : Int) + ((q0.map (pV1 r x q0)).take c).sum)), y4, y5] ∧ Ext H H2)
      ⟨none, none, by rw [List.take_zero, List.sum_nil, Int.add_zero]; rfl, k1⟩ (fun c σ H2 _ h => by obtain ⟨_, _, _, k⟩ := h; exact SqT.of (k _ _ hS)) (fun c u σ H2 hc hv => ?_) (fun σ H2 hv => ?_)⟩
    · obtain ⟨y4, y5, rfl, k2⟩ := hv
      obtain ⟨y, hy, a1, rfl, ha1⟩ := paired_get hPf hc
      have hyq := List.mem_of_getElem? hy
      have hi := hin' y hyq
      have hm := may_pr (hmay y hyq)
      refine ⟨a1, _, rfl, SqT.of (k2 _ _ ha1), rfl, _, _, rfl, _, _, rfl, rfl, ?_⟩
      refine ⟨_, rfl, _, rfl, a, _, 1, _, rfl, rfl, SqT.of (k2 _ _ hA), rfl, ap, oz, pas, r.prs.map encP, rfl, by rw [← hpas]; exact k2 _ _ hp, hoz, paired_imp (fun _ _ h => SqT.of (k2 _ _ h)) hpp, fun d hd => ?_⟩
      rw [merge_prs ok.pn]
      have x3 := Ext.new (o := .dK (r.prs.map encP)) hd
      refine ⟨_, rfl, _, rfl, x, y.1, _, rfl, rfl, szL (by omega), sgn_at hi.1 hi.2.1, _, rfl, _, rfl, x, y.2, _, rfl, rfl, szL (by omega), sgn_at hi.2.2.1 hi.2.2.2, _, _, rfl, rfl, szL (show 1 + 1 ≤ 1000000 by decide), ?_⟩
      refine ⟨d, _, rfl, val_prs r.prs (tx2 x y) hm ▸ DGet.k (k := .inr (tx2 x y)) upd_same, _, _, rfl, rfl, ?_⟩
      have k4 := k2.trans x3
      refine ⟨_, rfl, _, rfl, _, rfl, _, rfl, _, rfl, _, rfl, .ref a, .ref sa, r, x, q0, y, rfl, RulesAt.mono _ _ _ _ (TupK.ext k4) hR, ok, hx, hO, ⟨sa, fs, rfl, k4 _ _ hS, paired_imp (fun _ _ => TwoAt.mono _ _ _ _ (TupK.ext k4)) hPf⟩, by omega, hin', hi.1, hi.2.1, hi.2.2.1, hi.2.2.2, fun al5 kd5 fr5 H5 _ _ hA5 k5 => ?_⟩
      refine ⟨al5, _, 2, _, rfl, rfl, SqT.of hA5, rfl, _, _, rfl, rfl, some (.int y.1), some (.int y.2), ?_, k4.trans k5⟩
      rw [sum_take (y := pV1 r x q0 y) (by rw [List.getElem?_map, hy]; rfl)]
      have e : lo r 8 * (us.length : Int) + ((q0.map (pV1 r x q0)).take c).sum + pwI r.prs (tx2 x y) + lpW r x y (strC q0 y.1 y.2) = lo r 8 * (us.length : Int) + (((q0.map (pV1 r x q0)).take c).sum + pV1 r x q0 y) := by
        unfold pV1
        omega
      rw [← e]
      rfl
    · obtain ⟨y4, y5, rfl, k2⟩ := hv
      rw [List.take_of_length_le (by rw [List.length_map]; omega)]
      refine ⟨_, rfl, ?_⟩
      have := q H2 k2
      rw [← hul] at this
      exact this
abbrev CValN (P : Program) (w : World) (K : PySem.W.Frag) (mg : Str → Option Value) (base : Heap) : Prop := Ca P w K mg base 3 "_law_worth" ["_law_code_here", "_law_page_here", "_law_shape"] spValL
abbrev CValL (P : Program) (w : World) (K : PySem.W.Frag) (mg : Str → Option Value) (base : Heap) : Prop := Ca P w K mg base 3 "_law_worth" ["_law_code_here", "_law_page_here", "_law_shape"] spValL
end
end Pf


namespace Pf
open PySem PySem.Spec PyProof.Rows L2
/-! ### the stretches told -/
def ToldAt (H : Hp) (r : Rl) (x : Str) (kvs : List (List Key × V)) (a b : Int) : Prop := ∃ l us, valV kvs [.inl a, .inl b] = some (.ref l) ∧ H l = some (.lst us) ∧ Paired (FoAt H) us (WA r x (b + 1 - a).toNat a)
theorem ToldAt.ext {H H' : Hp} {r : Rl} {x : Str} {kvs : List (List Key × V)} {a b : Int} (k : Ext H H') (h : ToldAt H r x kvs a b) : ToldAt H' r x kvs a b := by
  obtain ⟨l, us, e1, e2, e3⟩ := h
  exact ⟨l, us, e1, k _ _ e2, paired_imp (fun _ _ => FoAt.mono _ _ _ _ (TupK.ext k)) e3⟩
section
variable {P : Program} {w : World} {K : PySem.W.Frag} {mg : Str → Option Value} {base : Heap}
abbrev s_stretch_foldings : Stmt := topS 21
theorem sc_stretch_foldings : FnScope ["rules", "string", "i", "j", "told", "made", "k", "pair", "within", "behind"] ["rules", "string", "i", "j", "told"] (defScope s_stretch_foldings) :=
  ⟨rfl, rfl, rfl, by decide +kernel, rfl, by decide +kernel, by decide +kernel⟩
def spStr : Sp := fun vs H Q _ => ∃ (v : V) (r : Rl) (x : Str) (i j : Int) (D : Addr) (kvs : List (List Key × V)), vs = [v, .str x, .int i, .int j, .ref D] ∧ RulesW H v r ∧ x.length ≤ 12 ∧ 0 ≤ i ∧ i ≤ j ∧ j < x.length ∧ H D = some (.dT kvs) ∧ (∀ a b, i < a → a ≤ b + 1 → b ≤ j → ToldAt H r x kvs a b) ∧
  ∀ (l : Addr) (us : List V) (H' : Hp), H' l = some (.lst us) → Paired (FoAt H') us (WA r x (j + 1 - i).toNat i) → Ext H H' → Q (.ref l) H'
theorem ok_str {f : Addr} {fd : FuncData} (F : Fun K "stretch_foldings" "stretch_foldings" s_stretch_foldings f fd) (cmay_pair : CMP P w K mg base) (mrange : mg "range" = none) (mlist : mg "list" = none) : FnOk P w K mg base CX0 3 f fd ["rules", "string", "i", "j", "told"] spStr := by
  refine F.ok sc_stretch_foldings (fun vs H Q E h => ?_) (fun cdv A outer s H vs Q E hr h => ?_)
  · obtain ⟨v, r, x, i, j, D, kvs, rfl, _⟩ := h
    rfl
  · obtain ⟨v, r, x, i, j, D, kvs, rfl, hR, hx, i0, ij, jx, hD, hT, q⟩ := h
    refine ⟨_, (pss_cons (ps_set (i := 5) sc_stretch_foldings.nd rfl (.inl rfl) (pe_callTy (listOf K) (by rfl) mlist (by decide +kernel) (pa_cons (pe_dget (hu_of hr) (pv 4) (pe_tup (pa_cons (pe_op op_add (pv 2) pe_int) (pa_cons (pv 3) pa_nil))) (fun _ _ => rfl)) pa_nil)))
      (pss_cons (ps_for PassesOwn.never rfl (pi_range2 (by rfl) mrange (pa_cons (pe_op op_add (pv 2) pe_int) (pa_cons (pe_op op_add (pv 3) pe_int) pa_nil))) (pg_name (i := 6) sc_stretch_foldings.nd rfl (.inr rfl)) (pss_one (ps_if (pt_val (pe_ca cmay_pair (hr.mono (by decide)) (by rfl) (pa_cons (pv 0) (pa_cons (pv 1) (pa_cons (pv 2) (pa_cons (pv 6) pa_nil)))))) (pss_cons (ps_set (i := 7) sc_stretch_foldings.nd rfl (.inr rfl) (pe_tup (pa_cons (pe_tup (pa_cons (pv 2) (pa_cons (pv 6) pa_nil))) pa_nil)))
      (pss_one (ps_aug (i := 5) sc_stretch_foldings.nd rfl (.inl rfl) (pe_lc2 (own := [("within", 8), ("behind", 9)]) (vs1 := [9]) (g := gName 8) (g1 := gName 9) (by rfl) sc_stretch_foldings.nd (pi_list (pe_dget (hu_of hr) (pv 4) (pe_tup (pa_cons (pe_op op_add (pv 2) pe_int) (pa_cons (pe_op op_sub (pv 6) pe_int) pa_nil))) (fun _ _ => rfl))) (blkOk_by (own := [("within", 8), ("behind", 9)]) (N := ["rules", "string", "i", "j", "told", "made", "k", "pair", "within", "behind"]) (sc := defScope s_stretch_foldings) (by decide +kernel)) (by decide) (fun _ _ _ _ _ => (pg_name (i := 8) sc_stretch_foldings.nd rfl (.inl rfl))) (fun _ _ _ _ _ => pts_nil) (fun _ _ _ _ _ => (piL K (pe_dget (hu_of hr) (pv 4) (pe_tup (pa_cons (pe_op op_add (pv 6) pe_int) (pa_cons (pv 3) pa_nil))) (fun _ _ => rfl)))) (fun _ _ _ _ _ => (pg_name (i := 9) sc_stretch_foldings.nd rfl (.inl rfl))) (fun _ _ _ _ _ => pts_nil) (fun _ _ _ _ _ => (pe_op (catE K) (pe_op (catE K) (pv 7) (pv 8)) (pv 9)))) ip_ext))) pss_nil)))
      (pss_one (ps_ret (pv 5))))), ?_⟩
    obtain ⟨n, hn⟩ : ∃ n, n = (j - i).toNat := ⟨_, rfl⟩
    have hn1 : (j + 1 - i).toNat = n + 1 := by omega
    have wl := WA_len r x (n := n + 1) (by omega) i
    rw [hn1] at q
    rw [WA_succ] at q wl
    rw [List.length_append] at wl
    have rulE : ∀ {H' : Hp}, Ext H H' → RulesW H' v r := fun k => RulesW.mono _ _ _ _ (TupK.ext k) hR
    refine ⟨_, rfl, _, rfl, i, 1, rfl, rfl, _, rfl, szL (show 2 ≤ 1000000 by decide), fun t1 ht1 => ?_⟩
    have x1 := Ext.new (o := .tup [.int (i + 1), .int j]) ht1
    obtain ⟨l0, us0, e0, hl0, hP0⟩ := (hT (i + 1) j (by omega) (by omega) (by omega)).ext x1
    refine ⟨D, .ref l0, rfl, e0 ▸ DGet.t (k := [.inl (i + 1), .inl j]) (x1 _ _ hD) upd_same, l0, us0, rfl, .inl (SqL.of hl0), fun m hm => ?_⟩
    have x2 := Ext.new (o := .lst us0) hm
    have mH := x1.none hm
    rw [show (j + 1 - (i + 1)).toNat = n by omega] at hP0
    refine ⟨_, rfl, i, 1, rfl, rfl, _, rfl, j, 1, rfl, rfl, i + 1, j + 1, rfl, ⟨by omega, by omega, by omega, by omega⟩, for_range (lo := i + 1) (n := (j + 1 - (i + 1)).toNat) (fun t σ H2 => ∃ (y6 y7 : Option V) (us : List V), σ = [some v, some (.str x), some (.int i), some (.int j), some (.ref D), some (.ref m), y6, y7, none, none] ∧ H2 m = some (.lst us) ∧ Paired (FoAt H2) us (WA r x n (i + 1) ++ (List.range t).flatMap fun t => seg r x (WA r x) n i t) ∧ Ext H H2)
      ⟨none, none, us0, rfl, upd_same, by rw [List.range_zero, List.flatMap_nil, List.append_nil]; exact paired_imp (fun _ _ => FoAt.mono _ _ _ _ (TupK.ext x2)) hP0, x1.trans x2⟩ (fun t σ H2 ht hv => ?_) (fun σ H2 hv => ?_)⟩
    · obtain ⟨y6, y7, us, rfl, hL2, hP2, k2⟩ := hv
      have ht' : t < n := by omega
      have eflat : (List.range (t + 1)).flatMap (fun t => seg r x (WA r x) n i t) = (List.range t).flatMap (fun t => seg r x (WA r x) n i t) ++ seg r x (WA r x) n i t := by
        rw [List.range_succ, List.flatMap_append]
        simp
      have esub : ((List.range (t + 1)).flatMap fun t => seg r x (WA r x) n i t).length ≤ ((List.range n).flatMap fun t => seg r x (WA r x) n i t).length := by
        rw [flat_len, flat_len]
        have : (List.range n) = List.range (t + 1) ++ (List.range (n - (t + 1))).map (fun y => (t + 1) + y) := by
          rw [← List.range_add]
          congr 1
          omega
        rw [this, List.map_append, List.sum_append]
        omega
      refine ⟨_, rfl, _, rfl, _, rfl, _, rfl, v, r, x, i, i + 1 + t, rfl, rulE k2, by omega, i0, by omega, by omega, fun H3 k3 => ⟨_, rfl, ite2 (fun em => ?_) (fun em => ?_)⟩⟩
      · have k03 := k2.trans k3
        have es : seg r x (WA r x) n i t = (WA r x t (i + 1)).flatMap fun one => (WA r x (n - 1 - t) (i + 2 + t)).map fun other => (i, i + 1 + t) :: (one ++ other) := by
          unfold seg
          rw [if_pos em]
        rw [eflat, es, List.length_append] at esub
        have h2l := paired_len hP2
        rw [List.length_append] at h2l
        refine ⟨_, rfl, _, rfl, szL (show 2 ≤ 1000000 by decide), fun tp htp => ⟨szL (show 1 ≤ 1000000 by decide), fun tq htq => ?_⟩⟩
        have x8 := Ext.new (o := .tup [.int i, .int (i + 1 + (t : Int))]) htp
        have x9 := Ext.new (o := .tup [.ref tp]) htq
        have k89 := x8.trans x9
        have k09 := k03.trans k89
        refine ⟨_, rfl, _, rfl, _, rfl, i, 1, rfl, rfl, _, rfl, i + 1 + t, 1, rfl, rfl, szL (show 2 ≤ 1000000 by decide), fun t4 ht4 => ?_⟩
        have x4 := Ext.new (o := .tup [.int (i + 1), .int (i + 1 + (t : Int) - 1)]) ht4
        have k04 := k09.trans x4
        obtain ⟨l1, us1, e1, hl1, hP1⟩ := (hT (i + 1) (i + 1 + t - 1) (by omega) (by omega) (by omega)).ext k04
        rw [show (i + 1 + (t : Int) - 1 + 1 - (i + 1)).toNat = t by omega] at hP1
        have h1l := paired_len hP1
        obtain ⟨l2, us2, e2, hl2, hP2'⟩ := hT (i + 1 + t + 1) j (by omega) (by omega) (by omega)
        rw [show (j + 1 - (i + 1 + (t : Int) + 1)).toNat = n - 1 - t by omega, show i + 1 + (t : Int) + 1 = i + 2 + t by omega] at hP2'
        have h2l' := paired_len hP2'
        have hp4 : upd (upd (upd H3 tp (.tup [.int i, .int (i + 1 + (t : Int))])) tq (.tup [.ref tp])) t4 (.tup [.int (i + 1), .int (i + 1 + (t : Int) - 1)]) tp = some (.tup [.int i, .int (i + 1 + (t : Int))]) := x4 _ _ (x9 _ _ upd_same)
        have hq4 : upd (upd (upd H3 tp (.tup [.int i, .int (i + 1 + (t : Int))])) tq (.tup [.ref tp])) t4 (.tup [.int (i + 1), .int (i + 1 + (t : Int) - 1)]) tq = some (.tup [.ref tp]) := x4 _ _ upd_same
        refine ⟨D, .ref l1, rfl, e1 ▸ DGet.t (k := [.inl (i + 1), .inl (i + 1 + (t : Int) - 1)]) (k04 _ _ hD) upd_same, l1, rfl, ⟨_, SqL.of hl1⟩, fun D2 hD2 => ?_⟩
        generalize upd (upd (upd H3 tp (.tup [.int i, .int (i + 1 + (t : Int))])) tq (.tup [.ref tp])) t4 (.tup [.int (i + 1), .int (i + 1 + (t : Int) - 1)]) = H4 at hp4 hq4 hl1 hP1 k04 x4 hD2 ⊢
        have k34 := k89.trans x4
        refine lc_two (walk_list (xs := us1)) (fun c H5 => GenL FoAt D2 H4 (((WA r x t (i + 1)).take c).flatMap fun one => (WA r x (n - 1 - t) (i + 2 + t)).map fun other => (i, i + 1 + (t : Int)) :: (one ++ other)) H5)
          (by rw [List.take_zero, List.flatMap_nil]; exact genl_new hD2) (fun c H5 _ h => SqL.of (h.ext _ _ hl1)) (fun c u H5 H5' hc hv hy => ?_) (fun H5 hv => ?_)
        · obtain ⟨rfl, hu⟩ := hy
          obtain ⟨one, hone, a1, fs1, rfl, hT1, hF1⟩ := paired_get hP1 hu
          have k45 := hv.ext
          have etake : ((WA r x t (i + 1)).take (c + 1)).flatMap (fun one => (WA r x (n - 1 - t) (i + 2 + t)).map fun other => (i, i + 1 + (t : Int)) :: (one ++ other)) = ((WA r x t (i + 1)).take c).flatMap (fun one => (WA r x (n - 1 - t) (i + 2 + t)).map fun other => (i, i + 1 + (t : Int)) :: (one ++ other)) ++ (WA r x (n - 1 - t) (i + 2 + t)).map fun other => (i, i + 1 + (t : Int)) :: (one ++ other) := by
            rw [List.take_add_one, hone, List.flatMap_append]
            simp
          have e6 : (((WA r x t (i + 1)).take (c + 1)).flatMap (fun one => (WA r x (n - 1 - t) (i + 2 + t)).map fun other => (i, i + 1 + (t : Int)) :: (one ++ other))).length ≤ ((WA r x t (i + 1)).flatMap (fun one => (WA r x (n - 1 - t) (i + 2 + t)).map fun other => (i, i + 1 + (t : Int)) :: (one ++ other))).length := by
            rw [flat_const (c := (WA r x (n - 1 - t) (i + 2 + t)).length) (fun y _ => List.length_map ..), flat_const (c := (WA r x (n - 1 - t) (i + 2 + t)).length) (fun y _ => List.length_map ..)]
            exact Nat.mul_le_mul_right _ (by rw [List.length_take]; omega)
          rw [etake, List.length_append, List.length_map] at e6
          refine ⟨rfl, _, rfl, _, rfl, i + 1 + t, 1, rfl, rfl, _, rfl, szL (show 2 ≤ 1000000 by decide), fun t6 ht6 => ?_⟩
          have x6 := Ext.new (o := .tup [.int (i + 1 + (t : Int) + 1), .int j]) ht6
          have k06 := (k04.trans k45).trans x6
          have hl26 := k06 _ _ hl2
          refine ⟨D, .ref l2, rfl, e2 ▸ DGet.t (k := [.inl (i + 1 + (t : Int) + 1), .inl j]) (k06 _ _ hD) upd_same, l2, rfl, ⟨_, SqL.of hl26⟩, lc_in (walk_list (xs := us2)) (fun d H7 => GenL FoAt D2 H4 (((WA r x t (i + 1)).take c).flatMap (fun one => (WA r x (n - 1 - t) (i + 2 + t)).map fun other => (i, i + 1 + (t : Int)) :: (one ++ other)) ++ ((WA r x (n - 1 - t) (i + 2 + t)).take d).map fun other => (i, i + 1 + (t : Int)) :: (one ++ other)) H7)
            (by rw [List.take_zero, List.map_nil, List.append_nil]; exact hv.keep FoAt.mono x6) (fun d H7 _ h => SqL.of (h.ext _ _ (k04 _ _ hl2))) (fun d u H7 H7' hd hw hy => ?_) (fun H7 hw => ?_)⟩
          · obtain ⟨rfl, hu⟩ := hy
            obtain ⟨other, hother, a2, fs2, rfl, hT2, hF2⟩ := paired_get hP2' hu
            have k47 := hw.ext
            have k07 := k04.trans k47
            have hone1 := (WA_in r x t (i + 1) one (List.mem_of_getElem? hone)).2
            have hoth1 := (WA_in r x (n - 1 - t) (i + 2 + t) other (List.mem_of_getElem? hother)).2
            have f1l := paired_len hF1
            have f2l := paired_len hF2
            refine ⟨rfl, _, rfl, _, rfl, tq, a1, _, fs1, rfl, rfl, k47 _ _ hq4, k47 _ _ hT1, szL (by rw [List.length_singleton]; omega), fun p10 H10 k10 hp10 => ?_⟩
            refine ⟨_, rfl, p10, a2, _, fs2, rfl, rfl, hp10, k10 _ _ (k07 _ _ hT2), szL (by rw [List.length_append, List.length_singleton]; omega), fun p11 H11 k11 hp11 => ?_⟩
            have kk := k10.trans k11
            have hs := genl_step FoAt.mono hD2 hw kk (v := .ref p11) (b := (i, i + 1 + (t : Int)) :: (one ++ other)) ⟨p11, _, rfl, hp11, ?_⟩ ?_
            · rw [List.take_add_one, hother, List.map_append, ← List.append_assoc]
              exact hs
            · have eap : [V.ref tp] ++ fs1 ++ fs2 = V.ref tp :: (fs1 ++ fs2) := rfl
              rw [eap]
              exact .cons ⟨tp, rfl, (k47.trans kk) _ _ hp4⟩ (paired_app (paired_imp (fun _ _ => TwoAt.mono _ _ _ _ (TupK.ext (k47.trans kk))) hF1) (paired_imp (fun _ _ => TwoAt.mono _ _ _ _ (TupK.ext (k07.trans kk))) hF2))
            · rw [List.length_append, List.length_map, List.length_take]
              omega
          · rw [List.take_of_length_le (l := WA r x (n - 1 - t) (i + 2 + t)) (by omega)] at hw
            rw [etake]
            exact hw
        · rw [List.take_of_length_le (by omega), ← es] at hv
          obtain ⟨vs5, hL5, hP5, k45⟩ := hv
          have h5l := paired_len hP5
          rw [es] at h5l
          have hm5 := (k34.trans k45) _ _ (k3 _ _ hL2)
          refine ⟨m, D2, us, vs5, rfl, rfl, hm5, hL5, szL (by omega), ?_⟩
          refine ⟨_, _, us ++ vs5, rfl, upd_same, ?_, ((k04.trans k45)).put mH⟩
          rw [eflat, ← List.append_assoc]
          exact paired_app (paired_imp (fun _ _ => FoAt.mono _ _ _ _ ((TupK.ext (k3.trans (k34.trans k45))).trans (TupK.lst hm5))) hP2) (paired_imp (fun _ _ => FoAt.mono _ _ _ _ (TupK.lst hm5)) hP5)
      · have es : seg r x (WA r x) n i t = [] := by
          unfold seg
          rw [if_neg em]
        refine ⟨_, _, us, rfl, k3 _ _ hL2, ?_, k2.trans k3⟩
        rw [eflat, es, List.append_nil]
        exact paired_imp (fun _ _ => FoAt.mono _ _ _ _ (TupK.ext k3)) hP2
    · obtain ⟨y6, y7, us, rfl, hL2, hP2, k2⟩ := hv
      rw [show (j + 1 - (i + 1)).toNat = n by omega] at hP2
      exact ⟨_, rfl, q m us H2 hL2 hP2 k2⟩
abbrev CStr (P : Program) (w : World) (K : PySem.W.Frag) (mg : Str → Option Value) (base : Heap) : Prop := Ca P w K mg base 3 "stretch_foldings" ["rules", "string", "i", "j", "told"] spStr
end
end Pf


namespace Pf
open PySem PySem.Spec PyProof.Rows L2
theorem tk_dT {H : Hp} {D : Addr} {o : HO} {kvs : List (List Key × V)} (h : H D = some (.dT kvs)) : TupK H (upd H D o) := ⟨fun b xs e => by rw [upd_ne (ne_of e h (by intro z; cases z))]; exact e, fun b o u e => by rw [upd_ne (ne_of e h (by intro z; cases z))]; exact e⟩
/-- one stretch more -/
theorem told_put {H : Hp} {r : Rl} {x : Str} {kvs : List (List Key × V)} {D l : Addr} {a b i j : Int} {us : List V} (hD : H D = some (.dT kvs)) (hl : H l = some (.lst us)) (hP : Paired (FoAt H) us (WA r x (j + 1 - i).toNat i)) (h : (a = i ∧ b = j) ∨ ToldAt H r x kvs a b) : ToldAt (upd H D (.dT (putK kvs [.inl i, .inl j] (.ref l)))) r x (putK kvs [.inl i, .inl j] (.ref l)) a b := by
  have tk := tk_dT (o := .dT (putK kvs [.inl i, .inl j] (.ref l))) hD
  by_cases c : a = i ∧ b = j
  · obtain ⟨rfl, rfl⟩ := c
    exact ⟨l, us, by rw [valV_put, if_pos rfl], by rw [upd_ne (ne_of hl hD (by intro z; cases z))]; exact hl, paired_imp (fun _ _ => FoAt.mono _ _ _ _ tk) hP⟩
  · rcases h with h | ⟨l', us', e1, e2, e3⟩
    · exact absurd h c
    · refine ⟨l', us', ?_, by rw [upd_ne (ne_of e2 hD (by intro z; cases z))]; exact e2, paired_imp (fun _ _ => FoAt.mono _ _ _ _ tk) e3⟩
      rw [valV_put, if_neg (fun z => c ?_)]
      · exact e1
      · cases z
        exact ⟨rfl, rfl⟩
section
variable {P : Program} {w : World} {K : PySem.W.Frag} {mg : Str → Option Value} {base : Heap}
abbrev s_all_foldings : Stmt := topS 22
theorem sc_all_foldings : FnScope ["rules", "string", "length", "i", "told", "j"] ["rules", "string"] (defScope s_all_foldings) :=
  ⟨rfl, rfl, rfl, by decide +kernel, rfl, by decide +kernel, by decide +kernel⟩
def spAF : Sp := fun vs H Q _ => ∃ (v : V) (r : Rl) (x : Str), vs = [v, .str x] ∧ RulesW H v r ∧ x.length ≤ 12 ∧ Of r.letters x ∧
  ∀ (p : Addr) (ws : List V) (H' : Hp), H p = none → H' p = some (.lst ws) → Paired (FoAt H') ws (SF (WA r x x.length 0)) → Ext H H' → Q (.ref p) H'
theorem ok_af {f : Addr} {fd : FuncData} (F : Fun K "all_foldings" "all_foldings" s_all_foldings f fd) (cneed_string : CNS P w K mg base) (cstretch_foldings : CStr P w K mg base) (mlen : mg "len" = none) (mrange : mg "range" = none) (msorted : mg "sorted" = none) : FnOk P w K mg base CX0 4 f fd ["rules", "string"] spAF := by
  refine F.ok sc_all_foldings (fun vs H Q E h => ?_) (fun cdv A outer s H vs Q E hr h => ?_)
  · obtain ⟨v, r, x, rfl, _⟩ := h
    rfl
  · obtain ⟨v, r, x, rfl, hR, hx, hO, q⟩ := h
    refine ⟨_, (pss_cons (ps_expr (pe_ca cneed_string (hr.mono (by decide)) (by rfl) (pa_cons (pv 0) (pa_cons (pv 1) pa_nil))))
      (pss_cons (ps_set (i := 2) sc_all_foldings.nd rfl (.inl rfl) (pe_callB call_len_str (by rfl) mlen (by decide +kernel) (pa_cons (pv 1) pa_nil)))
      (pss_cons (ps_setDcT (i := 4) (own := [("i", 3)]) (g := gName 3) hr.units0 (by rfl) sc_all_foldings.nd rfl rfl (swD_true rfl rfl rfl (by decide +kernel)) (pi_range1 (by rfl) mrange (pa_cons (pe_op op_add (pv 2) pe_int) pa_nil)) (blkOk_by (own := [("i", 3)]) (N := ["rules", "string", "length", "i", "told", "j"]) (sc := defScope s_all_foldings) (by decide +kernel)) (fun _ _ _ _ _ => (pg_name (i := 3) sc_all_foldings.nd rfl (.inl rfl))) (fun _ _ _ _ _ => (pe_tup (pa_cons (pv 3) (pa_cons (pe_op op_sub (pv 3) pe_int) pa_nil)))) (fun _ _ _ _ _ => (pe_lst (pa_cons (pe_tup pa_nil) pa_nil))))
      (pss_cons (ps_for PassesOwn.never rfl (pi_range3 (by rfl) mrange (pa_cons (pe_op op_sub (pv 2) pe_int) (pa_cons (pe_un un_neg pe_int) (pa_cons (pe_un un_neg pe_int) pa_nil)))) (pg_name (i := 3) sc_all_foldings.nd rfl (.inl rfl)) (pss_one (ps_for PassesOwn.never rfl (pi_range2 (by rfl) mrange (pa_cons (pv 3) (pa_cons (pv 2) pa_nil))) (pg_name (i := 5) sc_all_foldings.nd rfl (.inl rfl)) (pss_one (ps_dput (hu_of hr) (pv 4) (pe_tup (pa_cons (pv 3) (pa_cons (pv 5) pa_nil))) (pe_ca cstretch_foldings (hr.mono (by decide)) (by rfl) (pa_cons (pv 0) (pa_cons (pv 1) (pa_cons (pv 3) (pa_cons (pv 5) (pa_cons (pv 4) pa_nil)))))) rfl)))))
      (pss_one (ps_ret (pe_callB (cr_sortE K hr.units) (by rfl) msorted (by decide +kernel) (pa_cons (pe_dget (hu_of hr) (pv 4) (pe_tup (pa_cons pe_int (pa_cons (pe_op op_sub (pv 2) pe_int) pa_nil))) (fun _ _ => rfl)) pa_nil)))))))), ?_⟩
    refine ⟨_, rfl, _, rfl, v, r, x, rfl, hR, hx, hO, fun H1 k1 => ⟨_, rfl, x, rfl, szL (by omega), ?_⟩⟩
    obtain ⟨L, hL⟩ : ∃ L, L = x.length := ⟨_, rfl⟩
    rw [← hL] at q hx ⊢
    have rulE : ∀ {H' : Hp}, Ext H1 H' → RulesW H' v r := fun k => RulesW.mono _ _ _ _ (TupK.ext (k1.trans k)) hR
    refine ⟨_, rfl, (L : Int), 1, rfl, rfl, (L : Int) + 1, rfl, by omega, by omega, fun D hD => dcT_it walk_range (fun c H2 => ∃ kvs, H2 D = some (.dT kvs) ∧ kvs.length ≤ c ∧ Ext H1 H2 ∧ ∀ a : Int, 0 ≤ a → a < c → ToldAt H2 r x kvs a (a - 1))
      ⟨[], upd_same, Nat.le_refl _, Ext.new hD, fun a h1 h2 => by omega⟩ (fun _ _ _ _ => trivial) (fun c u H2 H2' hc hv hy => ?_) (fun H2 hv => ?_)⟩
    · obtain ⟨kvs, hD2, hkl, k2, hT2⟩ := hv
      obtain ⟨rfl, rfl⟩ := hy
      refine ⟨rfl, _, rfl, _, rfl, (0 : Int) + c, 1, rfl, rfl, szL (show 2 ≤ 1000000 by decide), fun t1 ht1 => ⟨Nat.zero_le _, fun t2 ht2 => ⟨szL (show 1 ≤ 1000000 by decide), fun l hl => ?_⟩⟩⟩
      have x1 := Ext.new (o := .tup [.int ((0 : Int) + c), .int ((0 : Int) + c - 1)]) ht1
      have x2 := Ext.new (o := .tup []) ht2
      have x3 := Ext.new (o := .lst [.ref t2]) hl
      have k3 := x1.trans (x2.trans x3)
      have hD3 := k3 _ _ hD2
      refine ⟨kvs, [.inl ((0 : Int) + c), .inl ((0 : Int) + c - 1)], t1, rfl, x3 _ _ (x2 _ _ upd_same), hD3, szLt (by omega), _, upd_same, ?_, (k2.trans k3).put hD, fun a a0 a1 => ?_⟩
      · have := putT_len kvs [.inl ((0 : Int) + c), .inl ((0 : Int) + c - 1)] (.ref l)
        omega
      · refine told_put hD3 (us := [.ref t2]) upd_same ?_ ?_
        · rw [show ((0 : Int) + c - 1 + 1 - (0 + c)).toNat = 0 by omega]
          exact .cons ⟨t2, [], rfl, x3 _ _ upd_same, .nil⟩ .nil
        · by_cases e : a = (0 : Int) + c
          · exact .inl ⟨e, by omega⟩
          · exact .inr ((hT2 a a0 (by omega)).ext k3)
    obtain ⟨kvs0, hD2, hkl, k2, hT2⟩ := hv
    rw [show ((L : Int) + 1).toNat = L + 1 by omega] at hkl
    refine ⟨_, rfl, (L : Int), 1, rfl, rfl, 1, rfl, 1, rfl, (L : Int) - 1, -1, -1, _, rfl, RgC.neg (by omega) (by omega) (by decide) (by decide), for_rangeC (lo := (L : Int) - 1) (c := -1) (n := ((L : Int) - 1 - -1).toNat) (fun t σ H3 => ∃ (y3 y5 : Option V) (kvs : List (List Key × V)), σ = [some v, some (.str x), some (.int L), y3, some (.ref D), y5] ∧ H3 D = some (.dT kvs) ∧ kvs.length ≤ 13 + 13 * t ∧ Ext H1 H3 ∧ ∀ a b : Int, ((0 ≤ a ∧ a ≤ L ∧ b = a - 1) ∨ ((L : Int) - t ≤ a ∧ a ≤ b ∧ b < L)) → ToldAt H3 r x kvs a b)
      ⟨_, _, kvs0, rfl, hD2, by omega, k2, fun a b h => ?_⟩ (fun t σ H3 ht hv => ?_) (fun σ H3 hv => ?_)⟩
    · rcases h with ⟨h1, h2, rfl⟩ | h
      · exact hT2 a h1 (by omega)
      · omega
    · obtain ⟨y3, y5, kvs, rfl, hD3, hkl3, k3, hT3⟩ := hv
      obtain ⟨i, hi⟩ : ∃ i : Int, i = (L : Int) - 1 + (t : Nat) * (-1) := ⟨_, rfl⟩
      rw [← hi]
      refine ⟨_, rfl, _, rfl, i, (L : Int), rfl, ⟨by omega, by omega, by omega, by omega⟩, for_range (lo := i) (n := ((L : Int) - i).toNat) (fun u σ H4 => ∃ (y5 : Option V) (kvs : List (List Key × V)), σ = [some v, some (.str x), some (.int L), some (.int i), some (.ref D), y5] ∧ H4 D = some (.dT kvs) ∧ kvs.length ≤ 13 + 13 * t + u ∧ Ext H1 H4 ∧ ∀ a b : Int, ((0 ≤ a ∧ a ≤ L ∧ b = a - 1) ∨ ((L : Int) - t ≤ a ∧ a ≤ b ∧ b < L) ∨ (a = i ∧ i ≤ b ∧ b < i + u)) → ToldAt H4 r x kvs a b)
        ⟨_, kvs, rfl, hD3, by omega, k3, fun a b h => ?_⟩ (fun u σ H4 hu hv => ?_) (fun σ H4 hv => ?_)⟩
      · rcases h with h | h | h
        · exact hT3 a b (.inl h)
        · exact hT3 a b (.inr h)
        · omega
      · obtain ⟨y5, kvs, rfl, hD4, hkl4, k4, hT4⟩ := hv
        refine ⟨_, rfl, _, rfl, _, rfl, _, rfl, _, rfl, v, r, x, i, i + u, D, kvs, rfl, rulE k4, by omega, by omega, by omega, by omega, hD4, fun a b h1 h2 h3 => ?_, fun l us H5 hl5 hP5 k5 => ?_⟩
        · by_cases e : b = a - 1
          · exact hT4 a b (.inl ⟨by omega, by omega, e⟩)
          · exact hT4 a b (.inr (.inl ⟨by omega, by omega, by omega⟩))
        · refine ⟨_, rfl, _, rfl, _, rfl, szL (show 2 ≤ 1000000 by decide), fun t1 ht1 => ?_⟩
          have x1 := Ext.new (o := .tup [.int i, .int (i + (u : Int))]) ht1
          have k51 := k5.trans x1
          refine ⟨D, _, rfl, DPut.t (k := [.inl i, .inl (i + (u : Int))]) (k51 _ _ hD4) upd_same (szLt (by omega)), _, _, rfl, upd_same, ?_, (k4.trans k51).put hD, fun a b h => ?_⟩
          · have := putT_len kvs [.inl i, .inl (i + (u : Int))] (.ref l)
            omega
          · refine told_put (k51 _ _ hD4) (x1 _ _ hl5) (paired_imp (fun _ _ => FoAt.mono _ _ _ _ (TupK.ext x1)) hP5) ?_
            by_cases e : a = i ∧ b = i + (u : Int)
            · exact .inl e
            · refine .inr ((hT4 a b ?_).ext k51)
              rcases h with h | h | h
              · exact .inl h
              · exact .inr (.inl h)
              · exact .inr (.inr (by omega))
      · obtain ⟨y5, kvs, rfl, hD4, hkl4, k4, hT4⟩ := hv
        refine ⟨_, _, kvs, rfl, hD4, by omega, k4, fun a b h => hT4 a b ?_⟩
        rcases h with h | h
        · exact .inl h
        · by_cases e : a = i
          · exact .inr (.inr (by omega))
          · exact .inr (.inl (by omega))
    · obtain ⟨y3, y5, kvs, rfl, hD3, hkl3, k3, hT3⟩ := hv
      refine ⟨_, rfl, _, rfl, (L : Int), 1, rfl, rfl, szL (show 2 ≤ 1000000 by decide), fun t1 ht1 => ?_⟩
      have x1 := Ext.new (o := .tup [.int 0, .int ((L : Int) - 1)]) ht1
      obtain ⟨l, us, e1, hl, hP⟩ := (hT3 0 ((L : Int) - 1) (by omega)).ext x1
      rw [show ((L : Int) - 1 + 1 - 0).toNat = L by omega] at hP
      refine ⟨D, .ref l, rfl, e1 ▸ DGet.t (k := [.inl 0, .inl ((L : Int) - 1)]) (x1 _ _ hD3) upd_same, ?_⟩
      obtain ⟨t, ht⟩ := WA_head r x L 0
      delta tNil
      have kk := (k1.trans k3).trans x1
      exact sort_fos hl hP ht fun p ws H4 hp hp2 hP2 k4 => q p ws H4 (kk.none hp) hp2 hP2 (kk.trans k4)
abbrev CAF (P : Program) (w : World) (K : PySem.W.Frag) (mg : Str → Option Value) (base : Heap) : Prop := Ca P w K mg base 4 "all_foldings" ["rules", "string"] spAF
end
end Pf


namespace Pf
open PySem PySem.Spec PyProof.Rows L2
/-! ### what is known of stretches -/
def grid : List (List Key) := (List.range 13).flatMap fun a : Nat => (List.range 13).map fun b : Nat => [.inl (a : Int), .inl (b : Int)]
theorem grid_len : grid.length = 169 := by decide +kernel
theorem grid_mem {a b : Int} (a0 : 0 ≤ a) (a1 : a ≤ 12) (b0 : 0 ≤ b) (b1 : b ≤ 12) : ([.inl a, .inl b] : List Key) ∈ grid := by
  refine List.mem_flatMap.mpr ⟨a.toNat, List.mem_range.mpr (by omega), List.mem_map.mpr ⟨b.toNat, List.mem_range.mpr (by omega), ?_⟩⟩
  rw [show ((a.toNat : Nat) : Int) = a by omega, show ((b.toNat : Nat) : Int) = b by omega]
structure KnOk (H : Hp) (r : Rl) (x : Str) (kvs : List (List Key × V)) : Prop where
  isat : ∀ (a b : Int) (v : V), valV kvs [.inl a, .inl b] = some v → ∃ (l : Addr) (us : List V), v = .ref l ∧ H l = some (.lst us) ∧ Paired (FoAt H) us (WA r x (b - a).toNat a)
  al : ∀ (k : List Key) (v : V), valV kvs k = some v → ∃ (l : Addr) (us : List V), v = .ref l ∧ H l = some (.lst us)
  nd : (kvs.map (·.1)).Nodup
  gr : ∀ k ∈ kvs.map (·.1), k ∈ grid
theorem KnOk.len {H : Hp} {r : Rl} {x : Str} {kvs : List (List Key × V)} (h : KnOk H r x kvs) : kvs.length ≤ 169 := by
  have := len_nd h.nd h.gr
  rw [List.length_map, grid_len] at this
  exact this
theorem tk_kp {D : Addr} {H H' : Hp} {kvs : List (List Key × V)} (hD : H D = some (.dT kvs)) (k : Kp D H H') : TupK H H' := ⟨fun b xs e => k b _ (ne_of e hD (by intro z; cases z)) e, fun b o u e => k b _ (ne_of e hD (by intro z; cases z)) e⟩
theorem KnOk.kp {D : Addr} {H H' : Hp} {r : Rl} {x : Str} {kvs : List (List Key × V)} (h : KnOk H r x kvs) (hD : H D = some (.dT kvs)) (k : Kp D H H') : KnOk H' r x kvs := by
  refine ⟨fun a b v e => ?_, fun k' v e => ?_, h.nd, h.gr⟩
  · obtain ⟨l, us, rfl, h1, h2⟩ := h.isat a b v e
    exact ⟨l, us, rfl, k l _ (ne_of h1 hD (by intro z; cases z)) h1, paired_imp (fun _ _ => FoAt.mono _ _ _ _ (tk_kp hD k)) h2⟩
  · obtain ⟨l, us, rfl, h1⟩ := h.al k' v e
    exact ⟨l, us, rfl, k l _ (ne_of h1 hD (by intro z; cases z)) h1⟩
def Out (kvs : List (List Key × V)) (p : Addr) : Prop := ∀ k v, valV kvs k = some v → v ≠ .ref p
theorem tk_kpl {p : Addr} {H H' : Hp} {ys : List V} (hp : H p = some (.lst ys)) (k : Kp p H H') : TupK H H' := ⟨fun b xs e => k b _ (ne_of e hp (by intro z; cases z)) e, fun b o u e => k b _ (ne_of e hp (by intro z; cases z)) e⟩
theorem KnOk.kpf {p : Addr} {H H' : Hp} {r : Rl} {x : Str} {kvs : List (List Key × V)} {ys : List V} (h : KnOk H r x kvs) (ho : Out kvs p) (hp : H p = some (.lst ys)) (k : Kp p H H') : KnOk H' r x kvs := by
  refine ⟨fun a b v e => ?_, fun k' v e => ?_, h.nd, h.gr⟩
  · obtain ⟨l, us, rfl, h1, h2⟩ := h.isat a b v e
    exact ⟨l, us, rfl, k l _ (fun z => ho _ _ e (by rw [z])) h1, paired_imp (fun _ _ => FoAt.mono _ _ _ _ (tk_kpl hp k)) h2⟩
  · obtain ⟨l, us, rfl, h1⟩ := h.al k' v e
    exact ⟨l, us, rfl, k l _ (fun z => ho _ _ e (by rw [z])) h1⟩
theorem Kp.via {D p : Addr} {H H1 H2 : Hp} (k : Kp D H H1) (hn : H p = none) (k2 : Kp p H1 H2) : Kp D H H2 := fun b o n e => k2 b o (fun z => by rw [z, hn] at e; cases e) (k b o n e)
theorem kp_some {D p : Addr} {H H' : Hp} {o o' : HO} (k : Kp D H H') (hD : H' D = some o') (hp : H p = some o) : ∃ o2, H' p = some o2 := by
  by_cases c : p = D
  · exact ⟨o', by rw [c]; exact hD⟩
  · exact ⟨o, k p o c hp⟩
theorem put_keys {kvs : List (List Key × V)} {k : List Key} {v : V} (hn : (kvs.map (·.1)).Nodup) : ((putK kvs k v).map (·.1)).Nodup ∧ ∀ j ∈ (putK kvs k v).map (·.1), j ∈ kvs.map (·.1) ∨ j = k := by
  unfold putK
  by_cases h : (kvs.any fun kv => decide (kv.1 = k)) = true
  · rw [if_pos h]
    have e : (kvs.map fun kv => if kv.1 = k then (kv.1, v) else kv).map (·.1) = kvs.map (·.1) := by
      rw [List.map_map]
      refine List.map_congr_left fun kv _ => ?_
      show (if kv.1 = k then (kv.1, v) else kv).1 = kv.1
      split <;> rfl
    rw [e]
    exact ⟨hn, fun j hj => .inl hj⟩
  · rw [if_neg h, List.map_append]
    refine ⟨List.nodup_append.mpr ⟨hn, List.pairwise_singleton _ _, fun a ha b hb => ?_⟩, fun j hj => ?_⟩
    · have hb : b = k := List.mem_singleton.mp hb
      rw [hb]
      intro e
      obtain ⟨kv, hkv, e2⟩ := List.mem_map.mp ha
      exact h (List.any_eq_true.mpr ⟨kv, hkv, decide_eq_true (e2.trans e)⟩)
    · rcases List.mem_append.mp hj with hj | hj
      · exact .inl hj
      · exact .inr (List.mem_singleton.mp hj)
theorem KnOk.put {D l : Addr} {H : Hp} {r : Rl} {x : Str} {kvs : List (List Key × V)} {a b : Int} {us : List V} (h : KnOk H r x kvs) (hD : H D = some (.dT kvs)) (hl : H l = some (.lst us)) (hP : Paired (FoAt H) us (WA r x (b - a).toNat a)) (hg : ([.inl a, .inl b] : List Key) ∈ grid) : KnOk (upd H D (.dT (putK kvs [.inl a, .inl b] (.ref l)))) r x (putK kvs [.inl a, .inl b] (.ref l)) := by
  have k : Kp D H (upd H D (.dT (putK kvs [.inl a, .inl b] (.ref l)))) := Kp.at
  have pk := put_keys (k := [.inl a, .inl b]) (v := .ref l) h.nd
  refine ⟨fun a' b' v e => ?_, fun k' v e => ?_, pk.1, fun j hj => ?_⟩
  · rw [valV_put] at e
    by_cases c : ([.inl a', .inl b'] : List Key) = [.inl a, .inl b]
    · rw [if_pos c] at e
      cases c
      cases e
      exact ⟨l, us, rfl, k l _ (ne_of hl hD (by intro z; cases z)) hl, paired_imp (fun _ _ => FoAt.mono _ _ _ _ (tk_kp hD k)) hP⟩
    · rw [if_neg c] at e
      obtain ⟨l', us', rfl, h1, h2⟩ := h.isat a' b' v e
      exact ⟨l', us', rfl, k l' _ (ne_of h1 hD (by intro z; cases z)) h1, paired_imp (fun _ _ => FoAt.mono _ _ _ _ (tk_kp hD k)) h2⟩
  · rw [valV_put] at e
    by_cases c : k' = [.inl a, .inl b]
    · rw [if_pos c] at e
      cases e
      exact ⟨l, us, rfl, k l _ (ne_of hl hD (by intro z; cases z)) hl⟩
    · rw [if_neg c] at e
      obtain ⟨l', us', rfl, h1⟩ := h.al k' v e
      exact ⟨l', us', rfl, k l' _ (ne_of h1 hD (by intro z; cases z)) h1⟩
  · rcases pk.2 j hj with hj | rfl
    · exact h.gr j hj
    · exact hg
section
variable {P : Program} {w : World} {K : PySem.W.Frag} {mg : Str → Option Value} {base : Heap}
abbrev s_law_all : Stmt := topS 36
theorem sc_law_all : FnScope ["_law_code_here", "_law_page_here", "_law_first", "_law_last", "_law_known", "_law_found", "_law_k", "_law_rest", "_law_inner", "_law_one"] ["_law_code_here", "_law_page_here", "_law_first", "_law_last", "_law_known"] (defScope s_law_all) :=
  ⟨rfl, rfl, rfl, by decide +kernel, rfl, by decide +kernel, by decide +kernel⟩
def spAllN (d : Nat) : Sp := fun vs H Q _ => ∃ (v : V) (r : Rl) (x : Str) (a b : Int) (D : Addr) (kvs : List (List Key × V)), vs = [v, .str x, .int a, .int b, .ref D] ∧ RulesAt H v r ∧ RlOk r ∧ x.length ≤ 12 ∧ 0 ≤ a ∧ a ≤ b ∧ b ≤ x.length ∧ (b - a).toNat < d ∧ H D = some (.dT kvs) ∧ KnOk H r x kvs ∧
  ∀ (l : Addr) (us : List V) (kvs' : List (List Key × V)) (H' : Hp), H' l = some (.lst us) → Paired (FoAt H') us (WA r x (b - a).toNat a) → H' D = some (.dT kvs') → KnOk H' r x kvs' → Kp D H H' → (∀ p o, H p = some o → Out kvs p → l ≠ p ∧ Out kvs' p) → Q (.ref l) H'
theorem ok_allN {f : Addr} {fd : FuncData} (F : Fun K "_law_all" "_law_all" s_law_all f fd) (bF : Binds K fd ["_law_code_here", "_law_page_here", "_law_first", "_law_last", "_law_known"] []) (gF : mg "_law_all" = some (.ref f)) (c_law_may : CMay P w K mg base) (mrange : mg "range" = none) (mlist : mg "list" = none) :
    ∀ d : Nat, FnOk P w K mg base CX0 (2 + d) f fd ["_law_code_here", "_law_page_here", "_law_first", "_law_last", "_law_known"] (spAllN d)
  | 0 => ⟨fun vs H Q E h => by
      obtain ⟨v, r, x, a, b, D, kvs, rfl, _⟩ := h
      rfl, fun A outer s H args us vs Q E _ _ _ _ h => by
      obtain ⟨v, r, x, a, b, D, kvs, _, _, _, _, _, _, _, h2, _⟩ := h
      omega⟩
  | d + 1 => by
    have c_law_all : Ca P w K mg base (2 + d) "_law_all" ["_law_code_here", "_law_page_here", "_law_first", "_law_last", "_law_known"] (spAllN d) := ⟨f, fd, ok_allN F bF gF c_law_may mrange mlist d, gF, F.kp, bF⟩
    refine F.ok (k := 2 + d) sc_law_all (fun vs H Q E h => ?_) (fun cdv A outer s H vs Q E hr h => ?_)
    · obtain ⟨v, r, x, a, b, D, kvs, rfl, _⟩ := h
      rfl
    · obtain ⟨v, r, x, a, b, D, kvs, rfl, hR, ok, hx, a0, ab, bx, hd, hD, hK, q⟩ := h
      refine ⟨_, (pss_cons (ps_if (pt_cmpR op_ge (pv 2) (pv 3) (nomark _)) (pss_one (ps_ret (pe_lst (pa_cons (pe_tup pa_nil) pa_nil)))) pss_nil)
      (pss_cons (ps_if (pt_cmp (pc_dnotin (hu_of hr) (pe_tup (pa_cons (pv 2) (pa_cons (pv 3) pa_nil))) (pv 4)) rfl) (pss_cons (ps_set (i := 5) sc_law_all.nd rfl (.inl rfl) (pe_callTy (listOf K) (by rfl) mlist (by decide +kernel) (pa_cons (pe_ca c_law_all (hr.mono (by omega)) (by rfl) (pa_cons (pv 0) (pa_cons (pv 1) (pa_cons (pe_op op_add (pv 2) pe_int) (pa_cons (pv 3) (pa_cons (pv 4) pa_nil)))))) pa_nil)))
      (pss_cons (ps_for PassesOwn.never rfl (pi_range2 (by rfl) mrange (pa_cons (pe_op op_add (pv 2) pe_int) (pa_cons (pv 3) pa_nil))) (pg_name (i := 6) sc_law_all.nd rfl (.inr rfl)) (pss_one (ps_if (pt_val (pe_ca c_law_may (hr.mono (by omega)) (by rfl) (pa_cons (pv 0) (pa_cons (pv 1) (pa_cons (pv 2) (pa_cons (pv 6) pa_nil)))))) (pss_cons (ps_set (i := 7) sc_law_all.nd rfl (.inl rfl) (pe_ca c_law_all (hr.mono (by omega)) (by rfl) (pa_cons (pv 0) (pa_cons (pv 1) (pa_cons (pe_op op_add (pv 6) pe_int) (pa_cons (pv 3) (pa_cons (pv 4) pa_nil)))))))
      (pss_one (ps_for PassesOwn.never rfl (pi_list (pe_ca c_law_all (hr.mono (by omega)) (by rfl) (pa_cons (pv 0) (pa_cons (pv 1) (pa_cons (pe_op op_add (pv 2) pe_int) (pa_cons (pv 6) (pa_cons (pv 4) pa_nil))))))) (pg_name (i := 8) sc_law_all.nd rfl (.inr rfl)) (pss_one (ps_expr (pe_bm PySem.F.plainAttrs_list PySem.F.slot_list_extend PySem.F.type_list_extend mt_extend (pv 5) (pa_cons (pe_lc (own := [("_law_one", 9)]) (g := gName 9) (by rfl) sc_law_all.nd (pi_list (pv 7)) (blkOk_by (own := [("_law_one", 9)]) (N := ["_law_code_here", "_law_page_here", "_law_first", "_law_last", "_law_known", "_law_found", "_law_k", "_law_rest", "_law_inner", "_law_one"]) (sc := defScope s_law_all) (by decide +kernel)) (fun _ _ _ _ _ => (pg_name (i := 9) sc_law_all.nd rfl (.inl rfl))) (fun _ _ _ _ _ => pts_nil) (fun _ _ _ _ _ => (pe_op (catE K) (pe_op (catE K) (pe_tup (pa_cons (pe_tup (pa_cons (pv 2) (pa_cons (pv 6) pa_nil))) pa_nil)) (pv 8)) (pv 9)))) pa_nil))))))) pss_nil)))
      (pss_one (ps_dput (hu_of hr) (pv 4) (pe_tup (pa_cons (pv 2) (pa_cons (pv 3) pa_nil))) (pv 5) rfl)))) pss_nil)
      (pss_one (ps_ret (pe_dget (hu_of hr) (pv 4) (pe_tup (pa_cons (pv 2) (pa_cons (pv 3) pa_nil))) (fun _ _ => rfl)))))), ?_⟩
      have rulE : ∀ {H' : Hp}, Kp D H H' → RulesAt H' v r := fun k => RulesAt.mono _ _ _ _ (tk_kp hD k) hR
      refine ⟨_, rfl, _, rfl, _, _, rfl, rfl, _, rfl, ite2 (fun e => ?_) (fun e => ?_)⟩
      · have e : b ≤ a := of_decide_eq_true e
        refine ⟨Nat.zero_le _, fun t ht => ⟨szL (show 1 ≤ 1000000 by decide), fun l hl => ?_⟩⟩
        have x1 := Ext.new (o := .tup []) ht
        have x2 := Ext.new (o := .lst [.ref t]) hl
        have k12 := x1.trans x2
        refine q l [.ref t] kvs _ upd_same ?_ (k12 _ _ hD) (hK.kp hD (Kp.ext k12)) (Kp.ext k12) fun p o hp ho => ⟨fun z => ?_, ho⟩
        · rw [show (b - a).toNat = 0 by omega]
          exact .cons ⟨t, [], rfl, x2 _ _ upd_same, .nil⟩ .nil
        · have := x1 _ _ hp
          rw [← z, hl] at this
          cases this
      · have e : a < b := by
          have : ¬ b ≤ a := fun z => e (decide_eq_true z)
          omega
        obtain ⟨n, hn⟩ : ∃ n : Nat, (b - a).toNat = n + 1 := ⟨(b - a).toNat - 1, by omega⟩
        have hn12 : n + 1 ≤ 12 := by omega
        have wl := WA_len r x (n := n + 1) hn12 a
        rw [WA_succ, List.length_append] at wl
        -- is it known
        refine ⟨_, rfl, _, rfl, szL (show 2 ≤ 1000000 by decide), fun t1 ht1 => ?_⟩
        have x1 := Ext.new (o := .tup [.int a, .int b]) ht1
        have hD1 := x1 _ _ hD
        have hK1 := hK.kp hD (Kp.ext x1)
        refine ⟨_, rfl, D, _, rfl, DGet.t (k := [.inl a, .inl b]) hD1 upd_same, _, rfl, ?_⟩
        have fin : ∀ {H' : Hp} {kvs' : List (List Key × V)} {vl : V} {t : Addr}, Kp D H H' → H' D = some (.dT kvs') → KnOk H' r x kvs' → valV kvs' [.inl a, .inl b] = some vl → (∀ p o, H p = some o → Out kvs p → Out kvs' p) → H' t = none → Q vl (upd H' t (.tup [.int a, .int b])) := fun {H' kvs' vl t} k hD' hK' hv hout ht => by
          obtain ⟨l, us, rfl, h1, h2⟩ := hK'.isat a b vl hv
          have xt := Ext.new (o := .tup [.int a, .int b]) ht
          exact q l us kvs' _ (xt _ _ h1) (paired_imp (fun _ _ => FoAt.mono _ _ _ _ (TupK.ext xt)) h2) (xt _ _ hD') (hK'.kp hD' (Kp.ext xt)) (k.trans (Kp.ext xt)) fun p o hp ho => ⟨fun z => hout p o hp ho _ _ hv (by rw [z]), hout p o hp ho⟩
        cases hval : valV kvs [.inl a, .inl b] with
        | some vl =>
          refine iteF ⟨_, rfl, _, rfl, _, rfl, szL (show 2 ≤ 1000000 by decide), fun t2 ht2 => ?_⟩
          refine ⟨D, vl, rfl, hval ▸ DGet.t (k := [.inl a, .inl b]) (Ext.new ht2 _ _ hD1) upd_same, ?_⟩
          exact fin (Kp.ext x1) hD1 hK1 hval (fun p o _ ho => ho) ht2
        | none =>
          refine iteT ?_
          generalize upd H t1 (.tup [.int a, .int b]) = H1 at x1 hD1 hK1 ⊢
          have kp1 : Kp D H H1 := Kp.ext x1
          refine ⟨_, rfl, _, rfl, _, rfl, a, 1, rfl, rfl, _, rfl, _, rfl, v, r, x, a + 1, b, D, kvs, rfl, rulE kp1, ok, hx, by omega, by omega, bx, by omega, hD1, hK1, fun l2 us2 kvs2 H2 hl2 hP2 hD2 hK2 k2 o2 => ?_⟩
          rw [show (b - (a + 1)).toNat = n by omega] at hP2
          refine ⟨l2, us2, rfl, .inl (SqL.of hl2), fun lf hlf => ?_⟩
          have xf := Ext.new (o := .lst us2) hlf
          have kp2 : Kp D H H2 := kp1.trans k2
          have nfD : lf ≠ D := fun z => by
            rw [z, hD2] at hlf
            cases hlf
          have hlfH : H lf = none := none_of kp2 nfD hlf
          have of2 : Out kvs2 lf := fun k vv e z => by
            obtain ⟨l', us', e1, e2⟩ := hK2.al k vv e
            rw [z] at e1
            cases e1
            rw [hlf] at e2
            cases e2
          refine ⟨_, rfl, a, 1, rfl, rfl, _, rfl, a + 1, b, rfl, ⟨by omega, by omega, by omega, by omega⟩, for_range (lo := a + 1) (n := (b - (a + 1)).toNat) (fun t σ H3 => ∃ (y6 y7 y8 : Option V) (us : List V) (kvs3 : List (List Key × V)), σ = [some v, some (.str x), some (.int a), some (.int b), some (.ref D), some (.ref lf), y6, y7, y8, none] ∧ H3 lf = some (.lst us) ∧ Paired (FoAt H3) us (WA r x n (a + 1) ++ (List.range t).flatMap fun t => seg r x (WA r x) n a t) ∧ H3 D = some (.dT kvs3) ∧ KnOk H3 r x kvs3 ∧ Out kvs3 lf ∧ Kp D H H3 ∧ (∀ p o, H p = some o → Out kvs p → Out kvs3 p))
            ⟨none, none, none, us2, kvs2, rfl, upd_same, by rw [List.range_zero, List.flatMap_nil, List.append_nil]; exact paired_imp (fun _ _ => FoAt.mono _ _ _ _ (TupK.ext xf)) hP2, xf _ _ hD2, hK2.kp hD2 (Kp.ext xf), of2, kp2.trans (Kp.ext xf), fun p o hp ho => (o2 p o (x1 _ _ hp) ho).2⟩ (fun t σ H3 ht hv => ?_) (fun σ H3 hv => ?_)⟩
          · obtain ⟨y6, y7, y8, us, kvs3, rfl, hL3, hP3, hD3, hK3, of3, kp3, out3⟩ := hv
            have ht' : t < n := by omega
            have eflat : (List.range (t + 1)).flatMap (fun t => seg r x (WA r x) n a t) = (List.range t).flatMap (fun t => seg r x (WA r x) n a t) ++ seg r x (WA r x) n a t := by
              rw [List.range_succ, List.flatMap_append]
              simp
            have esub : ((List.range (t + 1)).flatMap fun t => seg r x (WA r x) n a t).length ≤ ((List.range n).flatMap fun t => seg r x (WA r x) n a t).length := by
              rw [flat_len, flat_len]
              have : (List.range n) = List.range (t + 1) ++ (List.range (n - (t + 1))).map (fun y => (t + 1) + y) := by
                rw [← List.range_add]
                congr 1
                omega
              rw [this, List.map_append, List.sum_append]
              omega
            refine ⟨_, rfl, _, rfl, _, rfl, _, rfl, v, r, x, a, a + 1 + t, rfl, rulE kp3, ok, by omega, a0, by omega, by omega, by omega, fun H4 k4 => ⟨_, rfl, ite2 (fun em => ?_) (fun em => ?_)⟩⟩
            · have es : seg r x (WA r x) n a t = (WA r x t (a + 1)).flatMap fun one => (WA r x (n - 1 - t) (a + 2 + t)).map fun other => (a, a + 1 + t) :: (one ++ other) := by
                unfold seg
                rw [if_pos em]
              rw [eflat, es, List.length_append] at esub
              have kp4 : Kp D H H4 := kp3.trans (Kp.ext k4)
              have hD4 := k4 _ _ hD3
              refine ⟨_, rfl, _, rfl, _, rfl, a + 1 + t, 1, rfl, rfl, _, rfl, _, rfl, v, r, x, a + 1 + t + 1, b, D, kvs3, rfl, rulE kp4, ok, hx, by omega, by omega, by omega, by omega, hD4, hK3.kp hD3 (Kp.ext k4), fun l5 us5 kvs5 H5 hL5 hP5 hD5 hK5 k5 o5 => ?_⟩
              rw [show (b - (a + 1 + (t : Int) + 1)).toNat = n - 1 - t by omega, show a + 1 + (t : Int) + 1 = a + 2 + t by omega] at hP5
              have kp5 : Kp D H H5 := kp4.trans k5
              obtain ⟨n5, of5⟩ := o5 lf _ (k4 _ _ hL3) of3
              refine ⟨_, rfl, _, rfl, _, rfl, a, 1, rfl, rfl, _, rfl, _, rfl, v, r, x, a + 1, a + 1 + t, D, kvs5, rfl, rulE kp5, ok, hx, by omega, by omega, by omega, by omega, hD5, hK5, fun l4 us4 kvs6 H6 hL4 hP4 hD6 hK6 k6 o6 => ?_⟩
              rw [show (a + 1 + (t : Int) - (a + 1)).toNat = t by omega] at hP4
              have kp6 : Kp D H H6 := kp5.trans k6
              have hlf6 : H6 lf = some (.lst us) := k6 _ _ nfD (k5 _ _ nfD (k4 _ _ hL3))
              obtain ⟨n4, of6⟩ := o6 lf _ (k5 _ _ nfD (k4 _ _ hL3)) of5
              have hL56 : H6 l5 = some (.lst us5) := k6 l5 _ (ne_of hL5 hD5 (by intro z; cases z)) hL5
              have hP56 := paired_imp (fun _ _ => FoAt.mono _ _ _ _ (tk_kp hD5 k6)) hP5
              have hP36 : Paired (FoAt H6) us (WA r x n (a + 1) ++ (List.range t).flatMap fun t => seg r x (WA r x) n a t) := paired_imp (fun _ _ => FoAt.mono _ _ _ _ (tk_kp hD3 (((Kp.ext k4).trans k5).trans k6))) hP3
              have out6 : ∀ p o, H p = some o → Out kvs p → Out kvs6 p := fun p o hp ho => by
                obtain ⟨q4, h4⟩ := kp_some kp4 hD4 hp
                obtain ⟨q5, h5⟩ := kp_some kp5 hD5 hp
                exact (o6 p q5 h5 (o5 p q4 h4 (out3 p o hp ho)).2).2
              have h4l := paired_len hP4
              have h5l := paired_len hP5
              refine ⟨l4, rfl, ⟨_, SqL.of hL4⟩, for_list (K := K) (xs := us4) (fun j σ H7 => ∃ (y8 : Option V) (us' : List V), σ = [some v, some (.str x), some (.int a), some (.int b), some (.ref D), some (.ref lf), some (.int (a + 1 + (t : Int))), some (.ref l5), y8, none] ∧ H7 lf = some (.lst us') ∧ Paired (FoAt H7) us' ((WA r x n (a + 1) ++ (List.range t).flatMap fun t => seg r x (WA r x) n a t) ++ ((WA r x t (a + 1)).take j).flatMap fun one => (WA r x (n - 1 - t) (a + 2 + t)).map fun other => (a, a + 1 + t) :: (one ++ other)) ∧ Kp lf H6 H7)
                ⟨y8, us, rfl, hlf6, by rw [List.take_zero, List.flatMap_nil, List.append_nil]; exact hP36, Kp.refl⟩ (fun j σ H7 _ ⟨_, _, _, _, _, k⟩ => SqL.of (k _ _ n4 hL4)) (fun j u σ H7 hj hv => ?_) (fun σ H7 hv => ?_)⟩
              · obtain ⟨y8, us', rfl, hL7, hP7, k7⟩ := hv
                obtain ⟨one, hone, t1, fs1, rfl, hT1, hF1⟩ := paired_get hP4 hj
                have hjl : j < (WA r x t (a + 1)).length := (List.getElem?_eq_some_iff.mp hone).1
                have tk7 : TupK H6 H7 := tk_kpl hlf6 k7
                have hL57 := k7 _ _ n5 hL56
                refine ⟨_, rfl, .inl ⟨rfl, _, SqL.of hL7⟩, _, rfl, l5, rfl, ⟨_, SqL.of hL57⟩, fun G hG => lc_list (K := K) (xs := us5) (GenP FoAt G H7 ((WA r x (n - 1 - t) (a + 2 + t)).map fun other => (a, a + 1 + (t : Int)) :: (one ++ other))) (gen_new hG) (fun i H8 _ h => SqL.of (h.ext _ _ hL57)) (fun i u H8 hi hv => ?_) (fun H8 hv => ?_)⟩
                · obtain ⟨other, hother, t2, fs2, rfl, hT2, hF2⟩ := paired_get hP56 hi
                  have k8 := hv.ext
                  have tk8 : TupK H6 H8 := tk7.trans (TupK.ext k8)
                  have hone1 := (WA_in r x t (a + 1) one (List.mem_of_getElem? hone)).2
                  have hoth1 := (WA_in r x (n - 1 - t) (a + 2 + t) other (List.mem_of_getElem? hother)).2
                  have f1l := paired_len hF1
                  have f2l := paired_len hF2
                  refine ⟨rfl, _, rfl, _, rfl, szL (show 2 ≤ 1000000 by decide), fun tp htp => ⟨szL (show 1 ≤ 1000000 by decide), fun tq htq => ?_⟩⟩
                  have x8 := Ext.new (o := .tup [.int a, .int (a + 1 + (t : Int))]) htp
                  have x9 := Ext.new (o := .tup [.ref tp]) htq
                  have x89 := x8.trans x9
                  refine ⟨_, rfl, tq, t1, _, fs1, rfl, rfl, upd_same, x89 _ _ (tk8.1 _ _ hT1), szL (by rw [List.length_singleton]; omega), fun p10 H10 k10 hp10 => ?_⟩
                  refine ⟨_, rfl, p10, t2, _, fs2, rfl, rfl, hp10, (x89.trans k10) _ _ (tk8.1 _ _ hT2), szL (by rw [List.length_append, List.length_singleton]; omega), fun p11 H11 k11 hp11 => ?_⟩
                  have kk := x89.trans (k10.trans k11)
                  refine gen_step FoAt.mono hG hv kk (b := (a, a + 1 + (t : Int)) :: (one ++ other)) ⟨p11, _, rfl, hp11, ?_⟩ ?_ ?_
                  · have eap : [V.ref tp] ++ fs1 ++ fs2 = V.ref tp :: (fs1 ++ fs2) := rfl
                    rw [eap]
                    refine .cons ⟨tp, rfl, (x9.trans (k10.trans k11)) _ _ upd_same⟩ (paired_app (paired_imp (fun _ _ => TwoAt.mono _ _ _ _ (tk8.trans (TupK.ext kk))) hF1) (paired_imp (fun _ _ => TwoAt.mono _ _ _ _ (tk8.trans (TupK.ext kk))) hF2))
                  · rw [List.getElem?_map, hother]
                    rfl
                  · rw [List.length_map]
                    have := WA_len r x (n := n - 1 - t) (by omega) (a + 2 + t)
                    omega
                obtain ⟨vs8, hL8, hP8, k8⟩ := gen_end hv (by rw [List.length_map]; omega)
                clear hv
                have h7l := paired_len hP7
                have h8l := paired_len hP8
                rw [List.length_map] at h8l
                have etake : ((WA r x t (a + 1)).take (j + 1)).flatMap (fun one => (WA r x (n - 1 - t) (a + 2 + t)).map fun other => (a, a + 1 + (t : Int)) :: (one ++ other)) = ((WA r x t (a + 1)).take j).flatMap (fun one => (WA r x (n - 1 - t) (a + 2 + t)).map fun other => (a, a + 1 + (t : Int)) :: (one ++ other)) ++ (WA r x (n - 1 - t) (a + 2 + t)).map fun other => (a, a + 1 + (t : Int)) :: (one ++ other) := by
                  rw [List.take_add_one, hone, List.flatMap_append]
                  simp
                have esz : us'.length + vs8.length ≤ 15511 := by
                  have e1 : (((WA r x t (a + 1)).take (j + 1)).flatMap (fun one => (WA r x (n - 1 - t) (a + 2 + t)).map fun other => (a, a + 1 + (t : Int)) :: (one ++ other))).length ≤ ((WA r x t (a + 1)).flatMap (fun one => (WA r x (n - 1 - t) (a + 2 + t)).map fun other => (a, a + 1 + (t : Int)) :: (one ++ other))).length := by
                    rw [flat_const (c := (WA r x (n - 1 - t) (a + 2 + t)).length) (fun y _ => List.length_map ..), flat_const (c := (WA r x (n - 1 - t) (a + 2 + t)).length) (fun y _ => List.length_map ..)]
                    exact Nat.mul_le_mul_right _ (by rw [List.length_take]; omega)
                  rw [etake, List.length_append, List.length_map] at e1
                  rw [List.length_append, List.length_append] at h7l
                  omega
                refine ⟨lf, G, us', vs8, rfl, rfl, k8 _ _ hL7, hL8, szL (by omega), ?_⟩
                have tk9 : TupK H8 (upd H8 lf (.lst (us' ++ vs8))) := tk_kpl (k8 _ _ hL7) Kp.at
                refine ⟨_, us' ++ vs8, rfl, upd_same, ?_, (k7.trans (Kp.ext k8)).trans Kp.at⟩
                rw [etake, ← List.append_assoc]
                exact paired_app (paired_imp (fun _ _ => FoAt.mono _ _ _ _ ((TupK.ext k8).trans tk9)) hP7) (paired_imp (fun _ _ => FoAt.mono _ _ _ _ tk9) hP8)
              · obtain ⟨y8, us', rfl, hL7, hP7, k7⟩ := hv
                refine ⟨_, _, _, us', kvs6, rfl, hL7, ?_, k7 _ _ (fun z => nfD z.symm) hD6, hK6.kpf of6 hlf6 k7, of6, kp6.via hlfH k7, out6⟩
                rw [h4l, List.take_length, ← es, List.append_assoc, ← eflat] at hP7
                exact hP7
            · have es : seg r x (WA r x) n a t = [] := by
                unfold seg
                rw [if_neg em]
              refine ⟨_, _, _, us, kvs3, rfl, k4 _ _ hL3, ?_, k4 _ _ hD3, hK3.kp hD3 (Kp.ext k4), of3, kp3.trans (Kp.ext k4), out3⟩
              rw [eflat, es, List.append_nil]
              exact paired_imp (fun _ _ => FoAt.mono _ _ _ _ (TupK.ext k4)) hP3
          · obtain ⟨y6, y7, y8, us, kvs3, rfl, hL3, hP3, hD3, hK3, of3, kp3, out3⟩ := hv
            rw [show (b - (a + 1)).toNat = n by omega, ← WA_succ, ← hn] at hP3
            refine ⟨_, rfl, _, rfl, _, rfl, _, rfl, szL (show 2 ≤ 1000000 by decide), fun t8 ht8 => ?_⟩
            have x8 := Ext.new (o := .tup [.int a, .int b]) ht8
            have hK8 := hK3.kp hD3 (Kp.ext x8)
            have hg : ([.inl a, .inl b] : List Key) ∈ grid := grid_mem a0 (by omega) (by omega) (by omega)
            have k8D := hK8.put (x8 _ _ hD3) (x8 _ _ hL3) (paired_imp (fun _ _ => FoAt.mono _ _ _ _ (TupK.ext x8)) hP3) hg
            refine ⟨D, _, rfl, DPut.t (k := [.inl a, .inl b]) (x8 _ _ hD3) upd_same (szLt (by have := hK8.len; omega)), ?_⟩
            refine ⟨_, rfl, _, rfl, _, rfl, szL (show 2 ≤ 1000000 by decide), fun t9 ht9 => ?_⟩
            have ev : valV (putK kvs3 [.inl a, .inl b] (.ref lf)) [.inl a, .inl b] = some (.ref lf) := by
              rw [valV_put, if_pos rfl]
            refine ⟨D, .ref lf, rfl, ev ▸ DGet.t (k := [.inl a, .inl b]) (Ext.new ht9 _ _ upd_same) upd_same, ?_⟩
            refine fin ((kp3.trans (Kp.ext x8)).trans Kp.at) upd_same k8D ev (fun p o hp ho k vv e z => ?_) ht9
            rw [valV_put] at e
            by_cases c : k = [.inl a, .inl b]
            · rw [if_pos c] at e
              cases e
              cases z
              rw [hlfH] at hp
              cases hp
            · rw [if_neg c] at e
              exact out3 p o hp ho k vv e z
end
end Pf


namespace Pf
open PySem PySem.Spec PyProof.Rows L2
/-! ### sorted lists of the same things are the same, where keys tell them apart -/
theorem sort_eq {β : Type} (k : β → PyData) (inj : ∀ a b, PySem.W.keyToks (k a) = PySem.W.keyToks (k b) → a = b) {l l' : List β} (p : l.Perm l') : l.mergeSort (PySem.W.dataLe false k) = l'.mergeSort (PySem.W.dataLe false k) := by
  have T := PySem.W.sortLe_total (listOrd itemOrd) false fun z : β => PySem.W.keyToks (k z)
  have tot : ∀ a b : β, (PySem.W.dataLe false k a b || PySem.W.dataLe false k b a) = true := fun a b => by
    rcases T.total a b with h | h
    · rw [show PySem.W.dataLe false k a b = true from h]
      rfl
    · rw [show PySem.W.dataLe false k b a = true from h, Bool.or_true]
  have p1 := List.pairwise_mergeSort (le := PySem.W.dataLe false k) T.trans tot l
  have p2 := List.pairwise_mergeSort (le := PySem.W.dataLe false k) T.trans tot l'
  refine List.Perm.eq_of_pairwise (fun a b _ _ x y => ?_) p1 p2 (((List.mergeSort_perm l _).trans p).trans (List.mergeSort_perm l' _).symm)
  have x : (!(listOrd itemOrd).blt (PySem.W.keyToks (k b)) (PySem.W.keyToks (k a))) = true := x
  have y : (!(listOrd itemOrd).blt (PySem.W.keyToks (k a)) (PySem.W.keyToks (k b))) = true := y
  exact inj a b ((listOrd itemOrd).total _ _ (by simpa using y) (by simpa using x))
/-! ### foldings with their worths -/
abbrev Wf := Int × Fo
def dWf (y : Wf) : PyData := .tuple [.int y.1, dFo y.2]
def WfAt (H : Hp) (v : V) (y : Wf) : Prop := ∃ a u, v = .ref a ∧ H a = some (.tup [.int y.1, u]) ∧ FoAt H u y.2
theorem WfAt.mono : Mono WfAt := fun H H' v x k ⟨a, u, e, h, f⟩ => ⟨a, u, e, k.1 _ _ h, FoAt.mono _ _ _ _ k f⟩
theorem dp_wf {K : PySem.W.Frag} {H : Hp} {v : V} {y : Wf} (h : WfAt H v y) : Dp K H v (dWf y) := by
  obtain ⟨a, u, rfl, h1, h2⟩ := h
  exact .tup (SqT.of h1) (.cons (.int _) (.cons (dp_fo h2) .nil))
theorem dpWfs {K : PySem.W.Frag} {H : Hp} : ∀ {vs : List V} {L : List Wf}, Paired (WfAt H) vs L → DpAll K H vs (L.map dWf)
  | _, _, .nil => .nil
  | _, _, .cons h t => .cons (dp_wf h) (dpWfs t)
theorem dep_wf (y : Wf) : (dWf y).depth ≤ 3 := by
  unfold dWf
  have := dep_fo y.2
  simp only [PyData.depth, PyData.depthAll]
  omega
theorem toks_nil0 : PySem.W.keyToks (dFo []) = [.inl 0] := by
  simp [dFo, PySem.W.keyToks, PySem.W.keyToksAll]
theorem toks_cons0 (y : Int × Int) (q : Fo) : PySem.W.keyToks (dFo (y :: q)) = .inl 1 :: .inl 1 :: .inl y.1 :: .inl 1 :: .inl y.2 :: .inl 0 :: PySem.W.keyToks (dFo q) := by
  simp [dFo, dTwo, PySem.W.keyToks, PySem.W.keyToksAll]
theorem dFo_inj : ∀ a b : Fo, PySem.W.keyToks (dFo a) = PySem.W.keyToks (dFo b) → a = b
  | [], [], _ => rfl
  | [], y :: b, h => by
    rw [toks_nil0, toks_cons0] at h
    simp at h
  | y :: a, [], h => by
    rw [toks_nil0, toks_cons0] at h
    simp at h
  | y :: a, z :: b, h => by
    rw [toks_cons0, toks_cons0] at h
    simp only [List.cons.injEq, Sum.inl.injEq, true_and] at h
    obtain ⟨h1, h2, h3⟩ := h
    rw [dFo_inj a b h3, Prod.ext h1 h2]
theorem dWf_inj (a b : Wf) (h : PySem.W.keyToks (dWf a) = PySem.W.keyToks (dWf b)) : a = b := by
  have e : ∀ y : Wf, PySem.W.keyToks (dWf y) = .inl 1 :: .inl y.1 :: .inl 1 :: (PySem.W.keyToks (dFo y.2) ++ [.inl 0]) := fun y => by
    simp [dWf, PySem.W.keyToks, PySem.W.keyToksAll]
  rw [e, e] at h
  simp only [List.cons.injEq, Sum.inl.injEq, true_and, List.append_cancel_right_eq] at h
  exact Prod.ext h.1 (dFo_inj _ _ h.2)
def SW (L : List Wf) : List Wf := L.mergeSort (PySem.W.dataLe false dWf)
theorem SW_perm (L : List Wf) : (SW L).Perm L := List.mergeSort_perm _ _
theorem sort_wfs {K : PySem.W.Frag} {H : Hp} {l : Addr} {us : List V} {L : List Wf} {Q : VK} (hL : H l = some (.lst us)) (hP : Paired (WfAt H) us L) (q : ∀ (p : Addr) (ws : List V) (H' : Hp), H p = none → H' p = some (.lst ws) → Paired (WfAt H') ws (SW L) → Ext H H' → Q (.ref p) H') : rSortD K [.ref l] H Q := by
  have hz := paired_len hP
  have e1 : (us.zip L).map (·.1) = us := List.map_fst_zip (by omega)
  have e2 : (us.zip L).map (·.2) = L := List.map_snd_zip (by omega)
  have hall : ∀ b ∈ us.zip L, WfAt H b.1 b.2 := by
    clear e1 e2 hz q hL
    induction hP with
    | nil => intro b hb; cases hb
    | cons r _ ih =>
      intro b hb
      rw [List.zip_cons_cons] at hb
      rcases List.mem_cons.mp hb with rfl | hb
      · exact r
      · exact ih b hb
  refine ⟨V × Wf, fun b => b.1, fun b => dWf b.2, l, us.zip L, rfl, SqL.of (by rw [e1]; exact hL), fun b hb => ⟨dp_wf (hall b hb), Nat.le_trans (dep_wf _) (by decide)⟩, ?_, ?_, fun p hp => ?_⟩
  · intro d1 h1 d2 h2
    obtain ⟨b1, _, rfl⟩ := List.mem_map.mp h1
    obtain ⟨b2, _, rfl⟩ := List.mem_map.mp h2
    show PySem.W.alike (.tuple [.int _, .tuple _]) (.tuple [.int _, .tuple _]) = true
    simp only [PySem.W.alike, PySem.W.alikeAll, alike_twos, Bool.and_true, Bool.true_and]
  · refine .inl fun e he => ?_
    obtain ⟨b1, _, rfl⟩ := List.mem_map.mp he
    exact ⟨_, _, rfl⟩
  · have x1 := Ext.new (o := .lst (((us.zip L).mergeSort (PySem.W.dataLe false fun b => dWf b.2)).map fun b => b.1)) hp
    refine q p _ _ hp upd_same ?_ x1
    have es : ((us.zip L).mergeSort (PySem.W.dataLe false fun b => dWf b.2)).map (·.2) = SW L := by
      have hm := List.map_mergeSort (r := PySem.W.dataLe false fun b : V × Wf => dWf b.2) (s := PySem.W.dataLe false dWf) (f := fun b : V × Wf => b.2) (l := us.zip L) (fun a _ b _ => rfl)
      rw [e2] at hm
      exact hm
    rw [← es]
    have hm : ∀ b ∈ (us.zip L).mergeSort (PySem.W.dataLe false fun b => dWf b.2), WfAt H b.1 b.2 := fun b hb => hall b ((List.mergeSort_perm _ _).mem_iff.mp hb)
    generalize (us.zip L).mergeSort (PySem.W.dataLe false fun b => dWf b.2) = S at hm x1
    have : ∀ {T : List (V × Wf)} {H2 : Hp}, (∀ b ∈ T, WfAt H b.1 b.2) → Ext H H2 → Paired (WfAt H2) (T.map (·.1)) (T.map (·.2)) := by
      intro T H2 hT hx
      induction T with
      | nil => exact .nil
      | cons b T ih => exact .cons (WfAt.mono _ _ _ _ (TupK.ext hx) (hT b (List.mem_cons_self ..))) (ih fun c hc => hT c (List.mem_cons_of_mem _ hc))
    exact this hm x1
theorem sum_add {α : Type} (f g : α → Int) : ∀ l : List α, (l.map fun y => f y + g y).sum = (l.map f).sum + (l.map g).sum
  | [] => rfl
  | y :: l => by
    rw [List.map_cons, List.map_cons, List.map_cons, List.sum_cons, List.sum_cons, List.sum_cons, sum_add f g l]
    omega
theorem woV_eq (r : Rl) (x : Str) (q : Fo) : lo r 8 * ((tops q).length : Int) + (q.map (pV1 r x q)).sum = woV r x q := by
  unfold woV
  rw [show (q.map (pV1 r x q)).sum = _ from sum_add (fun y => pwI r.prs (tx2 x y)) (fun y => lpW r x y (strC q y.1 y.2)) q, Int.mul_comm]
  omega
def wR (r : Rl) (x : Str) : List Wf := (WA r x x.length 0).map fun q => (woV r x q, q)
theorem ext_fresh {D : Addr} {H H1 H2 : Hp} (hD : H D = none) (x : Ext H H1) (k : Kp D H1 H2) : Ext H H2 := fun b o e => k b o (fun z => by rw [z, hD] at e; cases e) (x b o e)
section
variable {P : Program} {w : World} {K : PySem.W.Frag} {mg : Str → Option Value} {base : Heap}
abbrev CAllN (P : Program) (w : World) (K : PySem.W.Frag) (mg : Str → Option Value) (base : Heap) : Prop := Ca P w K mg base 15 "_law_all" ["_law_code_here", "_law_page_here", "_law_first", "_law_last", "_law_known"] (spAllN 13)
abbrev s_law_rows : Stmt := topS 40
theorem sc_law_rows : FnScope ["_law_code_here", "_law_page_here", "_law_every", "_law_one"] ["_law_code_here", "_law_page_here"] (defScope s_law_rows) :=
  ⟨rfl, rfl, rfl, by decide +kernel, rfl, by decide +kernel, by decide +kernel⟩
def spRowsL : Sp := fun vs H Q _ => ∃ (v : V) (r : Rl) (x : Str), vs = [v, .str x] ∧ RulesAt H v r ∧ RlOk r ∧ x.length ≤ 12 ∧ Of r.letters x ∧
  ∀ (l : Addr) (us : List V) (H' : Hp), H l = none → H' l = some (.lst us) → Paired (WfAt H') us (SW (wR r x)) → Ext H H' → Q (.ref l) H'
theorem ok_rowsL {f : Addr} {fd : FuncData} (F : Fun K "_law_rows" "_law_rows" s_law_rows f fd) (c_law_all : CAllN P w K mg base) (c_law_worth : CValL P w K mg base) (mlen : mg "len" = none) (msorted : mg "sorted" = none) : FnOk P w K mg base CX0 16 f fd ["_law_code_here", "_law_page_here"] spRowsL := by
  refine F.ok sc_law_rows (fun vs H Q E h => ?_) (fun cdv A outer s H vs Q E hr h => ?_)
  · obtain ⟨v, r, x, rfl, _⟩ := h
    rfl
  · obtain ⟨v, r, x, rfl, hR, ok, hx, hO, q⟩ := h
    refine ⟨_, (pss_cons (ps_set (i := 2) sc_law_rows.nd rfl (.inl rfl) (pe_ca c_law_all (hr.mono (by decide)) (by rfl) (pa_cons (pv 0) (pa_cons (pv 1) (pa_cons pe_int (pa_cons (pe_callB call_len_str (by rfl) mlen (by decide +kernel) (pa_cons (pv 1) pa_nil)) (pa_cons pe_dnewT pa_nil)))))))
      (pss_one (ps_ret (pe_callB (cr_sortD K hr.units) (by rfl) msorted (by decide +kernel) (pa_cons (pe_lc (own := [("_law_one", 3)]) (g := gName 3) (by rfl) sc_law_rows.nd (pi_list (pv 2)) (blkOk_by (own := [("_law_one", 3)]) (N := ["_law_code_here", "_law_page_here", "_law_every", "_law_one"]) (sc := defScope s_law_rows) (by decide +kernel)) (fun _ _ _ _ _ => (pg_name (i := 3) sc_law_rows.nd rfl (.inl rfl))) (fun _ _ _ _ _ => pts_nil) (fun _ _ _ _ _ => (pe_tup (pa_cons (pe_ca c_law_worth (hr.mono (by decide)) (by rfl) (pa_cons (pv 0) (pa_cons (pv 1) (pa_cons (pv 3) pa_nil)))) (pa_cons (pv 3) pa_nil))))) pa_nil))))), ?_⟩
    refine ⟨_, rfl, _, rfl, _, rfl, x, rfl, szL (by omega), fun D hD => ?_⟩
    have xD := Ext.new (o := .dT []) hD
    refine ⟨v, r, x, 0, (x.length : Int), D, [], rfl, RulesAt.mono _ _ _ _ (TupK.ext xD) hR, ok, hx, by decide, by omega, Int.le_refl _, by omega, upd_same, ⟨fun a b v e => (by cases e), fun k v e => (by cases e), .nil, fun k h => (by cases h)⟩, fun l us kvs' H1 hL hP hD1 hK1 k1 _ => ?_⟩
    have x1 : Ext H H1 := ext_fresh hD xD k1
    rw [show ((x.length : Int) - 0).toNat = x.length by omega] at hP
    have hul := paired_len hP
    have hwl := WA_len r x hx 0
    refine ⟨_, rfl, l, rfl, ⟨_, SqL.of hL⟩, fun G hG => lc_list (K := K) (xs := us) (GenP WfAt G H1 (wR r x)) (gen_new hG) (fun i H2 _ h => SqL.of (h.ext _ _ hL)) (fun i u H2 hi hv => ?_) (fun H2 hv => ?_)⟩
    · obtain ⟨one, hone, hF⟩ := paired_get hP hi
      have k2 := hv.ext
      have hF2 := FoAt.mono _ _ _ _ (TupK.ext k2) hF
      refine ⟨rfl, _, rfl, _, rfl, _, rfl, v, u, r, x, one, rfl, RulesAt.mono _ _ _ _ (TupK.ext (x1.trans k2)) hR, ok, hx, hO, hF2, List.mem_of_getElem? hone, fun H3 k3 => ?_⟩
      rw [woV_eq]
      refine ⟨_, rfl, szL (show 2 ≤ 1000000 by decide), fun t ht => ?_⟩
      have x4 := Ext.new (o := .tup [.int (woV r x one), u]) ht
      refine gen_step WfAt.mono hG hv (k3.trans x4) (b := (woV r x one, one)) ⟨t, u, rfl, upd_same, FoAt.mono _ _ _ _ (TupK.ext (k3.trans x4)) hF2⟩ ?_ ?_
      · unfold wR
        rw [List.getElem?_map, hone]
        rfl
      · unfold wR
        rw [List.length_map]
        omega
    obtain ⟨vs2, hL2, hP2, k2⟩ := gen_end hv (by unfold wR; rw [List.length_map]; omega)
    delta tNil
    exact sort_wfs hL2 hP2 fun p ws H3 hp hp2 hP3 k3 => q p ws H3 ((x1.trans k2).none hp) hp2 hP3 ((x1.trans k2).trans k3)
abbrev CRowsL (P : Program) (w : World) (K : PySem.W.Frag) (mg : Str → Option Value) (base : Heap) : Prop := Ca P w K mg base 16 "_law_rows" ["_law_code_here", "_law_page_here"] spRowsL
abbrev s_with_worths : Stmt := topS 23
theorem sc_with_worths : FnScope ["rules", "string", "folding"] ["rules", "string"] (defScope s_with_worths) :=
  ⟨rfl, rfl, rfl, by decide +kernel, rfl, by decide +kernel, by decide +kernel⟩
def spWW : Sp := fun vs H Q _ => ∃ (v : V) (r : Rl) (x : Str), vs = [v, .str x] ∧ RulesW H v r ∧ RlOk r ∧ x.length ≤ 12 ∧ Of r.letters x ∧
  ∀ (l : Addr) (us : List V) (H' : Hp), H l = none → H' l = some (.lst us) → Paired (WfAt H') us (SW (wR r x)) → Ext H H' → Q (.ref l) H'
theorem ok_ww {f : Addr} {fd : FuncData} (F : Fun K "with_worths" "with_worths" s_with_worths f fd) (call_foldings : CAF P w K mg base) (cworth_of : CWO P w K mg base) (msorted : mg "sorted" = none) : FnOk P w K mg base CX0 5 f fd ["rules", "string"] spWW := by
  refine F.ok sc_with_worths (fun vs H Q E h => ?_) (fun cdv A outer s H vs Q E hr h => ?_)
  · obtain ⟨v, r, x, rfl, _⟩ := h
    rfl
  · obtain ⟨v, r, x, rfl, hR, ok, hx, hO, q⟩ := h
    refine ⟨_, (pss_one (ps_ret (pe_callB (cr_sortD K hr.units) (by rfl) msorted (by decide +kernel) (pa_cons (pe_lc (own := [("folding", 2)]) (g := gName 2) (by rfl) sc_with_worths.nd (pi_list (pe_ca call_foldings (hr.mono (by decide)) (by rfl) (pa_cons (pv 0) (pa_cons (pv 1) pa_nil)))) (blkOk_by (own := [("folding", 2)]) (N := ["rules", "string", "folding"]) (sc := defScope s_with_worths) (by decide +kernel)) (fun _ _ _ _ _ => (pg_name (i := 2) sc_with_worths.nd rfl (.inl rfl))) (fun _ _ _ _ _ => pts_nil) (fun _ _ _ _ _ => (pe_tup (pa_cons (pe_ca cworth_of (hr.mono (by decide)) (by rfl) (pa_cons (pv 0) (pa_cons (pv 1) (pa_cons (pv 2) pa_nil)))) (pa_cons (pv 2) pa_nil))))) pa_nil)))), ?_⟩
    refine ⟨_, rfl, _, rfl, v, r, x, rfl, hR, hx, hO, fun l us H1 hl hL hP x1 => ?_⟩
    have hul := paired_len hP
    have hwl := WA_len r x hx 0
    have hsl : (SF (WA r x x.length 0)).length = (WA r x x.length 0).length := (List.mergeSort_perm _ _).length_eq
    refine ⟨l, rfl, ⟨_, SqL.of hL⟩, fun G hG => lc_list (K := K) (xs := us) (GenP WfAt G H1 ((SF (WA r x x.length 0)).map fun q => (woV r x q, q))) (gen_new hG) (fun i H2 _ h => SqL.of (h.ext _ _ hL)) (fun i u H2 hi hv => ?_) (fun H2 hv => ?_)⟩
    · obtain ⟨one, hone, hF⟩ := paired_get hP hi
      have k2 := hv.ext
      have hF2 := FoAt.mono _ _ _ _ (TupK.ext k2) hF
      have hm : one ∈ WA r x x.length 0 := (List.mergeSort_perm _ _).mem_iff.mp (List.mem_of_getElem? hone)
      have hmay := (fo4_of r x x.length 0 one hm).may
      refine ⟨rfl, _, rfl, _, rfl, _, rfl, v, u, r, x, one, r, rfl, RulesW.mono _ _ _ _ (TupK.ext (x1.trans k2)) hR, ok, by omega, hF2, hx, hm, fun y hy => may_pr (hmay y hy), fun H3 k3 => ?_⟩
      refine ⟨_, rfl, szL (show 2 ≤ 1000000 by decide), fun t ht => ?_⟩
      have x4 := Ext.new (o := .tup [.int (woV r x one), u]) ht
      refine gen_step WfAt.mono hG hv (k3.trans x4) (b := (woV r x one, one)) ⟨t, u, rfl, upd_same, FoAt.mono _ _ _ _ (TupK.ext (k3.trans x4)) hF2⟩ ?_ ?_
      · rw [List.getElem?_map, hone]
        rfl
      · rw [List.length_map]
        omega
    obtain ⟨vs2, hL2, hP2, k2⟩ := gen_end hv (by rw [List.length_map]; omega)
    delta tNil
    have es : SW ((SF (WA r x x.length 0)).map fun q => (woV r x q, q)) = SW (wR r x) := sort_eq dWf dWf_inj ((List.mergeSort_perm _ _).map _)
    exact sort_wfs hL2 hP2 fun p ws H3 hp hp2 hP3 k3 => q p ws H3 ((x1.trans k2).none hp) hp2 (es ▸ hP3) ((x1.trans k2).trans k3)
abbrev CWW (P : Program) (w : World) (K : PySem.W.Frag) (mg : Str → Option Value) (base : Heap) : Prop := Ca P w K mg base 5 "with_worths" ["rules", "string"] spWW
end
end Pf


namespace Pf
open PySem PySem.Spec PyProof.Rows L2
/-! ### defs with arguments by name alone, and what stands in their place -/
structure CaN (P : Program) (w : World) (K : PySem.W.Frag) (mg : Str → Option Value) (base : Heap) (k : Nat) (x : Str) (ps : List Str) (n : Nat) (ks : List Str) (gV : List V → List V → List V) (sp : Sp) : Prop where
  ex : ∃ f fd g, FnOk P w K mg base CX0 k f fd ps sp ∧ mg x = some (.ref f) ∧ PySem.W.keepIn K (.ref f) = true ∧ KBn K fd ps n ks g gV
structure CaE (P : Program) (w : World) (K : PySem.W.Frag) (mg : Str → Option Value) (base : Heap) (k : Nat) (x : Str) (ps : List Str) (dvs : List V) (sp : Sp) : Prop where
  ex : ∃ f fd ds, FnOk P w K mg base CX0 k f fd ps sp ∧ mg x = some (.ref f) ∧ PySem.W.keepIn K (.ref f) = true ∧ Vals dvs ds ∧ Binds K fd ps ds
section
variable {X : Cx} {k n : Nat} {x : Str} {ps ks : List Str} {sp : Sp} {p pos : Pos} {e : Expr} {es : List Expr} {kws : List Keyword} {t tk : TA} {gV : List V → List V → List V} {dvs : List V}
theorem pe_caN (c : CaN X.prog X.w X.K X.mg X.base k x ps n ks gV sp) (hr : Room k X.A) (hg : Gl X x) (ha : PA X (e :: es) t) (hkw : PK X kws tk)
    (hall : (backToKw pos (keywordEach kws X.env)).all (·.1.isSome) = true := by rfl) (hks : (backToKw pos (keywordEach kws X.env)).filterMap (·.1) = ks := by rfl)
    (hdb : (x == ("__debug__" : Str)) = false := by decide) (he : starEach (e :: es) X.env = (false, eval e X.env) :: starEach es X.env := by rfl)
    (hpl : ((backTo pos (starEach (e :: es) X.env)).any (·.1) || (backToKw pos (keywordEach kws X.env)).any (·.1.isNone)) = false := by rfl) :
    PE X (.Call (.Name x p) (e :: es) kws pos) (tCallN n ks.length sp gV E0 t tk) := by
  obtain ⟨f, fd, g, F, hm, hk, hb⟩ := c.ex
  exact pe_callN F hr hg hm hk hb pass0 ha hkw hall hks hdb he hpl
theorem pe_caE (c : CaE X.prog X.w X.K X.mg X.base k x ps dvs sp) (hr : Room k X.A) (hg : Gl X x) (ha : PA X (e :: es) t) (hdb : (x == ("__debug__" : Str)) = false := by decide)
    (he : starEach (e :: es) X.env = (false, eval e X.env) :: starEach es X.env := by rfl) (hpl : (backTo pos (starEach es X.env)).any (·.1) = false := by rfl) :
    PE X (.Call (.Name x p) (e :: es) [] pos) (tCall sp dvs E0 t) := by
  obtain ⟨f, fd, ds, F, hm, hk, hv, hb⟩ := c.ex
  exact pe_call F hr hg hm hk hb hv pass0 ha hdb he hpl
end
def permA {α : Type} (js : List Nat) (l : List α) : List α := js.filterMap fun j => l[j]?
def permW (js : List Nat) (ms : List V) : List V → List V → List V := fun vs zs => permA js (vs ++ zs ++ ms)
theorem vals_at : ∀ {zs : List V} {ws : List Value} (j : Nat), Vals zs ws → (∃ z u, zs[j]? = some z ∧ ws[j]? = some u ∧ RelV z u) ∨ (zs[j]? = none ∧ ws[j]? = none)
  | _, _, _, .nil => .inr ⟨rfl, rfl⟩
  | _, _, 0, .cons r _ => .inl ⟨_, _, rfl, rfl, r⟩
  | _, _, j + 1, .cons _ t => by
    rw [List.getElem?_cons_succ, List.getElem?_cons_succ]
    exact vals_at j t
theorem permA_rel {zs : List V} {ws : List Value} (r : Vals zs ws) : ∀ js : List Nat, Vals (permA js zs) (permA js ws)
  | [] => .nil
  | j :: js => by
    unfold permA
    rcases vals_at j r with ⟨z, u, e1, e2, e3⟩ | ⟨e1, e2⟩
    · rw [List.filterMap_cons_some e1, List.filterMap_cons_some e2]
      exact .cons e3 (permA_rel r js)
    · rw [List.filterMap_cons_none e1, List.filterMap_cons_none e2]
      exact permA_rel r js
theorem kbn_kw {K : PySem.W.Frag} {x qual : Str} {params : Arguments} {body : List Stmt} {scope : Scope} {kws : List (Str × V)} {f : Addr} {fd : FuncData} {ps : List Str} (F : FunD K x qual params body scope [] kws f fd) (n : Nat) (ks : List Str) (ms : List (Str × V)) (js : List Nat) (hk : kws ≠ []) (hms : ∀ q ∈ ms, q ∈ kws)
    (h : ∀ (D : Addr) (doc pm : Value) (an : Option Addr) (cdv ct : Value) (us mv ws : List Value), us.length = n → mv.length = ms.length → ws.length = ks.length →
      KwChain D ((ms.map (·.1)).zip mv) (bindArgs (PySem.W.fnOf x qual params body scope .none (.ref D) doc pm an cdv ct) ⟨us, ks.zip ws⟩) (ps.zip (permA js (us ++ ws ++ mv)))) : ∃ g, KBn K fd ps n ks g (permW js (ms.map (·.2))) := by
  obtain ⟨mv, hb⟩ := F.kbinds0 (ps := ps) n ks ms (fun {α} vs mz zs => permA js (vs ++ zs ++ mz)) hk hms (fun r1 r2 r3 => permA_rel ((r1.append r3).append r2) js) h
  exact ⟨_, hb⟩
end Pf


namespace Pf
open PySem PySem.Spec PyProof.Rows L2
/-! ### near the least -/
def nearW (rows : List Wf) (far : Int) : List Wf := rows.filter fun y => decide (y.1 ≤ (rows.head?.map (·.1)).getD 0 + far)
theorem take_filtW {w : List Wf} {c : Nat} {y : Wf} {p : Wf → Bool} (h : w[c]? = some y) : (w.take (c + 1)).filter p = (w.take c).filter p ++ (if p y = true then [y] else []) := by
  rw [List.take_add_one, h, List.filter_append]
  congr 1
  by_cases e : p y = true
  · rw [if_pos e]
    exact List.filter_cons_of_pos e
  · rw [if_neg e]
    exact List.filter_cons_of_neg e
theorem filt_len {w : List Wf} {c : Nat} {p : Wf → Bool} : ((w.take c).filter p).length ≤ c := by
  have h1 := List.length_filter_le p (w.take c)
  rw [List.length_take] at h1
  omega
section
variable {P : Program} {w : World} {K : PySem.W.Frag} {mg : Str → Option Value} {base : Heap}
abbrev s_law_within : Stmt := topS 41
theorem sc_law_within : FnScope ["_law_rows_here", "_law_far", "_law_row"] ["_law_rows_here", "_law_far"] (defScope s_law_within) :=
  ⟨rfl, rfl, rfl, by decide +kernel, rfl, by decide +kernel, by decide +kernel⟩
def spWthL : Sp := fun vs H Q _ => ∃ (l : Addr) (us : List V) (rows : List Wf) (far : Int), vs = [.ref l, .int far] ∧ H l = some (.lst us) ∧ Paired (WfAt H) us rows ∧ rows.length ≤ 20000 ∧
  ∀ (p : Addr) (ws : List V) (H' : Hp), H p = none → H' p = some (.lst ws) → Paired (WfAt H') ws (nearW rows far) → Ext H H' → Q (.ref p) H'
theorem ok_wthL {f : Addr} {fd : FuncData} {k : Nat} (F : Fun K "_law_within" "_law_within" s_law_within f fd) : FnOk P w K mg base CX0 (k + 1) f fd ["_law_rows_here", "_law_far"] spWthL := by
  refine F.ok sc_law_within (fun vs H Q E h => ?_) (fun cdv A outer s H vs Q E hr h => ?_)
  · obtain ⟨l, us, rows, far, rfl, _⟩ := h
    rfl
  · obtain ⟨l, us, rows, far, rfl, hL, hP, hn, q⟩ := h
    refine ⟨_, (pss_one (ps_ret (pe_lc (own := [("_law_row", 2)]) (g := gName 2) (by rfl) sc_law_within.nd (pi_list (pv 0)) (blkOk_by (own := [("_law_row", 2)]) (N := ["_law_rows_here", "_law_far", "_law_row"]) (sc := defScope s_law_within) (by decide +kernel)) (fun _ _ _ _ _ => (pg_name (i := 2) sc_law_within.nd rfl (.inl rfl))) (fun _ _ _ _ _ => (pts_one (pt_cmpR op_le (pe_ix (ixT K) (pv 2) pe_int (fun _ _ => rfl)) (pe_op op_add (pe_ix (ixT K) (pe_ix (ixL K) (pv 0) pe_int (fun _ _ => rfl)) pe_int (fun _ _ => rfl)) (pv 1)) (nomark _)))) (fun _ _ _ _ _ => (pv 2))))), ?_⟩
    have hul := paired_len hP
    refine ⟨_, rfl, l, rfl, ⟨_, SqL.of hL⟩, fun G hG => lc_list (K := K) (xs := us) (fun c H2 => GenL WfAt G H ((rows.take c).filter fun y => decide (y.1 ≤ (rows.head?.map (·.1)).getD 0 + far)) H2) (genl_new hG) (fun i H2 _ h => SqL.of (h.ext _ _ hL)) (fun i u H2 hi hv => ?_) (fun H2 hv => ?_)⟩
    · obtain ⟨y, hy, hW⟩ := paired_get hP hi
      have k2 := hv.ext
      obtain ⟨a, uf, rfl, ha, hF⟩ := WfAt.mono _ _ _ _ (TupK.ext k2) hW
      obtain ⟨y0, t0, rfl⟩ : ∃ y0 t0, rows = y0 :: t0 := by
        cases rows with
        | nil => cases hy
        | cons y0 t0 => exact ⟨y0, t0, rfl⟩
      obtain ⟨u0, us0, rfl⟩ : ∃ u0 us0, us = u0 :: us0 := by
        cases us with
        | nil => cases hi
        | cons u0 us0 => exact ⟨u0, us0, rfl⟩
      obtain ⟨y0', e0, h0⟩ := paired_get hP (show (u0 :: us0)[0]? = some u0 from rfl)
      cases e0
      obtain ⟨a0, uf0, rfl, ha0, hF0⟩ := WfAt.mono _ _ _ _ (TupK.ext k2) h0
      have at0 : atI (V.ref a0 :: us0) 0 = some (.ref a0) := by
        rw [atI_get (by omega) (by rw [List.length_cons]; omega)]
        rfl
      have cl : i < (V.ref a0 :: us0).length := (List.getElem?_eq_some_iff.mp hi).1
      rw [take_filtW hy]
      refine ⟨rfl, _, rfl, a, _, 0, _, rfl, rfl, SqT.of ha, rfl, _, rfl, l, _, 0, _, rfl, rfl, SqL.of (k2 _ _ hL), at0, a0, _, 0, _, rfl, rfl, SqT.of ha0, rfl, _, rfl, _, _, rfl, rfl, _, _, rfl, rfl, _, rfl, ite2 (fun e1 => ?_) (fun e1 => ?_)⟩
      · rw [if_pos (show decide (y.1 ≤ (((y0 :: t0).head?).map (·.1)).getD 0 + far) = true from e1)]
        exact ⟨_, rfl, genl_step WfAt.mono hG hv Ext.refl ⟨a, uf, rfl, ha, hF⟩ (by have := filt_len (w := y0 :: t0) (c := i) (p := fun y => decide (y.1 ≤ (((y0 :: t0).head?).map (·.1)).getD 0 + far)); omega)⟩
      · rw [if_neg (show ¬ decide (y.1 ≤ (((y0 :: t0).head?).map (·.1)).getD 0 + far) = true from e1), List.append_nil]
        exact hv
    rw [List.take_of_length_le (by omega)] at hv
    obtain ⟨ws, hL2, hP2, k2⟩ := hv
    exact q G ws H2 hG hL2 hP2 k2
abbrev CWthL (P : Program) (w : World) (K : PySem.W.Frag) (mg : Str → Option Value) (base : Heap) : Prop := Ca P w K mg base 1 "_law_within" ["_law_rows_here", "_law_far"] spWthL
abbrev s_near : Stmt := topS 25
theorem sc_near : FnScope ["rules", "string", "more", "rows", "row"] ["rules", "string", "more"] (defScope s_near) :=
  ⟨rfl, rfl, rfl, by decide +kernel, rfl, by decide +kernel, by decide +kernel⟩
def spNear : Sp := fun vs H Q _ => ∃ (v : V) (r : Rl) (x : Str) (far : Int), vs = [v, .str x, .int far] ∧ RulesW H v r ∧ RlOk r ∧ x.length ≤ 12 ∧ Of r.letters x ∧
  ∀ (p : Addr) (ws : List V) (H' : Hp), H p = none → H' p = some (.lst ws) → Paired (WfAt H') ws (nearW (SW (wR r x)) far) → Ext H H' → Q (.ref p) H'
theorem ok_near {f : Addr} {fd : FuncData} (F : FunD K "near" "near" (defArgs s_near) (defBody s_near) (defScope s_near) [] [("more", .int 0)] f fd) (cwith_worths : CWW P w K mg base) : FnOk P w K mg base CX0 6 f fd ["rules", "string", "more"] spNear := by
  refine F.ok sc_near (fun vs H Q E h => ?_) (fun cdv A outer s H vs Q E hr h => ?_)
  · obtain ⟨v, r, x, far, rfl, _⟩ := h
    rfl
  · obtain ⟨v, r, x, far, rfl, hR, ok, hx, hO, q⟩ := h
    refine ⟨_, (pss_cons (ps_set (i := 3) sc_near.nd rfl (.inr rfl) (pe_ca cwith_worths (hr.mono (by decide)) (by rfl) (pa_cons (pv 0) (pa_cons (pv 1) pa_nil))))
      (pss_one (ps_ret (pe_lc (own := [("row", 4)]) (g := gName 4) (by rfl) sc_near.nd (pi_list (pv 3)) (blkOk_by (own := [("row", 4)]) (N := ["rules", "string", "more", "rows", "row"]) (sc := defScope s_near) (by decide +kernel)) (fun _ _ _ _ _ => (pg_name (i := 4) sc_near.nd rfl (.inl rfl))) (fun _ _ _ _ _ => (pts_one (pt_cmpR op_le (pe_ix (ixT K) (pv 4) pe_int (fun _ _ => rfl)) (pe_op op_add (pe_ix (ixT K) (pe_ix (ixL K) (pv 3) pe_int (fun _ _ => rfl)) pe_int (fun _ _ => rfl)) (pv 2)) (nomark _)))) (fun _ _ _ _ _ => (pv 4)))))), ?_⟩
    refine ⟨_, rfl, _, rfl, v, r, x, rfl, hR, ok, hx, hO, fun l us H1 hl hL hP x1 => ?_⟩
    have hrl : (SW (wR r x)).length ≤ 15511 := by
      rw [(SW_perm _).length_eq]
      unfold wR
      rw [List.length_map]
      exact WA_len r x hx 0
    generalize SW (wR r x) = rows at hP hrl q
    have hul := paired_len hP
    refine ⟨_, rfl, l, rfl, ⟨_, SqL.of hL⟩, fun G hG => lc_list (K := K) (xs := us) (fun c H2 => GenL WfAt G H1 ((rows.take c).filter fun y => decide (y.1 ≤ (rows.head?.map (·.1)).getD 0 + far)) H2) (genl_new hG) (fun i H2 _ h => SqL.of (h.ext _ _ hL)) (fun i u H2 hi hv => ?_) (fun H2 hv => ?_)⟩
    · obtain ⟨y, hy, hW⟩ := paired_get hP hi
      have k2 := hv.ext
      obtain ⟨a, uf, rfl, ha, hF⟩ := WfAt.mono _ _ _ _ (TupK.ext k2) hW
      obtain ⟨y0, t0, rfl⟩ : ∃ y0 t0, rows = y0 :: t0 := by
        cases rows with
        | nil => cases hy
        | cons y0 t0 => exact ⟨y0, t0, rfl⟩
      obtain ⟨u0, us0, rfl⟩ : ∃ u0 us0, us = u0 :: us0 := by
        cases us with
        | nil => cases hi
        | cons u0 us0 => exact ⟨u0, us0, rfl⟩
      obtain ⟨y0', e0, h0⟩ := paired_get hP (show (u0 :: us0)[0]? = some u0 from rfl)
      cases e0
      obtain ⟨a0, uf0, rfl, ha0, hF0⟩ := WfAt.mono _ _ _ _ (TupK.ext k2) h0
      have at0 : atI (V.ref a0 :: us0) 0 = some (.ref a0) := by
        rw [atI_get (by omega) (by rw [List.length_cons]; omega)]
        rfl
      have cl : i < (V.ref a0 :: us0).length := (List.getElem?_eq_some_iff.mp hi).1
      rw [take_filtW hy]
      refine ⟨rfl, _, rfl, a, _, 0, _, rfl, rfl, SqT.of ha, rfl, _, rfl, l, _, 0, _, rfl, rfl, SqL.of (k2 _ _ hL), at0, a0, _, 0, _, rfl, rfl, SqT.of ha0, rfl, _, rfl, _, _, rfl, rfl, _, _, rfl, rfl, _, rfl, ite2 (fun e1 => ?_) (fun e1 => ?_)⟩
      · rw [if_pos (show decide (y.1 ≤ (((y0 :: t0).head?).map (·.1)).getD 0 + far) = true from e1)]
        exact ⟨_, rfl, genl_step WfAt.mono hG hv Ext.refl ⟨a, uf, rfl, ha, hF⟩ (by have := filt_len (w := y0 :: t0) (c := i) (p := fun y => decide (y.1 ≤ (((y0 :: t0).head?).map (·.1)).getD 0 + far)); omega)⟩
      · rw [if_neg (show ¬ decide (y.1 ≤ (((y0 :: t0).head?).map (·.1)).getD 0 + far) = true from e1), List.append_nil]
        exact hv
    rw [List.take_of_length_le (by omega)] at hv
    obtain ⟨ws, hL2, hP2, k2⟩ := hv
    exact q G ws H2 (x1.none hG) hL2 hP2 (x1.trans k2)
abbrev CNearN (P : Program) (w : World) (K : PySem.W.Frag) (mg : Str → Option Value) (base : Heap) : Prop := CaN P w K mg base 6 "near" ["rules", "string", "more"] 2 ["more"] (permW [0, 1, 2] []) spNear
abbrev CNearE (P : Program) (w : World) (K : PySem.W.Frag) (mg : Str → Option Value) (base : Heap) : Prop := CaE P w K mg base 6 "near" ["rules", "string", "more"] [.int 0] spNear
abbrev CNearK (P : Program) (w : World) (K : PySem.W.Frag) (mg : Str → Option Value) (base : Heap) : Prop := CaK P w K mg base 6 "near" ["rules", "string", "more"] ["string", "rules", "more"] (permW [1, 0, 2] []) spNear
end
end Pf


namespace Pf
open PySem PySem.Spec PyProof.Rows L2
/-! ### worths are small -/
theorem wid_b {ks : Fo} (h : ∀ y ∈ ks, 0 ≤ y.1 ∧ y.1 < y.2 ∧ y.2 < 12) : 0 ≤ wid ks ∧ wid ks ≤ 12 * (ks.length : Int) := by
  induction ks with
  | nil => exact ⟨by decide, by decide⟩
  | cons y r ih =>
    have h1 := h y (List.mem_cons_self ..)
    have h2 := ih fun z hz => h z (List.mem_cons_of_mem _ hz)
    rw [wid_cons, List.length_cons]
    omega
theorem mul_b {a b : Int} {n : Nat} (ha : -(n : Int) ≤ a ∧ a ≤ n) (hb : -99 ≤ b ∧ b ≤ 99) : -(n * 99 : Int) ≤ a * b ∧ a * b ≤ n * 99 := by
  have h1 : (a * b).natAbs ≤ n * 99 := by
    rw [Int.natAbs_mul]
    exact Nat.mul_le_mul (by omega) (by omega)
  omega
theorem lpW_b {r : Rl} (ok : RlOk r) (x : Str) {one : Int × Int} {ks : Fo} (h1 : 0 ≤ one.1 ∧ one.1 < one.2 ∧ one.2 < 12) (hk : ∀ y ∈ ks, 0 ≤ y.1 ∧ y.1 < y.2 ∧ y.2 < 12) (hl : ks.length ≤ 6) : -100000 < lpW r x one ks ∧ lpW r x one ks < 100000 := by
  have hw := wid_b hk
  have hf : -(100 : Nat) ≤ freeI one ks ∧ freeI one ks ≤ (100 : Nat) := by
    unfold freeI
    omega
  have b0 := lo_bound ok (show 0 < 9 by decide)
  have b1 := lo_bound ok (show 1 < 9 by decide)
  have b2 := lo_bound ok (show 2 < 9 by decide)
  have b3 := lo_bound ok (show 3 < 9 by decide)
  have b4 := lo_bound ok (show 4 < 9 by decide)
  have b5 := lo_bound ok (show 5 < 9 by decide)
  have b6 := lo_bound ok (show 6 < 9 by decide)
  have b7 := lo_bound ok (show 7 < 9 by decide)
  have m2 := mul_b hf b2
  have m5 := mul_b hf b5
  have m7 := mul_b hf b7
  have m4 := mul_b (a := (ks.length : Int)) (n := 6) ⟨by omega, by omega⟩ b4
  have sw := swI_bound (fun y hy => (ok.st y hy).2.2) (tx2 x one) (tx2 x (ks.headD (0, 0)))
  unfold lpW
  split
  · omega
  · split
    · omega
    · split
      · omega
      · omega
theorem sum_b {l : List Int} {n : Nat} (h : ∀ y ∈ l, -(n : Int) ≤ y ∧ y ≤ n) : -((n * l.length : Nat) : Int) ≤ l.sum ∧ l.sum ≤ ((n * l.length : Nat) : Int) := by
  induction l with
  | nil => exact ⟨by simp, by simp⟩
  | cons y r ih =>
    have h1 := h y (List.mem_cons_self ..)
    have h2 := ih fun z hz => h z (List.mem_cons_of_mem _ hz)
    rw [List.sum_cons, List.length_cons, Nat.mul_succ]
    omega
theorem pwI_bound {prs : List (Str × Int)} (h : ∀ y ∈ prs, -99 ≤ y.2 ∧ y.2 ≤ 99) (b : Str) : -99 ≤ pwI prs b ∧ pwI prs b ≤ 99 := by
  induction prs with
  | nil => exact ⟨by show -99 ≤ (0 : Int); decide, by show (0 : Int) ≤ 99; decide⟩
  | cons y r ih =>
    rw [pwI]
    by_cases e : y.1 = b
    · rw [if_pos e]
      exact h y (List.mem_cons_self ..)
    · rw [if_neg e]
      exact ih fun z hz => h z (List.mem_cons_of_mem _ hz)
theorem woV_b {r r0 : Rl} (ok : RlOk r) {x : Str} (hx : x.length ≤ 12) {q : Fo} (hq : q ∈ WA r0 x x.length 0) : -10000000 < woV r x q ∧ woV r x q < 10000000 := by
  obtain ⟨hin, hlen⟩ := WA_in r0 x x.length 0 q hq
  have hall : ∀ y ∈ q, 0 ≤ y.1 ∧ y.1 < y.2 ∧ y.2 < 12 := fun y hy => by
    have := hin y hy
    omega
  have tl := tops_len q
  have b8 := lo_bound ok (show 8 < 9 by decide)
  have m8 := mul_b (a := ((tops q).length : Int)) (n := 6) ⟨by omega, by omega⟩ b8
  have hs := sum_b (l := q.map (pV1 r x q)) (n := 100100) fun z hz => by
    obtain ⟨y, hy, rfl⟩ := List.mem_map.mp hz
    have hsl := str_len q y.1 y.2
    have h1 := lpW_b ok x (hall y hy) (ks := strC q y.1 y.2) (fun z hz => hall z (str_sub q y.1 y.2 z hz)) (by omega)
    have h2 := pwI_bound (fun z hz => (ok.pr z hz).2) (tx2 x y)
    unfold pV1
    omega
  rw [List.length_map] at hs
  have : 100100 * q.length ≤ 100100 * 6 := Nat.mul_le_mul_left _ (by omega)
  rw [← woV_eq, Int.mul_comm (lo r 8)]
  omega
theorem wR_in {r : Rl} {x : Str} {y : Wf} (h : y ∈ SW (wR r x)) : y.2 ∈ WA r x x.length 0 ∧ y.1 = woV r x y.2 := by
  have h := (SW_perm _).mem_iff.mp h
  unfold wR at h
  obtain ⟨q, hq, rfl⟩ := List.mem_map.mp h
  exact ⟨hq, rfl⟩
theorem wR_len {r : Rl} {x : Str} (hx : x.length ≤ 10) : (SW (wR r x)).length ≤ 2188 := by
  rw [(SW_perm _).length_eq]
  unfold wR
  rw [List.length_map]
  exact WA_len10 r x hx 0
theorem wR_pos (r : Rl) (x : Str) : 1 ≤ (SW (wR r x)).length := by
  rw [(SW_perm _).length_eq]
  unfold wR
  rw [List.length_map]
  obtain ⟨t, ht⟩ := WA_head r x x.length 0
  rw [ht, List.length_cons]
  omega
theorem near_sub (rows : List Wf) (far : Int) : ∀ y ∈ nearW rows far, y ∈ rows := fun y hy => (List.mem_filter.mp hy).1
theorem near_len (rows : List Wf) (far : Int) : (nearW rows far).length ≤ rows.length := List.length_filter_le _ _
theorem sm_wf {r : Rl} (ok : RlOk r) {x : Str} (hx : x.length ≤ 12) {y : Wf} (h : y ∈ SW (wR r x)) : Sm 158 3 (dWf y) := by
  obtain ⟨h1, h2⟩ := wR_in h
  have hb := woV_b ok hx h1
  have hi := WA_in r x x.length 0 y.2 h1
  rw [← h2] at hb
  refine Sm.tup (n := 2) (m := 78) (k := 2) (Nat.le_refl _) (fun d hd => ?_) (by decide)
  simp only [List.mem_cons, List.not_mem_nil, or_false] at hd
  rcases hd with rfl | rfl
  · exact (Sm.int (by omega) (by omega)).le (by decide) (by decide)
  · refine sm_fo (by omega) fun z hz => ?_
    have := hi.1 z hz
    omega
theorem sm_near {r : Rl} (ok : RlOk r) {x : Str} (hx : x.length ≤ 10) (far : Int) : Sm 1000000 4 (.list ((nearW (SW (wR r x)) far).map dWf)) := by
  have hl := near_len (SW (wR r x)) far
  have hl2 := wR_len (r := r) hx
  refine Sm.lst (n := 2188) (m := 158) (k := 3) (by rw [List.length_map]; omega) (fun d hd => ?_) (by decide)
  obtain ⟨y, hy, rfl⟩ := List.mem_map.mp hd
  exact sm_wf ok (by omega) (near_sub _ _ y hy)
/-! ### what was shown -/
def ShAt (p g : Addr) (H : Hp) (u : V) (r : Rl) (x : Str) : Prop := ∃ (t : Addr) (v : V) (l : Addr) (us : List V), u = .ref t ∧ H t = some (.tup [v, .str x, .ref l]) ∧ RulesAt H v r ∧ H l = some (.lst us) ∧ Paired (WfAt H) us (SW (wR r x)) ∧ l ≠ p ∧ l ≠ g
def ShOk (m : Nat) (p g : Addr) (H : Hp) (u : V) : Prop := ∃ (r : Rl) (x : Str), RlOk r ∧ Of r.letters x ∧ x.length ≤ m ∧ ShAt p g H u r x
theorem ShOk.go {m : Nat} {p g : Addr} {H H' : Hp} {u : V} (h : ShOk m p g H u) (tk : TupK H H') (k : ∀ l us, l ≠ p → l ≠ g → H l = some (.lst us) → H' l = some (.lst us)) : ShOk m p g H' u := by
  obtain ⟨r, x, h1, h2, h3, t, v, l, us, rfl, h4, h5, h6, h7, h8, h9⟩ := h
  exact ⟨r, x, h1, h2, h3, t, v, l, us, rfl, tk.1 _ _ h4, RulesAt.mono _ _ _ _ tk h5, k l _ h8 h9 h6, paired_imp (fun _ _ => WfAt.mono _ _ _ _ tk) h7, h8, h9⟩
theorem ShOk.kp {m : Nat} {p g : Addr} {H H' : Hp} {u : V} (h : ShOk m p g H u) (tk : TupK H H') (k : Kp p H H') : ShOk m p g H' u := h.go tk fun l _ n _ e => k l _ n e
theorem ShOk.put {m : Nat} {p g : Addr} {H : Hp} {u : V} {ys : List V} {o : HO} (h : ShOk m p g H u) (hg : H g = some (.lst ys)) : ShOk m p g (upd H g o) u := h.go ⟨fun b xs e => by rw [upd_ne (ne_of e hg (by intro z; cases z))]; exact e, fun b o u e => by rw [upd_ne (ne_of e hg (by intro z; cases z))]; exact e⟩ fun l _ _ n e => by rw [upd_ne n]; exact e
theorem ne_old {p l : Addr} {H : Hp} {o : HO} (h : H p = some o) (hl : H l = none) : l ≠ p := fun z => by
  rw [z, h] at hl
  cases hl
theorem Pen.some {H : Hp} {p c : Addr} {n : Nat} (h : Pen H p c n) : ∃ o, H p = some o := by
  obtain ⟨cells, a, r, h1, _⟩ := h
  exact ⟨_, h1⟩
end Pf


namespace Pf
open PySem PySem.Spec PyProof.Rows L2
/-! ### tuples of tuples as keys of a dict -/
structure NKind (prog : Program) (w : World) (α : Type) [DecidableEq α] where
  is : Heap → α → Addr → Prop
  hash : α → Int
  draws : α → Nat
  lev : Nat
  inj : ∀ {h : Heap} {a : Addr} {x y : α}, is h x a → is h y a → x = y
  keeps : ∀ {h h' : Heap} {k : α} {a d : Addr} {o : Obj} {es ep}, is h k a → h.get? d = some o → o.data = .dict es ep → Heap.SameBut d h h' → is h' k a
  pyHash : ∀ {A : Around} {E : Value → Shared → Prop} {s : Shared} {k : α} {a : Addr} {Q : Int → Shared → Prop}, A.units + lev < cLine → is s.heap k a → Q (hash k) { s with toks := s.toks + draws k } → wpAny (model prog w) A (PySem.pyHash (.ref a)) Q E s
  eqBool : ∀ {A : Around} {E : Value → Shared → Prop} {s : Shared} {x y : α} {a b : Addr} {Q : Bool → Shared → Prop}, A.units + lev < cLine → is s.heap x a → is s.heap y b → Q (decide (x = y)) s → wpAny (model prog w) A (PySem.eqBool (.ref a) (.ref b)) Q E s
  quiet : ∀ {A : Around} {E : Value → Shared → Prop} {s : Shared} {n : Nat} {k : α} {a : Addr} {Q : Bool → Shared → Prop}, lev < n → is s.heap k a → Q true s → wpAny (model prog w) A (eqIsQuiet n (.ref a)) Q E s
def NKind.kind {prog : Program} {w : World} {α : Type} [DecidableEq α] (N : NKind prog w α) (h8 : N.lev < 8) : HeapKind prog w α where
  is := N.is
  hash := N.hash
  draws := N.draws
  room := fun A => A.units + N.lev < cLine
  inj := N.inj
  keeps := N.keeps
  pyHash := N.pyHash
  eqBool := N.eqBool
  quiet := fun hk h => N.quiet h8 hk h
section
variable {prog : Program} {w : World} {α : Type} [DecidableEq α]
theorem quiet_flat {knd : KeyKind prog w α} {A : Around} {E : Value → Shared → Prop} {s : Shared} {n : Nat} {ks : List α} {a : Addr} {Q : Bool → Shared → Prop} (hn : 0 < n) (hk : IsTupleKey knd s.heap ks a) (h : Q true s) : wpAny (model prog w) A (eqIsQuiet n (.ref a)) Q E s := by
  obtain ⟨m, rfl⟩ : ∃ m, n = m + 1 := ⟨n - 1, by omega⟩
  have T := hk.typeIs
  obtain ⟨o, items, k, ho, _, hd, hi⟩ := hk
  unfold eqIsQuiet
  refine wpAny_bind (wpAny_specialOf T F.slot_tuple_eq.lookup ?_)
  show wpAny _ _ (isInstance (.ref a) (.type "tuple") >>= _) _ _ s
  refine wpAny_bind (wpAny_isInstance T isSubtype_tuple_tuple ?_)
  simp only [Bool.not_true, Bool.false_eq_true, if_false]
  refine wpAny_bind (wpAny_seqItems ho hd ?_)
  refine wpAny_bind ?_
  show wpAny _ _ (forIn items _ _) _ _ s
  rw [← Array.forIn_toList]
  refine wpAny_forIn_list _ (fun rest r t => r.1 = none ∧ t = s ∧ ∀ v ∈ rest, carriedByValue v = true) _ ?_ ?_ _ _ ⟨rfl, rfl, hi.byValue⟩
  · rintro v rest r t ⟨hr, rfl, all⟩
    rw [eqIsQuiet_byValue _ (all v List.mem_cons_self)]
    refine wpAny_bind (wpAny_pure ?_)
    simp only [Bool.not_true, Bool.false_eq_true, if_false]
    exact wpAny_pure ⟨rfl, rfl, fun u hu => all u (List.mem_cons_of_mem _ hu)⟩
  · rintro ⟨r1, r2⟩ t ⟨hr, rfl, _⟩
    simp only at hr
    subst hr
    exact wpAny_pure h
/-- flat tuples -/
def flatN (knd : KeyKind prog w α) : NKind prog w (List α) where
  is := IsTupleKey knd
  hash := tupleKeyHash knd
  draws := fun ks => ks.length + 1
  lev := 0
  inj := fun hx hy => hx.inj hy
  keeps := fun x ho hd hs => x.keeps ho hd hs
  pyHash := fun hu hk h => wpAny_pyHash_tuple hu hk h
  eqBool := fun hu hx hy h => wpAny_eqBool_tuple hu hx hy h
  quiet := fun hn hk h => quiet_flat hn hk h
variable (N : NKind prog w α)
inductive RefsAre (h : Heap) : List α → List Value → Prop
  | nil : RefsAre h [] []
  | cons {k : α} {b : Addr} {ks : List α} {vs : List Value} : N.is h k b → RefsAre h ks vs → RefsAre h (k :: ks) (.ref b :: vs)
def IsTupN (h : Heap) (ks : List α) (a : Addr) : Prop := ∃ o items n, h.get? a = some o ∧ o.cls = .type "tuple" ∧ o.data = .seq items n ∧ RefsAre N h ks items.toList
variable {N}
theorem RefsAre.inj {h : Heap} {x y : List α} {vs : List Value} (hx : RefsAre N h x vs) (hy : RefsAre N h y vs) : x = y := by
  induction hx generalizing y with
  | nil => cases hy; rfl
  | cons h1 _ ih =>
    cases hy with
    | cons h2 t2 => rw [N.inj h1 h2, ih t2]
theorem RefsAre.length {h : Heap} {x : List α} {vs : List Value} (hx : RefsAre N h x vs) : x.length = vs.length := by
  induction hx with
  | nil => rfl
  | cons _ _ ih => rw [List.length_cons, List.length_cons, ih]
theorem RefsAre.keeps {h h' : Heap} {d : Addr} {o : Obj} {es ep} (ho : h.get? d = some o) (hd : o.data = .dict es ep) (hs : Heap.SameBut d h h') {x : List α} {vs : List Value} (hx : RefsAre N h x vs) : RefsAre N h' x vs := by
  induction hx with
  | nil => exact .nil
  | cons h1 _ ih => exact .cons (N.keeps h1 ho hd hs) ih
theorem IsTupN.typeIs {s : Shared} {ks : List α} {a : Addr} (x : IsTupN N s.heap ks a) : s.TypeIs (.ref a) "tuple" := let ⟨o, _, _, ho, hc, _⟩ := x; ⟨o, ho, hc⟩
theorem IsTupN.inj {h : Heap} {a : Addr} {x y : List α} (hx : IsTupN N h x a) (hy : IsTupN N h y a) : x = y := by
  obtain ⟨o, items, n, ho, _, hd, hi⟩ := hx
  obtain ⟨o', items', n', ho', _, hd', hi'⟩ := hy
  obtain rfl : o = o' := Option.some.inj (ho.symm.trans ho')
  rw [hd] at hd'
  injection hd' with h1 _
  subst h1
  exact hi.inj hi'
theorem IsTupN.keeps {h h' : Heap} {ks : List α} {a d : Addr} {o : Obj} {es ep} (x : IsTupN N h ks a) (ho : h.get? d = some o) (hd : o.data = .dict es ep) (hs : Heap.SameBut d h h') : IsTupN N h' ks a := by
  obtain ⟨o', items, n, ho', hc, hd', hi⟩ := x
  have ne : a ≠ d := by
    rintro rfl
    obtain rfl : o' = o := Option.some.inj (ho'.symm.trans ho)
    rw [hd] at hd'
    exact nomatch hd'
  exact ⟨o', items, n, (hs.2 a ne).trans ho', hc, hd', hi.keeps ho hd hs⟩
def nHash (N : NKind prog w α) (ks : List α) : Int := reduceHash (Builtin.Tuple.tupleHashOf (ks.map N.hash))
def nDraws (N : NKind prog w α) (ks : List α) : Nat := (ks.map N.draws).sum + 1
theorem pyHash_n {A : Around} {E : Value → Shared → Prop} {s : Shared} {ks : List α} {a : Addr} {Q : Int → Shared → Prop} (hu : A.units + (N.lev + 1) < cLine) (hk : IsTupN N s.heap ks a) (h : Q (nHash N ks) { s with toks := s.toks + nDraws N ks }) : wpAny (model prog w) A (pyHash (.ref a)) Q E s := by
  have T := hk.typeIs
  obtain ⟨o, items, n, ho, _, hd, hi⟩ := hk
  unfold pyHash
  first | unfold pyHashByItsType | skip
  first | refine wpAny_bind (wpAny_cRoomFor_or (.inr (by omega)) ?_) | skip
  refine wpAny_bind (wpAny_specialOf T F.slot_tuple_hash.lookup ?_)
  show wpAny _ _ (if (some (Value.builtin "tuple.__hash__") == some Value.none) = true then _ else _) Q E s
  rw [if_neg (by rw [beq_builtin_none]; exact Bool.false_ne_true)]
  refine wpAny_bind (wpAny_specialOf T F.slot_tuple_hash.lookup ?_)
  show wpAny _ _ (callSpecialIfBoundUnlessNone? (.ref a) "__hash__" _ >>= _) Q E s
  refine wpAny_bind (wpAny_callSpecialIfBoundUnlessNone?_slot T F.slot_tuple_hash (wpAny_call_entry F.slot_tuple_hash T F.entry_tuple_hash ?_ (F.args_tuple_hash_1 _)))
  show wpAny _ _ (Builtin.Tuple.tupleItemsOf (.ref a) >>= _) _ _ s
  refine wpAny_bind (wpAny_tupleItemsOf ho hd ?_)
  refine wpAny_bind ?_
  rw [← Array.forIn_toList]
  refine wpAny_forIn_list _ (fun rest (b : Array Int) t => ∃ done left, ks = done ++ left ∧ RefsAre N s.heap left rest ∧ b.toList = done.map N.hash ∧ t = { s with toks := s.toks + (done.map N.draws).sum }) _ ?_ ?_ _ _ ⟨[], ks, rfl, hi, rfl, rfl⟩
  · rintro x rest b t ⟨done, left, rfl, hl, hb, rfl⟩
    cases hl with
    | @cons k c ks' _ h1 hl' =>
      refine wpAny_bind (N.pyHash (by show A.units + 1 + N.lev < cLine; omega) h1 ?_)
      have e : (({ s with toks := s.toks + (done.map N.draws).sum + N.draws k } : Shared)) = { s with toks := s.toks + ((done ++ [k]).map N.draws).sum } := by
        simp [Nat.add_assoc]
      first
        | exact wpAny_pure ⟨done ++ [k], ks', by simp, hl', by simp [hb], e⟩
        | exact wpAny_bind (wpAny_pure (wpAny_pure ⟨done ++ [k], ks', by simp, hl', by simp [hb], e⟩))
  · rintro b t ⟨done, left, rfl, hl, hb, rfl⟩
    cases hl
    rw [List.append_nil] at h
    show wpAny _ _ (retInt (Builtin.Tuple.tupleHashOf b.toList)) _ _ _
    rw [hb]
    refine wpAny_ret_mkInt ?_
    show wpAny _ _ (if (decide (-(2 : Int) ^ 63 ≤ Builtin.Tuple.tupleHashOf (done.map N.hash)) && decide (Builtin.Tuple.tupleHashOf (done.map N.hash) < 2 ^ 63)) = true then _ else _) Q E _
    unfold nHash nDraws reduceHash at h
    by_cases hr : (decide (-(2 : Int) ^ 63 ≤ Builtin.Tuple.tupleHashOf (done.map N.hash)) && decide (Builtin.Tuple.tupleHashOf (done.map N.hash) < 2 ^ 63)) = true
    · rw [if_pos hr]
      rw [if_pos hr] at h
      exact wpAny_pure (by simpa [Nat.add_assoc] using h)
    · rw [if_neg hr]
      rw [if_neg hr] at h
      exact wpAny_bind (wpAny_rule (wpAny_pure (by simpa [Nat.add_assoc] using h)))
theorem eq_tree_n {A : Around} {E : Value → Shared → Prop} {s : Shared} {x y : List α} {a b : Addr} {P : Fin → Shared → Prop} (hu : A.units + N.lev < cLine) (hx : IsTupN N s.heap x a) (hy : IsTupN N s.heap y b) (h : P (.done (.ret (.bool (decide (x = y))))) s) : wpAny (model prog w) A (Builtin.«tuple.__eq__» ⟨[.ref a, .ref b], []⟩) P E s := by
  have Tb := hy.typeIs
  obtain ⟨oa, xs, na, hoa, _, hda, hia⟩ := hx
  obtain ⟨ob, ys, nb, hob, _, hdb, hib⟩ := hy
  show wpAny _ _ (isInstance (.ref b) (.type "tuple") >>= _) _ _ s
  refine wpAny_bind (wpAny_isInstance Tb isSubtype_tuple_tuple ?_)
  simp only [Bool.not_true, Bool.false_eq_true, if_false]
  refine wpAny_bind (wpAny_tupleItemsOf hoa hda ?_)
  refine wpAny_bind (wpAny_tupleItemsOf hob hdb ?_)
  refine wpAny_bind ?_
  refine wpAny_forIn_list _ (fun rest r t => r.1 = none ∧ t = s ∧ ∃ x' y' xs' ys', rest = List.zip xs' ys' ∧ RefsAre N s.heap x' xs' ∧ RefsAre N s.heap y' ys' ∧ decide (x' = y') = decide (x = y) ∧ (xs'.length == ys'.length) = (xs.size == ys.size)) _ ?_ ?_ _ _ ⟨rfl, rfl, x, y, xs.toList, ys.toList, rfl, hia, hib, rfl, by simp⟩
  · rintro ⟨u, v⟩ rest r t ⟨hr, rfl, x', y', xs', ys', hz, hx', hy', hdec, hlen⟩
    cases hx' with
    | nil => simp at hz
    | @cons k1 c1 x'' xs'' h1 hx'' =>
      cases hy' with
      | nil => simp at hz
      | @cons k2 c2 y'' ys'' h2 hy'' =>
        simp only [List.zip_cons_cons, List.cons.injEq, Prod.mk.injEq] at hz
        obtain ⟨⟨rfl, rfl⟩, rfl⟩ := hz
        refine wpAny_bind (N.eqBool hu h1 h2 ?_)
        by_cases hk : k1 = k2
        · subst hk
          rw [decide_eq_true rfl]
          simp only [Bool.not_true, Bool.false_eq_true, if_false]
          refine wpAny_pure ⟨rfl, rfl, x'', y'', xs'', ys'', rfl, hx'', hy'', ?_, by simpa using hlen⟩
          rw [← hdec]
          by_cases hxy : x'' = y''
          · simp [hxy]
          · simp [hxy]
        · rw [decide_eq_false hk]
          simp only [Bool.not_false, if_true]
          have hf : decide (x = y) = false := by rw [← hdec]; simp [hk]
          rw [hf] at h
          exact wpAny_bind (wpAny_pure (wpAny_pure (wpAny_pure h)))
  · rintro ⟨r1, r2⟩ t ⟨hr, rfl, x', y', xs', ys', hz, hx', hy', hdec, hlen⟩
    simp only at hr
    subst hr
    refine wpAny_pure ?_
    have fin : (xs.size == ys.size) = decide (x = y) := by
      rw [← hdec, ← hlen]
      cases hx' with
      | nil =>
        cases hy' with
        | nil => simp
        | cons _ _ => simp
      | cons _ _ =>
        cases hy' with
        | nil => simp
        | cons _ _ => simp at hz
    show P (.done (.ret (.bool (xs.size == ys.size)))) t
    rw [fin]
    exact h
theorem eqBool_n {A : Around} {E : Value → Shared → Prop} {s : Shared} {x y : List α} {a b : Addr} {Q : Bool → Shared → Prop} (hu : A.units + (N.lev + 1) < cLine) (hx : IsTupN N s.heap x a) (hy : IsTupN N s.heap y b) (h : Q (decide (x = y)) s) : wpAny (model prog w) A (eqBool (.ref a) (.ref b)) Q E s := by
  unfold eqBool
  try with_reducible refine wpAny_holding ?_
  show wpAny _ _ (if (Value.ref a == Value.ref b) = true then _ else _) Q E s
  by_cases hab : (Value.ref a == Value.ref b) = true
  · rw [if_pos hab]
    have e : a = b := by have := eq_of_beq hab; injection this
    subst e
    obtain rfl := hx.inj hy
    exact wpAny_bind (wpAny_rule (wpAny_pure (by simpa using h)))
  · rw [if_neg hab]
    exact wpAny_bind (wpAny_richCompare_same_room (op := .Eq) hx.typeIs hy.typeIs F.slot_tuple_eq
      (wpAny_call_entry F.slot_tuple_eq hx.typeIs F.entry_tuple_eq (eq_tree_n (by show A.units + 1 + N.lev < cLine; omega) hx hy ⟨_, rfl, (fun e => nomatch e), wpAny_truthy_bool h⟩) (F.args_tuple_eq_2 _ _)) (by omega))
theorem quiet_n {A : Around} {E : Value → Shared → Prop} {s : Shared} {n : Nat} {ks : List α} {a : Addr} {Q : Bool → Shared → Prop} (hn : N.lev + 1 < n) (hk : IsTupN N s.heap ks a) (h : Q true s) : wpAny (model prog w) A (eqIsQuiet n (.ref a)) Q E s := by
  obtain ⟨m, rfl⟩ : ∃ m, n = m + 1 := ⟨n - 1, by omega⟩
  have T := hk.typeIs
  obtain ⟨o, items, k, ho, _, hd, hi⟩ := hk
  unfold eqIsQuiet
  refine wpAny_bind (wpAny_specialOf T F.slot_tuple_eq.lookup ?_)
  show wpAny _ _ (isInstance (.ref a) (.type "tuple") >>= _) _ _ s
  refine wpAny_bind (wpAny_isInstance T isSubtype_tuple_tuple ?_)
  simp only [Bool.not_true, Bool.false_eq_true, if_false]
  refine wpAny_bind (wpAny_seqItems ho hd ?_)
  refine wpAny_bind ?_
  show wpAny _ _ (forIn items _ _) _ _ s
  rw [← Array.forIn_toList]
  refine wpAny_forIn_list _ (fun rest r t => r.1 = none ∧ t = s ∧ ∃ left, RefsAre N s.heap left rest) _ ?_ ?_ _ _ ⟨rfl, rfl, ks, hi⟩
  · rintro v rest r t ⟨hr, rfl, left, all⟩
    cases all with
    | @cons k1 c1 l1 _ h1 hl =>
      refine wpAny_bind (N.quiet (by omega) h1 ?_)
      simp only [Bool.not_true, Bool.false_eq_true, if_false]
      exact wpAny_pure ⟨rfl, rfl, l1, hl⟩
  · rintro ⟨r1, r2⟩ t ⟨hr, rfl, _⟩
    simp only at hr
    subst hr
    exact wpAny_pure h
/-- tuples of such -/
def upN (N : NKind prog w α) : NKind prog w (List α) where
  is := IsTupN N
  hash := nHash N
  draws := nDraws N
  lev := N.lev + 1
  inj := fun hx hy => hx.inj hy
  keeps := fun x ho hd hs => x.keeps ho hd hs
  pyHash := fun hu hk h => pyHash_n hu hk h
  eqBool := fun hu hx hy h => eqBool_n hu hx hy h
  quiet := fun hn hk h => quiet_n hn hk h
end
end Pf


namespace Pf
open PySem PySem.Spec PyProof.Rows L2
/-! ### a dict by tuples of tuples -/
abbrev NK := List (List Key)
def nkN (P : Program) (w : World) : NKind P w NK := upN (flatN (mixKind P w))
def nkK (P : Program) (w : World) : HeapKind P w NK := (nkN P w).kind (show 1 < 8 by decide)
/-- its object: which keys (where they stand) and values it holds -/
def dnO (P : Program) (w : World) (D : Addr) (xs : List (NK × Addr × Value)) : HO := .ext fun h => xs.length ≤ sizeLine ∧ (D == sysModules) = false ∧ ∃ o es ep, h.get? D = some o ∧ o.ExactDict ∧ o.data = .dict es ep ∧ es.toList = xs.map (entryOfKey (nkK P w)) ∧ (xs.map (·.1)).Nodup
/-- a tuple of tuples in the heap -/
def NestAt (H : Hp) (a : Addr) (k : NK) : Prop := ∃ vs, H a = some (.tup vs) ∧ Paired (fun v ks => ∃ b, v = V.ref b ∧ H b = some (.tup (ks.map kV))) vs k
theorem NestAt.mono {H H' : Hp} {a : Addr} {k : NK} (t : TupK H H') (h : NestAt H a k) : NestAt H' a k := by
  obtain ⟨vs, e, p⟩ := h
  exact ⟨vs, t _ _ e, paired_imp (fun _ _ ⟨b, e1, e2⟩ => ⟨b, e1, t _ _ e2⟩) p⟩
def KN (H : Hp) (kvs : List (NK × V)) (xs : List (NK × Addr × Value)) : Prop := Paired (fun p q => p.1 = q.1 ∧ NestAt H q.2.1 p.1 ∧ RelV p.2 q.2.2) kvs xs
def DN (P : Program) (w : World) (H : Hp) (D : Addr) (kvs : List (NK × V)) : Prop := ∃ xs, H D = some (dnO P w D xs) ∧ KN H kvs xs
section
variable {P : Program} {w : World} {H : Hp} {h : Heap}
theorem nest_refs (ok : HOk P w H h) {vs : List V} {k : NK} (p : Paired (fun v ks => ∃ b, v = V.ref b ∧ H b = some (.tup (ks.map kV))) vs k) : ∀ {us : List Value}, Vals vs us → RefsAre (flatN (mixKind P w)) h k us := by
  induction p with
  | nil => intro us r; cases r; exact .nil
  | cons h1 _ ih =>
    intro us r
    cases r with
    | cons r1 rt =>
      obtain ⟨b, rfl, hb⟩ := h1
      cases r1
      exact .cons (key_of ok hb) (ih rt)
theorem nest_is (ok : HOk P w H h) {a : Addr} {k : NK} (hk : NestAt H a k) : (nkK P w).is h k a := by
  obtain ⟨vs, e, p⟩ := hk
  obtain ⟨_, its, r, o, h1, h2, n, h3⟩ := (show ObjOk P w H h a (.tup vs) from ok a _ e)
  exact ⟨o, its.toArray, n, h1, h2, h3, by simpa using nest_refs ok p r⟩
theorem kn_is (ok : HOk P w H h) {kvs : List (NK × V)} {xs : List (NK × Addr × Value)} (p : KN H kvs xs) : ∀ x ∈ xs, (nkK P w).is h x.1 x.2.1 := by
  induction p with
  | nil => intro x hx; cases hx
  | cons h1 _ ih =>
    intro x hx
    rcases List.mem_cons.mp hx with rfl | hx
    · obtain ⟨e, n, _⟩ := h1
      exact e ▸ nest_is ok n
    · exact ih x hx
theorem dn_of (ok : HOk P w H h) {D : Addr} {kvs : List (NK × V)} {xs : List (NK × Addr × Value)} (e : H D = some (dnO P w D xs)) (p : KN H kvs xs) : xs.length ≤ sizeLine ∧ (D == sysModules) = false ∧ h.DictOfH (nkK P w) D xs := by
  obtain ⟨⟨z, y, o, es, ep, h1, h2, h3, h4, h5⟩, _⟩ := (show ObjOk P w H h D (dnO P w D xs) from ok D _ e)
  exact ⟨z, y, o, es, ep, h1, h2, h3, h4, kn_is ok p, h5⟩
theorem dn_obj {H' : Hp} {D : Addr} {xs : List (NK × Addr × Value)} (z : xs.length ≤ sizeLine) (y : (D == sysModules) = false) (d : h.DictOfH (nkK P w) D xs) : ObjOk P w H' h D (dnO P w D xs) := by
  obtain ⟨o, es, ep, h1, h2, h3, h4, _, h5⟩ := d
  exact ⟨⟨z, y, o, es, ep, h1, h2, h3, h4, h5⟩, ⟨o, h1⟩, fun g1 g2 q st => by
    obtain ⟨z, y, o, es, ep, h1, h2⟩ := q
    exact ⟨z, y, o, es, ep, st _ h1, h2⟩⟩
/-- the empty one -/
theorem dn_nil (ok : HOk P w H h) {D : Addr} (e : H D = some (.dK []) ∨ H D = some (.dT [])) : (D == sysModules) = false ∧ h.DictOfH (nkK P w) D [] := by
  rcases e with e | e
  · obtain ⟨_, y, vs, r, o, es, ep, h1, h2, h3, h4, h5⟩ := dk_of ok e
    cases r
    have h6 : es.toList = [] := by
      obtain ⟨hp, _⟩ := h5
      generalize es.toList = l at hp
      cases hp
      rfl
    exact ⟨y, o, es, ep, h1, h2, h3, h6, fun x hx => (by cases hx), List.nodup_nil⟩
  · obtain ⟨_, y, xs, r, o, es, ep, h1, h2, h3, h4, _, h5⟩ := dt_of ok e
    cases r
    exact ⟨y, o, es, ep, h1, h2, h3, h4, fun x hx => (by cases hx), List.nodup_nil⟩
end
def lkN (kvs : List (NK × V)) (k : NK) : Option V := (kvs.find? fun x => decide (x.1 = k)).map (·.2)
theorem kn_at {H : Hp} {kvs : List (NK × V)} {xs : List (NK × Addr × Value)} (p : KN H kvs xs) (k : NK) : (lkN kvs k = none ∧ atKey xs k = none) ∨ ∃ v q, lkN kvs k = some v ∧ atKey xs k = some q ∧ RelV v q.2 := by
  induction p with
  | nil => exact .inl ⟨rfl, rfl⟩
  | @cons a b _ _ h1 _ ih =>
    obtain ⟨e, _, r⟩ := h1
    unfold lkN atKey at ih ⊢
    by_cases c : a.1 = k
    · refine .inr ⟨a.2, b.2, ?_, ?_, r⟩
      · rw [List.find?_cons_of_pos (by simpa using c)]
        rfl
      · rw [List.find?_cons_of_pos (by simpa using e ▸ c)]
        rfl
    · rw [List.find?_cons_of_neg (by simpa using c), List.find?_cons_of_neg (by simpa using fun z => c (e.trans z))]
      exact ih
theorem mut_tk {H : Hp} {D : Addr} {o : HO} (hm : Mut (H D)) : TupK H (upd H D o) := by
  refine ⟨fun b xs e => ?_, fun b o u e => ?_⟩
  · by_cases c : b = D
    · subst c
      rw [e] at hm
      exact hm.elim
    · rw [upd_ne c]
      exact e
  · by_cases c : b = D
    · subst c
      rw [e] at hm
      exact hm.elim
    · rw [upd_ne c]
      exact e
/-- d.setdefault(k, v) -/
def rSetN (P : Program) (w : World) : V → List V → Hp → VK → Prop := fun x vs H Q => ∃ (D a : Addr) (k : NK) (v : V) (kvs : List (NK × V)), x = .ref D ∧ vs = [.ref a, v] ∧ (DN P w H D kvs ∨ ((H D = some (.dK []) ∨ H D = some (.dT [])) ∧ kvs = [])) ∧ NestAt H a k ∧ kvs.length < sizeLine ∧
  (∀ u, lkN kvs k = some u → Q u H) ∧ (lkN kvs k = none → ∀ o, DN P w (upd H D o) D (kvs ++ [(k, v)]) → Q v (upd H D o))
theorem mt_setN {X : Cx} (hu : X.A.units + 64 < cLine) : MtM X "dict.setdefault" (rSetN X.prog X.w) := by
  intro pins s σ H x vs v us Q I rx rv h
  obtain ⟨D, a, k, y, kvs, rfl, rfl, hD, hk, hz, q1, q2⟩ := h
  cases rx
  obtain ⟨ua, uy, rfl, ra, ry⟩ : ∃ ua uy, us = [ua, uy] ∧ RelV (V.ref a) ua ∧ RelV y uy := by
    cases rv with
    | cons r1 rt =>
      cases rt with
      | cons r2 rn =>
        cases rn
        exact ⟨_, _, rfl, r1, r2⟩
  cases ra
  obtain ⟨xs, hp, hlen, hns, hd, hm⟩ : ∃ xs, KN H kvs xs ∧ xs.length ≤ sizeLine ∧ (D == sysModules) = false ∧ s.heap.DictOfH (nkK X.prog X.w) D xs ∧ Mut (H D) := by
    rcases hD with ⟨xs, e, p⟩ | ⟨e, rfl⟩
    · obtain ⟨z, y, d⟩ := dn_of I.hok e p
      exact ⟨xs, p, z, y, d, by rw [e]; exact True.intro⟩
    · obtain ⟨y, d⟩ := dn_nil I.hok e
      exact ⟨[], .nil, Nat.zero_le _, y, d, by rcases e with e | e <;> rw [e] <;> exact True.intro⟩
  have hroom : (nkK X.prog X.w).room X.A.in1 := by
    show X.A.units + 1 + 1 < cLine
    omega
  refine call_setdefault_heap (k := k) hroom (nest_is I.hok hk) hns hd (fun q hq => ?_) (fun hq h' hd' same => ?_) hlen
  · rcases kn_at hp k with ⟨_, e⟩ | ⟨v2, q2', e1, e2, r⟩
    · rw [hq] at e
      cases e
    · rw [hq] at e2
      cases e2
      exact ⟨v2, H, I.tok _, r, q1 v2 e1⟩
  · rcases kn_at hp k with ⟨e, _⟩ | ⟨v2, q2', e1, e2, r⟩
    · have hxl : xs.length = kvs.length := (Paired.length hp).symm
      rw [storedH_new hq] at hd'
      have I2 : Inv X pins σ (upd H D (dnO X.prog X.w D (xs ++ [(k, a, uy)]))) { s with heap := h', toks := s.toks + (nkK X.prog X.w).draws k } := by
        obtain ⟨ob, e1⟩ : ∃ ob, h'.get? D = some ob := by
          obtain ⟨o, _, _, e, _⟩ := hd'
          exact ⟨o, e⟩
        exact d_write I hm same ⟨ob, e1⟩ (dn_obj (by rw [List.length_append, List.length_singleton]; omega) hns hd')
      refine ⟨y, _, I2, ry, q2 e _ ⟨xs ++ [(k, a, uy)], upd_same, ?_⟩⟩
      have tk : TupK H (upd H D (dnO X.prog X.w D (xs ++ [(k, a, uy)]))) := mut_tk hm
      exact paired_app (paired_imp (fun _ _ ⟨z1, z2, z3⟩ => ⟨z1, z2.mono tk, z3⟩) hp) (.cons ⟨rfl, hk.mono tk, ry⟩ .nil)
    · rw [hq] at e2
      cases e2
/-! ### its values as a list -/
theorem values_raw {prog : Program} {w : World} (d : Addr) (hd : (d == sysModules) = false) :
    MeetsIn prog w (Builtin.«dict.values» ⟨[.ref d], []⟩) (fun _ R s => s.TypeIs (.ref d) "dict" ∧
      R (.ok (.ret (.ref s.heap.objs.size))) { s with heap := s.heap.push (DSub.viewOb "dict_values" d) }) :=
  .of_wp fun A R s ⟨ht, h⟩ => by
    refine wpAny_bind ?_
    unfold Builtin.Dict.noArgs
    refine wpAny_bind (wpAny_notOrdered_dict ht ?_)
    show wpAny _ _ (pure d) _ _ s
    refine wpAny_pure ?_
    show wpAny _ _ (Builtin.Dict.showsAll d >>= _) _ _ s
    unfold Builtin.Dict.showsAll
    rw [if_neg (by rw [hd]; exact Bool.false_ne_true)]
    refine wpAny_bind (wpAny_pure ?_)
    exact wpAny_bind (wpAny_newObj_type (wpAny_pure ⟨_, rfl, h⟩))
def rValsN (P : Program) (w : World) : V → List V → Hp → VK → Prop := fun x xs H Q => ∃ (D : Addr) (kvs : List (NK × V)), x = .ref D ∧ xs = [] ∧ DN P w H D kvs ∧ ∀ p, H p = none → Q (.ref p) (upd H p (viewO "dict_values" p D))
theorem mt_valsN {X : Cx} : MtM X "dict.values" (rValsN X.prog X.w) := by
  intro pins s σ H x xs v us Q I rx rxs h
  obtain ⟨D, kvs, rfl, rfl, ⟨ks, e, hp⟩, q⟩ := h
  cases rx
  cases rxs
  obtain ⟨hlen, hns, hd⟩ := dn_of I.hok e hp
  refine call_meetsIn PySem.F.slot_dict_values hd.typeIs PySem.F.entry_dict_values (PySem.F.args_dict_values_1 _) (values_raw D hns) ⟨hd.typeIs, ?_⟩
  exact ⟨.ref s.heap.objs.size, _, I.laid (t' := s.toks) (fun b u z => Heap.get?_push_of_some _ z) (Nat.le_refl _) (viewO_ok (Heap.get?_push_size _ rfl)), rfl, q _ (I.hok.fresh (Nat.le_refl _))⟩
theorem kdl_vals {prog : Program} {w : World} {v d : Addr} {ob : Obj} {es : Array DictEntry} {ep : Nat} (hdd : ob.data = .dict es ep) :
    PySem.W.KdlSrc prog w "dict_values" v d es.size (fun i u => ∃ en : DictEntry, es[i]? = some en ∧ u = en.val) (fun h => h.get? v = some (DSub.viewOb "dict_values" d) ∧ h.get? d = some ob) where
  type := fun _ hm => ⟨_, hm.1, rfl⟩
  there := fun _ hm => ⟨Heap.lt_size hm.1, Heap.lt_size hm.2⟩
  keep := fun _ _ hm hk => ⟨hk v (.inl rfl) _ hm.1, hk d (.inr rfl) _ hm.2⟩
  notList := by decide
  notTuple := by decide
  hint := fun _ _ s _ hm hq => PySem.W.kdl_hint_values (s := s) ⟨_, hm.1, rfl⟩ hq
  iter := fun _ s hh hm => ⟨_, _, (fun _ _ hq => DSub.iter_vals hm.1 hm.2 hdd hq), DSub.walksVal hh (Nat.ne_of_lt (Heap.lt_size hm.2)) hdd (fun i e he => ⟨e, he, rfl⟩), ⟨Heap.get?_push_size _ rfl, Heap.get?_push_of_some _ hm.2⟩⟩
def rListN (P : Program) (w : World) : List V → Hp → VK → Prop := fun xs H Q => ∃ (p D : Addr) (kvs : List (NK × V)), xs = [V.ref p] ∧ H p = some (viewO "dict_values" p D) ∧ DN P w H D kvs ∧ ∀ q, H q = none → Q (.ref q) (upd H q (.lst (kvs.map (·.2))))
theorem call_list_valsN {X : Cx} (hc : X.calm = true) : CallR X (.type "list") (rListN X.prog X.w) := by
  intro pins s σ H xs us Q I r h
  obtain ⟨p, D, kvs, rfl, hv, ⟨ks, e0, pr⟩, q⟩ := h
  obtain ⟨u, rfl, rx⟩ := r.one
  cases rx
  have hv : s.heap.get? p = some (DSub.viewOb "dict_values" D) := (show ObjOk X.prog X.w H s.heap p (viewO "dict_values" p D) from I.hok p _ hv).1
  obtain ⟨z, hs, o, es, ep, ho, hx, hdt, he, _, hn⟩ := dn_of I.hok e0 pr
  have l1 : es.size = ks.length := size_of_entries he
  have l2 : kvs.length = ks.length := Paired.length pr
  refine PySem.W.kdl_call (kdl_vals hdt) (I.ok.hd hc) ⟨hv, ho⟩ (by omega) fun h' tk acc' c' kp e it => ?_
  have rv : Vals (kvs.map (·.2)) acc'.toList := by
    have la : acc'.toList.length = es.size := by rw [Array.length_toList]; exact it.1
    refine vals_of_at (by rw [List.length_map]; omega) fun j x u h1 h2 => ?_
    obtain ⟨en, hen, hu⟩ := it.2 j u (by rw [← Array.getElem?_toList]; exact h2)
    rw [List.getElem?_map] at h1
    cases hj : kvs[j]? with
    | none => rw [hj] at h1; cases h1
    | some a =>
      rw [hj] at h1
      cases h1
      obtain ⟨b, hb, _, _, rb⟩ := paired_get pr hj
      have qe := entry_at he j
      rw [hen, hb] at qe
      have e2 : en = entryOfKey (nkK X.prog X.w) b := Option.some.inj qe
      rw [hu, e2]
      exact rb
  have hz : (kvs.map (·.2)).length ≤ sizeLine := by rw [List.length_map]; omega
  refine ⟨.ref s.heap.objs.size, _, I.laid (t' := tk) (o := .lst (kvs.map (·.2))) kp (Nat.le_refl _) ?_, rfl, q _ (I.hok.fresh (Nat.le_refl _))⟩
  exact ⟨hz, acc'.toList, c', rv, by rw [Array.toArray_toList]; exact e⟩
/-! ### methods of such a dict -/
def tyN (P : Program) (w : World) (x : V) (H : Hp) : Prop := ∃ D, x = V.ref D ∧ ((∃ xs, H D = some (dnO P w D xs)) ∨ H D = some (.dK []) ∨ H D = some (.dT []))
theorem tyN_is {X : Cx} {pins : List (Addr × Obj)} {σ : L2.St} {H : Hp} {s : Shared} {x : V} {v : Value} (I : Inv X pins σ H s) (r : RelV x v) (ty : tyN X.prog X.w x H) : s.TypeIs v "dict" ∧ ∀ a, v = .ref a → ∃ ob, s.heap.get? a = some ob ∧ ob.dict = none := by
  obtain ⟨D, rfl, h⟩ := ty
  cases r
  have z : ∃ o, s.heap.get? D = some o ∧ o.ExactDict := by
    rcases h with ⟨xs, e⟩ | e
    · obtain ⟨⟨_, _, o, _, _, h1, h2, _⟩, _⟩ := (show ObjOk X.prog X.w H s.heap D (dnO X.prog X.w D xs) from I.hok D _ e)
      exact ⟨o, h1, h2⟩
    · obtain ⟨_, o, _, _, h1, h2, _⟩ := dn_nil (P := X.prog) (w := X.w) I.hok e
      exact ⟨o, h1, h2⟩
  obtain ⟨o, e, ex⟩ := z
  exact ⟨⟨o, e, ex.1⟩, fun a e2 => by cases e2; exact ⟨o, e, ex.2.1⟩⟩
def tMN (P : Program) (w : World) (r : V → List V → Hp → VK → Prop) (to : TE) (t : TA) : TE := fun σ H Q => to σ H fun x H1 => tyN P w x H1 ∧ t σ H1 fun xs H2 => r x xs H2 Q
def tMN0 (P : Program) (w : World) (r : V → List V → Hp → VK → Prop) (to : TE) : TE := fun σ H Q => to σ H fun x H1 => tyN P w x H1 ∧ r x [] H1 Q
section
variable {X : Cx} {o e : Expr} {es : List Expr} {to : TE} {t : TA} {apos cpos : Pos} {P : Program} {w : World}
theorem pe_setN (ho : PE X o to) (ha : PA X (e :: es) t) (hu : X.A.units + 64 < cLine) (hP : X.prog = P := by rfl) (hw : X.w = w := by rfl)
    (hbase : attributeBase o "setdefault" X.env (eval o X.env) = eval o X.env := by rfl)
    (hfew : ((backTo cpos (starEach (e :: es) X.env)).all (fun x => !x.1) && (backToKw cpos (keywordEach [] X.env)).all (fun x => x.1.isSome)
      && decide ((e :: es).length + ([] : List Keyword).length + (if ([] : List Keyword).isEmpty then 0 else 1) < 30)) = true := by rfl)
    (hline : (apos.endLine == cpos.line) = true := by rfl) (hs : starEach (e :: es) X.env = (false, eval e X.env) :: starEach es X.env := by rfl) (hplain : (backTo cpos (starEach es X.env)).any (·.1) = false := by rfl) :
    PE X (.Call (.Attribute o "setdefault" apos) (e :: es) [] cpos) (tMN P w (rSetN P w) to t) := by
  subst hP hw
  constructor
  intro pins s σ H Q I h
  refine wpAny_Call_method_late hbase hfew hline rfl (thn (ho.run pins s σ H _ I h) fun v s1 z => ?_)
  obtain ⟨x, H1, I1, rx, ty, q1⟩ := z
  have hty := tyN_is I1 rx ty
  refine ⟨"dict", "dict.setdefault", PySem.F.plainAttrs_dict, PySem.F.slot_dict_setdefault, PySem.F.type_dict_setdefault, hty.1, hty.2, ?_⟩
  have hA := ha.run cpos pins s1 σ H1 _ I1 q1
  rw [hs] at hA ⊢
  refine Calls.callWith_builtin ?_ (Calls.evalArgs_plain (thn hA fun us s2 z2 => ?_))
  · show (false || (backTo cpos (starEach es X.env)).any (·.1)) = false
    rw [hplain]
    rfl
  · obtain ⟨vs, H2, I2, r2, q2⟩ := z2
    exact mt_setN hu pins s2 σ H2 x vs v us Q I2 rx r2 q2
theorem pe_valsN (ho : PE X o to) (hP : X.prog = P := by rfl) (hw : X.w = w := by rfl)
    (hbase : attributeBase o "values" X.env (eval o X.env) = eval o X.env := by rfl) (hline : (apos.endLine == cpos.line) = true := by rfl) : PE X (.Call (.Attribute o "values" apos) [] [] cpos) (tMN0 P w (rValsN P w) to) := by
  subst hP hw
  constructor
  intro pins s σ H Q I h
  refine wpAny_Call_method0_late hbase hline (thn (ho.run pins s σ H _ I h) fun v s1 z => ?_)
  obtain ⟨x, H1, I1, rx, ty, q1⟩ := z
  have hty := tyN_is I1 rx ty
  exact ⟨"dict", "dict.values", PySem.F.plainAttrs_dict, PySem.F.slot_dict_values, PySem.F.type_dict_values, hty.1, hty.2, Calls.callWith_builtin rfl (PySem.evalArgs_none (mt_valsN pins s1 σ H1 x [] v [] Q I1 rx .nil q1))⟩
end
theorem listN (P : Program) (w : World) {X : Cx} (hc : X.calm = true) (hP : X.prog = P := by rfl) (hw : X.w = w := by rfl) : CallR X (.type "list") (rListN P w) := by
  subst hP hw
  exact call_list_valsN hc
end Pf


namespace Pf
open PySem PySem.Spec PyProof.Rows L2
/-! ### the kinds of a folding's loops, sorted -/
abbrev Kf := Str × Int
def dKf (y : Kf) : PyData := .tuple [.str y.1, .int y.2]
def KfAt (H : Hp) (v : V) (y : Kf) : Prop := ∃ a, v = .ref a ∧ H a = some (.tup [.str y.1, .int y.2])
theorem KfAt.mono : Mono KfAt := fun H H' v x k ⟨a, e, h⟩ => ⟨a, e, k _ _ h⟩
theorem dp_kf {K : PySem.W.Frag} {H : Hp} {v : V} {y : Kf} (h : KfAt H v y) : Dp K H v (dKf y) := by
  obtain ⟨a, rfl, h⟩ := h
  exact .tup (SqT.of h) (.cons (.str _) (.cons (.int _) .nil))
theorem dpKfs {K : PySem.W.Frag} {H : Hp} : ∀ {vs : List V} {L : List Kf}, Paired (KfAt H) vs L → DpAll K H vs (L.map dKf)
  | _, _, .nil => .nil
  | _, _, .cons r t => .cons (dp_kf r) (dpKfs t)
def SKf (L : List Kf) : List Kf := L.mergeSort (PySem.W.dataLe false dKf)
theorem SKf_perm (L : List Kf) : (SKf L).Perm L := List.mergeSort_perm _ _
theorem sort_kfs {K : PySem.W.Frag} {H : Hp} {l : Addr} {us : List V} {L : List Kf} {Q : VK} (hL : H l = some (.lst us)) (hP : Paired (KfAt H) us L) (q : ∀ (p : Addr) (ws : List V) (H' : Hp), H p = none → H' p = some (.lst ws) → Paired (KfAt H') ws (SKf L) → Ext H H' → Q (.ref p) H') : rSortD K [.ref l] H Q := by
  have hz := paired_len hP
  have e1 : (us.zip L).map (·.1) = us := List.map_fst_zip (by omega)
  have e2 : (us.zip L).map (·.2) = L := List.map_snd_zip (by omega)
  have hall : ∀ b ∈ us.zip L, KfAt H b.1 b.2 := by
    clear e1 e2 hz q hL
    induction hP with
    | nil => intro b hb; cases hb
    | cons r _ ih =>
      intro b hb
      rw [List.zip_cons_cons] at hb
      rcases List.mem_cons.mp hb with rfl | hb
      · exact r
      · exact ih b hb
  refine ⟨V × Kf, fun b => b.1, fun b => dKf b.2, l, us.zip L, rfl, SqL.of (by rw [e1]; exact hL), fun b hb => ⟨dp_kf (hall b hb), by show (PyData.tuple [.str _, .int _]).depth ≤ 50; simp [PyData.depth, PyData.depthAll]⟩, ?_, ?_, fun p hp => ?_⟩
  · intro d1 h1 d2 h2
    obtain ⟨b1, _, rfl⟩ := List.mem_map.mp h1
    obtain ⟨b2, _, rfl⟩ := List.mem_map.mp h2
    show PySem.W.alike (.tuple [.str _, .int _]) (.tuple [.str _, .int _]) = true
    simp only [PySem.W.alike, PySem.W.alikeAll, Bool.and_true, Bool.true_and]
  · refine .inl fun e he => ?_
    obtain ⟨b1, _, rfl⟩ := List.mem_map.mp he
    exact ⟨_, _, rfl⟩
  · have x1 := Ext.new (o := .lst (((us.zip L).mergeSort (PySem.W.dataLe false fun b => dKf b.2)).map fun b => b.1)) hp
    refine q p _ _ hp upd_same ?_ x1
    have es : ((us.zip L).mergeSort (PySem.W.dataLe false fun b => dKf b.2)).map (·.2) = SKf L := by
      have hm := List.map_mergeSort (r := PySem.W.dataLe false fun b : V × Kf => dKf b.2) (s := PySem.W.dataLe false dKf) (f := fun b : V × Kf => b.2) (l := us.zip L) (fun a _ b _ => rfl)
      rw [e2] at hm
      exact hm
    rw [← es]
    have hm : ∀ b ∈ (us.zip L).mergeSort (PySem.W.dataLe false fun b => dKf b.2), KfAt H b.1 b.2 := fun b hb => hall b ((List.mergeSort_perm _ _).mem_iff.mp hb)
    generalize (us.zip L).mergeSort (PySem.W.dataLe false fun b => dKf b.2) = S at hm x1
    have : ∀ {T : List (V × Kf)} {H2 : Hp}, (∀ b ∈ T, KfAt H b.1 b.2) → Ext H H2 → Paired (KfAt H2) (T.map (·.1)) (T.map (·.2)) := by
      intro T H2 hT hx
      induction T with
      | nil => exact .nil
      | cons b T ih => exact .cons (KfAt.mono _ _ _ _ (TupK.ext hx) (hT b (List.mem_cons_self ..))) (ih fun c hc => hT c (List.mem_cons_of_mem _ hc))
    exact this hm x1
/-- kind and free places of a pair's loop -/
def kfR (q : Fo) (y : Int × Int) : Kf := (kindN (freeI y (strC q y.1 y.2)) (strC q y.1 y.2).length, freeI y (strC q y.1 y.2))
def kiQ (q : Fo) : List Kf := SKf (q.map (kfR q))
/-- the first of each kind -/
def fsK (l : List Fo) : List Fo := l.foldl (fun acc q => if kiQ q ∈ acc.map kiQ then acc else acc ++ [q]) []
theorem fsK_take {l : List Fo} {i : Nat} {q : Fo} (h : l[i]? = some q) : fsK (l.take (i + 1)) = if kiQ q ∈ (fsK (l.take i)).map kiQ then fsK (l.take i) else fsK (l.take i) ++ [q] := by
  unfold fsK
  rw [List.take_add_one, h, List.foldl_append]
  rfl
theorem fsK_len (l : List Fo) : (fsK l).length ≤ l.length := by
  have : ∀ (l acc : List Fo), (l.foldl (fun acc q => if kiQ q ∈ acc.map kiQ then acc else acc ++ [q]) acc).length ≤ acc.length + l.length := by
    intro l
    induction l with
    | nil => intro acc; exact Nat.le_refl _
    | cons q l ih =>
      intro acc
      rw [List.foldl_cons, List.length_cons]
      refine Nat.le_trans (ih _) ?_
      split
      · omega
      · rw [List.length_append, List.length_singleton]
        omega
  have h := this l []
  rw [List.length_nil, Nat.zero_add] at h
  exact h
theorem fsK_sub {l : List Fo} : ∀ q ∈ fsK l, q ∈ l := by
  have : ∀ (l acc : List Fo), ∀ q ∈ l.foldl (fun acc q => if kiQ q ∈ acc.map kiQ then acc else acc ++ [q]) acc, q ∈ acc ∨ q ∈ l := by
    intro l
    induction l with
    | nil => intro acc q h; exact .inl h
    | cons y l ih =>
      intro acc q h
      rw [List.foldl_cons] at h
      rcases ih _ q h with h | h
      · split at h
        · exact .inl h
        · rcases List.mem_append.mp h with h | h
          · exact .inl h
          · exact .inr (List.mem_cons.mpr (.inl (List.mem_singleton.mp h)))
      · exact .inr (List.mem_cons_of_mem _ h)
  intro q h
  rcases this l [] q h with h | h
  · cases h
  · exact h
/-- such as a key -/
def nkK2 (L : List Kf) : NK := L.map fun y => [.inr y.1, .inl y.2]
theorem nkK2_inj {L M : List Kf} (h : nkK2 L = nkK2 M) : L = M := by
  unfold nkK2 at h
  refine List.map_inj_right (f := fun y : Kf => ([.inr y.1, .inl y.2] : List Key)) (fun a b e => ?_) |>.mp h
  simp only [List.cons.injEq, Sum.inr.injEq, Sum.inl.injEq, and_true] at e
  exact Prod.ext e.1 e.2
theorem nest_kf {H : Hp} {a : Addr} {vs : List V} {L : List Kf} (h : H a = some (.tup vs)) (p : Paired (KfAt H) vs L) : NestAt H a (nkK2 L) := by
  refine ⟨vs, h, ?_⟩
  clear h
  induction p with
  | nil => exact .nil
  | cons r _ ih =>
    obtain ⟨b, rfl, hb⟩ := r
    exact .cons ⟨b, rfl, hb⟩ ih
theorem lkN_none {kvs : List (NK × V)} {k : NK} : lkN kvs k = none ↔ k ∉ kvs.map (·.1) := by
  unfold lkN
  rw [Option.map_eq_none_iff, List.find?_eq_none]
  constructor
  · intro h m
    obtain ⟨z, hz, e⟩ := List.mem_map.mp m
    exact h z hz (decide_eq_true e)
  · intro h z hz e
    exact h (List.mem_map.mpr ⟨z, hz, of_decide_eq_true e⟩)
section
variable {P : Program} {w : World} {K : PySem.W.Frag} {mg : Str → Option Value} {base : Heap}
abbrev s_loop_kinds : Stmt := topS 26
theorem sc_loop_kinds : FnScope ["rules", "string", "folding", "i", "j", "kind", "free", "worth"] ["rules", "string", "folding"] (defScope s_loop_kinds) :=
  ⟨rfl, rfl, rfl, by decide +kernel, rfl, by decide +kernel, by decide +kernel⟩
def spLK : Sp := fun vs H Q _ => ∃ (v vf : V) (r : Rl) (x : Str) (qs : Fo) (r0 : Rl), vs = [v, .str x, vf] ∧ RulesW H v r ∧ RlOk r ∧ x.length ≤ 12 ∧ TupOf TwoAt H vf qs ∧ qs ∈ WA r0 x x.length 0 ∧
  ∀ (t : Addr) (ws : List V) (H' : Hp), H' t = some (.tup ws) → Paired (KfAt H') ws (kiQ qs) → Ext H H' → Q (.ref t) H'
theorem ok_lk {f : Addr} {fd : FuncData} (F : Fun K "loop_kinds" "loop_kinds" s_loop_kinds f fd) (cloops_of : CLoops P w K mg base) (msorted : mg "sorted" = none) (mtuple : mg "tuple" = none) : FnOk P w K mg base CX0 4 f fd ["rules", "string", "folding"] spLK := by
  refine F.ok sc_loop_kinds (fun vs H Q E h => ?_) (fun cdv A outer s H vs Q E hr h => ?_)
  · obtain ⟨v, vf, r, x, qs, r0, rfl, _⟩ := h
    rfl
  · obtain ⟨v, vf, r, x, qs, r0, rfl, hR, ok, hx, hF, hq, q⟩ := h
    refine ⟨_, (pss_one (ps_ret (pe_callTy (tupleOf K) (by rfl) mtuple (by decide +kernel) (pa_cons (pe_callB (cr_sortD K hr.units) (by rfl) msorted (by decide +kernel) (pa_cons (pe_lc (own := [("i", 3), ("j", 4), ("kind", 5), ("free", 6), ("worth", 7)]) (g := gTup K 5 (gCons (gName 3) (gCons (gName 4) (gCons (gName 5) (gCons (gName 6) (gCons (gName 7) gNil)))))) (by rfl) sc_loop_kinds.nd (pi_list (pe_ca cloops_of (hr.mono (by decide)) (by rfl) (pa_cons (pv 0) (pa_cons (pv 1) (pa_cons (pv 2) pa_nil))))) (blkOk_by (own := [("i", 3), ("j", 4), ("kind", 5), ("free", 6), ("worth", 7)]) (N := ["rules", "string", "folding", "i", "j", "kind", "free", "worth"]) (sc := defScope s_loop_kinds) (by decide +kernel)) (fun _ _ _ _ _ => (pgT K rfl (pgs_cons (pg_name (i := 3) sc_loop_kinds.nd rfl (.inl rfl)) (pgs_cons (pg_name (i := 4) sc_loop_kinds.nd rfl (.inl rfl)) (pgs_cons (pg_name (i := 5) sc_loop_kinds.nd rfl (.inl rfl)) (pgs_cons (pg_name (i := 6) sc_loop_kinds.nd rfl (.inl rfl)) (pgs_cons (pg_name (i := 7) sc_loop_kinds.nd rfl (.inl rfl)) pgs_nil))))))) (fun _ _ _ _ _ => pts_nil) (fun _ _ _ _ _ => (pe_tup (pa_cons (pv 5) (pa_cons (pv 6) pa_nil))))) pa_nil)) pa_nil)))), ?_⟩
    refine ⟨_, rfl, _, rfl, _, rfl, v, vf, r, x, qs, r0, rfl, hR, ok, by omega, hF, hx, hq, fun l us H1 hL hP hl k1 => ?_⟩
    have hul := paired_len hP
    rw [List.length_map] at hul
    have hql := (WA_in r0 x x.length 0 qs hq).2
    refine ⟨l, rfl, ⟨_, SqL.of hL⟩, fun G hG => lc_list (K := K) (xs := us) (GenP KfAt G H1 (qs.map (kfR qs))) (gen_new hG) (fun i H2 _ h => SqL.of (h.ext _ _ hL)) (fun i u H2 hi hv => ?_) (fun H2 hv => ?_)⟩
    · obtain ⟨y, hy, a1, rfl, ha1⟩ := paired_get hP hi
      rw [List.getElem?_map] at hy
      obtain ⟨one, ho, rfl⟩ := Option.map_eq_some_iff.mp hy
      have k2 := hv.ext
      refine ⟨a1, _, rfl, SqT.of (k2 _ _ ha1), rfl, _, _, rfl, _, _, rfl, _, _, rfl, _, _, rfl, _, _, rfl, rfl, ?_⟩
      refine ⟨rfl, _, rfl, _, rfl, szL (show 2 ≤ 1000000 by decide), fun t ht => ?_⟩
      have x3 := Ext.new (o := .tup [.str (lpR r x qs one).2.2.1, .int (lpR r x qs one).2.2.2.1]) ht
      refine gen_step KfAt.mono hG hv x3 (b := kfR qs one) ⟨t, rfl, upd_same⟩ ?_ ?_
      · rw [List.getElem?_map, ho]
        rfl
      · rw [List.length_map]
        omega
    obtain ⟨vs2, hL2, hP2, k2⟩ := gen_end hv (by rw [List.length_map]; omega)
    delta tNil
    refine sort_kfs hL2 hP2 fun p ws H3 hp hp2 hP3 k3 => ?_
    refine ⟨p, _, rfl, .inl ⟨SqL.of hp2, fun tp htp => ?_⟩⟩
    have x4 := Ext.new (o := .tup ws) htp
    exact q tp ws _ upd_same (paired_imp (fun _ _ => KfAt.mono _ _ _ _ (TupK.ext x4)) hP3) (((k1.trans k2).trans k3).trans x4)
abbrev CLK (P : Program) (w : World) (K : PySem.W.Frag) (mg : Str → Option Value) (base : Heap) : Prop := Ca P w K mg base 4 "loop_kinds" ["rules", "string", "folding"] spLK
end
end Pf


namespace Pf
open PySem PySem.Spec PyProof.Rows L2
theorem kp_tk {D : Addr} {H H' : Hp} (k : Kp D H H') (hm : Mut (H D)) : TupK H H' := by
  refine ⟨fun b xs e => k b _ (fun c => ?_) e, fun b o u e => k b _ (fun c => ?_) e⟩
  · subst c
    rw [e] at hm
    exact hm.elim
  · subst c
    rw [e] at hm
    exact hm.elim
theorem kp_upd {D : Addr} {H : Hp} {o : HO} : Kp D H (upd H D o) := fun b u n e => by rw [upd_ne n]; exact e
theorem DN.ext {P : Program} {w : World} {H H' : Hp} {D : Addr} {kvs : List (NK × V)} (k : Ext H H') (h : DN P w H D kvs) : DN P w H' D kvs := by
  obtain ⟨xs, e, p⟩ := h
  exact ⟨xs, k _ _ e, paired_imp (fun _ _ ⟨z1, z2, z3⟩ => ⟨z1, z2.mono (TupK.ext k), z3⟩) p⟩
theorem DN.mut {P : Program} {w : World} {H : Hp} {D : Addr} {kvs : List (NK × V)} (h : DN P w H D kvs ∨ ((H D = some (.dK []) ∨ H D = some (.dT [])) ∧ kvs = [])) : Mut (H D) := by
  rcases h with ⟨xs, e, _⟩ | ⟨e | e, _⟩ <;> rw [e] <;> exact True.intro
theorem fsK_first (q : Fo) (l : List Fo) : fsK (q :: l) ≠ [] := by
  have : ∀ (l acc : List Fo), acc ≠ [] → l.foldl (fun acc q => if kiQ q ∈ acc.map kiQ then acc else acc ++ [q]) acc ≠ [] := by
    intro l
    induction l with
    | nil => intro acc h; exact h
    | cons y l ih =>
      intro acc h
      rw [List.foldl_cons]
      refine ih _ ?_
      split
      · exact h
      · exact fun z => by cases acc <;> cases z
  unfold fsK
  rw [List.foldl_cons]
  refine this l _ ?_
  rw [if_neg (by rw [List.map_nil]; exact List.not_mem_nil)]
  exact fun z => by cases z
theorem xnone {H H' : Hp} {p : Addr} (x : Ext H H') : H' p = none → H p = none := fun h => by
  cases e : H p with
  | none => rfl
  | some u => rw [x _ _ e] at h; cases h
/-- the dict that grows: keys and what first has them -/
def KsAt (P : Program) (w : World) (D : Addr) (H1 : Hp) (fs : List Fo) (H : Hp) : Prop := ∃ kvs : List (NK × V), (DN P w H D kvs ∨ ((H D = some (.dK []) ∨ H D = some (.dT [])) ∧ kvs = [])) ∧ kvs.map (·.1) = fs.map (fun q => nkK2 (kiQ q)) ∧ Paired (FoAt H) (kvs.map (·.2)) fs ∧ Kp D H1 H
section
variable {P : Program} {w : World} {K : PySem.W.Frag} {mg : Str → Option Value} {base : Heap}
theorem FunD.okN {x qual : Str} {params : Arguments} {body : List Stmt} {scope : Scope} {dvs : List V} {kws : List (Str × V)} {f : Addr} {fd : FuncData} {N ps : List Str} {k : Nat} {sp : Sp} (F : FunD K x qual params body scope dvs kws f fd) (S : FnScope N ps scope) (len : ∀ vs H Q E, sp vs H Q E → vs.length = ps.length)
    (hbody : ∀ (cdv : Value) (A : Around) (outer : List Env) (s : Shared) (H : Hp) (vs : List V) (Q : VK) (E : XK), Room k (A.deeper (envOfC qual scope s.heap.objs.size f cdv)) → sp vs H Q E →
      ∃ t, PSs (cxOf CX0 P w K mg base N qual scope f cdv A outer s H E).nox body t ∧ t { nx := fun _ H' => Q .non H', rt := Q } (L2.start N vs) H) : FnOk P w K mg base CX0 (k + 1) f fd ps sp :=
  F.ok S len fun cdv A outer s H vs Q E hr hsp => by
    obtain ⟨t, h, q⟩ := hbody cdv A outer s H vs Q E hr hsp
    exact ⟨t, h.nox, q⟩
abbrev s_kinds : Stmt := topS 27
theorem sc_kinds : FnScope ["rules", "string", "more", "met", "worth", "folding"] ["rules", "string", "more"] (defScope s_kinds) :=
  ⟨rfl, rfl, rfl, by decide +kernel, rfl, by decide +kernel, by decide +kernel⟩
def spKinds : Sp := fun vs H Q _ => ∃ (v : V) (r : Rl) (x : Str) (far : Int), vs = [v, .str x, .int far] ∧ RulesW H v r ∧ RlOk r ∧ x.length ≤ 12 ∧ Of r.letters x ∧ nearW (SW (wR r x)) far ≠ [] ∧
  ∀ (p : Addr) (ws : List V) (H' : Hp), H p = none → H' p = some (.lst ws) → Paired (FoAt H') ws (fsK ((nearW (SW (wR r x)) far).map (·.2))) → Ext H H' → Q (.ref p) H'
theorem ok_kinds {f : Addr} {fd : FuncData} (F : FunD K "kinds" "kinds" (defArgs s_kinds) (defBody s_kinds) (defScope s_kinds) [] [("more", .int 0)] f fd) (cnearN : CNearN P w K mg base) (cloop_kinds : CLK P w K mg base) (mlist : mg "list" = none) : FnOk P w K mg base CX0 7 f fd ["rules", "string", "more"] spKinds := by
  refine FunD.okN F sc_kinds (fun vs H Q E h => ?_) (fun cdv A outer s H vs Q E hr h => ?_)
  · obtain ⟨v, r, x, far, rfl, _⟩ := h
    rfl
  · obtain ⟨v, r, x, far, rfl, hR, ok, hx, hO, hne, q⟩ := h
    refine ⟨_, (pss_cons (ps_set (i := 3) sc_kinds.nd rfl (.inl rfl) pe_dnewT)
      (pss_cons (ps_for PassesOwn.never rfl (pi_list (pe_caN cnearN (hr.mono (by decide)) (by rfl) (pa_cons (pv 0) (pa_cons (pv 1) pa_nil)) (pk_cons (pv 2) pk_nil))) (pg_tup rfl (pgs_cons (pg_name (i := 4) sc_kinds.nd rfl (.inl rfl)) (pgs_cons (pg_name (i := 5) sc_kinds.nd rfl (.inl rfl)) pgs_nil))) (pss_one (ps_expr (pe_setN (P := P) (w := w) (pv 3) (pa_cons (pe_ca cloop_kinds (hr.mono (by decide)) (by rfl) (pa_cons (pv 0) (pa_cons (pv 1) (pa_cons (pv 5) pa_nil)))) (pa_cons (pv 5) pa_nil)) hr.units))))
      (pss_one (ps_ret (pe_callTy (listN P w rfl) (by rfl) mlist (by decide +kernel) (pa_cons (pe_valsN (P := P) (w := w) (pv 3)) pa_nil)))))), ?_⟩
    refine fun D hD => ?_
    have x1 := Ext.new (o := .dT []) hD
    have hD1 : upd H D (.dT []) D = some (.dT []) := upd_same
    generalize upd H D (.dT []) = H1 at x1 hD1 ⊢
    have hR1 := RulesW.mono _ _ _ _ (TupK.ext x1) hR
    refine go_name ?_
    dsimp only
    refine ⟨_, rfl, _, rfl, _, rfl, rfl, rfl, v, r, x, far, rfl, hR1, ok, hx, hO, fun l us H2 hl hL hP x2 => ?_⟩
    have hrl : (SW (wR r x)).length ≤ 15511 := by
      rw [(SW_perm _).length_eq]
      unfold wR
      rw [List.length_map]
      exact WA_len r x hx 0
    have hnl := near_len (SW (wR r x)) far
    have hin : ∀ y ∈ nearW (SW (wR r x)) far, y.2 ∈ WA r x x.length 0 := fun y hy => (wR_in (near_sub _ _ y hy)).1
    generalize nearW (SW (wR r x)) far = rows at hP hnl q hin hne
    have hul := paired_len hP
    have hD2 := x2 _ _ hD1
    have hlD : l ≠ D := fun z => by rw [z, hD1] at hl; cases hl
    have hR2 := RulesW.mono _ _ _ _ (TupK.ext x2) hR1
    have hm2 : Mut (H2 D) := by rw [hD2]; exact True.intro
    refine ⟨l, rfl, ⟨_, SqL.of hL⟩, for_list (K := K) (xs := us) (fun i σ H3 => ∃ (y4 y5 : Option V), σ = [some v, some (.str x), some (.int far), some (.ref D), y4, y5] ∧ KsAt P w D H2 (fsK ((rows.take i).map (·.2))) H3)
      ⟨none, none, rfl, [], .inr ⟨.inr hD2, rfl⟩, rfl, .nil, Kp.refl⟩ (fun i σ H3 _ h => by obtain ⟨_, _, _, _, _, _, _, k⟩ := h; exact SqL.of (k _ _ hlD hL)) (fun i u σ H3 hi hv => ?_) (fun σ H3 hv => ?_)⟩
    · obtain ⟨y4, y5, rfl, kvs, hdn, hk, hpf, k3⟩ := hv
      obtain ⟨y, hy, a1, uf, rfl, ha1, hF⟩ := paired_get hP hi
      have tk3 := kp_tk k3 hm2
      refine ⟨a1, _, rfl, SqT.of (tk3 _ _ ha1), rfl, _, _, rfl, _, _, rfl, rfl, ?_⟩
      have hF3 := FoAt.mono _ _ _ _ tk3 hF
      have tyd : tyN P w (.ref D) H3 := by
        refine ⟨D, rfl, ?_⟩
        rcases hdn with ⟨xs, e, _⟩ | ⟨e, _⟩
        · exact .inl ⟨xs, e⟩
        · exact .inr e
      refine ⟨_, rfl, tyd, _, rfl, _, rfl, _, rfl, v, uf, r, x, y.2, r, rfl, RulesW.mono _ _ _ _ tk3 hR2, ok, hx, hF3, hin y (List.mem_of_getElem? hy), fun t ws H4 ht hPk k4 => ?_⟩
      have hF4 := FoAt.mono _ _ _ _ (TupK.ext k4) hF3
      have hdn4 : DN P w H4 D kvs ∨ ((H4 D = some (.dK []) ∨ H4 D = some (.dT [])) ∧ kvs = []) := hdn.imp (DN.ext k4) fun ⟨e, z⟩ => ⟨e.imp (k4 _ _) (k4 _ _), z⟩
      have hm4 : Mut (H4 D) := DN.mut hdn4
      have hlen : kvs.length ≤ i := by
        have h1 := congrArg List.length hk
        rw [List.length_map, List.length_map] at h1
        have h2 := fsK_len ((rows.take i).map (·.2))
        rw [List.length_map, List.length_take] at h2
        omega
      have hil : i < us.length := (List.getElem?_eq_some_iff.mp hi).1
      have hmem : nkK2 (kiQ y.2) ∈ kvs.map (·.1) ↔ kiQ y.2 ∈ (fsK ((rows.take i).map (·.2))).map kiQ := by
        rw [hk]
        constructor
        · intro h
          obtain ⟨q1, hq1, e⟩ := List.mem_map.mp h
          exact List.mem_map.mpr ⟨q1, hq1, nkK2_inj e⟩
        · intro h
          obtain ⟨q1, hq1, e⟩ := List.mem_map.mp h
          exact List.mem_map.mpr ⟨q1, hq1, by rw [e]⟩
      have step := fsK_take (l := rows.map (·.2)) (i := i) (q := y.2) (by rw [List.getElem?_map, hy]; rfl)
      rw [← List.map_take, ← List.map_take] at step
      refine ⟨_, rfl, D, t, nkK2 (kiQ y.2), uf, kvs, rfl, rfl, hdn4, nest_kf ht hPk, szLt (by omega), fun u0 hu0 => ?_, fun hn o hdo => ?_⟩
      · have hin2 : nkK2 (kiQ y.2) ∈ kvs.map (·.1) := by
          by_cases c : nkK2 (kiQ y.2) ∈ kvs.map (·.1)
          · exact c
          · rw [lkN_none.mpr c] at hu0
            cases hu0
        rw [step, if_pos (hmem.mp hin2)]
        exact ⟨_, _, rfl, kvs, hdn4, hk, paired_imp (fun _ _ => FoAt.mono _ _ _ _ (TupK.ext k4)) hpf, k3.trans (Kp.ext k4)⟩
      · rw [step, if_neg (fun z => lkN_none.mp hn (hmem.mpr z))]
        have tk5 : TupK H4 (upd H4 D o) := mut_tk hm4
        refine ⟨_, _, rfl, kvs ++ [(nkK2 (kiQ y.2), uf)], .inl hdo, ?_, ?_, (k3.trans (Kp.ext k4)).trans kp_upd⟩
        · rw [List.map_append, List.map_append, hk]
          rfl
        · rw [List.map_append]
          exact paired_app (paired_imp (fun _ _ => FoAt.mono _ _ _ _ ((TupK.ext k4).trans tk5)) hpf) (.cons (FoAt.mono _ _ _ _ tk5 hF4) .nil)
    obtain ⟨y4, y5, rfl, kvs, hdn, hk, hpf, k3⟩ := hv
    rw [List.take_of_length_le (by omega)] at hk hpf
    have hdn : DN P w H3 D kvs := by
      rcases hdn with h | ⟨_, rfl⟩
      · exact h
      · exfalso
        cases rows with
        | nil => exact hne rfl
        | cons y t =>
          have hs := fsK_first (y.2) (t.map (·.2))
          rw [List.map_cons] at hk
          cases hz : fsK (y.2 :: t.map (·.2)) with
          | nil => exact hs hz
          | cons _ _ => rw [hz] at hk; cases hk
    have tyd : tyN P w (.ref D) H3 := by
      obtain ⟨xs, e, _⟩ := hdn
      exact ⟨D, rfl, .inl ⟨xs, e⟩⟩
    refine ⟨_, rfl, tyd, D, kvs, rfl, rfl, hdn, fun p hp => ?_⟩
    have x4 := Ext.new (o := viewO "dict_values" p D) hp
    refine ⟨p, D, kvs, rfl, upd_same, DN.ext x4 hdn, fun p2 hp2 => ?_⟩
    have x5 := Ext.new (o := .lst (kvs.map (·.2))) hp2
    have kD : Kp D H _ := ((Kp.ext x1).trans (Kp.ext x2)).trans (k3.trans (Kp.ext x4))
    have xx : Ext H _ := fun b o e => kD b o (fun z => by rw [z, hD] at e; cases e) e
    exact q p2 _ _ (xnone xx hp2) upd_same (paired_imp (fun _ _ => FoAt.mono _ _ _ _ (TupK.ext (x4.trans x5))) hpf) (xx.trans x5)
abbrev CKindsN (P : Program) (w : World) (K : PySem.W.Frag) (mg : Str → Option Value) (base : Heap) : Prop := CaN P w K mg base 7 "kinds" ["rules", "string", "more"] 2 ["more"] (permW [0, 1, 2] []) spKinds
abbrev CKindsE (P : Program) (w : World) (K : PySem.W.Frag) (mg : Str → Option Value) (base : Heap) : Prop := CaE P w K mg base 7 "kinds" ["rules", "string", "more"] [.int 0] spKinds
abbrev CKindsK (P : Program) (w : World) (K : PySem.W.Frag) (mg : Str → Option Value) (base : Heap) : Prop := CaK P w K mg base 7 "kinds" ["rules", "string", "more"] ["string", "rules", "more"] (permW [1, 0, 2] []) spKinds
end
end Pf


namespace Pf
open PySem PySem.Spec PyProof.Rows L2
/-! ### a list is made longer by a tuple -/
theorem list_extend_tuple (l : Addr) (items : Array Value) (n : Nat) (b : Addr) (items2 : Array Value) (n2 : Nat) (dd : Option Addr) (sls : Array (Option Value)) (hs0 : ¬(!items.isEmpty && Builtin.List.listTooLong (items.size + items2.size)) = true) (hs1 : items.size ≤ sizeLine) (hs2 : items.size + items2.size ≤ sizeLine + 1) :
    Meets (Builtin.«list.extend» ⟨[.ref l, .ref b], []⟩) (fun _ R s => s.heap.get? l = some { cls := .type "list", dict := none, data := .seq items n, slots := #[] } ∧ s.heap.get? b = some { cls := .type "tuple", dict := dd, data := .seq items2 n2, slots := sls } ∧ R (.ok (.ret Value.none)) { s with heap := s.heap.update l (Obj.mapSeq fun x => x ++ items2), toks := s.toks }) :=
  .of_wp fun prog w A R s h => by
    obtain ⟨hp, g, d, tk, os⟩ := s; obtain ⟨hl, hb, h⟩ := h; have f1 := AutoSeq1.idx_int; have f2 := AutoSeq1.sub_tuple_tuple; have f3 := AutoSeq1.sub_list_list; have f4 := AutoSeq1.sub_tuple_list; have f5 := AutoSeq1.sub_list_tuple
    have hz' : (items ++ items2).size ≤ sizeLine + 1 := by rw [Array.size_append]; exact hs2
    wp_walk using (wpAny_updateSeq hl rfl (hz := hs1) (_hz' := hz')), AutoSeq1.wpAny_loadPart' hl, AutoSeq1.wpAny_loadPart' hb
    exact ⟨_, rfl, h⟩
def rExtT (K : PySem.W.Frag) : V → List V → Hp → VK → Prop := fun x vs H Q => ∃ l b xs zs, x = .ref l ∧ vs = [.ref b] ∧ H l = some (.lst xs) ∧ SqT K H b zs ∧ xs.length + zs.length ≤ sizeLine ∧ Q .non (upd H l (.lst (xs ++ zs)))
theorem mt_extT (K : PySem.W.Frag) {X : Cx} (hK : X.K = K := by rfl) : MtM X "list.extend" (rExtT K) := by
  subst hK
  intro pins s σ H x vs v us Q I rx rv h
  obtain ⟨l, b, xs, zs, rfl, rfl, hH, hB, hz, q⟩ := h
  cases rx
  obtain ⟨u, rfl, ru⟩ := rv.one
  cases ru
  obtain ⟨z, its, n, r, hl, e⟩ := I.lstM hH
  obtain ⟨its2, r2, ⟨⟨cls, dd, data, sls⟩, e2, hc, n2, hd⟩, hl2⟩ := I.tuple hB
  simp only at hc hd
  subst hc hd
  have hrl := r2.length
  have hrl1 := r.length
  have hsz : its.toArray.size + its2.toArray.size ≤ sizeLine := by rw [List.size_toArray, List.size_toArray]; omega
  have hlong : ¬ (!its.toArray.isEmpty && Builtin.List.listTooLong (its.toArray.size + its2.toArray.size)) = true := by
    rw [notLongL hsz, Bool.and_false]
    exact Bool.false_ne_true
  refine call_meets F.slot_list_extend ⟨_, e, rfl⟩ F.entry_list_extend (F.args_list_extend_2 _ _)
    (list_extend_tuple l its.toArray n b its2.toArray n2 dd sls hlong (by rw [List.size_toArray]; omega) (by omega)) ⟨e, e2, ?_⟩
  refine ⟨.non, _, I.lset (its' := its ++ its2) hH e (by simp) (r.append r2) ?_, rfl, q⟩
  rw [List.length_append]
  omega
/-! ### a thing in a list of data -/
theorem notInD (K : PySem.W.Frag) {X : Cx} (hu : X.A.units + 65 < cLine) (h : X.K = K := by rfl) : OpR X (compareOp .NotIn) (rNotInD K) := h ▸ op_notInD hu
end Pf


namespace Pf
open PySem PySem.Spec PyProof.Rows L2
theorem room65 {k : Nat} {A : Around} (r : Room k A) : A.units + 65 < cLine := by have := r.un; omega
/-- a list of kinds, apart from two lists that grow -/
def LkM (M G : Addr) (H : Hp) (v : V) (L : List Kf) : Prop := ∃ b vs, v = .ref b ∧ b ≠ M ∧ b ≠ G ∧ H b = some (.lst vs) ∧ Paired (KfAt H) vs L
def KpB (M G : Addr) (H H' : Hp) : Prop := ∀ b o, b ≠ M → b ≠ G → H b = some o → H' b = some o
theorem KpB.tk {M G : Addr} {H H' : Hp} {ms gs : List V} (k : KpB M G H H') (hM : H M = some (.lst ms)) (hG : H G = some (.lst gs)) : TupK H H' :=
  ⟨fun b xs e => k b _ (ne_of e hM (by intro z; cases z)) (ne_of e hG (by intro z; cases z)) e, fun b o u e => k b _ (ne_of e hM (by intro z; cases z)) (ne_of e hG (by intro z; cases z)) e⟩
theorem LkM.go {M G : Addr} {H H' : Hp} {ms gs : List V} {v : V} {L : List Kf} (k : KpB M G H H') (hM : H M = some (.lst ms)) (hG : H G = some (.lst gs)) (h : LkM M G H v L) : LkM M G H' v L := by
  obtain ⟨b, vs, e, n1, n2, hb, p⟩ := h
  exact ⟨b, vs, e, n1, n2, k _ _ n1 n2 hb, paired_imp (fun _ _ => KfAt.mono _ _ _ _ (k.tk hM hG)) p⟩
theorem dp_lk {K : PySem.W.Frag} {M G : Addr} {H : Hp} : ∀ {ms : List V} {LL : List (List Kf)}, Paired (LkM M G H) ms LL → DpAll K H ms (LL.map fun L => .list (L.map dKf))
  | _, _, .nil => .nil
  | _, _, .cons ⟨_, _, e, _, _, hb, p⟩ t => by
    subst e
    exact .cons (.lst (SqL.of hb) (dpKfs p)) (dp_lk t)
section
variable {P : Program} {w : World} {K : PySem.W.Frag} {mg : Str → Option Value} {base : Heap}
abbrev s_law_sort : Stmt := topS 42
theorem sc_law_sort : FnScope ["_law_code_here", "_law_page_here", "_law_folding", "_law_i", "_law_j"] ["_law_code_here", "_law_page_here", "_law_folding"] (defScope s_law_sort) :=
  ⟨rfl, rfl, rfl, by decide +kernel, rfl, by decide +kernel, by decide +kernel⟩
def spSortL : Sp := fun vs H Q _ => ∃ (v vf : V) (r : Rl) (x : Str) (qs : Fo), vs = [v, .str x, vf] ∧ RulesAt H v r ∧ RlOk r ∧ x.length ≤ 12 ∧ Of r.letters x ∧ FoAt H vf qs ∧ qs ∈ WA r x x.length 0 ∧
  ∀ (p : Addr) (ws : List V) (H' : Hp), H p = none → H' p = some (.lst ws) → Paired (KfAt H') ws (kiQ qs) → Ext H H' → Q (.ref p) H'
theorem ok_sortL {f : Addr} {fd : FuncData} (F : Fun K "_law_sort" "_law_sort" s_law_sort f fd) (c_law_loop : CLoopN P w K mg base) (msorted : mg "sorted" = none) : FnOk P w K mg base CX0 3 f fd ["_law_code_here", "_law_page_here", "_law_folding"] spSortL := by
  refine F.ok sc_law_sort (fun vs H Q E h => ?_) (fun cdv A outer s H vs Q E hr h => ?_)
  · obtain ⟨v, vf, r, x, qs, rfl, _⟩ := h
    rfl
  · obtain ⟨v, vf, r, x, qs, rfl, hR, ok, hx, hO, hF, hq, q⟩ := h
    refine ⟨_, (pss_one (ps_ret (pe_callB (cr_sortD K hr.units) (by rfl) msorted (by decide +kernel) (pa_cons (pe_lc (own := [("_law_i", 3), ("_law_j", 4)]) (g := gTup K 2 (gCons (gName 3) (gCons (gName 4) gNil))) (by rfl) sc_law_sort.nd (pi_tup (pv 2)) (blkOk_by (own := [("_law_i", 3), ("_law_j", 4)]) (N := ["_law_code_here", "_law_page_here", "_law_folding", "_law_i", "_law_j"]) (sc := defScope s_law_sort) (by decide +kernel)) (fun _ _ _ _ _ => (pgT K rfl (pgs_cons (pg_name (i := 3) sc_law_sort.nd rfl (.inl rfl)) (pgs_cons (pg_name (i := 4) sc_law_sort.nd rfl (.inl rfl)) pgs_nil)))) (fun _ _ _ _ _ => pts_nil) (fun _ _ _ _ _ => (pe_slice (slE K) (pe_ca c_law_loop (hr.mono (by decide)) (by rfl) (pa_cons (pv 0) (pa_cons (pv 1) (pa_cons (pv 2) (pa_cons (pv 3) (pa_cons (pv 4) pa_nil)))))) po_none (po_some pe_int)))) pa_nil)))), ?_⟩
    obtain ⟨sa, fs, rfl, hS, hPf⟩ := id hF
    have hfl := paired_len hPf
    have hin := WA_in r x x.length 0 qs hq
    have hin2 : ∀ y ∈ qs, 0 ≤ y.1 ∧ y.1 < (x.length : Int) ∧ 0 ≤ y.2 ∧ y.2 < (x.length : Int) := fun y hy => by
      have := hin.1 y hy
      omega
    refine ⟨_, rfl, sa, rfl, ⟨_, SqT.of hS⟩, fun G hG => lc_tup (K := K) (xs := fs) (GenP KfAt G H (qs.map (kfR qs))) (gen_new hG) (fun i H2 _ h => SqT.of (h.ext _ _ hS)) (fun i u H2 hi hv => ?_) (fun H2 hv => ?_)⟩
    · obtain ⟨y, hy, a1, rfl, ha1⟩ := paired_get hPf hi
      have k2 := hv.ext
      have hym := List.mem_of_getElem? hy
      have hyb := hin2 y hym
      refine ⟨a1, _, rfl, SqT.of (k2 _ _ ha1), rfl, _, _, rfl, _, _, rfl, rfl, ?_⟩
      refine ⟨rfl, _, rfl, _, rfl, _, rfl, _, rfl, _, rfl, v, .ref sa, r, x, qs, y, rfl, RulesAt.mono _ _ _ _ (TupK.ext k2) hR, ok, hx, hO, FoAt.mono _ _ _ _ (TupK.ext k2) hF, by omega, hin2, hyb.1, hyb.2.1, hyb.2.2.1, hyb.2.2.2, fun al kd fr H3 hkd hfr hA k3 => ?_⟩
      have ef := hfr (free_nn hq hym)
      subst hkd
      refine ⟨2, rfl, al, _, rfl, hA, fun t H4 k4 h4 => ?_⟩
      have h4 : H4 t = some (.tup [.str (kfR qs y).1, .int fr]) := h4
      rw [ef] at h4
      refine gen_step KfAt.mono hG hv (k3.trans k4) (b := kfR qs y) ⟨t, rfl, h4⟩ ?_ ?_
      · rw [List.getElem?_map, hy]
        rfl
      · rw [List.length_map]
        omega
    obtain ⟨vs2, hL2, hP2, k2⟩ := gen_end hv (by rw [List.length_map]; omega)
    delta tNil
    exact sort_kfs hL2 hP2 fun p ws H3 hp hp2 hP3 k3 => q p ws H3 (k2.none hp) hp2 hP3 (k2.trans k3)
abbrev CSortL (P : Program) (w : World) (K : PySem.W.Frag) (mg : Str → Option Value) (base : Heap) : Prop := Ca P w K mg base 3 "_law_sort" ["_law_code_here", "_law_page_here", "_law_folding"] spSortL
end
end Pf


namespace Pf
open PySem PySem.Spec PyProof.Rows L2
theorem eqv_kf (y z : Kf) : PyData.eqv (dKf y) (dKf z) = decide (y = z) := by
  obtain ⟨a, i⟩ := y
  obtain ⟨b, j⟩ := z
  simp [dKf, PyData.eqv, PyData.eqvAll, Prod.ext_iff]
  by_cases h1 : a = b <;> by_cases h2 : i = j <;> simp [h1, h2]
theorem eqvAll_kf : ∀ L M : List Kf, PyData.eqvAll (L.map dKf) (M.map dKf) = decide (L = M)
  | [], [] => by simp [PyData.eqvAll]
  | [], _ :: _ => by simp [PyData.eqvAll]
  | _ :: _, [] => by simp [PyData.eqvAll]
  | y :: L, z :: M => by
    simp only [List.map_cons, PyData.eqvAll, eqv_kf, eqvAll_kf L M]
    by_cases h1 : y = z <;> by_cases h2 : L = M <;> simp [h1, h2]
theorem eqv_lk (L M : List Kf) : PyData.eqv (.list (L.map dKf)) (.list (M.map dKf)) = decide (L = M) := by
  simp only [PyData.eqv, eqvAll_kf]
theorem any_lk (LL : List (List Kf)) (L : List Kf) : ((LL.map fun L => PyData.list (L.map dKf)).any fun z => PyData.eqv z (.list (L.map dKf))) = decide (L ∈ LL) := by
  induction LL with
  | nil => simp
  | cons M LL ih =>
    rw [List.map_cons, List.any_cons, ih, eqv_lk]
    by_cases h1 : M = L
    · simp [h1]
    · have : ¬ L = M := fun e => h1 e.symm
      by_cases h2 : L ∈ LL <;> simp [h1, h2, this]
theorem kindN_ok (f : Int) (n : Nat) : PyData.strOk (kindN f n) = true ∧ (kindN f n).length ≤ 8 := by
  unfold kindN
  split
  · exact (by decide +kernel : PyData.strOk ("lone" : Str) = true ∧ ("lone" : Str).length ≤ 8)
  · split
    · exact (by decide +kernel : PyData.strOk ("forked" : Str) = true ∧ ("forked" : Str).length ≤ 8)
    · split
      · exact (by decide +kernel : PyData.strOk ("inner" : Str) = true ∧ ("inner" : Str).length ≤ 8)
      · exact (by decide +kernel : PyData.strOk ("stacked" : Str) = true ∧ ("stacked" : Str).length ≤ 8)
theorem sm_ki {r : Rl} {x : Str} (hx : x.length ≤ 12) {q : Fo} (hq : q ∈ WA r x x.length 0) : Sm 1000 2 (.list ((kiQ q).map dKf)) := by
  have hin := WA_in r x x.length 0 q hq
  refine Sm.lst (n := 6) (m := 130) (k := 1) (by unfold kiQ; rw [List.length_map, (SKf_perm _).length_eq, List.length_map]; omega) (fun d hd => ?_) (by decide)
  obtain ⟨y, hy, rfl⟩ := List.mem_map.mp hd
  unfold kiQ at hy
  obtain ⟨z, hz, rfl⟩ := List.mem_map.mp ((SKf_perm _).mem_iff.mp hy)
  have hb := hin.1 z hz
  have f0 := free_nn hq hz
  have f1 := free_le hq hz
  have hk := kindN_ok (freeI z (strC q z.1 z.2)) (strC q z.1 z.2).length
  refine Sm.tup (n := 2) (m := 64) (k := 0) (Nat.le_refl _) (fun d hd => ?_) (by decide)
  simp only [List.mem_cons, List.not_mem_nil, or_false] at hd
  rcases hd with rfl | rfl
  · exact (Sm.str hk.1 hk.2).le (by decide) (Nat.le_refl _)
  · exact Sm.int (by show -1000000000 < freeI z (strC q z.1 z.2); omega) (by show freeI z (strC q z.1 z.2) < 1000000000; omega)
section
variable {P : Program} {w : World} {K : PySem.W.Frag} {mg : Str → Option Value} {base : Heap}
abbrev s_law_firsts : Stmt := topS 43
theorem sc_law_firsts : FnScope ["_law_code_here", "_law_page_here", "_law_rows_here", "_law_met", "_law_found", "_law_worth_here", "_law_folding", "_law_sort_here"] ["_law_code_here", "_law_page_here", "_law_rows_here"] (defScope s_law_firsts) :=
  ⟨rfl, rfl, rfl, by decide +kernel, rfl, by decide +kernel, by decide +kernel⟩
def spFirsts : Sp := fun vs H Q _ => ∃ (v : V) (r : Rl) (x : Str) (l : Addr) (us : List V) (rows : List Wf), vs = [v, .str x, .ref l] ∧ RulesAt H v r ∧ RlOk r ∧ x.length ≤ 12 ∧ Of r.letters x ∧ H l = some (.lst us) ∧ Paired (WfAt H) us rows ∧ rows.length ≤ 20000 ∧ (∀ y ∈ rows, y.2 ∈ WA r x x.length 0) ∧
  ∀ (p : Addr) (ws : List V) (H' : Hp), H p = none → H' p = some (.lst ws) → Paired (FoAt H') ws (fsK (rows.map (·.2))) → Ext H H' → Q (.ref p) H'
theorem ok_firsts {f : Addr} {fd : FuncData} (F : Fun K "_law_firsts" "_law_firsts" s_law_firsts f fd) (c_law_sort : CSortL P w K mg base) : FnOk P w K mg base CX0 4 f fd ["_law_code_here", "_law_page_here", "_law_rows_here"] spFirsts := by
  refine F.ok sc_law_firsts (fun vs H Q E h => ?_) (fun cdv A outer s H vs Q E hr h => ?_)
  · obtain ⟨v, r, x, l, us, rows, rfl, _⟩ := h
    rfl
  · obtain ⟨v, r, x, l, us, rows, rfl, hR, ok, hx, hO, hL, hP, hrl, hin, q⟩ := h
    refine ⟨_, (pss_cons (ps_set (i := 3) sc_law_firsts.nd rfl (.inl rfl) (pe_lst pa_nil))
      (pss_cons (ps_set (i := 4) sc_law_firsts.nd rfl (.inl rfl) (pe_lst pa_nil))
      (pss_cons (ps_for PassesOwn.never rfl (pi_list (pv 2)) (pg_tup rfl (pgs_cons (pg_name (i := 5) sc_law_firsts.nd rfl (.inl rfl)) (pgs_cons (pg_name (i := 6) sc_law_firsts.nd rfl (.inl rfl)) pgs_nil))) (pss_cons (ps_set (i := 7) sc_law_firsts.nd rfl (.inl rfl) (pe_ca c_law_sort (hr.mono (by decide)) (by rfl) (pa_cons (pv 0) (pa_cons (pv 1) (pa_cons (pv 6) pa_nil)))))
      (pss_one (ps_if (pt_cmpR (notInD K (room65 hr)) (pv 7) (pv 3) (by rfl)) (pss_cons (ps_expr (pe_bm PySem.F.plainAttrs_list PySem.F.slot_list_append PySem.F.type_list_append mt_append (pv 3) (pa_cons (pv 7) pa_nil)))
      (pss_one (ps_expr (pe_bm PySem.F.plainAttrs_list PySem.F.slot_list_append PySem.F.type_list_append mt_append (pv 4) (pa_cons (pv 6) pa_nil))))) pss_nil))))
      (pss_one (ps_ret (pv 4)))))), ?_⟩
    have hul := paired_len hP
    refine ⟨Nat.zero_le _, fun M hM => ?_⟩
    have x1 := Ext.new (o := .lst []) hM
    have hM1 : upd H M (.lst []) M = some (.lst []) := upd_same
    generalize upd H M (.lst []) = H1 at x1 hM1 ⊢
    refine go_name ?_
    dsimp only
    refine ⟨Nat.zero_le _, fun G hG => ?_⟩
    have x2 := Ext.new (o := .lst []) hG
    have hG2 : upd H1 G (.lst []) G = some (.lst []) := upd_same
    have hM2 := x2 _ _ hM1
    have x12 := x1.trans x2
    have nMG : M ≠ G := fun z => by rw [← z, hM1] at hG; cases hG
    have hGH : H G = none := x1.none hG
    generalize upd H1 G (.lst []) = H2 at x2 hG2 hM2 x12 ⊢
    refine go_name ?_
    dsimp only
    have nlM : l ≠ M := fun z => by rw [z, hM] at hL; cases hL
    have nlG : l ≠ G := fun z => by rw [z, hGH] at hL; cases hL
    have hL2 := x12 _ _ hL
    have hP2 := paired_imp (fun _ _ => WfAt.mono _ _ _ _ (TupK.ext x12)) hP
    have hR2 := RulesAt.mono _ _ _ _ (TupK.ext x12) hR
    refine ⟨_, rfl, l, rfl, ⟨_, SqL.of hL2⟩, for_list (K := K) (xs := us) (fun i σ H3 => ∃ (z5 z6 z7 : Option V) (ms gs : List V), σ = [some v, some (.str x), some (.ref l), some (.ref M), some (.ref G), z5, z6, z7] ∧ H3 M = some (.lst ms) ∧ H3 G = some (.lst gs) ∧ Paired (LkM M G H3) ms ((fsK ((rows.take i).map (·.2))).map kiQ) ∧ Paired (FoAt H3) gs (fsK ((rows.take i).map (·.2))) ∧ KpB M G H2 H3)
      ⟨none, none, none, [], [], rfl, hM2, hG2, .nil, .nil, fun _ _ _ _ e => e⟩ (fun i σ H3 _ h => by obtain ⟨_, _, _, _, _, _, _, _, _, _, k⟩ := h; exact SqL.of (k _ _ nlM nlG hL2)) (fun i u σ H3 hi hv => ?_) (fun σ H3 hv => ?_)⟩
    · obtain ⟨z5, z6, z7, ms, gs, rfl, hM3, hG3, hPm, hPg, k3⟩ := hv
      have tk3 := k3.tk hM2 hG2
      obtain ⟨y, hy, a1, uf, rfl, ha1, hF⟩ := paired_get hP2 hi
      have hym := hin y (List.mem_of_getElem? hy)
      have hil : i < us.length := (List.getElem?_eq_some_iff.mp hi).1
      have hF3 := FoAt.mono _ _ _ _ tk3 hF
      refine ⟨a1, _, rfl, SqT.of (tk3 _ _ ha1), rfl, _, _, rfl, _, _, rfl, rfl, ?_⟩
      refine ⟨_, rfl, _, rfl, _, rfl, v, uf, r, x, y.2, rfl, RulesAt.mono _ _ _ _ tk3 hR2, ok, hx, hO, hF3, hym, fun p ws H4 hp hp2 hP4 k4 => ?_⟩
      refine go_name ?_
      dsimp only
      have hM4 := k4 _ _ hM3
      have hG4 := k4 _ _ hG3
      have npM : p ≠ M := fun z => by rw [z, hM3] at hp; cases hp
      have npG : p ≠ G := fun z => by rw [z, hG3] at hp; cases hp
      have kB4 : KpB M G H3 H4 := fun b o _ _ e => k4 b o e
      have hPm4 := paired_imp (fun _ _ h => LkM.go kB4 hM3 hG3 h) hPm
      have hPg4 := paired_imp (fun _ _ => FoAt.mono _ _ _ _ (TupK.ext k4)) hPg
      have step := fsK_take (l := rows.map (·.2)) (i := i) (q := y.2) (by rw [List.getElem?_map, hy]; rfl)
      rw [← List.map_take, ← List.map_take] at step
      have hfl := fsK_len ((rows.take i).map (·.2))
      rw [List.length_map, List.length_take] at hfl
      have hfs : ∀ q1 ∈ fsK ((rows.take i).map (·.2)), q1 ∈ WA r x x.length 0 := fun q1 h1 => by
        obtain ⟨y1, hy1, rfl⟩ := List.mem_map.mp (fsK_sub q1 h1)
        exact hin y1 (List.mem_of_mem_take hy1)
      have hml := paired_len hPm4
      rw [List.length_map] at hml
      have hgl := paired_len hPg4
      generalize fsK ((rows.take i).map (·.2)) = fs at *
      have smM : Sm (20000 * 1001) 3 (.list ((fs.map kiQ).map fun L => .list (L.map dKf))) := Sm.lst (n := 20000) (m := 1000) (k := 2) (by rw [List.length_map, List.length_map]; omega) (fun d hd => by
        obtain ⟨L, hL, rfl⟩ := List.mem_map.mp hd
        obtain ⟨q1, hq1, rfl⟩ := List.mem_map.mp hL
        exact sm_ki hx (hfs q1 hq1)) (Nat.le_refl _)
      refine ⟨_, rfl, _, rfl, .list ((kiQ y.2).map dKf), _, .lst (SqL.of hp2) (dpKfs hP4), .lst (SqL.of hM4) (dp_lk hPm4), (sm_ki hx hym).shaped (by decide), smM.shaped (by decide), ?_⟩
      rw [any_lk]
      refine ⟨_, rfl, ?_⟩
      by_cases c : kiQ y.2 ∈ fs.map kiQ
      · rw [if_pos c] at step
        rw [decide_eq_true c, step]
        exact iteF ⟨_, _, _, ms, gs, rfl, hM4, hG4, hPm4, hPg4, fun b o n1 n2 e => k4 _ _ (k3 b o n1 n2 e)⟩
      · rw [if_neg c] at step
        rw [decide_eq_false c, step]
        refine iteT ⟨_, rfl, .inl ⟨rfl, _, SqL.of hM4⟩, _, rfl, M, ms, .ref p, rfl, rfl, hM4, szLt (by omega), ?_⟩
        have hG5 : upd H4 M (.lst (ms ++ [.ref p])) G = some (.lst gs) := by rw [upd_ne nMG.symm]; exact hG4
        refine ⟨_, rfl, .inl ⟨rfl, _, SqL.of hG5⟩, _, rfl, G, gs, uf, rfl, rfl, hG5, szLt (by omega), ?_⟩
        have kB6 : KpB M G H4 (upd (upd H4 M (.lst (ms ++ [.ref p]))) G (.lst (gs ++ [uf]))) := fun b o n1 n2 e => by rw [upd_ne n2, upd_ne n1]; exact e
        have tk6 := kB6.tk hM4 hG4
        refine ⟨_, _, _, ms ++ [.ref p], gs ++ [uf], rfl, by rw [upd_ne nMG]; exact upd_same, upd_same, ?_, ?_, fun b o n1 n2 e => kB6 b o n1 n2 (k4 _ _ (k3 b o n1 n2 e))⟩
        · rw [List.map_append]
          exact paired_app (paired_imp (fun _ _ h => LkM.go kB6 hM4 hG4 h) hPm4) (.cons (LkM.go kB6 hM4 hG4 ⟨p, ws, rfl, npM, npG, hp2, hP4⟩) .nil)
        · exact paired_app (paired_imp (fun _ _ => FoAt.mono _ _ _ _ tk6) hPg4) (.cons (FoAt.mono _ _ _ _ ((TupK.ext k4).trans tk6) hF3) .nil)
    · obtain ⟨z5, z6, z7, ms, gs, rfl, hM3, hG3, hPm, hPg, k3⟩ := hv
      rw [List.take_of_length_le (by omega)] at hPg
      refine ⟨_, rfl, q G gs H3 hGH hG3 hPg fun b o e => k3 b o (fun z => ?_) (fun z => ?_) (x12 _ _ e)⟩
      · rw [z, hM] at e
        cases e
      · rw [z, hGH] at e
        cases e
abbrev CFirsts (P : Program) (w : World) (K : PySem.W.Frag) (mg : Str → Option Value) (base : Heap) : Prop := Ca P w K mg base 4 "_law_firsts" ["_law_code_here", "_law_page_here", "_law_rows_here"] spFirsts
end
end Pf


namespace Pf
open PySem PySem.Spec PyProof.Rows L2
theorem le_wf {a b : Wf} (h : PySem.W.dataLe false dWf a b = true) : a.1 ≤ b.1 := by
  by_cases c : a.1 ≤ b.1
  · exact c
  · exfalso
    have hlt : b.1 < a.1 := by omega
    have e : PyProof.Rows.lexLt itemOrd (PySem.W.keyToks (dWf b)) (PySem.W.keyToks (dWf a)) = true := by
      simp [dWf, PySem.W.keyToks, PySem.W.keyToksAll, PyProof.Rows.lexLt, itemLt, hlt]
    have h2 : (!PyProof.Rows.lexLt itemOrd (PySem.W.keyToks (dWf b)) (PySem.W.keyToks (dWf a))) = true := h
    rw [e] at h2
    cases h2
theorem SW_rise (L : List Wf) : (SW L).Pairwise fun a b => a.1 ≤ b.1 := by
  have T := PySem.W.sortLe_total (listOrd itemOrd) false fun z : Wf => PySem.W.keyToks (dWf z)
  have p1 := List.pairwise_mergeSort (le := PySem.W.dataLe false dWf) T.trans (fun a b => by
    rcases T.total a b with h | h
    · rw [show PySem.W.dataLe false dWf a b = true from h]
      rfl
    · rw [show PySem.W.dataLe false dWf b a = true from h, Bool.or_true]) L
  exact p1.imp fun h => le_wf h
/-! ### a table and what it counts -/
theorem near_ne {r : Rl} {x : Str} {far : Int} (h : 0 ≤ far) : nearW (SW (wR r x)) far ≠ [] := by
  have hp := wR_pos r x
  cases e : SW (wR r x) with
  | nil => rw [e] at hp; exact absurd hp (by decide)
  | cons y t =>
    unfold nearW
    rw [List.filter_cons_of_pos (by show decide (y.1 ≤ y.1 + far) = true; exact decide_eq_true (by omega))]
    exact fun z => by cases z
theorem sm_kinds {r : Rl} {x : Str} (hx : x.length ≤ 10) (far : Int) : Sm 1000000 3 (.list ((fsK ((nearW (SW (wR r x)) far).map (·.2))).map dFo)) := by
  have h1 := fsK_len ((nearW (SW (wR r x)) far).map (·.2))
  have h2 := near_len (SW (wR r x)) far
  have h3 := wR_len (r := r) hx
  rw [List.length_map] at h1
  refine Sm.lst (n := 2188) (m := 78) (k := 2) (by rw [List.length_map]; omega) (fun d hd => ?_) (by decide)
  obtain ⟨q, hq, rfl⟩ := List.mem_map.mp hd
  obtain ⟨y, hy, rfl⟩ := List.mem_map.mp (fsK_sub q hq)
  have hi := WA_in r x x.length 0 y.2 (wR_in (near_sub _ _ y hy)).1
  refine sm_fo (by omega) fun z hz => ?_
  have := hi.1 z hz
  omega
section
variable {P : Program} {w : World} {K : PySem.W.Frag} {mg : Str → Option Value} {base : Heap}
abbrev CStart (P : Program) (w : World) (K : PySem.W.Frag) (mg : Str → Option Value) (base : Heap) : Prop := Ca P w K mg base 1 "_law_pen" ["_law_script"] (spStart K)
abbrev s_law : Stmt := topS 44
theorem sc_law : FnScope ["_law_script", "_law_pen_here", "_law_shown", "_law_turn", "_law_code_here", "_law_page_here", "_law_rows_here", "_law_some", "_law_far", "_law_right", "_law_found"] ["_law_script"] (defScope s_law) :=
  ⟨rfl, rfl, rfl, by decide +kernel, rfl, by decide +kernel, by decide +kernel⟩
def spLaw (K : PySem.W.Frag) : Sp := fun vs H Q _ => ∃ (a : Addr) (ns : List Int), vs = [.ref a] ∧ SqL K H a (ns.map V.int) ∧ ns.length ≤ 63 ∧ ∀ H', Q (.bl true) H'
theorem ok_law {f : Addr} {fd : FuncData} (F : Fun K "law" "law" s_law f fd) (room : Room 18 callerA) (c_law_pen : CStart P w K mg base) (c_law_pick : CDraw P w K mg base) (c_law_code : CRules P w K mg base) (c_law_page : CLetters P w K mg base) (c_law_rows : CRowsL P w K mg base) (c_law_within : CWthL P w K mg base) (c_law_firsts : CFirsts P w K mg base) (ckindsN : CKindsN P w K mg base) (ckindsE : CKindsE P w K mg base) (ckindsK : CKindsK P w K mg base)
    (mrange : mg "range" = none) (mlen : mg "len" = none) (mrepr : mg "repr" = none) : FnG P w K mg base f fd ["_law_script"] (spLaw K) := by
  refine FnG.of (k := 17) F sc_law room (fun vs H Q E h => ?_) (fun cdv s H vs Q E hr hG h => ?_)
  · obtain ⟨a, ns, rfl, _⟩ := h
    rfl
  · obtain ⟨a, ns, rfl, hS, hns, q⟩ := h
    refine ⟨_, (pss_cons (ps_set (i := 1) sc_law.nd rfl (.inl rfl) (pe_ca c_law_pen (hr.mono (by decide)) (by rfl) (pa_cons (pv 0) pa_nil)))
      (pss_cons (ps_set (i := 2) sc_law.nd rfl (.inl rfl) (pe_lst pa_nil))
      (pss_cons (ps_for PassesOwn.never rfl (pi_range1 (by rfl) mrange (pa_cons pe_int pa_nil)) (pg_name (i := 3) sc_law.nd rfl (.inl rfl)) (pss_cons (ps_set (i := 4) sc_law.nd rfl (.inl rfl) (pe_ca c_law_code (hr.mono (by decide)) (by rfl) (pa_cons (pv 1) pa_nil)))
      (pss_cons (ps_set (i := 5) sc_law.nd rfl (.inl rfl) (pe_ca c_law_page (hr.mono (by decide)) (by rfl) (pa_cons (pv 1) (pa_cons (pv 4) (pa_cons (pe_ix (ixL K) (pe_lst (pa_cons pe_int (pa_cons pe_int (pa_cons pe_int pa_nil)))) (pv 3) (fun _ _ => rfl)) pa_nil)))))
      (pss_one (ps_expr (pe_bm PySem.F.plainAttrs_list PySem.F.slot_list_append PySem.F.type_list_append mt_append (pv 2) (pa_cons (pe_tup (pa_cons (pv 4) (pa_cons (pv 5) (pa_cons (pe_ca c_law_rows (hr.mono (by decide)) (by rfl) (pa_cons (pv 4) (pa_cons (pv 5) pa_nil))) pa_nil)))) pa_nil)))))))
      (pss_cons (ps_for PassesOwn.never rfl (pi_list (pe_op op_cat (pv 2) (pe_revL (pv 2)))) (pg_tup rfl (pgs_cons (pg_name (i := 4) sc_law.nd rfl (.inl rfl)) (pgs_cons (pg_name (i := 5) sc_law.nd rfl (.inl rfl)) (pgs_cons (pg_name (i := 6) sc_law.nd rfl (.inl rfl)) pgs_nil)))) (pss_cons (ps_set (i := 7) sc_law.nd rfl (.inl rfl) (pe_op op_sub (pe_ix (ixT K) (pe_ix (ixL K) (pv 6) (pe_ca c_law_pick (hr.mono (by decide)) (by rfl) (pa_cons (pv 1) (pa_cons (pe_callB (lenQ K) (by rfl) mlen (by decide +kernel) (pa_cons (pv 6) pa_nil)) pa_nil))) (fun _ _ => rfl)) pe_int (fun _ _ => rfl)) (pe_ix (ixT K) (pe_ix (ixL K) (pv 6) pe_int (fun _ _ => rfl)) pe_int (fun _ _ => rfl))))
      (pss_cons (ps_for PassesOwn.never rfl (pi_list (pe_lst (pa_cons pe_int (pa_cons (pv 7) (pa_cons pe_int pa_nil))))) (pg_name (i := 8) sc_law.nd rfl (.inl rfl)) (pss_cons (ps_set (i := 9) sc_law.nd rfl (.inl rfl) (pe_callB (call_show K hG hr.units) (by rfl) mrepr (by decide +kernel) (pa_cons (pe_ca c_law_firsts (hr.mono (by decide)) (by rfl) (pa_cons (pv 4) (pa_cons (pv 5) (pa_cons (pe_ca c_law_within (hr.mono (by decide)) (by rfl) (pa_cons (pv 6) (pa_cons (pv 8) pa_nil))) pa_nil)))) pa_nil)))
      (pss_cons (ps_set (i := 10) sc_law.nd rfl (.inl rfl) (pe_caN ckindsN (hr.mono (by decide)) (by rfl) (pa_cons (pv 4) (pa_cons (pv 5) pa_nil)) (pk_cons (pv 8) pk_nil)))
      (pss_cons (ps_if (pt_cmpR op_ne (pe_callB (call_show K hG hr.units) (by rfl) mrepr (by decide +kernel) (pa_cons (pv 10) pa_nil)) (pv 9) (nomark _)) (pss_one (ps_ret pe_bl)) pss_nil)
      (pss_one (ps_expr (pe_bm PySem.F.plainAttrs_list PySem.F.slot_list_append PySem.F.type_list_append mt_append (pv 10) (pa_cons pe_non pa_nil))))))))
      (pss_one (ps_if (pt_cmpR op_ne (pe_callB (call_show K hG hr.units) (by rfl) mrepr (by decide +kernel) (pa_cons (pe_caE ckindsE (hr.mono (by decide)) (by rfl) (pa_cons (pv 4) (pa_cons (pv 5) pa_nil))) pa_nil)) (pe_callB (call_show K hG hr.units) (by rfl) mrepr (by decide +kernel) (pa_cons (pe_caK ckindsK (hr.mono (by decide)) (by rfl) (pk_cons (pv 5) (pk_cons (pv 4) (pk_cons pe_int pk_nil)))) pa_nil)) (nomark _)) (pss_one (ps_ret pe_bl)) pss_nil)))))
      (pss_one (ps_ret pe_bl)))))), ?_⟩
    refine ⟨_, rfl, a, ns, rfl, hS, hns, fun p c H1 hP1 => ?_⟩
    obtain ⟨op1, hop1⟩ := hP1.some
    refine ⟨Nat.zero_le _, fun ls hls => ?_⟩
    have nls : ls ≠ p := ne_old hop1 hls
    have nlc : ls ≠ c := (hP1.ne hls).2
    refine ⟨3, rfl, by decide, by decide, for_range (n := 3) (fun i σ H2 => ∃ (y3 y4 y5 y6 y7 y8 y9 y10 : Option V) (us : List V), σ = [some (.ref a), some (.ref p), some (.ref ls), y3, y4, y5, y6, y7, y8, y9, y10] ∧ H2 ls = some (.lst us) ∧ us.length = i ∧ (∀ u ∈ us, ShOk 10 p ls H2 u) ∧ Pen H2 p c (400 * i))
      ⟨none, none, none, none, none, none, none, none, [], rfl, upd_same, rfl, fun u hu => (by cases hu), hP1.new hls⟩ (fun i σ H2 hi hv => ?_) (fun σ H2 hv => ?_)⟩
    · obtain ⟨y3, y4, y5, y6, y7, y8, y9, y10, us, rfl, hL2, hul, hU2, hP2⟩ := hv
      refine ⟨_, rfl, p, c, _, rfl, hP2, by omega, fun v r H3 hr3 ok of3 k3 hP3 => ?_⟩
      obtain ⟨m2, hm2, hat2⟩ := atI_ints (ns := [8, 6, 7]) (i := 0 + (i : Int)) (by omega) (show (0 : Int) + (i : Int) < 3 by omega)
      have hm2b : 0 ≤ m2 ∧ m2 ≤ 10 := by
        simp only [List.mem_cons, List.not_mem_nil, or_false] at hm2
        omega
      refine ⟨_, rfl, _, rfl, szL (show 3 ≤ 1000000 by decide), fun l6 hl6 => ?_⟩
      have hr6 := RulesAt.mono _ _ _ _ (TupK.new (o := .lst [.int 8, .int 6, .int 7]) hl6) hr3
      refine ⟨_, rfl, l6, _, _, _, rfl, rfl, SqL.of upd_same, hat2, p, c, v, r, m2, _, rfl, hr6, ok, of3, hm2b.1, by omega, hP3.new hl6, by omega, fun x H7 hxm hO k7 hP7 => ?_⟩
      have k67 : Kp p H2 H7 := (k3.trans (Kp.ext (Ext.new hl6))).trans k7
      have hr7 := RulesAt.mono _ _ _ _ (TupK.of k7 (hP3.new hl6)) hr6
      have hL7 := k67 _ _ nls hL2
      have hx10 : x.length ≤ 10 := by omega
      refine ⟨_, rfl, .inl ⟨rfl, _, SqL.of hL7⟩, _, rfl, _, rfl, _, rfl, _, rfl, v, r, x, rfl, hr7, ok, by omega, hO, fun l us8 H8 hl hL8 hP8 x8 => ?_⟩
      refine ⟨szL (show 3 ≤ 1000000 by decide), fun t ht => ?_⟩
      have x9 := Ext.new (o := .tup [v, .str x, .ref l]) ht
      have x79 := x8.trans x9
      have hL9 := x79 _ _ hL7
      refine ⟨ls, us, .ref t, rfl, rfl, hL9, szLt (by omega), ?_⟩
      obtain ⟨op7, hop7⟩ := hP7.some
      have nl : l ≠ p := ne_old hop7 hl
      have nlls : l ≠ ls := ne_old hL7 hl
      have tk10 : TupK (upd H8 t (.tup [v, .str x, .ref l])) (upd (upd H8 t (.tup [v, .str x, .ref l])) ls (.lst (us ++ [.ref t]))) := TupK.lst hL9
      refine ⟨_, _, _, _, _, _, _, _, us ++ [.ref t], rfl, upd_same, by rw [List.length_append, List.length_singleton, hul], fun u hu => ?_, ?_⟩
      · rcases List.mem_append.mp hu with hu | hu
        · have k29 : Kp p H2 (upd H8 t (.tup [v, .str x, .ref l])) := k67.trans (Kp.ext x79)
          have tk29 : TupK H2 (upd H8 t (.tup [v, .str x, .ref l])) := (TupK.of k67 hP2).trans (TupK.ext x79)
          exact ((hU2 u hu).kp tk29 k29).put hL9
        · cases List.mem_singleton.mp hu
          refine ⟨r, x, ok, hO, hx10, t, v, l, us8, rfl, tk10.1 _ _ upd_same, RulesAt.mono _ _ _ _ ((TupK.ext x79).trans tk10) hr7, ?_, paired_imp (fun _ _ => WfAt.mono _ _ _ _ ((TupK.ext x9).trans tk10)) hP8, nl, nlls⟩
          rw [upd_ne nlls]
          exact x9 _ _ hL8
      · have := (hP7.ext x79).put (q := ls) (o := .lst (us ++ [.ref t])) nls nlc
        exact this.mono (by omega)
    · obtain ⟨y3, y4, y5, y6, y7, y8, y9, y10, us, rfl, hL2, hul, hU2, hP2⟩ := hv
      refine ⟨_, rfl, _, rfl, ls, us, rfl, SqL.of hL2, fun l3 hl3 => ?_⟩
      have x3 := Ext.new (o := .lst us.reverse) hl3
      refine ⟨ls, l3, us, us.reverse, rfl, rfl, x3 _ _ hL2, upd_same, szL (by rw [List.length_reverse]; omega), fun l4 hl4 => ?_⟩
      have x4 := Ext.new (o := .lst (us ++ us.reverse)) hl4
      have x34 := x3.trans x4
      have hU4 : ∀ u ∈ us ++ us.reverse, ShOk 10 p ls (upd (upd H2 l3 (.lst us.reverse)) l4 (.lst (us ++ us.reverse))) u := fun u hu => by
        have hu : u ∈ us := by
          rcases List.mem_append.mp hu with hu | hu
          · exact hu
          · exact List.mem_reverse.mp hu
        exact (hU2 u hu).kp (TupK.ext x34) (Kp.ext x34)
      have hP4 := hP2.ext x34
      have hL4 : (upd (upd H2 l3 (.lst us.reverse)) l4 (.lst (us ++ us.reverse))) l4 = some (.lst (us ++ us.reverse)) := upd_same
      have h6l : (us ++ us.reverse).length = 6 := by
        rw [List.length_append, List.length_reverse]
        omega
      generalize upd (upd H2 l3 (.lst us.reverse)) l4 (.lst (us ++ us.reverse)) = H4 at hU4 hP4 hL4
      generalize us ++ us.reverse = vs at hU4 hL4 h6l
      obtain ⟨op2, hop2⟩ := hP2.some
      have n4 : l4 ≠ p := ne_old (x3 _ _ hop2) hl4
      refine ⟨l4, rfl, ⟨_, SqL.of hL4⟩, for_list (K := K) (xs := vs) (fun i σ H5 => ∃ (y3 y4 y5 y6 y7 y8 y9 y10 : Option V), σ = [some (.ref a), some (.ref p), some (.ref ls), y3, y4, y5, y6, y7, y8, y9, y10] ∧ Kp p H4 H5 ∧ Pen H5 p c (1200 + 100 * i))
        ⟨_, _, _, _, _, _, _, _, rfl, Kp.refl, hP4.mono (by omega)⟩ (fun i σ H5 _ h => by obtain ⟨_, _, _, _, _, _, _, _, _, k, _⟩ := h; exact SqL.of (k _ _ n4 hL4)) (fun i u σ H5 hi hv => ?_) (fun σ H5 hv => ?_)⟩
      · obtain ⟨y3, y4, y5, y6, y7, y8, y9, y10, rfl, k5, hP5⟩ := hv
        have il : i < 6 := by
          have := (List.getElem?_eq_some_iff.mp hi).1
          omega
        obtain ⟨r, x, ok, hO, hx, t, v, l, us5, rfl, hT5, hR5, hL5, hW5, nlp, nls'⟩ := (hU4 u (List.mem_of_getElem? hi)).kp (TupK.of k5 hP4) k5
        have hrl := wR_len (r := r) hx
        have hrp := wR_pos r x
        have hul5 := paired_len hW5
        have smF : ∀ far : Int, Sm 1000000 3 (.list ((fsK ((nearW (SW (wR r x)) far).map (·.2))).map dFo)) := sm_kinds hx
        have hneN : ∀ far : Int, 0 ≤ far → nearW (SW (wR r x)) far ≠ [] := fun far h => near_ne h
        have hinR : ∀ y ∈ SW (wR r x), y.2 ∈ WA r x x.length 0 := fun y hy => (wR_in hy).1
        have hris := SW_rise (wR r x)
        generalize hrows : SW (wR r x) = rows at hrl hrp hul5 hW5 smF hneN hinR hris
        refine ⟨t, _, rfl, SqT.of hT5, rfl, _, _, rfl, _, _, rfl, _, _, rfl, rfl, ?_⟩
        -- how much more
        refine ⟨_, rfl, _, rfl, _, rfl, l, us5, rfl, .inl (SqL.of hL5), p, c, _, _, rfl, hP5, by omega, by omega, by omega, fun z H6 z0 z1 k6 hP6 => ?_⟩
        have tk6 := TupK.of k6 hP5
        have hL6 := k6 _ _ nlp hL5
        have hW6 := paired_imp (fun _ _ => WfAt.mono _ _ _ _ tk6) hW5
        have hR6 := RulesAt.mono _ _ _ _ tk6 hR5
        obtain ⟨yz, hyz, hwz⟩ := paired_get hW6 (List.getElem?_eq_getElem (show z.toNat < us5.length by omega))
        obtain ⟨y0, hy0, hw0⟩ := paired_get hW6 (List.getElem?_eq_getElem (show 0 < us5.length by omega))
        have atz : atI us5 z = some (us5[z.toNat]'(by omega)) := atI_get z0 (by omega)
        have at0 : atI us5 0 = some (us5[0]'(by omega)) := atI_get (by omega) (by omega)
        obtain ⟨az, uz, ez, hz1, _⟩ := hwz
        obtain ⟨a0, u0, e0, h01, _⟩ := hw0
        rw [ez] at atz
        rw [e0] at at0
        refine ⟨l, _, _, _, rfl, rfl, SqL.of hL6, atz, az, _, 0, _, rfl, rfl, SqT.of hz1, rfl, _, rfl, l, _, 0, _, rfl, rfl, SqL.of hL6, at0, a0, _, 0, _, rfl, rfl, SqT.of h01, rfl, _, _, rfl, rfl, ?_⟩
        obtain ⟨some', hsome⟩ : ∃ w : Int, w = yz.1 - y0.1 := ⟨_, rfl⟩
        refine go_name ?_
        dsimp only
        rw [← hsome]
        have hs0 : 0 ≤ some' := by
          have e1 := List.getElem?_eq_some_iff.mp hyz
          have e2 := List.getElem?_eq_some_iff.mp hy0
          obtain ⟨l1, e1⟩ := e1
          obtain ⟨l2, e2⟩ := e2
          rcases Nat.eq_zero_or_pos z.toNat with hz0 | hz0
          · have : yz = y0 := by
              rw [← e1, ← e2]
              congr 1
            rw [hsome, this]
            omega
          · have := List.pairwise_iff_getElem.mp hris 0 z.toNat l2 l1 hz0
            rw [e1, e2] at this
            omega
        refine ⟨_, rfl, szL (show 3 ≤ 1000000 by decide), fun lf hlf => ?_⟩
        have x8 := Ext.new (o := .lst [.int 0, .int some', .int 9999]) hlf
        have hL8 := x8 _ _ hL6
        have hW8 := paired_imp (fun _ _ => WfAt.mono _ _ _ _ (TupK.ext x8)) hW6
        have hR8 := RulesAt.mono _ _ _ _ (TupK.ext x8) hR6
        have hlf8 : (upd H6 lf (.lst [.int 0, .int some', .int 9999])) lf = some (.lst (([0, some', 9999] : List Int).map V.int)) := upd_same
        have hP8 := hP6.ext x8
        have k58 : Kp p H4 (upd H6 lf (.lst [.int 0, .int some', .int 9999])) := (k5.trans k6).trans (Kp.ext x8)
        have hfars : ∀ f ∈ ([0, some', 9999] : List Int), 0 ≤ f := fun f hf => by
          simp only [List.mem_cons, List.not_mem_nil, or_false] at hf
          omega
        generalize upd H6 lf (.lst [.int 0, .int some', .int 9999]) = H8 at hL8 hW8 hR8 hlf8 hP8 k58
        generalize ([0, some', 9999] : List Int) = fars at hlf8 hfars
        refine ⟨lf, rfl, ⟨_, SqL.of hlf8⟩, for_list (K := K) (xs := fars.map V.int) (fun i σ H9 => ∃ (y8 y9 y10 : Option V), σ = [some (.ref a), some (.ref p), some (.ref ls), y3, some v, some (.str x), some (.ref l), some (.int some'), y8, y9, y10] ∧ Ext H8 H9)
          ⟨_, _, _, rfl, Ext.refl⟩ (fun i σ H9 _ h => by obtain ⟨_, _, _, _, k⟩ := h; exact SqL.of (k _ _ hlf8)) (fun i u σ H9 hi hv => ?_) (fun σ H9 hv => ?_)⟩
        · obtain ⟨y8, y9, y10, rfl, k9⟩ := hv
          rw [List.getElem?_map] at hi
          obtain ⟨far, hfar, rfl⟩ := Option.map_eq_some_iff.mp hi
          have hf0 := hfars far (List.mem_of_getElem? hfar)
          have hnl := near_len rows far
          refine ⟨_, rfl, _, rfl, _, rfl, _, rfl, l, us5, rows, far, rfl, k9 _ _ hL8, paired_imp (fun _ _ => WfAt.mono _ _ _ _ (TupK.ext k9)) hW8, by omega, fun p1 ws1 H10 hp1 hL10 hP10 x10 => ?_⟩
          have k10 := k9.trans x10
          refine ⟨v, r, x, p1, ws1, nearW rows far, rfl, RulesAt.mono _ _ _ _ (TupK.ext k10) hR8, ok, by omega, hO, hL10, hP10, by omega, fun y hy => hinR y (near_sub _ _ y hy), fun p2 ws2 H11 hp2 hL11 hP11 x11 => ?_⟩
          have k11 := k10.trans x11
          refine ⟨_, _, _, _, rfl, .lst (SqL.of hL11) (dpFos hP11), smF far, Nat.le_refl _, by decide, ?_⟩
          refine ⟨_, rfl, _, rfl, _, rfl, rfl, rfl, v, r, x, far, rfl, (RulesAt.mono _ _ _ _ (TupK.ext k11) hR8).w, ok, by omega, hO, by rw [hrows]; exact hneN far hf0, fun p3 ws3 H12 hp3 hL12 hP12 x12 => ?_⟩
          rw [hrows] at hP12
          refine ⟨_, rfl, _, _, _, _, rfl, .lst (SqL.of hL12) (dpFos hP12), smF far, Nat.le_refl _, by decide, ?_⟩
          generalize (PyData.list ((fsK ((nearW rows far).map (·.2))).map dFo)).shown = T
          refine ⟨_, rfl, rfl, _, rfl, iteNS rfl ?_⟩
          have hwl := paired_len hP12
          have hfl := fsK_len ((nearW rows far).map (·.2))
          rw [List.length_map] at hfl
          refine ⟨_, rfl, .inl ⟨rfl, _, SqL.of hL12⟩, p3, ws3, .non, rfl, rfl, hL12, szLt (by omega), ?_⟩
          exact ⟨_, _, _, rfl, k11.trans (x12.put hp3)⟩
        · obtain ⟨y8, y9, y10, rfl, k9⟩ := hv
          have hR9 := RulesAt.mono _ _ _ _ (TupK.ext k9) hR8
          refine ⟨_, rfl, _, rfl, v, r, x, 0, rfl, hR9.w, ok, by omega, hO, by rw [hrows]; exact hneN 0 (Int.le_refl _), fun p3 ws3 H13 hp3 hL13 hP13 x13 => ?_⟩
          rw [hrows] at hP13
          refine ⟨_, _, _, _, rfl, .lst (SqL.of hL13) (dpFos hP13), smF 0, Nat.le_refl _, by decide, ?_⟩
          have k13 := k9.trans x13
          refine ⟨_, rfl, _, rfl, rfl, rfl, v, r, x, 0, rfl, (RulesAt.mono _ _ _ _ (TupK.ext k13) hR8).w, ok, by omega, hO, by rw [hrows]; exact hneN 0 (Int.le_refl _), fun p4 ws4 H14 hp4 hL14 hP14 x14 => ?_⟩
          rw [hrows] at hP14
          refine ⟨_, _, _, _, rfl, .lst (SqL.of hL14) (dpFos hP14), smF 0, Nat.le_refl _, by decide, ?_⟩
          generalize (PyData.list ((fsK ((nearW rows 0).map (·.2))).map dFo)).shown = T
          refine ⟨rfl, _, rfl, iteNS rfl ?_⟩
          have k14 := k13.trans x14
          exact ⟨_, _, _, _, _, _, _, _, rfl, k58.trans (Kp.ext k14), (hP8.ext k14).mono (by omega)⟩
      · exact q _
end
end Pf


namespace Pf
open PySem PySem.Spec PyProof.Rows L2
/-! ### what the top has written; the law's own head -/
theorem all_mk {l : PySem.W.OpenLaw} {w : World} {K : PySem.W.Frag} {h : Heap} {mg : Str → Option Value} {fa f0 f1 f2 f3 f4 f5 f6 f7 f8 f9 f10 f11 f12 f13 f14 f15 f16 f17 f18 f19 f20 f21 f22 f23 f24 f25 f26 f27 f28 f29 f30 f31 f32 f33 : Addr} (X : K.In h) (G : h.Ns mainGlobals mg) (hfa : mg "law" = some (.ref fa))
    {od0 an0 od1 an1 od2 an2 od3 an3 od4 an4 od5 an5 od6 an6 od7 an7 od8 an8 od9 an9 od10 an10 od11 an11 od12 an12 od13 an13 od14 an14 od15 an15 od16 an16 od17 an17 od18 an18 od19 an19 od20 an20 od21 an21 od22 an22 od23 an23 od24 an24 od25 an25 od26 an26 od27 an27 od28 an28 od29 an29 od30 an30 od31 an31 od32 an32 od33 an33 : Option Addr} {sl0 sl1 sl2 sl3 sl4 sl5 sl6 sl7 sl8 sl9 sl10 sl11 sl12 sl13 sl14 sl15 sl16 sl17 sl18 sl19 sl20 sl21 sl22 sl23 sl24 sl25 sl26 sl27 sl28 sl29 sl30 sl31 sl32 sl33 : Array (Option Value)} {oc0 kV0 dc0 pm0 cd0 ct0 oc1 kV1 dc1 pm1 cd1 ct1 oc2 kV2 dc2 pm2 cd2 ct2 oc3 kV3 dc3 pm3 cd3 ct3 oc4 kV4 dc4 pm4 cd4 ct4 oc5 kV5 dc5 pm5 cd5 ct5 oc6 kV6 dc6 pm6 cd6 ct6 oc7 kV7 dc7 pm7 cd7 ct7 oc8 kV8 dc8 pm8 cd8 ct8 oc9 kV9 dc9 pm9 cd9 ct9 oc10 kV10 dc10 pm10 cd10 ct10 oc11 kV11 dc11 pm11 cd11 ct11 oc12 kV12 dc12 pm12 cd12 ct12 oc13 kV13 dc13 pm13 cd13 ct13 oc14 kV14 dc14 pm14 cd14 ct14 oc15 kV15 dc15 pm15 cd15 ct15 oc16 kV16 dc16 pm16 cd16 ct16 oc17 kV17 dc17 pm17 cd17 ct17 oc18 kV18 dc18 pm18 cd18 ct18 oc19 kV19 dc19 pm19 cd19 ct19 oc20 kV20 dc20 pm20 cd20 ct20 oc21 kV21 dc21 pm21 cd21 ct21 oc22 kV22 dc22 pm22 cd22 ct22 oc23 kV23 dc23 pm23 cd23 ct23 oc24 kV24 dc24 pm24 cd24 ct24 oc25 kV25 dc25 pm25 cd25 ct25 oc26 kV26 dc26 pm26 cd26 ct26 oc27 kV27 dc27 pm27 cd27 ct27 oc28 kV28 dc28 pm28 cd28 ct28 oc29 kV29 dc29 pm29 cd29 ct29 oc30 dc30 pm30 cd30 ct30 oc31 kV31 dc31 pm31 cd31 ct31 oc32 dc32 pm32 cd32 ct32 oc33 kV33 dc33 pm33 cd33 ct33 : Value} {D30 : Addr} {tK30_0 : Tok} {D32 : Addr} {tK32_0 : Tok} {aL : Addr} {odG : Option Addr} {slG : Array (Option Value)} {nG : Nat} {tG0 tG1 tG2 tG3 tG4 tG5 tG6 tG7 tG8 : Tok} {tI0 : Tok} 
    (a0 : PySem.W.nsIn K mainGlobals "_law_pen" = some (some (.ref f0))) (l0 : K.lookup f0 = some ⟨oc0, od0, .func (PySem.W.fnOf "_law_pen" "_law_pen" (defArgs s_law_pen) (defBody s_law_pen) (defScope s_law_pen) .none kV0 dc0 pm0 an0 cd0 ct0), sl0⟩) (c0 : PySem.W.codeIn K cd0 "_law_pen" = true) (k0 : PySem.W.keepIn K (.ref f0) = true)
    (a1 : PySem.W.nsIn K mainGlobals "_law_pick" = some (some (.ref f1))) (l1 : K.lookup f1 = some ⟨oc1, od1, .func (PySem.W.fnOf "_law_pick" "_law_pick" (defArgs s_law_pick) (defBody s_law_pick) (defScope s_law_pick) .none kV1 dc1 pm1 an1 cd1 ct1), sl1⟩) (c1 : PySem.W.codeIn K cd1 "_law_pick" = true) (k1 : PySem.W.keepIn K (.ref f1) = true)
    (a2 : PySem.W.nsIn K mainGlobals "_law_some_worth" = some (some (.ref f2))) (l2 : K.lookup f2 = some ⟨oc2, od2, .func (PySem.W.fnOf "_law_some_worth" "_law_some_worth" (defArgs s_law_some_worth) (defBody s_law_some_worth) (defScope s_law_some_worth) .none kV2 dc2 pm2 an2 cd2 ct2), sl2⟩) (c2 : PySem.W.codeIn K cd2 "_law_some_worth" = true) (k2 : PySem.W.keepIn K (.ref f2) = true)
    (a3 : PySem.W.nsIn K mainGlobals "_law_ties" = some (some (.ref f3))) (l3 : K.lookup f3 = some ⟨oc3, od3, .func (PySem.W.fnOf "_law_ties" "_law_ties" (defArgs s_law_ties) (defBody s_law_ties) (defScope s_law_ties) .none kV3 dc3 pm3 an3 cd3 ct3), sl3⟩) (c3 : PySem.W.codeIn K cd3 "_law_ties" = true) (k3 : PySem.W.keepIn K (.ref f3) = true)
    (a4 : PySem.W.nsIn K mainGlobals "_law_code" = some (some (.ref f4))) (l4 : K.lookup f4 = some ⟨oc4, od4, .func (PySem.W.fnOf "_law_code" "_law_code" (defArgs s_law_code) (defBody s_law_code) (defScope s_law_code) .none kV4 dc4 pm4 an4 cd4 ct4), sl4⟩) (c4 : PySem.W.codeIn K cd4 "_law_code" = true) (k4 : PySem.W.keepIn K (.ref f4) = true)
    (a5 : PySem.W.nsIn K mainGlobals "_law_page" = some (some (.ref f5))) (l5 : K.lookup f5 = some ⟨oc5, od5, .func (PySem.W.fnOf "_law_page" "_law_page" (defArgs s_law_page) (defBody s_law_page) (defScope s_law_page) .none kV5 dc5 pm5 an5 cd5 ct5), sl5⟩) (c5 : PySem.W.codeIn K cd5 "_law_page" = true) (k5 : PySem.W.keepIn K (.ref f5) = true)
    (a6 : PySem.W.nsIn K mainGlobals "_law_may" = some (some (.ref f6))) (l6 : K.lookup f6 = some ⟨oc6, od6, .func (PySem.W.fnOf "_law_may" "_law_may" (defArgs s_law_may) (defBody s_law_may) (defScope s_law_may) .none kV6 dc6 pm6 an6 cd6 ct6), sl6⟩) (c6 : PySem.W.codeIn K cd6 "_law_may" = true) (k6 : PySem.W.keepIn K (.ref f6) = true)
    (a7 : PySem.W.nsIn K mainGlobals "_law_all" = some (some (.ref f7))) (l7 : K.lookup f7 = some ⟨oc7, od7, .func (PySem.W.fnOf "_law_all" "_law_all" (defArgs s_law_all) (defBody s_law_all) (defScope s_law_all) .none kV7 dc7 pm7 an7 cd7 ct7), sl7⟩) (c7 : PySem.W.codeIn K cd7 "_law_all" = true) (k7 : PySem.W.keepIn K (.ref f7) = true)
    (a8 : PySem.W.nsIn K mainGlobals "_law_straight" = some (some (.ref f8))) (l8 : K.lookup f8 = some ⟨oc8, od8, .func (PySem.W.fnOf "_law_straight" "_law_straight" (defArgs s_law_straight) (defBody s_law_straight) (defScope s_law_straight) .none kV8 dc8 pm8 an8 cd8 ct8), sl8⟩) (c8 : PySem.W.codeIn K cd8 "_law_straight" = true) (k8 : PySem.W.keepIn K (.ref f8) = true)
    (a9 : PySem.W.nsIn K mainGlobals "_law_loop" = some (some (.ref f9))) (l9 : K.lookup f9 = some ⟨oc9, od9, .func (PySem.W.fnOf "_law_loop" "_law_loop" (defArgs s_law_loop) (defBody s_law_loop) (defScope s_law_loop) .none kV9 dc9 pm9 an9 cd9 ct9), sl9⟩) (c9 : PySem.W.codeIn K cd9 "_law_loop" = true) (k9 : PySem.W.keepIn K (.ref f9) = true)
    (a10 : PySem.W.nsIn K mainGlobals "_law_worth" = some (some (.ref f10))) (l10 : K.lookup f10 = some ⟨oc10, od10, .func (PySem.W.fnOf "_law_worth" "_law_worth" (defArgs s_law_worth) (defBody s_law_worth) (defScope s_law_worth) .none kV10 dc10 pm10 an10 cd10 ct10), sl10⟩) (c10 : PySem.W.codeIn K cd10 "_law_worth" = true) (k10 : PySem.W.keepIn K (.ref f10) = true)
    (a11 : PySem.W.nsIn K mainGlobals "_law_rows" = some (some (.ref f11))) (l11 : K.lookup f11 = some ⟨oc11, od11, .func (PySem.W.fnOf "_law_rows" "_law_rows" (defArgs s_law_rows) (defBody s_law_rows) (defScope s_law_rows) .none kV11 dc11 pm11 an11 cd11 ct11), sl11⟩) (c11 : PySem.W.codeIn K cd11 "_law_rows" = true) (k11 : PySem.W.keepIn K (.ref f11) = true)
    (a12 : PySem.W.nsIn K mainGlobals "_law_within" = some (some (.ref f12))) (l12 : K.lookup f12 = some ⟨oc12, od12, .func (PySem.W.fnOf "_law_within" "_law_within" (defArgs s_law_within) (defBody s_law_within) (defScope s_law_within) .none kV12 dc12 pm12 an12 cd12 ct12), sl12⟩) (c12 : PySem.W.codeIn K cd12 "_law_within" = true) (k12 : PySem.W.keepIn K (.ref f12) = true)
    (a13 : PySem.W.nsIn K mainGlobals "_law_sort" = some (some (.ref f13))) (l13 : K.lookup f13 = some ⟨oc13, od13, .func (PySem.W.fnOf "_law_sort" "_law_sort" (defArgs s_law_sort) (defBody s_law_sort) (defScope s_law_sort) .none kV13 dc13 pm13 an13 cd13 ct13), sl13⟩) (c13 : PySem.W.codeIn K cd13 "_law_sort" = true) (k13 : PySem.W.keepIn K (.ref f13) = true)
    (a14 : PySem.W.nsIn K mainGlobals "_law_firsts" = some (some (.ref f14))) (l14 : K.lookup f14 = some ⟨oc14, od14, .func (PySem.W.fnOf "_law_firsts" "_law_firsts" (defArgs s_law_firsts) (defBody s_law_firsts) (defScope s_law_firsts) .none kV14 dc14 pm14 an14 cd14 ct14), sl14⟩) (c14 : PySem.W.codeIn K cd14 "_law_firsts" = true) (k14 : PySem.W.keepIn K (.ref f14) = true)
    (a15 : PySem.W.nsIn K mainGlobals "pair_worth" = some (some (.ref f15))) (l15 : K.lookup f15 = some ⟨oc15, od15, .func (PySem.W.fnOf "pair_worth" "pair_worth" (defArgs s_pair_worth) (defBody s_pair_worth) (defScope s_pair_worth) .none kV15 dc15 pm15 an15 cd15 ct15), sl15⟩) (c15 : PySem.W.codeIn K cd15 "pair_worth" = true) (k15 : PySem.W.keepIn K (.ref f15) = true)
    (a16 : PySem.W.nsIn K mainGlobals "text_of" = some (some (.ref f16))) (l16 : K.lookup f16 = some ⟨oc16, od16, .func (PySem.W.fnOf "text_of" "text_of" (defArgs s_text_of) (defBody s_text_of) (defScope s_text_of) .none kV16 dc16 pm16 an16 cd16 ct16), sl16⟩) (c16 : PySem.W.codeIn K cd16 "text_of" = true) (k16 : PySem.W.keepIn K (.ref f16) = true)
    (a17 : PySem.W.nsIn K mainGlobals "may_pair" = some (some (.ref f17))) (l17 : K.lookup f17 = some ⟨oc17, od17, .func (PySem.W.fnOf "may_pair" "may_pair" (defArgs s_may_pair) (defBody s_may_pair) (defScope s_may_pair) .none kV17 dc17 pm17 an17 cd17 ct17), sl17⟩) (c17 : PySem.W.codeIn K cd17 "may_pair" = true) (k17 : PySem.W.keepIn K (.ref f17) = true)
    (a18 : PySem.W.nsIn K mainGlobals "is_string" = some (some (.ref f18))) (l18 : K.lookup f18 = some ⟨oc18, od18, .func (PySem.W.fnOf "is_string" "is_string" (defArgs s_is_string) (defBody s_is_string) (defScope s_is_string) .none kV18 dc18 pm18 an18 cd18 ct18), sl18⟩) (c18 : PySem.W.codeIn K cd18 "is_string" = true) (k18 : PySem.W.keepIn K (.ref f18) = true)
    (a19 : PySem.W.nsIn K mainGlobals "need_string" = some (some (.ref f19))) (l19 : K.lookup f19 = some ⟨oc19, od19, .func (PySem.W.fnOf "need_string" "need_string" (defArgs s_need_string) (defBody s_need_string) (defScope s_need_string) .none kV19 dc19 pm19 an19 cd19 ct19), sl19⟩) (c19 : PySem.W.codeIn K cd19 "need_string" = true) (k19 : PySem.W.keepIn K (.ref f19) = true)
    (a20 : PySem.W.nsIn K mainGlobals "stretch_foldings" = some (some (.ref f20))) (l20 : K.lookup f20 = some ⟨oc20, od20, .func (PySem.W.fnOf "stretch_foldings" "stretch_foldings" (defArgs s_stretch_foldings) (defBody s_stretch_foldings) (defScope s_stretch_foldings) .none kV20 dc20 pm20 an20 cd20 ct20), sl20⟩) (c20 : PySem.W.codeIn K cd20 "stretch_foldings" = true) (k20 : PySem.W.keepIn K (.ref f20) = true)
    (a21 : PySem.W.nsIn K mainGlobals "all_foldings" = some (some (.ref f21))) (l21 : K.lookup f21 = some ⟨oc21, od21, .func (PySem.W.fnOf "all_foldings" "all_foldings" (defArgs s_all_foldings) (defBody s_all_foldings) (defScope s_all_foldings) .none kV21 dc21 pm21 an21 cd21 ct21), sl21⟩) (c21 : PySem.W.codeIn K cd21 "all_foldings" = true) (k21 : PySem.W.keepIn K (.ref f21) = true)
    (a22 : PySem.W.nsIn K mainGlobals "stack_worth" = some (some (.ref f22))) (l22 : K.lookup f22 = some ⟨oc22, od22, .func (PySem.W.fnOf "stack_worth" "stack_worth" (defArgs s_stack_worth) (defBody s_stack_worth) (defScope s_stack_worth) .none kV22 dc22 pm22 an22 cd22 ct22), sl22⟩) (c22 : PySem.W.codeIn K cd22 "stack_worth" = true) (k22 : PySem.W.keepIn K (.ref f22) = true)
    (a23 : PySem.W.nsIn K mainGlobals "loop_worths" = some (some (.ref f23))) (l23 : K.lookup f23 = some ⟨oc23, od23, .func (PySem.W.fnOf "loop_worths" "loop_worths" (defArgs s_loop_worths) (defBody s_loop_worths) (defScope s_loop_worths) .none kV23 dc23 pm23 an23 cd23 ct23), sl23⟩) (c23 : PySem.W.codeIn K cd23 "loop_worths" = true) (k23 : PySem.W.keepIn K (.ref f23) = true)
    (a24 : PySem.W.nsIn K mainGlobals "kind_of" = some (some (.ref f24))) (l24 : K.lookup f24 = some ⟨oc24, od24, .func (PySem.W.fnOf "kind_of" "kind_of" (defArgs s_kind_of) (defBody s_kind_of) (defScope s_kind_of) .none kV24 dc24 pm24 an24 cd24 ct24), sl24⟩) (c24 : PySem.W.codeIn K cd24 "kind_of" = true) (k24 : PySem.W.keepIn K (.ref f24) = true)
    (a25 : PySem.W.nsIn K mainGlobals "loop_within" = some (some (.ref f25))) (l25 : K.lookup f25 = some ⟨oc25, od25, .func (PySem.W.fnOf "loop_within" "loop_within" (defArgs s_loop_within) (defBody s_loop_within) (defScope s_loop_within) .none kV25 dc25 pm25 an25 cd25 ct25), sl25⟩) (c25 : PySem.W.codeIn K cd25 "loop_within" = true) (k25 : PySem.W.keepIn K (.ref f25) = true)
    (a26 : PySem.W.nsIn K mainGlobals "straight_within" = some (some (.ref f26))) (l26 : K.lookup f26 = some ⟨oc26, od26, .func (PySem.W.fnOf "straight_within" "straight_within" (defArgs s_straight_within) (defBody s_straight_within) (defScope s_straight_within) .none kV26 dc26 pm26 an26 cd26 ct26), sl26⟩) (c26 : PySem.W.codeIn K cd26 "straight_within" = true) (k26 : PySem.W.keepIn K (.ref f26) = true)
    (a27 : PySem.W.nsIn K mainGlobals "loops_of" = some (some (.ref f27))) (l27 : K.lookup f27 = some ⟨oc27, od27, .func (PySem.W.fnOf "loops_of" "loops_of" (defArgs s_loops_of) (defBody s_loops_of) (defScope s_loops_of) .none kV27 dc27 pm27 an27 cd27 ct27), sl27⟩) (c27 : PySem.W.codeIn K cd27 "loops_of" = true) (k27 : PySem.W.keepIn K (.ref f27) = true)
    (a28 : PySem.W.nsIn K mainGlobals "worth_of" = some (some (.ref f28))) (l28 : K.lookup f28 = some ⟨oc28, od28, .func (PySem.W.fnOf "worth_of" "worth_of" (defArgs s_worth_of) (defBody s_worth_of) (defScope s_worth_of) .none kV28 dc28 pm28 an28 cd28 ct28), sl28⟩) (c28 : PySem.W.codeIn K cd28 "worth_of" = true) (k28 : PySem.W.keepIn K (.ref f28) = true)
    (a29 : PySem.W.nsIn K mainGlobals "with_worths" = some (some (.ref f29))) (l29 : K.lookup f29 = some ⟨oc29, od29, .func (PySem.W.fnOf "with_worths" "with_worths" (defArgs s_with_worths) (defBody s_with_worths) (defScope s_with_worths) .none kV29 dc29 pm29 an29 cd29 ct29), sl29⟩) (c29 : PySem.W.codeIn K cd29 "with_worths" = true) (k29 : PySem.W.keepIn K (.ref f29) = true)
    (a30 : PySem.W.nsIn K mainGlobals "near" = some (some (.ref f30))) (l30 : K.lookup f30 = some ⟨oc30, od30, .func (PySem.W.fnOf "near" "near" (defArgs s_near) (defBody s_near) (defScope s_near) .none (.ref D30) dc30 pm30 an30 cd30 ct30), sl30⟩) (c30 : PySem.W.codeIn K cd30 "near" = true) (k30 : PySem.W.keepIn K (.ref f30) = true) (q30_0 : PySem.W.nsIn K D30 "more" = some (some (.int 0 tK30_0)))
    (a31 : PySem.W.nsIn K mainGlobals "loop_kinds" = some (some (.ref f31))) (l31 : K.lookup f31 = some ⟨oc31, od31, .func (PySem.W.fnOf "loop_kinds" "loop_kinds" (defArgs s_loop_kinds) (defBody s_loop_kinds) (defScope s_loop_kinds) .none kV31 dc31 pm31 an31 cd31 ct31), sl31⟩) (c31 : PySem.W.codeIn K cd31 "loop_kinds" = true) (k31 : PySem.W.keepIn K (.ref f31) = true)
    (a32 : PySem.W.nsIn K mainGlobals "kinds" = some (some (.ref f32))) (l32 : K.lookup f32 = some ⟨oc32, od32, .func (PySem.W.fnOf "kinds" "kinds" (defArgs s_kinds) (defBody s_kinds) (defScope s_kinds) .none (.ref D32) dc32 pm32 an32 cd32 ct32), sl32⟩) (c32 : PySem.W.codeIn K cd32 "kinds" = true) (k32 : PySem.W.keepIn K (.ref f32) = true) (q32_0 : PySem.W.nsIn K D32 "more" = some (some (.int 0 tK32_0)))
    (a33 : PySem.W.nsIn K mainGlobals "law" = some (some (.ref f33))) (l33 : K.lookup f33 = some ⟨oc33, od33, .func (PySem.W.fnOf "law" "law" (defArgs s_law) (defBody s_law) (defScope s_law) .none kV33 dc33 pm33 an33 cd33 ct33), sl33⟩) (c33 : PySem.W.codeIn K cd33 "law" = true) (k33 : PySem.W.keepIn K (.ref f33) = true)
    (z0 : PySem.W.nsIn K mainGlobals "list" = some none)
    (z1 : PySem.W.nsIn K mainGlobals "len" = some none)
    (z2 : PySem.W.nsIn K mainGlobals "abs" = some none)
    (z3 : PySem.W.nsIn K mainGlobals "int" = some none)
    (z4 : PySem.W.nsIn K mainGlobals "sum" = some none)
    (z5 : PySem.W.nsIn K mainGlobals "min" = some none)
    (z6 : PySem.W.nsIn K mainGlobals "range" = some none)
    (z7 : PySem.W.nsIn K mainGlobals "sorted" = some none)
    (z8 : PySem.W.nsIn K mainGlobals "tuple" = some none)
    (z9 : PySem.W.nsIn K mainGlobals "dict" = some none)
    (z10 : PySem.W.nsIn K mainGlobals "isinstance" = some none)
    (z11 : PySem.W.nsIn K mainGlobals "str" = some none)
    (z12 : PySem.W.nsIn K mainGlobals "all" = some none)
    (z13 : PySem.W.nsIn K mainGlobals "zip" = some none)
    (z14 : PySem.W.nsIn K mainGlobals "repr" = some none)
    (aG : PySem.W.nsIn K mainGlobals "LOOPS" = some (some (.ref aL))) (lG : K.lookup aL = some ⟨.type "tuple", odG, .seq #[.str "stacked" tG0, .str "inner" tG1, .str "inner free" tG2, .str "forked" tG3, .str "branch" tG4, .str "fork free" tG5, .str "lone" tG6, .str "lone free" tG7, .str "open" tG8] nG, slG⟩)
    (aI0 : PySem.W.nsIn K mainGlobals "MOST_PLACES" = some (some (.int 12 tI0))) :
    ∃ fd : FuncData, (∀ (s : Shared) (v : Value), BindsTo s fd ⟨[v], []⟩ [("_law_script", v)]) ∧ ∀ base : Heap, K.In base → base.Ns mainGlobals mg → FnG l.prog w K mg base fa fd ["_law_script"] (spLaw K) := by
  have e := hfa.symm.trans (PySem.W.mg_of X G a33)
  cases e
  have F0 := fun_mk (st := s_law_pen) l0 c0 k0
  have F1 := fun_mk (st := s_law_pick) l1 c1 k1
  have F2 := fun_mk (st := s_law_some_worth) l2 c2 k2
  have F3 := fun_mk (st := s_law_ties) l3 c3 k3
  have F4 := fun_mk (st := s_law_code) l4 c4 k4
  have F5 := fun_mk (st := s_law_page) l5 c5 k5
  have F6 := fun_mk (st := s_law_may) l6 c6 k6
  have F7 := fun_mk (st := s_law_all) l7 c7 k7
  have F8 := fun_mk (st := s_law_straight) l8 c8 k8
  have F9 := fun_mk (st := s_law_loop) l9 c9 k9
  have F10 := fun_mk (st := s_law_worth) l10 c10 k10
  have F11 := fun_mk (st := s_law_rows) l11 c11 k11
  have F12 := fun_mk (st := s_law_within) l12 c12 k12
  have F13 := fun_mk (st := s_law_sort) l13 c13 k13
  have F14 := fun_mk (st := s_law_firsts) l14 c14 k14
  have F15 := fun_mk (st := s_pair_worth) l15 c15 k15
  have F16 := fun_mk (st := s_text_of) l16 c16 k16
  have F17 := fun_mk (st := s_may_pair) l17 c17 k17
  have F18 := fun_mk (st := s_is_string) l18 c18 k18
  have F19 := fun_mk (st := s_need_string) l19 c19 k19
  have F20 := fun_mk (st := s_stretch_foldings) l20 c20 k20
  have F21 := fun_mk (st := s_all_foldings) l21 c21 k21
  have F22 := fun_mk (st := s_stack_worth) l22 c22 k22
  have F23 := fun_mk (st := s_loop_worths) l23 c23 k23
  have F24 := fun_mk (st := s_kind_of) l24 c24 k24
  have F25 := fun_mk (st := s_loop_within) l25 c25 k25
  have F26 := fun_mk (st := s_straight_within) l26 c26 k26
  have F27 := fun_mk (st := s_loops_of) l27 c27 k27
  have F28 := fun_mk (st := s_worth_of) l28 c28 k28
  have F29 := fun_mk (st := s_with_worths) l29 c29 k29
  have F30 : FunD K "near" "near" (defArgs s_near) (defBody s_near) (defScope s_near) [] [("more", .int 0)] f30 (PySem.W.fnOf "near" "near" (defArgs s_near) (defBody s_near) (defScope s_near) .none (.ref D30) dc30 pm30 an30 cd30 ct30) := ⟨⟨oc30, od30, .none, .ref D30, dc30, pm30, an30, cd30, ct30, sl30, rfl, l30, c30, .inl ⟨rfl, rfl⟩, .inr ⟨D30, rfl, fun q hq => by rcases List.mem_cons.mp hq with rfl | hq; exact ⟨_, q30_0, ⟨_, rfl⟩⟩; cases hq⟩⟩, k30⟩
  have F31 := fun_mk (st := s_loop_kinds) l31 c31 k31
  have F32 : FunD K "kinds" "kinds" (defArgs s_kinds) (defBody s_kinds) (defScope s_kinds) [] [("more", .int 0)] f32 (PySem.W.fnOf "kinds" "kinds" (defArgs s_kinds) (defBody s_kinds) (defScope s_kinds) .none (.ref D32) dc32 pm32 an32 cd32 ct32) := ⟨⟨oc32, od32, .none, .ref D32, dc32, pm32, an32, cd32, ct32, sl32, rfl, l32, c32, .inl ⟨rfl, rfl⟩, .inr ⟨D32, rfl, fun q hq => by rcases List.mem_cons.mp hq with rfl | hq; exact ⟨_, q32_0, ⟨_, rfl⟩⟩; cases hq⟩⟩, k32⟩
  have F33 := fun_mk (st := s_law) l33 c33 k33
  have mlist := PySem.W.mg_none_of X G z0
  have mlen := PySem.W.mg_none_of X G z1
  have mabs := PySem.W.mg_none_of X G z2
  have mint := PySem.W.mg_none_of X G z3
  have msum := PySem.W.mg_none_of X G z4
  have mmin := PySem.W.mg_none_of X G z5
  have mrange := PySem.W.mg_none_of X G z6
  have msorted := PySem.W.mg_none_of X G z7
  have mtuple := PySem.W.mg_none_of X G z8
  have mdict := PySem.W.mg_none_of X G z9
  have misinstance := PySem.W.mg_none_of X G z10
  have mstr := PySem.W.mg_none_of X G z11
  have mall := PySem.W.mg_none_of X G z12
  have mzip := PySem.W.mg_none_of X G z13
  have mrepr := PySem.W.mg_none_of X G z14
  have gLOOPS := PySem.W.mg_of X G aG
  have hLO : ∀ H : Hp, SqT K H aL (LN.map V.str) := fun H => .inr ⟨_, _, _, lG, rfl, rfl, szL (show 9 ≤ 1000000 by decide), (.cons ⟨_, rfl⟩ (.cons ⟨_, rfl⟩ (.cons ⟨_, rfl⟩ (.cons ⟨_, rfl⟩ (.cons ⟨_, rfl⟩ (.cons ⟨_, rfl⟩ (.cons ⟨_, rfl⟩ (.cons ⟨_, rfl⟩ (.cons ⟨_, rfl⟩ .nil)))))))))⟩
  have gMOST_PLACES := PySem.W.mg_of X G aI0
  refine ⟨PySem.W.fnOf "law" "law" (defArgs s_law) (defBody s_law) (defScope s_law) .none kV33 dc33 pm33 an33 cd33 ct33, fun s v => .of_eq rfl, fun base _ _ => ?_⟩
  have c_law_pen : Ca l.prog w K mg base 1 "_law_pen" ["_law_script"] (spStart K) := ⟨f0, _, ok_start F0 mlist, PySem.W.mg_of X G a0, F0.kp, F0.binds fun _ _ _ _ _ _ us hl => match us, hl with | [_], _ => rfl⟩
  have c_law_pick : Ca l.prog w K mg base 1 "_law_pick" ["_law_pen_here", "_law_upto"] spDraw := ⟨f1, _, ok_draw F1 mlen mabs mint, PySem.W.mg_of X G a1, F1.kp, F1.binds fun _ _ _ _ _ _ us hl => match us, hl with | [_, _], _ => rfl⟩
  have c_law_some_worth : Ca l.prog w K mg base 2 "_law_some_worth" ["_law_pen_here"] spWorth := ⟨f2, _, ok_worth F2 c_law_pick, PySem.W.mg_of X G a2, F2.kp, F2.binds fun _ _ _ _ _ _ us hl => match us, hl with | [_], _ => rfl⟩
  have c_law_ties : Ca l.prog w K mg base 3 "_law_ties" ["_law_pen_here", "_law_letters", "_law_upto"] spTies := ⟨f3, _, ok_ties F3 c_law_pick c_law_some_worth msum mmin mlen mrange msorted mtuple, PySem.W.mg_of X G a3, F3.kp, F3.binds fun _ _ _ _ _ _ us hl => match us, hl with | [_, _, _], _ => rfl⟩
  have c_law_code : Ca l.prog w K mg base 4 "_law_code" ["_law_pen_here"] spRules := ⟨f4, _, ok_rules F4 c_law_pick c_law_some_worth c_law_ties mlen mint mtuple mrange msorted, PySem.W.mg_of X G a4, F4.kp, F4.binds fun _ _ _ _ _ _ us hl => match us, hl with | [_], _ => rfl⟩
  have c_law_page : Ca l.prog w K mg base 2 "_law_page" ["_law_pen_here", "_law_code_here", "_law_upto"] spLetters := ⟨f5, _, ok_letters F5 c_law_pick mrange mlen, PySem.W.mg_of X G a5, F5.kp, F5.binds fun _ _ _ _ _ _ us hl => match us, hl with | [_, _, _], _ => rfl⟩
  have c_law_may : Ca l.prog w K mg base 1 "_law_may" ["_law_code_here", "_law_page_here", "_law_i", "_law_j"] spMay := ⟨f6, _, ok_may F6 mdict, PySem.W.mg_of X G a6, F6.kp, F6.binds fun _ _ _ _ _ _ us hl => match us, hl with | [_, _, _, _], _ => rfl⟩
  have c_law_all : Ca l.prog w K mg base 15 "_law_all" ["_law_code_here", "_law_page_here", "_law_first", "_law_last", "_law_known"] (spAllN 13) := ⟨f7, _, ok_allN F7 (F7.binds fun _ _ _ _ _ _ us hl => match us, hl with | [_, _, _, _, _], _ => rfl) (PySem.W.mg_of X G a7) c_law_may mrange mlist 13, PySem.W.mg_of X G a7, F7.kp, F7.binds fun _ _ _ _ _ _ us hl => match us, hl with | [_, _, _, _, _], _ => rfl⟩
  have c_law_straight : Ca l.prog w K mg base 1 "_law_straight" ["_law_shape", "_law_i", "_law_j"] spStrL := ⟨f8, _, ok_strL F8, PySem.W.mg_of X G a8, F8.kp, F8.binds fun _ _ _ _ _ _ us hl => match us, hl with | [_, _, _], _ => rfl⟩
  have c_law_loop : Ca l.prog w K mg base 2 "_law_loop" ["_law_code_here", "_law_page_here", "_law_shape", "_law_i", "_law_j"] spLoopN := ⟨f9, _, ok_loopN F9 c_law_straight mlen msum, PySem.W.mg_of X G a9, F9.kp, F9.binds fun _ _ _ _ _ _ us hl => match us, hl with | [_, _, _, _, _], _ => rfl⟩
  have c_law_worth : Ca l.prog w K mg base 3 "_law_worth" ["_law_code_here", "_law_page_here", "_law_shape"] spValL := ⟨f10, _, ok_valL F10 c_law_straight c_law_loop mlen mdict, PySem.W.mg_of X G a10, F10.kp, F10.binds fun _ _ _ _ _ _ us hl => match us, hl with | [_, _, _], _ => rfl⟩
  have c_law_rows : Ca l.prog w K mg base 16 "_law_rows" ["_law_code_here", "_law_page_here"] spRowsL := ⟨f11, _, ok_rowsL F11 c_law_all c_law_worth mlen msorted, PySem.W.mg_of X G a11, F11.kp, F11.binds fun _ _ _ _ _ _ us hl => match us, hl with | [_, _], _ => rfl⟩
  have c_law_within : Ca l.prog w K mg base 1 "_law_within" ["_law_rows_here", "_law_far"] spWthL := ⟨f12, _, ok_wthL F12, PySem.W.mg_of X G a12, F12.kp, F12.binds fun _ _ _ _ _ _ us hl => match us, hl with | [_, _], _ => rfl⟩
  have c_law_sort : Ca l.prog w K mg base 3 "_law_sort" ["_law_code_here", "_law_page_here", "_law_folding"] spSortL := ⟨f13, _, ok_sortL F13 c_law_loop msorted, PySem.W.mg_of X G a13, F13.kp, F13.binds fun _ _ _ _ _ _ us hl => match us, hl with | [_, _, _], _ => rfl⟩
  have c_law_firsts : Ca l.prog w K mg base 4 "_law_firsts" ["_law_code_here", "_law_page_here", "_law_rows_here"] spFirsts := ⟨f14, _, ok_firsts F14 c_law_sort, PySem.W.mg_of X G a14, F14.kp, F14.binds fun _ _ _ _ _ _ us hl => match us, hl with | [_, _, _], _ => rfl⟩
  have cpair_worth : Ca l.prog w K mg base 1 "pair_worth" ["rules", "both"] spPW := ⟨f15, _, ok_pw F15, PySem.W.mg_of X G a15, F15.kp, F15.binds fun _ _ _ _ _ _ us hl => match us, hl with | [_, _], _ => rfl⟩
  have ctext_of : Ca l.prog w K mg base 1 "text_of" ["string", "pair"] spTextOf := ⟨f16, _, ok_text_of F16, PySem.W.mg_of X G a16, F16.kp, F16.binds fun _ _ _ _ _ _ us hl => match us, hl with | [_, _], _ => rfl⟩
  have cmay_pair : Ca l.prog w K mg base 2 "may_pair" ["rules", "string", "i", "j"] spMP := ⟨f17, _, ok_mp F17 ctext_of cpair_worth mlen, PySem.W.mg_of X G a17, F17.kp, F17.binds fun _ _ _ _ _ _ us hl => match us, hl with | [_, _, _, _], _ => rfl⟩
  have cis_string : Ca l.prog w K mg base 1 "is_string" ["rules", "thing"] spIS := ⟨f18, _, ok_is F18 gMOST_PLACES misinstance mstr mlen mall, PySem.W.mg_of X G a18, F18.kp, F18.binds fun _ _ _ _ _ _ us hl => match us, hl with | [_, _], _ => rfl⟩
  have cneed_string : Ca l.prog w K mg base 2 "need_string" ["rules", "thing"] spNS := ⟨f19, _, ok_ns F19 cis_string, PySem.W.mg_of X G a19, F19.kp, F19.binds fun _ _ _ _ _ _ us hl => match us, hl with | [_, _], _ => rfl⟩
  have cstretch_foldings : Ca l.prog w K mg base 3 "stretch_foldings" ["rules", "string", "i", "j", "told"] spStr := ⟨f20, _, ok_str F20 cmay_pair mrange mlist, PySem.W.mg_of X G a20, F20.kp, F20.binds fun _ _ _ _ _ _ us hl => match us, hl with | [_, _, _, _, _], _ => rfl⟩
  have call_foldings : Ca l.prog w K mg base 4 "all_foldings" ["rules", "string"] spAF := ⟨f21, _, ok_af F21 cneed_string cstretch_foldings mlen mrange msorted, PySem.W.mg_of X G a21, F21.kp, F21.binds fun _ _ _ _ _ _ us hl => match us, hl with | [_, _], _ => rfl⟩
  have cstack_worth : Ca l.prog w K mg base 1 "stack_worth" ["rules", "outer", "within"] spSW := ⟨f22, _, ok_sw F22, PySem.W.mg_of X G a22, F22.kp, F22.binds fun _ _ _ _ _ _ us hl => match us, hl with | [_, _, _], _ => rfl⟩
  have cloop_worths : Ca l.prog w K mg base 1 "loop_worths" ["rules"] spLW := ⟨f23, _, ok_lw F23 gLOOPS hLO mdict mzip, PySem.W.mg_of X G a23, F23.kp, F23.binds fun _ _ _ _ _ _ us hl => match us, hl with | [_], _ => rfl⟩
  have ckind_of : Ca l.prog w K mg base 1 "kind_of" ["free", "branches"] spKO := ⟨f24, _, ok_ko F24, PySem.W.mg_of X G a24, F24.kp, F24.binds fun _ _ _ _ _ _ us hl => match us, hl with | [_, _], _ => rfl⟩
  have cloop_within : Ca l.prog w K mg base 2 "loop_within" ["rules", "string", "pair", "within"] spLoopW := ⟨f25, _, ok_loopw F25 cstack_worth ctext_of cloop_worths ckind_of msum mlen, PySem.W.mg_of X G a25, F25.kp, F25.binds fun _ _ _ _ _ _ us hl => match us, hl with | [_, _, _, _], _ => rfl⟩
  have cstraight_within : Ca l.prog w K mg base 1 "straight_within" ["folding", "pair"] spWithin := ⟨f26, _, ok_within F26, PySem.W.mg_of X G a26, F26.kp, F26.binds fun _ _ _ _ _ _ us hl => match us, hl with | [_, _], _ => rfl⟩
  have cloops_of : Ca l.prog w K mg base 3 "loops_of" ["rules", "string", "folding"] spLoops := ⟨f27, _, ok_loops F27 cloop_within cstraight_within, PySem.W.mg_of X G a27, F27.kp, F27.binds fun _ _ _ _ _ _ us hl => match us, hl with | [_, _, _], _ => rfl⟩
  have cworth_of : Ca l.prog w K mg base 4 "worth_of" ["rules", "string", "folding"] spWO := ⟨f28, _, ok_wo F28 cpair_worth ctext_of cloops_of cstraight_within cloop_worths msum mlen, PySem.W.mg_of X G a28, F28.kp, F28.binds fun _ _ _ _ _ _ us hl => match us, hl with | [_, _, _], _ => rfl⟩
  have cwith_worths : Ca l.prog w K mg base 5 "with_worths" ["rules", "string"] spWW := ⟨f29, _, ok_ww F29 call_foldings cworth_of msorted, PySem.W.mg_of X G a29, F29.kp, F29.binds fun _ _ _ _ _ _ us hl => match us, hl with | [_, _], _ => rfl⟩
  have okk30 := ok_near F30 cwith_worths
  obtain ⟨gN30, hN30⟩ := kbn_kw (ps := ["rules", "string", "more"]) F30 2 ["more"] [] [0, 1, 2] (by simp) (fun q hq => by cases hq) (fun D doc pm an cdv ct us mv ws h1 h2 h3 => match us, mv, ws, h1, h2, h3 with | [_, _], [], [_], _, _, _ => rfl)
  have cnearN : CaN l.prog w K mg base 6 "near" ["rules", "string", "more"] 2 ["more"] (permW [0, 1, 2] []) spNear := ⟨f30, _, gN30, okk30, PySem.W.mg_of X G a30, F30.kp, hN30⟩
  have cloop_kinds : Ca l.prog w K mg base 4 "loop_kinds" ["rules", "string", "folding"] spLK := ⟨f31, _, ok_lk F31 cloops_of msorted mtuple, PySem.W.mg_of X G a31, F31.kp, F31.binds fun _ _ _ _ _ _ us hl => match us, hl with | [_, _, _], _ => rfl⟩
  have okk32 := ok_kinds F32 cnearN cloop_kinds mlist
  obtain ⟨gN32, hN32⟩ := kbn_kw (ps := ["rules", "string", "more"]) F32 2 ["more"] [] [0, 1, 2] (by simp) (fun q hq => by cases hq) (fun D doc pm an cdv ct us mv ws h1 h2 h3 => match us, mv, ws, h1, h2, h3 with | [_, _], [], [_], _, _, _ => rfl)
  have ckindsN : CaN l.prog w K mg base 7 "kinds" ["rules", "string", "more"] 2 ["more"] (permW [0, 1, 2] []) spKinds := ⟨f32, _, gN32, okk32, PySem.W.mg_of X G a32, F32.kp, hN32⟩
  obtain ⟨ds32, hv32, hb32⟩ := F32.binds0 (ps := ["rules", "string", "more"]) 2 (by simp) rfl (fun D doc pm an cdv ct us ks h1 h2 => match us, ks, h1, h2 with | [_, _], [_], _, _ => ⟨_, _, _, _, _, _, rfl, rfl, rfl⟩)
  have ckindsE : CaE l.prog w K mg base 7 "kinds" ["rules", "string", "more"] [.int 0] spKinds := ⟨f32, _, ds32, okk32, PySem.W.mg_of X G a32, F32.kp, hv32, hb32⟩
  obtain ⟨gK32, hK32⟩ := kbn_kw (ps := ["rules", "string", "more"]) F32 0 ["string", "rules", "more"] [] [1, 0, 2] (by simp) (fun q hq => by cases hq) (fun D doc pm an cdv ct us mv ws h1 h2 h3 => match us, mv, ws, h1, h2, h3 with | [], [], [_, _, _], _, _, _ => rfl)
  have ckindsK : CaK l.prog w K mg base 7 "kinds" ["rules", "string", "more"] ["string", "rules", "more"] (permW [1, 0, 2] []) spKinds := ⟨f32, _, gK32, okk32, PySem.W.mg_of X G a32, F32.kp, hK32⟩
  exact ok_law F33 ⟨rfl, by decide, by decide⟩ c_law_pen c_law_pick c_law_code c_law_page c_law_rows c_law_within c_law_firsts ckindsN ckindsE ckindsK mrange mlen mrepr
end Pf
open PySem PySem.W PyProof.Rows
set_option maxHeartbeats 0 in
theorem PySem.Challenge.cw_pairfolds_k39_kinds_of_near_foldings_holds : PySem.Challenge.rw_pairfolds_k39_kinds_of_near_foldings.Holds := by
  w_on; o_law; k_head; (case hw => w_witness2)
  k_fill
  refine Pf.walk_g (l := PySem.Challenge.rw_pairfolds_k39_kinds_of_near_foldings) (n := 63) (x := "_law_script") (sp := fun w => Pf.spLaw _) rfl (by decide) rfl (fun w h Y => PySem.W.kIn_of Y) ?F (fun _ _ a ns hl hS => ⟨a, ns, rfl, hS, hl, fun _ => rfl⟩)
  case F =>
    intro w mg fa h KX G hmg
    refine' Pf.all_mk KX G hmg ?a0 ?l0 ?c0 ?k0 ?a1 ?l1 ?c1 ?k1 ?a2 ?l2 ?c2 ?k2 ?a3 ?l3 ?c3 ?k3 ?a4 ?l4 ?c4 ?k4 ?a5 ?l5 ?c5 ?k5 ?a6 ?l6 ?c6 ?k6 ?a7 ?l7 ?c7 ?k7 ?a8 ?l8 ?c8 ?k8 ?a9 ?l9 ?c9 ?k9 ?a10 ?l10 ?c10 ?k10 ?a11 ?l11 ?c11 ?k11 ?a12 ?l12 ?c12 ?k12 ?a13 ?l13 ?c13 ?k13 ?a14 ?l14 ?c14 ?k14 ?a15 ?l15 ?c15 ?k15 ?a16 ?l16 ?c16 ?k16 ?a17 ?l17 ?c17 ?k17 ?a18 ?l18 ?c18 ?k18 ?a19 ?l19 ?c19 ?k19 ?a20 ?l20 ?c20 ?k20 ?a21 ?l21 ?c21 ?k21 ?a22 ?l22 ?c22 ?k22 ?a23 ?l23 ?c23 ?k23 ?a24 ?l24 ?c24 ?k24 ?a25 ?l25 ?c25 ?k25 ?a26 ?l26 ?c26 ?k26 ?a27 ?l27 ?c27 ?k27 ?a28 ?l28 ?c28 ?k28 ?a29 ?l29 ?c29 ?k29 ?a30 ?l30 ?c30 ?k30 ?q30_0 ?a31 ?l31 ?c31 ?k31 ?a32 ?l32 ?c32 ?k32 ?q32_0 ?a33 ?l33 ?c33 ?k33 ?z0 ?z1 ?z2 ?z3 ?z4 ?z5 ?z6 ?z7 ?z8 ?z9 ?z10 ?z11 ?z12 ?z13 ?z14 ?aG ?lG ?aI0
    (case a0 => k_is); (case l0 => k_is); (case c0 => k_is); (case k0 => k_is); (case a1 => k_is); (case l1 => k_is); (case c1 => k_is); (case k1 => k_is); (case a2 => k_is); (case l2 => k_is); (case c2 => k_is); (case k2 => k_is); (case a3 => k_is); (case l3 => k_is); (case c3 => k_is); (case k3 => k_is); (case a4 => k_is); (case l4 => k_is); (case c4 => k_is); (case k4 => k_is); (case a5 => k_is); (case l5 => k_is); (case c5 => k_is); (case k5 => k_is); (case a6 => k_is); (case l6 => k_is); (case c6 => k_is); (case k6 => k_is); (case a7 => k_is); (case l7 => k_is); (case c7 => k_is); (case k7 => k_is); (case a8 => k_is); (case l8 => k_is); (case c8 => k_is); (case k8 => k_is); (case a9 => k_is); (case l9 => k_is); (case c9 => k_is); (case k9 => k_is); (case a10 => k_is); (case l10 => k_is); (case c10 => k_is); (case k10 => k_is); (case a11 => k_is); (case l11 => k_is); (case c11 => k_is); (case k11 => k_is); (case a12 => k_is); (case l12 => k_is); (case c12 => k_is); (case k12 => k_is); (case a13 => k_is); (case l13 => k_is); (case c13 => k_is); (case k13 => k_is); (case a14 => k_is); (case l14 => k_is); (case c14 => k_is); (case k14 => k_is); (case a15 => k_is); (case l15 => k_is); (case c15 => k_is); (case k15 => k_is); (case a16 => k_is); (case l16 => k_is); (case c16 => k_is); (case k16 => k_is); (case a17 => k_is); (case l17 => k_is); (case c17 => k_is); (case k17 => k_is); (case a18 => k_is); (case l18 => k_is); (case c18 => k_is); (case k18 => k_is); (case a19 => k_is); (case l19 => k_is); (case c19 => k_is); (case k19 => k_is); (case a20 => k_is); (case l20 => k_is); (case c20 => k_is); (case k20 => k_is); (case a21 => k_is); (case l21 => k_is); (case c21 => k_is); (case k21 => k_is); (case a22 => k_is); (case l22 => k_is); (case c22 => k_is); (case k22 => k_is); (case a23 => k_is); (case l23 => k_is); (case c23 => k_is); (case k23 => k_is); (case a24 => k_is); (case l24 => k_is); (case c24 => k_is); (case k24 => k_is); (case a25 => k_is); (case l25 => k_is); (case c25 => k_is); (case k25 => k_is); (case a26 => k_is); (case l26 => k_is); (case c26 => k_is); (case k26 => k_is); (case a27 => k_is); (case l27 => k_is); (case c27 => k_is); (case k27 => k_is); (case a28 => k_is); (case l28 => k_is); (case c28 => k_is); (case k28 => k_is); (case a29 => k_is); (case l29 => k_is); (case c29 => k_is); (case k29 => k_is); (case a30 => k_is); (case l30 => k_is); (case c30 => k_is); (case k30 => k_is); (case q30_0 => k_is); (case a31 => k_is); (case l31 => k_is); (case c31 => k_is); (case k31 => k_is); (case a32 => k_is); (case l32 => k_is); (case c32 => k_is); (case k32 => k_is); (case q32_0 => k_is); (case a33 => k_is); (case l33 => k_is); (case c33 => k_is); (case k33 => k_is); (case z0 => k_is); (case z1 => k_is); (case z2 => k_is); (case z3 => k_is); (case z4 => k_is); (case z5 => k_is); (case z6 => k_is); (case z7 => k_is); (case z8 => k_is); (case z9 => k_is); (case z10 => k_is); (case z11 => k_is); (case z12 => k_is); (case z13 => k_is); (case z14 => k_is); (case aG => k_is); (case lG => k_is); (case aI0 => k_is)
