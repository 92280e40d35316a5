import PyProof.Rows.All
import Wide.All
import OpenK.AllK
import Wide.FinOn
import HandS.ForMost
import HandS.Defaults
import HandS.TupMul
import HandS.TupAny
import HandS.IsInst
import HandS.Conv
import KE.SortData
import KE.GoesMore
import HandS.Style
import HandS.Walk
import HandS.Zip
import HandS.TupLe
import HandS.DictComp
import KE.KDictSum
import HandS.ExcValue
import PySem.Challenge.RW_pairfolds_k66_crossed_foldings_known
import HandS.Sort
import PyProof.SumWalkG
import HandS.ListItems
import HandS.More
import HandS.Flt
import KE.KDictZip
import KE.DataCmp
import HandS.Text
import HandS.MakeKwOnly
import KE.KDictKeyed
import HandS.TryOnly
import HandS.SortKw
import KE.KMinKey
import HandS.Comp
import HandS.Wide
import PyProof.ReprLen
import HandS.TupSets
import PyProof.FactsAll.subtypes_4
import PyProof.Transfer
set_option Elab.async false
set_option linter.all false
set_option maxRecDepth 100000
set_option maxHeartbeats 4000000
namespace Pf
open PySem PySem.Spec PyProof.Rows L2

/-! ### a def that may be called: its promise, its name, its binding -/
structure Ca (P : Program) (w : World) (K : PySem.W.Frag) (mg : Str → Option Value) (base : Heap) (k : Nat) (x : Str) (ps : List Str) (sp : Sp) : Prop where
  ex : ∃ f fd, FnOk P w K mg base CX0 k f fd ps sp ∧ mg x = some (.ref f) ∧ PySem.W.keepIn K (.ref f) = true ∧ Binds K fd ps []
structure CaK (P : Program) (w : World) (K : PySem.W.Frag) (mg : Str → Option Value) (base : Heap) (k : Nat) (x : Str) (ps ks : List Str) (gV : List V → List V → List V) (sp : Sp) : Prop where
  ex : ∃ f fd g, FnOk P w K mg base CX0 k f fd ps sp ∧ mg x = some (.ref f) ∧ PySem.W.keepIn K (.ref f) = true ∧ KBn K fd ps 0 ks g gV
section
variable {X : Cx} {k : Nat} {x : Str} {ps ks : List Str} {sp : Sp} {p pos : Pos} {e : Expr} {es : List Expr} {kws : List Keyword} {t tk : TA} {gV : List V → List V → List V}
theorem pe_ca (c : Ca X.prog X.w X.K X.mg X.base k x ps sp) (hr : Room k X.A) (hg : Gl X x) (ha : PA X (e :: es) t) (hdb : (x == ("__debug__" : Str)) = false := by decide)
    (he : starEach (e :: es) X.env = (false, eval e X.env) :: starEach es X.env := by rfl) (hpl : (backTo pos (starEach es X.env)).any (·.1) = false := by rfl) :
    PE X (.Call (.Name x p) (e :: es) [] pos) (tCall sp [] E0 t) := by
  obtain ⟨f, fd, F, hm, hk, hb⟩ := c.ex
  exact pe_call F hr hg hm hk hb .nil pass0 ha hdb he hpl
theorem pe_ca0 (c : Ca X.prog X.w X.K X.mg X.base k x ps sp) (hr : Room k X.A) (hg : Gl X x) (hdb : (x == ("__debug__" : Str)) = false := by decide) :
    PE X (.Call (.Name x p) [] [] pos) (tCall sp [] E0 tNil) := by
  obtain ⟨f, fd, F, hm, hk, hb⟩ := c.ex
  exact pe_call0 F hr hg hm hk hb .nil pass0 hdb
/-- f(k = v, ..), by names alone -/
theorem pe_caK (c : CaK X.prog X.w X.K X.mg X.base k x ps ks gV sp) (hr : Room k X.A) (hg : Gl X x) (hkw : PK X kws tk)
    (hall : (backToKw pos (keywordEach kws X.env)).all (·.1.isSome) = true := by rfl) (hks : (backToKw pos (keywordEach kws X.env)).filterMap (·.1) = ks := by rfl) (hdb : (x == ("__debug__" : Str)) = false := by decide)
    (hpl : ((backTo pos (starEach [] X.env)).any (·.1) || (backToKw pos (keywordEach kws X.env)).any (·.1.isNone)) = false := by rfl) :
    PE X (.Call (.Name x p) [] kws pos) (tCallN 0 ks.length sp gV E0 tNil tk) := by
  obtain ⟨f, fd, g, F, hm, hk, hb⟩ := c.ex
  refine ⟨fun pins s σ H Q I h => ?_⟩
  refine wpAny_Call_Name_kw (ld_glob I hg hm ?_ hdb)
  refine PySem.W.callWith_KW0 (h₀ := X.base) I.ok.mod.kin hk hall ?_ hpl
  refine thn (hkw.run pos pins s σ H _ I h) fun ws s2 ⟨zs, H2, I2, rz, l1, l2, q2⟩ => ⟨I2.kIn, ?_⟩
  rw [hks]
  exact run_fnN (us := []) (vs := []) F hr hb pass0 I2 .nil rz rfl l2 q2
end

/-! ### rules that read a list or a tuple, the written part by its letter -/
theorem ixL (K : PySem.W.Frag) {X : Cx} (h : X.K = K := by rfl) : IxR X (rIxL K) := h ▸ ix_list
theorem ixT (K : PySem.W.Frag) {X : Cx} (h : X.K = K := by rfl) : IxR X (rIxT K) := h ▸ ix_tup
theorem ixA (K : PySem.W.Frag) {X : Cx} (h : X.K = K := by rfl) : IxR X (rIx K) := h ▸ ix_seq
def rLenA (K : PySem.W.Frag) : List V → Hp → VK → Prop := fun xs H Q => ∃ x n, xs = [x] ∧ LenV K x H n ∧ Q (.int n) H
theorem lenA (K : PySem.W.Frag) {X : Cx} (h : X.K = K := by rfl) : CallR X (.builtin "len") (rLenA K) := by
  subst h
  exact call_len
theorem repT (K : PySem.W.Frag) {X : Cx} (h : X.K = K := by rfl) : OpR X (binaryOp .Mult) (rRepT K) := h ▸ op_repT
theorem slL (K : PySem.W.Frag) {X : Cx} (h : X.K = K := by rfl) : SlR X (rSlL K) := h ▸ sl_list
theorem slT (K : PySem.W.Frag) {X : Cx} (h : X.K = K := by rfl) : SlR X (rSlT K) := h ▸ sl_tup
theorem eqD (K : PySem.W.Frag) {X : Cx} (hu : X.A.units + 64 < cLine) (h : X.K = K := by rfl) : OpR X (compareOp .Eq) (rEqD K) := h ▸ op_eqD hu
theorem neD (K : PySem.W.Frag) {X : Cx} (hu : X.A.units + 64 < cLine) (h : X.K = K := by rfl) : OpR X (compareOp .NotEq) (rNeD K) := h ▸ op_neD hu
theorem catT (K : PySem.W.Frag) {X : Cx} (h : X.K = K := by rfl) : OpR X (binaryOp .Add) (rCatT K) := h ▸ op_catT
theorem catA (K : PySem.W.Frag) {X : Cx} (h : X.K = K := by rfl) : OpR X (binaryOp .Add) (rCatA K) := h ▸ op_catA
theorem slA (K : PySem.W.Frag) {X : Cx} (h : X.K = K := by rfl) : SlR X (rSlA K) := h ▸ sl_tupA
theorem isi1 (K : PySem.W.Frag) {X : Cx} (h : X.K = K := by rfl) : CallR X (.builtin "isinstance") (rIsi K) := h ▸ call_isi
theorem pgT (K : PySem.W.Frag) {X : Cx} {es : List Expr} {k n : Nat} {t : TGs} {pos : Pos} (hc : X.calm = true) (h : PGs X es t) (hK : X.K = K := by rfl) (hn : (assignEach es X.env).length = n := by rfl) (hst : (assignEach es X.env).findIdx? (·.1) = none := by rfl) :
    PG X (.Tuple es k pos) (gTup K n t) := by
  subst hK
  exact pg_tup hc h hn hst
def rLen (K : PySem.W.Frag) : List V → Hp → VK → Prop := fun xs H Q => ∃ p ys, xs = [.ref p] ∧ (SqL K H p ys ∨ SqT K H p ys) ∧ Q (.int ys.length) H
theorem lenQ (K : PySem.W.Frag) {X : Cx} (h : X.K = K := by rfl) : CallR X (.builtin "len") (rLen K) := by
  subst h
  exact call_len_seq
def rListOf (K : PySem.W.Frag) : List V → Hp → VK → Prop := fun xs H Q => ∃ p ys, xs = [.ref p] ∧ (SqL K H p ys ∨ SqT K H p ys) ∧ ∀ l, H l = none → Q (.ref l) (upd H l (.lst ys))
theorem listOf (K : PySem.W.Frag) {X : Cx} (h : X.K = K := by rfl) : CallR X (.type "list") (rListOf K) := by
  subst h
  exact call_list_of
def rTupleOf (K : PySem.W.Frag) : List V → Hp → VK → Prop := fun xs H Q => ∃ p ys, xs = [.ref p] ∧ ((SqL K H p ys ∧ ∀ l, H l = none → Q (.ref l) (upd H l (.tup ys))) ∨ (SqT K H p ys ∧ Q (.ref p) H))
theorem tupleOf (K : PySem.W.Frag) {X : Cx} (h : X.K = K := by rfl) : CallR X (.type "tuple") (rTupleOf K) := by
  subst h
  exact call_tuple_of

/-! ### repr of a plain thing -/
def repV : V → Str
  | .non => "None"
  | .bl b => if b then "True" else "False"
  | .int i => toString i
  | _ => ""
def RepOk : V → Prop
  | .non => True
  | .bl _ => True
  | .int i => i.natAbs.log2 < 1920
  | _ => False
theorem call_repr {X : Cx} : CallR X (.builtin "repr") (fun xs H Q => ∃ v, xs = [v] ∧ RepOk v ∧ Q (.str (repV v)) H) := by
  intro pins s σ H xs us Q I r h
  obtain ⟨v, rfl, hz, q⟩ := h
  cases v with
  | non =>
    obtain ⟨u, rfl, rfl⟩ := vals1 r
    exact PySem.P.repr_of_none ⟨.str _, H, I.tok _, ⟨_, rfl⟩, q⟩
  | bl b =>
    obtain ⟨u, rfl, rfl⟩ := vals1 r
    exact PySem.P.repr_of_bool ⟨.str _, H, I.tok _, ⟨_, rfl⟩, by cases b <;> exact q⟩
  | int i =>
    obtain ⟨u, rfl, t, rfl⟩ := vals1 r
    exact PySem.P.repr_of_int hz ⟨.str _, H, I.tok _, ⟨_, rfl⟩, q⟩
  | str _ => exact hz.elim
  | byt _ => exact hz.elim
  | flt _ => exact hz.elim
  | ref _ => exact hz.elim
  | ty _ => exact hz.elim

/-! ### texts of small letters -/
def Small (x : Str) : Prop := ∀ c ∈ x.cps.toList, 97 ≤ c ∧ c ≤ 122
theorem Small.app {a b : Str} (ha : Small a) (hb : Small b) : Small (a ++ b) := fun c h => by
  rw [Str.cps_append, Array.toList_append, List.mem_append] at h
  rcases h with h | h
  · exact ha c h
  · exact hb c h
theorem Small.one {c : Nat} (h : 97 ≤ c ∧ c ≤ 122) : Small ⟨#[c]⟩ := fun d hd => by
  have e : d = c := by simpa using hd
  subst e
  exact h
theorem Small.at {x : Str} (h : Small x) {i c : Nat} (hi : x.cps[i]? = some c) : 97 ≤ c ∧ c ≤ 122 := by
  refine h c ?_
  have := Array.mem_of_getElem? hi
  exact Array.mem_toList_iff.mpr this
theorem Small.ok {x : Str} (h : Small x) : PyData.strOk x = true := by
  show x.cps.all (· < 0x110000) = true
  rw [Array.all_eq_true_iff_forall_mem]
  intro c hc
  have := h c (Array.mem_toList_iff.mpr hc)
  exact decide_eq_true (by omega)
/-! ### a chain of three comparisons -/
def tChain3 (r1 r2 r3 : R2) (ta tb tc td : TE) : TE := fun σ H Q => ta σ H fun x H1 => tb σ H1 fun y H2 => r1 x y H2 fun z H3 => ∃ k, z = .bl k ∧
  (if k = true then tc σ H3 fun u H4 => r2 y u H4 fun z2 H5 => ∃ k2, z2 = .bl k2 ∧ (if k2 = true then td σ H5 fun v H6 => r3 u v H6 Q else Q (.bl false) H5) else Q (.bl false) H3)
theorem pt_chain3 {X : Cx} {o1 o2 o3 : CmpOp} {r1 r2 r3 : R2} {a b c d : Expr} {ta tb tc td : TE} {pos : Pos} (h1 : OpR X (compareOp o1) r1) (h2 : OpR X (compareOp o2) r2) (h3 : OpR X (compareOp o3) r3)
    (ha : PE X a ta) (hb : PE X b tb) (hc : PE X c tc) (hd : PE X d td) (hm : lastMarks [o1, o2, o3] [b, c, d] = false := by with_unfolding_all rfl) :
    PT X (.Compare a [o1, o2, o3] [b, c, d] pos) (tTest (tChain3 r1 r2 r3 ta tb tc td)) := by
  refine ⟨fun pins s σ H Q I h => isTrue_chain (thn (ha.run pins s σ H _ I h) fun v s1 ⟨x, H1, I1, e1, q1⟩ => test_link ?_) hm⟩
  refine thn (hb.run pins s1 σ H1 _ I1 q1) fun u s2 ⟨y, H2, I2, e2, q2⟩ => ?_
  refine thn (h1 pins s2 σ H2 x y v u _ I2 e1 e2 q2) fun dv s3 ⟨z, H3, I3, e3, k, ek, q3⟩ => ?_
  subst ek
  cases e3
  refine wpAny_truthy_bool ?_
  cases k with
  | false =>
    obtain ⟨k', e', q'⟩ := q3
    cases e'
    exact ite_ff ⟨H3, I3, q'⟩
  | true =>
    refine ite_tt (test_link ?_)
    refine thn (hc.run pins s3 σ H3 _ I3 q3) fun u4 s4 ⟨y4, H4, I4, e4, q4⟩ => ?_
    refine thn (h2 pins s4 σ H4 y y4 u u4 _ I4 e2 e4 q4) fun dv5 s5 ⟨z5, H5, I5, e5, k5, ek5, q5⟩ => ?_
    subst ek5
    cases e5
    refine wpAny_truthy_bool ?_
    cases k5 with
    | false =>
      obtain ⟨k', e', q'⟩ := q5
      cases e'
      exact ite_ff ⟨H5, I5, q'⟩
    | true =>
      refine ite_tt (test_last ?_)
      refine thn (hd.run pins s5 σ H5 _ I5 q5) fun u6 s6 ⟨y6, H6, I6, e6, q6⟩ => ?_
      refine thn (h3 pins s6 σ H6 y4 y6 u4 u6 _ I6 e4 e6 q6) fun dv7 s7 ⟨z7, H7, I7, e7, k7, ek7, q7⟩ => ?_
      subst ek7
      cases e7
      exact wpAny_truthy_bool ⟨H7, I7, q7⟩
theorem inSeq (K : PySem.W.Frag) {X : Cx} (h : X.K = K := by rfl) : OpR X (compareOp .In) (rIn K false) := h ▸ op_in_seq
theorem notInSeq (K : PySem.W.Frag) {X : Cx} (h : X.K = K := by rfl) : OpR X (compareOp .NotIn) (rIn K true) := h ▸ op_notIn_seq
/-! ### join with nothing between -/
theorem join_str (ys : List Str) : Txt.join "" ys = Str.join "" ys := eq_of_beq (join_closes (ys := ys) rfl)
theorem sjoin_le {m : Nat} : ∀ {ys : List Str}, (∀ y ∈ ys, y.length ≤ m) → (Str.join "" ys).length ≤ ys.length * m
  | [], _ => Nat.zero_le _
  | [y], h => by
    have := h y (List.mem_cons_self ..)
    show y.length ≤ 1 * m
    omega
  | y :: z :: r, h => by
    have h1 := h y (List.mem_cons_self ..)
    have h2 := sjoin_le (ys := z :: r) fun x hx => h x (List.mem_cons_of_mem _ hx)
    show (y ++ "" ++ Str.join "" (z :: r)).length ≤ _
    rw [Str.length_append, Str.length_append, List.length_cons, Nat.succ_mul]
    show y.length + 0 + _ ≤ _
    omega
theorem small_nil : Small "" := by
  unfold Small
  decide +kernel
theorem sjoin_small : ∀ {ys : List Str}, (∀ y ∈ ys, Small y) → Small (Str.join "" ys)
  | [], _ => small_nil
  | [y], h => h y (List.mem_cons_self ..)
  | y :: z :: r, h => ((h y (List.mem_cons_self ..)).app small_nil).app (sjoin_small (ys := z :: r) fun x hx => h x (List.mem_cons_of_mem _ hx))
theorem join_le {m : Nat} {ys : List Str} (h : ∀ y ∈ ys, y.length ≤ m) : (Txt.join "" ys).length ≤ ys.length * m := by
  rw [join_str]
  exact sjoin_le h
theorem join_small {ys : List Str} (h : ∀ y ∈ ys, Small y) : Small (Txt.join "" ys) := by
  rw [join_str]
  exact sjoin_small h

/-! ### a walk over a text's signs -/
theorem for_str {x : Str} {g : TG} {tb : TS} {D : Ends} {σ : L2.St} {H : Hp} (Pv : Nat → L2.St → Hp → Prop) (h0 : Pv 0 σ H)
    (hs : ∀ i c σ H, x.cps[i]? = some c → Pv i σ H → g (.str ⟨#[c]⟩) σ H fun σ2 H2 => tb { D with nx := Pv (i + 1), ct := Pv (i + 1), bk := D.nx } σ2 H2) (hd : ∀ σ H, Pv x.cps.size σ H → D.nx σ H) :
    ∃ W : Nat → Nat → L2.St → Hp → Prop, (∃ m, W 0 m σ H) ∧ ∀ i m σ H, W i m σ H →
      ((Its x).stop i H ∧ D.nx σ H) ∨ ((Its x).go i H ∧ ∃ N : L2.St → Hp → Prop, (∀ σ' H', N σ' H' → ∃ m', m' < m ∧ W (i + 1) m' σ' H') ∧ ∀ y H', (Its x).yld i H y H' → g y σ H' fun σ2 H2 => tb { D with nx := N, ct := N, bk := D.nx } σ2 H2) := by
  refine ⟨fun i m σ H => m = x.cps.size - i ∧ i ≤ x.cps.size ∧ Pv i σ H, ⟨x.cps.size, by simp, Nat.zero_le _, h0⟩, ?_⟩
  rintro i m σ H ⟨rfl, hi, p⟩
  by_cases hlt : i < x.cps.size
  · refine .inr ⟨hlt, Pv (i + 1), fun σ' H' p' => ⟨x.cps.size - (i + 1), by omega, rfl, hlt, p'⟩, fun y H' z => ?_⟩
    obtain ⟨e, c, hc, ev⟩ := z
    subst e ev
    exact hs i c σ _ hc p
  · have e : i = x.cps.size := by omega
    subst e
    exact .inl ⟨Nat.le_refl _, hd σ H p⟩
theorem lc_str {x : Str} {g : TG} {tt : TT} {te : TE} {vs : List Nat} {σ : L2.St} {H1 : Hp} {D : Addr} {Qd : Hp → Prop} (Pv : Nat → Hp → Prop) (h0 : Pv 0 (upd H1 D (.lst [])))
    (hs : ∀ i c H, x.cps[i]? = some c → Pv i H → g (.str ⟨#[c]⟩) (wipe σ vs) H fun σ2 H2 => wipe σ2 vs = wipe σ vs ∧ tt σ2 H2 fun b H3 =>
      if b = true then te σ2 H3 fun y H4 => ∃ acc, H4 D = some (.lst acc) ∧ acc.length < sizeLine ∧ Pv (i + 1) (upd H4 D (.lst (acc ++ [y]))) else Pv (i + 1) H3) (hd : ∀ H, Pv x.cps.size H → Qd H) :
    ∃ W : Nat → Nat → Hp → Prop, (∃ m, W 0 m (upd H1 D (.lst []))) ∧ ∀ i m H, W i m H →
      ((Its x).stop i H ∧ Qd H) ∨ ((Its x).go i H ∧ ∃ Nx : Hp → Prop, (∀ H', Nx H' → ∃ m', m' < m ∧ W (i + 1) m' H') ∧ ∀ y H', (Its x).yld i H y H' → g y (wipe σ vs) H' fun σ2 H2 => wipe σ2 vs = wipe σ vs ∧ tt σ2 H2 fun b H3 =>
        if b = true then te σ2 H3 fun y H4 => ∃ acc, H4 D = some (.lst acc) ∧ acc.length < sizeLine ∧ Nx (upd H4 D (.lst (acc ++ [y]))) else Nx H3) := by
  refine ⟨fun i m H => m = x.cps.size - i ∧ i ≤ x.cps.size ∧ Pv i H, ⟨x.cps.size, by simp, Nat.zero_le _, h0⟩, ?_⟩
  rintro i m H ⟨rfl, hi, p⟩
  by_cases hlt : i < x.cps.size
  · refine .inr ⟨hlt, Pv (i + 1), fun H' p' => ⟨x.cps.size - (i + 1), by omega, rfl, hlt, p'⟩, fun y H' z => ?_⟩
    obtain ⟨e, c, hc, ev⟩ := z
    subst e ev
    exact hs i c _ hc p
  · have e : i = x.cps.size := by omega
    subst e
    exact .inl ⟨Nat.le_refl _, hd H p⟩

/-! ### what stays in the heap, but the thing at p -/
def Kp (p : Addr) (H H' : Hp) : Prop := ∀ b o, b ≠ p → H b = some o → H' b = some o
theorem Kp.refl {p : Addr} {H : Hp} : Kp p H H := fun _ _ _ e => e
theorem Kp.trans {p : Addr} {H H1 H2 : Hp} (a : Kp p H H1) (b : Kp p H1 H2) : Kp p H H2 := fun c o n e => b c o n (a c o n e)
theorem Kp.new {p q : Addr} {H : Hp} {o : HO} (h : H q = none) : Kp p H (upd H q o) := fun b x _ e => by
  rw [upd_ne (ne_of_none e h)]
  exact e
theorem Kp.at {p : Addr} {H : Hp} {o : HO} : Kp p H (upd H p o) := fun b x n e => by
  rw [upd_ne n]
  exact e
/-- a change of what stood nowhere in H -/
theorem Kp.put {p q : Addr} {H H1 : Hp} {o : HO} (k : Kp p H H1) (h : H q = none) : Kp p H (upd H1 q o) := fun b x n e => by
  rw [upd_ne (ne_of_none e h)]
  exact k b x n e
theorem Kp.tup {p : Addr} {H H' : Hp} {ys : List V} {b : Addr} {xs : List V} (k : Kp p H H') (hp : H p = some (.lst ys)) (h : H b = some (.tup xs)) : H' b = some (.tup xs) :=
  k b _ (ne_of h hp (by intro z; cases z)) h
theorem Kp.some {p : Addr} {H H' : Hp} (k : Kp p H H') (hp : ∃ o, H' p = some o) {b : Addr} (h : H' b = none) : H b = none := by
  cases e : H b with
  | none => rfl
  | some o =>
    by_cases n : b = p
    · subst n
      obtain ⟨o', e'⟩ := hp
      rw [e'] at h
      cases h
    · rw [k b o n e] at h
      cases h

/-! ### arguments by names, in another order -/
def permV (js : List Nat) : List V → List V → List V := fun _ zs => js.map fun j => zs.getD j .non
def permU (js : List Nat) : List Value → List Value → List Value := fun _ ws => js.map fun j => ws.getD j .none
theorem vals_getD : ∀ {zs : List V} {ws : List Value} (j : Nat), Vals zs ws → RelV (zs.getD j .non) (ws.getD j .none)
  | _, _, _, .nil => rfl
  | _, _, 0, .cons r _ => r
  | _, _, j + 1, .cons _ t => vals_getD j t
theorem perm_rel {zs : List V} {ws : List Value} (r : Vals zs ws) : ∀ js : List Nat, Vals (js.map fun j => zs.getD j .non) (js.map fun j => ws.getD j .none)
  | [] => .nil
  | j :: js => .cons (vals_getD j r) (perm_rel r js)
theorem kbn_of {K : PySem.W.Frag} {fd : FuncData} {ps ks : List Str} (js : List Nat) (h : ∀ ws : List Value, ws.length = ks.length → bindArgs fd ⟨[], ks.zip ws⟩ = pure (ps.zip (js.map fun j => ws.getD j .none))) :
    KBn K fd ps 0 ks (permU js) (permV js) where
  to := fun s us ws _ hu hw => by
    obtain rfl := List.length_eq_zero_iff.mp hu
    exact .of_eq (h ws hw)
  rel := fun _ r => perm_rel r js
/-! ### what is added, and nothing changed -/
def Ext (H H' : Hp) : Prop := ∀ b o, H b = some o → H' b = some o
theorem Ext.refl {H : Hp} : Ext H H := fun _ _ e => e
theorem Ext.trans {H H1 H2 : Hp} (a : Ext H H1) (b : Ext H1 H2) : Ext H H2 := fun c o e => b c o (a c o e)
theorem Ext.new {q : Addr} {H : Hp} {o : HO} (h : H q = none) : Ext H (upd H q o) := fun b x e => by
  rw [upd_ne (ne_of_none e h)]
  exact e
theorem Ext.put {q : Addr} {H H1 : Hp} {o : HO} (k : Ext H H1) (h : H q = none) : Ext H (upd H1 q o) := fun b x e => by
  rw [upd_ne (ne_of_none e h)]
  exact k b x e
theorem Ext.none {H H' : Hp} (k : Ext H H') {q : Addr} (h : H' q = none) : H q = none := by
  cases e : H q with
  | none => rfl
  | some o =>
    rw [k q o e] at h
    cases h

theorem atI_get {α : Type} {xs : List α} {i : Int} (h0 : 0 ≤ i) (h1 : i < xs.length) : atI xs i = some (xs[i.toNat]'(by omega)) := by
  unfold atI ixN
  rw [if_pos h0, if_pos h1]
  exact List.getElem?_eq_getElem _
theorem atI_ints {ns : List Int} {i : Int} (h0 : 0 ≤ i) (h1 : i < ns.length) : ∃ z, z ∈ ns ∧ atI (ns.map V.int) i = some (.int z) := by
  have h2 : i < (ns.map V.int).length := by rw [List.length_map]; exact h1
  refine ⟨ns[i.toNat]'(by omega), List.getElem_mem _, ?_⟩
  rw [atI_get h0 h2, List.getElem_map]
theorem atI_mem {α : Type} {xs : List α} {i : Int} (h0 : 0 ≤ i) (h1 : i < xs.length) : ∃ v, v ∈ xs ∧ atI xs i = some v :=
  ⟨xs[i.toNat]'(by omega), List.getElem_mem _, atI_get h0 h1⟩
theorem len_pos {x : Str} (h : ¬ x = "") : 1 ≤ x.length := by
  obtain ⟨⟨l⟩⟩ := x
  cases l with
  | nil => exact absurd (by decide +kernel) h
  | cons a r =>
    show 1 ≤ (a :: r).length
    exact Nat.succ_pos _
theorem natAbs_lt_of {i : Int} {n : Nat} (h0 : -(n : Int) < i) (h1 : i < n) : i.natAbs < n := by omega
theorem log2_small {i : Int} (h : i.natAbs < 2 ^ 64) : i.natAbs.log2 < 1920 := by
  by_cases z : i.natAbs = 0
  · rw [z]
    decide
  · exact (Nat.log2_lt z).mpr (Nat.lt_of_lt_of_le h (Nat.pow_le_pow_right (by decide) (by decide)))
theorem szL {n : Nat} (h : n ≤ 1000000) : n ≤ sizeLine := by
  rw [sizeLine_eq]
  omega
theorem szLt {n : Nat} (h : n < 1000000) : n < sizeLine := by
  rw [sizeLine_eq]
  omega
end Pf


namespace Pf
open PySem PySem.Spec PyProof.Rows L2
/-! ### the law's own call: made by nobody, nothing being shown meanwhile -/
structure FnG (P : Program) (w : World) (K : PySem.W.Frag) (mg : Str → Option Value) (base : Heap) (f : Addr) (fd : FuncData) (ps : List Str) (sp : Sp) : Prop where
  run : ∀ (s : Shared) (H : Hp) (args : Args) (us : List Value) (vs : List V) (Q : VK) (E : XK), Env0 P w K mg base callerA [] s H → BindsTo s fd args (ps.zip us) → Vals vs us → sp vs H Q E →
    codeAny (model P w) callerA (.call (.ref f) args) (CR CX0 [] P w H s Q E) s
theorem FnG.of {P : Program} {w : World} {K : PySem.W.Frag} {mg : Str → Option Value} {base : Heap} {k : Nat} {f : Addr} {fd : FuncData} {x qual : Str} {st : Stmt} {N ps : List Str} {sp : Sp} (F : Fun K x qual st f fd) (S : FnScope N ps (defScope st))
    (room : Room (k + 1) callerA) (len : ∀ vs H Q E, sp vs H Q E → vs.length = ps.length)
    (body : ∀ (cdv : Value) (s : Shared) (H : Hp) (vs : List V) (Q : VK) (E : XK), Room k (callerA.deeper (envOfC qual (defScope st) s.heap.objs.size f cdv)) → (callerA.deeper (envOfC qual (defScope st) s.heap.objs.size f cdv)).guards = some [] → sp vs H Q E →
      ∃ t, PSs (cxOf CX0 P w K mg base N qual (defScope st) f cdv callerA [] s H E).nox (defBody st) t ∧ t { nx := fun _ H' => Q .non H', rt := Q } (start N vs) H) : FnG P w K mg base f fd ps sp := by
  obtain ⟨oc, od, kV, doc, pm, an, cdv, ct, osl, rfl, lk, hcd⟩ := F.ex
  refine ⟨fun s H args us vs Q E env0 bnd rel hsp => ?_⟩
  have inS : K.In s.heap := env0.mod.kin.keeps fun b o e => (env0.bs b o e).1
  have limS : s.heap.NoLimit := env0.mod.nolimit.keeps fun b o e => (env0.bs b o e).1
  have kinds : ∀ y ∈ ps.zip us, (defScope st).names.lookup y.1 = some .local ∨ ((defScope st).names.lookup y.1 = some .cell ∧ ((cellsFrom (s.heap.objs.size + 1) (defScope st).names []).lookup y.1).isSome = true) := by
    rintro ⟨n, v⟩ hy
    cases S.par n (List.of_mem_zip hy).1 with
    | inl q => exact .inl q
    | inr q => exact .inr ⟨q, PySem.W.cellsFrom_some _ _ _ (.inl q)⟩
  refine codeAny_call_function room.depth (inS _ _ lk) rfl S.co S.gen rfl (PySem.W.codeRec_of inS hcd) (bnd _ _ _ _ ?_)
  refine wpAny_newFunctionEnv_cells S.kind kinds fun env0' he s1 inC => ?_
  subst he
  refine ⟨limS.keeps inC.toInCall.keep, codeAny_func ?_⟩
  obtain ⟨t, ht, hq⟩ := body cdv s H vs Q E (room.deeper _) rfl hsp
  have I0 : Inv (cxOf CX0 P w K mg base N qual (defScope st) f cdv callerA [] s H E) [] (start N vs) H s1 := inv_start S room.hd env0 (len _ _ _ _ hsp) rel inC
  refine wpAny_mono (ht.nox.run [] s1 (start N vs) H _ I0 hq) (fun fl s' hs => ?_) fun _ _ z => z
  cases fl with
  | ret u =>
    obtain ⟨v, σ', H', J, rv, q⟩ := hs
    exact ⟨v, H', J.os, J.bare, J.base, J.hok, rv, q⟩
  | next =>
    obtain ⟨σ', H', J, q⟩ := hs
    exact ⟨.non, H', J.os, J.bare, J.base, J.hok, rfl, q⟩
  | brk => exact False.elim (by obtain ⟨_, _, _, q⟩ := hs; exact q)
  | cont => exact False.elim (by obtain ⟨_, _, _, q⟩ := hs; exact q)
/-- its end: from an abstract heap that holds the script or nothing -/
theorem FnG.ends {P : Program} {w : World} {K : PySem.W.Frag} {mg mb : Str → Option Value} {fa a : Addr} {fd : FuncData} {x : Str} {sp : Sp} {s1 : Shared} {vs : List Value} {ns : List Int}
    (inK : K.In s1.heap) (gl : s1.heap.Ns mainGlobals mg) (bl : s1.heap.Ns builtinsNs mb) (bb : ∀ x : Str, x ≠ "__name__" → mb x = bootBuiltins x) (lim : s1.heap.NoLimit) (gens : s1.gens = #[])
    (hscr : s1.heap.get? a = some { cls := .type "list", data := .seq vs.toArray }) (hin : IntsAre vs ns) (F : ∀ base : Heap, K.In base → base.Ns mainGlobals mg → FnG P w K mg base fa fd [x] sp) (bnd : ∀ (s : Shared) (u : Value), BindsTo s fd ⟨[u], []⟩ [(x, u)])
    {H : Hp} (only : Only H) (hsp : sp [.ref a] H (fun v _ => v = .bl true) fun _ _ _ => False) (hok : HOk P w H s1.heap) (hA : ∀ b, H b ≠ none → b = a) (hK : H a ≠ none → K.lookup a = none) :
    codeAny (model P w) callerA (.call (.ref fa) ⟨[.ref a], []⟩) (fun r s' => r = .ok (.ret (.bool true)) ∧ OldK s1.heap s'.heap ∧ s'.os = s1.os ∧ AllBare s'.gens) s1 := by
  have isA : ∀ {b : Addr} {u : HO}, H b = some u → b = a := fun {b u} q => hA b (by rw [q]; exact Option.some_ne_none _)
  have hid : ∀ {b : Addr} {o : Obj}, s1.heap.get? b = some o → H b = none → (hidT s1.heap H).get? b = some o := fun e n => hidT_get e n
  have dictN : ∀ {b : Addr} {o : Obj} {es : Array DictEntry} {ep : Nat}, s1.heap.get? b = some o → o.data = .dict es ep → H b = none := by
    intro b o es ep e d
    cases q : H b with
    | none => rfl
    | some u =>
      obtain rfl := isA q
      rw [hscr] at e
      cases e
      exact nomatch d
  have nsH : ∀ {b : Addr} {m : Str → Option Value}, s1.heap.Ns b m → (hidT s1.heap H).Ns b m := by
    rintro b m ⟨o, es, ep, e, d, r⟩
    exact ⟨o, es, ep, hid e (dictN e d), d, r⟩
  have inB : K.In (hidT s1.heap H) := by
    intro b o e
    refine hid (inK b o e) ?_
    cases q : H b with
    | none => rfl
    | some u =>
      obtain rfl := isA q
      rw [hK (by rw [q]; exact Option.some_ne_none _)] at e
      cases e
  have limB : (hidT s1.heap H).NoLimit := by
    obtain ⟨mc, h1, h2⟩ := lim
    exact ⟨mc, nsH h1, h2⟩
  have env0 : Env0 P w K mg (hidT s1.heap H) callerA [] s1 H :=
    ⟨rfl, ⟨inB, nsH gl, ⟨mb, nsH bl, bb⟩, limB⟩, fun b o e => of_hidT e, Nat.le_of_eq (hidT_size _ _), trivial, fun b hb => (nomatch (show b ∈ ([] : List Addr) from hb)), hok, .of_eq gens⟩
  refine codeAny_mono ((F _ inB (nsH gl)).run s1 H ⟨[.ref a], []⟩ [.ref a] [.ref a] _ _ env0 (bnd s1 (.ref a)) (.cons rfl .nil) hsp) fun r s' h => ?_
  match r, h with
  | .error _, h => exact False.elim h
  | .ok .next, h => exact False.elim h
  | .ok .brk, h => exact False.elim h
  | .ok .cont, h => exact False.elim h
  | .ok (.ret u), h =>
    obtain ⟨v, H', os, bare, un, hok', rel, q⟩ := h
    obtain rfl : v = .bl true := q
    obtain rfl : u = Value.bool true := rel
    refine ⟨rfl, OldK.of_keep fun b o e => ?_, os, bare⟩
    cases q : H b with
    | none => exact un.keep b o e q (fun z => (nomatch (show b ∈ ([] : List Addr) from z))) (by simp)
    | some u =>
      cases only b with
      | inl z => rw [q] at z; cases z
      | inr z =>
        obtain ⟨ob, xs, z⟩ := z
        have kept := (hok' b _ (un.frzs b ob _ z)).1
        have was := (hok b _ z).1
        rw [e] at was
        cases was
        exact kept
theorem walk_g {l : PySem.W.OpenLaw} {n : Nat} {q : Program} {loose : List Str} {XP : (Str → Option Value) → Heap → Prop} {YP : World → Heap → Prop} {d : DefRec} {K : Params → PySem.W.Frag} {sp : World → Sp} {x : Str}
    (hn : l.most = some n) (hn2 : n ≤ sizeLine) (hdf : d.params.defaults = []) (hY : ∀ (w : World) (h : Heap), YP w h → (K w.params).In h)
    (F : ∀ (w : World) (mg : Str → Option Value) (fa : Addr) (h : Heap), (K w.params).In h → h.Ns mainGlobals mg → mg d.name = some (.ref fa) →
      ∃ fd : FuncData, (∀ (s : Shared) (u : Value), BindsTo s fd ⟨[u], []⟩ [(x, u)]) ∧ ∀ base : Heap, (K w.params).In base → base.Ns mainGlobals mg → FnG l.prog w (K w.params) mg base fa fd [x] (sp w))
    (hsp : ∀ (w : World) (H : Hp) (a : Addr) (ns : List Int), ns.length ≤ n → SqL (K w.params) H a (ns.map V.int) → sp w [.ref a] H (fun v _ => v = .bl true) fun _ _ _ => False) :
    PySem.W.WalkO q loose XP YP l.row.toRowW d [] (fun f vs => PySem.call f vs) := by
  refine Att.attach_call hn hdf fun w s0 s1 mg mb fa o pm cd doc a vs ns G Y ho hd hcd hmg hobj hints hlen hg => ?_
  have inK := hY w _ Y
  obtain ⟨fd, bnd, hF⟩ := F w mg fa _ inK G.T.g hmg
  have szs : ns.length ≤ sizeLine := Nat.le_trans hlen hn2
  have vals := vals_ints hints
  cases hk : (K w.params).lookup a with
  | some ob =>
    have e := inK a ob hk
    rw [hobj] at e
    cases e
    have here : SqL (K w.params) (fun _ => none) a (ns.map V.int) := .inr ⟨_, vs.toArray, _, hk, rfl, rfl, rfl, by rw [List.size_toArray, hints.length]; exact szs, by simpa using vals⟩
    exact FnG.ends inK G.T.g G.T.b G.T.builtins G.T.nolimit hg hobj hints hF bnd (fun _ => .inl rfl) (hsp w _ a ns hlen here) (fun _ _ z => (nomatch z)) (fun b z => absurd rfl z) fun z => absurd rfl z
  | none =>
    have here : SqL (K w.params) (fun b => if b = a then some (.frz { cls := .type "list", data := .seq vs.toArray } (.lst (ns.map V.int))) else none) a (ns.map V.int) := .inl (.inr ⟨_, if_pos rfl⟩)
    refine FnG.ends inK G.T.g G.T.b G.T.builtins G.T.nolimit hg hobj hints hF bnd (fun b => ?_) (hsp w _ a ns hlen here) (fun b u z => ?_) (fun b z => ?_) fun _ => hk
    · exact if h : b = a then .inr ⟨_, _, if_pos h⟩ else .inl (if_neg h)
    · by_cases h : b = a
      · rw [if_pos h] at z
        cases z
        subst h
        exact ⟨hobj, by rw [List.length_map]; exact szs, vs, _, vals, hobj⟩
      · rw [if_neg h] at z
        cases z
    · by_cases h : b = a
      · exact h
      · exact absurd (if_neg h) z
/-! ### data that are small: how much they weigh, how deep they are -/
structure Sm (m k : Nat) (d : PyData) : Prop where
  lay : d.canLay0 = true
  sho : d.showable = true
  ish : d.intsShort 13 = true
  wt : d.weight ≤ m
  dep : d.depth ≤ k
theorem Sm.le {m k m' k' : Nat} {d : PyData} (h : Sm m k d) (hm : m ≤ m') (hk : k ≤ k') : Sm m' k' d := ⟨h.lay, h.sho, h.ish, Nat.le_trans h.wt hm, Nat.le_trans h.dep hk⟩
theorem Sm.non : Sm 0 0 .none := ⟨by simp [PyData.canLay0], by simp [PyData.showable], by simp [PyData.intsShort], by simp [PyData.weight], by simp [PyData.depth]⟩
theorem Sm.bl (b : Bool) : Sm 0 0 (.bool b) := ⟨by simp [PyData.canLay0], by simp [PyData.showable], by simp [PyData.intsShort], by simp [PyData.weight], by simp [PyData.depth]⟩
theorem Sm.int {i : Int} (h0 : -1000000000 < i) (h1 : i < 1000000000) : Sm 64 0 (.int i) := by
  have hb : i.natAbs < 2 ^ 64 := by omega
  have hl : i.natAbs.log2 < 64 := by
    by_cases z : i.natAbs = 0
    · rw [z]
      decide
    · exact (Nat.log2_lt z).mpr hb
  refine ⟨by simp [PyData.canLay0], ?_, ?_, ?_, by simp [PyData.depth]⟩
  · simp only [PyData.showable]
    exact decide_eq_true (by omega)
  · simp only [PyData.intsShort, PyData.shown]
    refine decide_eq_true ?_
    by_cases hn : i < 0
    · rw [len_text_neg hn]
      have := toString_length_le (v := 0 - i) (k := 9) (by omega) (by decide) (by omega)
      omega
    · have := toString_length_le (v := i) (k := 9) (by omega) (by decide) (by omega)
      omega
  · simp only [PyData.weight]
    split <;> omega
theorem Sm.str {x : Str} {n : Nat} (h : PyData.strOk x = true) (hn : x.length ≤ n) : Sm n 0 (.str x) :=
  ⟨by simpa only [PyData.canLay0] using h, by simp [PyData.showable], by simp [PyData.intsShort], by simp only [PyData.weight]; exact hn, by simp [PyData.depth]⟩
structure SmA (n m k : Nat) (ds : List PyData) : Prop where
  lay : PyData.canLayAll0 ds = true
  sho : PyData.showableAll ds = true
  ish : PyData.intsShortAll 13 ds = true
  wt : PyData.weightAll ds ≤ ds.length * (m + 1)
  dep : PyData.depthAll ds ≤ k
theorem SmA.of {m k : Nat} : ∀ {ds : List PyData}, (∀ d ∈ ds, Sm m k d) → SmA ds.length m k ds
  | [], _ => ⟨by simp [PyData.canLayAll0], by simp [PyData.showableAll], by simp [PyData.intsShortAll], by simp [PyData.weightAll], by simp [PyData.depthAll]⟩
  | d :: ds, h => by
    have h1 := h d (List.mem_cons_self ..)
    have h2 := SmA.of (ds := ds) fun x hx => h x (List.mem_cons_of_mem _ hx)
    refine ⟨by simp [PyData.canLayAll0, h1.lay, h2.lay], by simp [PyData.showableAll, h1.sho, h2.sho], by simp [PyData.intsShortAll, h1.ish, h2.ish], ?_, ?_⟩
    · have e1 := h1.wt
      have e2 := h2.wt
      simp only [PyData.weightAll, List.length_cons, Nat.succ_mul]
      omega
    · simp only [PyData.depthAll]
      exact Nat.max_le.mpr ⟨h1.dep, h2.dep⟩
theorem Sm.lst {n m k M : Nat} {ds : List PyData} (hn : ds.length ≤ n) (h : ∀ d ∈ ds, Sm m k d) (hM : n * (m + 1) ≤ M) : Sm M (k + 1) (.list ds) := by
  have a := SmA.of h
  have hw : ds.length * (m + 1) ≤ n * (m + 1) := Nat.mul_le_mul_right _ hn
  exact ⟨by simpa only [PyData.canLay0] using a.lay, by simpa only [PyData.showable] using a.sho, by simpa only [PyData.intsShort] using a.ish, by simp only [PyData.weight]; exact Nat.le_trans a.wt (Nat.le_trans hw hM), by simp only [PyData.depth]; exact Nat.succ_le_succ a.dep⟩
theorem Sm.tup {n m k M : Nat} {ds : List PyData} (hn : ds.length ≤ n) (h : ∀ d ∈ ds, Sm m k d) (hM : n * (m + 1) ≤ M) : Sm M (k + 1) (.tuple ds) := by
  have a := SmA.of h
  have hw : ds.length * (m + 1) ≤ n * (m + 1) := Nat.mul_le_mul_right _ hn
  exact ⟨by simpa only [PyData.canLay0] using a.lay, by simpa only [PyData.showable] using a.sho, by simpa only [PyData.intsShort] using a.ish, by simp only [PyData.weight]; exact Nat.le_trans a.wt (Nat.le_trans hw hM), by simp only [PyData.depth]; exact Nat.succ_le_succ a.dep⟩
theorem Sm.shaped {m k : Nat} {d : PyData} (h : Sm m k d) (hk : k ≤ 50) : SeqAt.shaped d = true := by
  show (d.canLay0 && decide (d.depth ≤ 64)) = true
  rw [h.lay, decide_eq_true (show d.depth ≤ 64 from Nat.le_trans h.dep (by omega))]
  rfl
theorem Sm.short {m k : Nat} {d : PyData} (h : Sm m k d) (hm : m ≤ 1000000) (hk : k ≤ 50) : d.shown.length ≤ sizeLine := by
  have e : PyData.layable0 d = true := by
    show (d.canLay0 && decide (d.depth ≤ 64) && decide (d.weight ≤ 2 ^ 20)) = true
    rw [h.lay, decide_eq_true (show d.depth ≤ 64 from Nat.le_trans h.dep (by omega)), decide_eq_true (show d.weight ≤ 2 ^ 20 from Nat.le_trans h.wt (by omega))]
    rfl
  have := shown_le13 e h.ish
  rw [sizeLine_eq]
  omega
/-! ### repr of data at any depth -/
def rShow (K : PySem.W.Frag) : List V → Hp → VK → Prop := fun xs H Q => ∃ v d m k, xs = [v] ∧ Dp K H v d ∧ Sm m k d ∧ m ≤ 1000000 ∧ k ≤ 50 ∧ Q (.str d.shown) H
theorem call_show (K : PySem.W.Frag) {X : Cx} (hg : X.A.guards = some []) (hu : X.A.units + 64 < cLine) (hK : X.K = K := by rfl) : CallR X (.builtin "repr") (rShow K) := by
  subst hK
  intro pins s σ H xs us Q I r h
  obtain ⟨v, d, m, k, rfl, hd, sh, hm, hk, q⟩ := h
  have hdep := sh.dep
  have hz := sh.short hm hk
  cases hd with
  | non =>
    obtain ⟨u, rfl, rfl⟩ := vals1 r
    exact PySem.P.repr_of_none ⟨.str _, H, I.tok _, ⟨_, rfl⟩, by simpa only [PyData.shown] using q⟩
  | bl b =>
    obtain ⟨u, rfl, rfl⟩ := vals1 r
    refine PySem.P.repr_of_bool ⟨.str _, H, I.tok _, ⟨_, rfl⟩, ?_⟩
    simp only [PyData.shown] at q
    cases b <;> exact q
  | int i =>
    obtain ⟨u, rfl, t, rfl⟩ := vals1 r
    have hi : i.natAbs.log2 < 1920 := by simpa [PyData.showable] using sh.sho
    exact PySem.P.repr_of_int hi ⟨.str _, H, I.tok _, ⟨_, rfl⟩, by simpa only [PyData.shown] using q⟩
  | str x =>
    obtain ⟨u, rfl, t, rfl⟩ := vals1 r
    simp only [PyData.shown] at q hz
    exact PySem.P.repr_of_str ⟨.str _, H, I.tok _, ⟨_, rfl⟩, q⟩ hz
  | @lst a ys ds hs hds =>
    obtain ⟨u, rfl, rfl⟩ := vals1 r
    obtain ⟨as, rd⟩ := Dp.reads I _ _ _ (Dp.lst hs hds) (show RelV (.ref a) (.ref a) from rfl)
    exact PySem.repr_of_reads' rd sh.sho (PyData.noDict_hsm (PyData.hasDict_of_canLay _ sh.lay)) hg (by omega) (fun _ _ e => e) (fun h' u tk keep => ⟨.str _, H, I.kept keep, ⟨_, rfl⟩, q⟩) hz
  | @tup a ys ds hs hds =>
    obtain ⟨u, rfl, rfl⟩ := vals1 r
    obtain ⟨as, rd⟩ := Dp.reads I _ _ _ (Dp.tup hs hds) (show RelV (.ref a) (.ref a) from rfl)
    exact PySem.repr_of_reads' rd sh.sho (PyData.noDict_hsm (PyData.hasDict_of_canLay _ sh.lay)) hg (by omega) (fun _ _ e => e) (fun h' u tk keep => ⟨.str _, H, I.kept keep, ⟨_, rfl⟩, q⟩) hz
/-! ### sorted of data -/
def rSortD (K : PySem.W.Frag) : List V → Hp → VK → Prop := fun vs H Q => ∃ (β : Type) (v : β → V) (d : β → PyData) (a : Addr) (bs : List β), vs = [.ref a] ∧ SqL K H a (bs.map v) ∧ (∀ b ∈ bs, Dp K H (v b) (d b) ∧ (d b).depth ≤ 50) ∧
  PySem.W.AllAlike (bs.map d) ∧ PySem.W.Sortable (bs.map d) ∧ ∀ p, H p = none → Q (.ref p) (upd H p (.lst ((bs.mergeSort (PySem.W.dataLe false d)).map v)))
section
variable {β : Type} {v : β → V} {d : β → PyData}
theorem each_vals : ∀ {bs : List β} {its : List Value}, Vals (bs.map v) its → PySem.W.EachIs (fun (u : Value) (b : β) => RelV (v b) u) its bs
  | [], _, .nil => .nil
  | _ :: _, _, .cons r t => .cons r (each_vals t)
theorem vals_each : ∀ {bs : List β} {its : List Value}, PySem.W.EachIs (fun (u : Value) (b : β) => RelV (v b) u) its bs → Vals (bs.map v) its
  | [], _, .nil => .nil
  | _ :: _, _, .cons r t => .cons r (vals_each t)
theorem each_reads {X : Cx} {pins : List (Addr × Obj)} {σ : L2.St} {H : Hp} {s : Shared} (I : Inv X pins σ H s) : ∀ {bs : List β} {its : List Value}, Vals (bs.map v) its → (∀ b ∈ bs, Dp X.K H (v b) (d b)) → PySem.W.EachIs (fun (u : Value) (b : β) => ∃ as, Reads s.heap u (d b) as) its bs
  | [], _, .nil, _ => .nil
  | b :: _, _, .cons r t, h => .cons (Dp.reads I _ _ _ (h b (List.mem_cons_self ..)) r) (each_reads I t fun x hx => h x (List.mem_cons_of_mem _ hx))
end
theorem cr_sortD (K : PySem.W.Frag) {X : Cx} (hu : X.A.units + 64 < cLine) (hK : X.K = K := by rfl) : CallR X (.builtin "sorted") (rSortD K) := by
  subst hK
  intro pins s σ H vs us Q I r h
  obtain ⟨β, v, d, a, bs, rfl, hs, hd, al, so, q⟩ := h
  obtain ⟨u, rfl, rfl⟩ := vals1 r
  obtain ⟨its, rv, hl, hz⟩ := I.list hs
  rw [List.length_map] at hz
  refine PySem.W.sorted_data (enc := d) (R := fun (u : Value) (b : β) => RelV (v b) u) hl.isList (each_vals rv) (each_reads I rv fun b hb => (hd b hb).1) al so hz (fun b hb => ?_) fun out hlen he => ?_
  · have := (hd b hb).2
    omega
  · obtain ⟨ep, he'⟩ := PyProof.Rows.sortedAll_at s.heap its out.toArray
    have hlen2 : ((bs.mergeSort (PySem.W.dataLe false d)).map v).length ≤ sizeLine := by
      rw [List.length_map, List.length_mergeSort]
      exact hz
    exact ⟨.ref _, upd H (s.heap.objs.size + 1) (.lst ((bs.mergeSort (PySem.W.dataLe false d)).map v)), I.laid (t' := s.toks) (fun _ _ => PyProof.Rows.sortedAll_old) (Nat.le_succ _) ⟨hlen2, out, ep, vals_each he, by simpa using he'⟩, rfl, q _ (I.hok.fresh (Nat.le_succ _))⟩
end Pf


namespace Pf
open PySem PySem.Spec PyProof.Rows L2
/-! ### tuples stay -/
structure TupK (H H' : Hp) : Prop where
  tup : ∀ b xs, H b = some (.tup xs) → H' b = some (.tup xs)
  frz : ∀ b o u, H b = some (.frz o u) → H' b = some (.frz o u)
instance {H H' : Hp} : CoeFun (TupK H H') (fun _ => ∀ b xs, H b = some (.tup xs) → H' b = some (.tup xs)) := ⟨TupK.tup⟩
theorem TupK.refl {H : Hp} : TupK H H := ⟨fun _ _ e => e, fun _ _ _ e => e⟩
theorem TupK.trans {H H1 H2 : Hp} (a : TupK H H1) (b : TupK H1 H2) : TupK H H2 := ⟨fun c xs e => b.tup c xs (a.tup c xs e), fun c o u e => b.frz c o u (a.frz c o u e)⟩
theorem TupK.ext {H H' : Hp} (k : Ext H H') : TupK H H' := ⟨fun b _ e => k b _ e, fun b _ _ e => k b _ e⟩
theorem TupK.new {q : Addr} {H : Hp} {o : HO} (h : H q = none) : TupK H (upd H q o) := TupK.ext (Ext.new h)
theorem TupK.lst {q : Addr} {H : Hp} {o : HO} {ys : List V} (h : H q = some (.lst ys)) : TupK H (upd H q o) := by
  refine ⟨fun b xs e => ?_, fun b o u e => ?_⟩
  · rw [upd_ne (ne_of e h (by intro z; cases z))]
    exact e
  · rw [upd_ne (ne_of e h (by intro z; cases z))]
    exact e
theorem paired_imp {α β : Type} {R S : α → β → Prop} (h : ∀ a b, R a b → S a b) : ∀ {xs : List α} {ys : List β}, Paired R xs ys → Paired S xs ys
  | _, _, .nil => .nil
  | _, _, .cons r t => .cons (h _ _ r) (paired_imp h t)
theorem paired_get {α β : Type} {R : α → β → Prop} : ∀ {xs : List α} {ys : List β} {i : Nat} {x : α}, Paired R xs ys → xs[i]? = some x → ∃ y, ys[i]? = some y ∧ R x y
  | _, _, _, _, .nil, e => by simp at e
  | _, _, 0, _, .cons r _, e => by
    simp at e
    subst e
    exact ⟨_, rfl, r⟩
  | _, _, i + 1, x, .cons _ t, e => by
    obtain ⟨y, h1, h2⟩ := paired_get (i := i) (x := x) t (by simpa using e)
    exact ⟨y, by simpa using h1, h2⟩
theorem paired_len {α β : Type} {R : α → β → Prop} : ∀ {xs : List α} {ys : List β}, Paired R xs ys → xs.length = ys.length
  | _, _, .nil => rfl
  | _, _, .cons _ t => by rw [List.length_cons, List.length_cons, paired_len t]
theorem paired_app {α β : Type} {R : α → β → Prop} : ∀ {xs xs' : List α} {ys ys' : List β}, Paired R xs ys → Paired R xs' ys' → Paired R (xs ++ xs') (ys ++ ys')
  | _, _, _, _, .nil, s => s
  | _, _, _, _, .cons r t, s => .cons r (paired_app t s)
/-! ### things as they lie in the heap -/
def PairAt (H : Hp) (v : V) (x : Str × Int) : Prop := ∃ a, v = .ref a ∧ H a = some (.tup [.str x.1, .int x.2])
def StackAt (H : Hp) (v : V) (x : Str × Str × Int) : Prop := ∃ a, v = .ref a ∧ H a = some (.tup [.str x.1, .str x.2.1, .int x.2.2])
def TwoAt (H : Hp) (v : V) (x : Int × Int) : Prop := ∃ a, v = .ref a ∧ H a = some (.tup [.int x.1, .int x.2])
def TupOf {α : Type} (R : Hp → V → α → Prop) (H : Hp) (v : V) (xs : List α) : Prop := ∃ a vs, v = .ref a ∧ H a = some (.tup vs) ∧ Paired (R H) vs xs
def Mono {α : Type} (R : Hp → V → α → Prop) : Prop := ∀ H H' v x, TupK H H' → R H v x → R H' v x
theorem PairAt.mono : Mono PairAt := fun H H' v x k ⟨a, e, h⟩ => ⟨a, e, k _ _ h⟩
theorem StackAt.mono : Mono StackAt := fun H H' v x k ⟨a, e, h⟩ => ⟨a, e, k _ _ h⟩
theorem TwoAt.mono : Mono TwoAt := fun H H' v x k ⟨a, e, h⟩ => ⟨a, e, k _ _ h⟩
theorem TupOf.mono {α : Type} {R : Hp → V → α → Prop} (m : Mono R) : Mono (TupOf R) := fun H H' v x k ⟨a, vs, e, h, r⟩ => ⟨a, vs, e, k _ _ h, paired_imp (fun _ _ => m _ _ _ _ k) r⟩
/-- a tuple whose object is known to have no dict -/
def FrzOf {α : Type} (R : Hp → V → α → Prop) (H : Hp) (v : V) (xs : List α) : Prop := ∃ (a : Addr) (o : Obj) (vs : List V), v = .ref a ∧ H a = some (.frz o (.tup vs)) ∧ o.dict = none ∧ Paired (R H) vs xs
theorem FrzOf.mono {α : Type} {R : Hp → V → α → Prop} (m : Mono R) : Mono (FrzOf R) := fun H H' v x k ⟨a, o, vs, e, h, hd, r⟩ => ⟨a, o, vs, e, k.frz _ _ _ h, hd, paired_imp (fun _ _ => m _ _ _ _ k) r⟩
theorem SqT.fz {K : PySem.W.Frag} {H : Hp} {a : Addr} {o : Obj} {xs : List V} (h : H a = some (.frz o (.tup xs))) : SqT K H a xs := .inl (.inr ⟨o, h⟩)
def IntAt (_ : Hp) (v : V) (x : Int) : Prop := v = .int x
theorem IntAt.mono : Mono IntAt := fun _ _ _ _ _ e => e
theorem paired_ints {H : Hp} : ∀ ns : List Int, Paired (IntAt H) (ns.map V.int) ns
  | [] => .nil
  | _ :: r => .cons rfl (paired_ints r)
structure Rl where
  letters : Str
  prs : List (Str × Int)
  span : Int
  loops : List Int
  stk : List (Str × Str × Int)
def RulesAt (H : Hp) (v : V) (r : Rl) : Prop := ∃ a vp vl vs, v = .ref a ∧ H a = some (.tup [.str r.letters, vp, .int r.span, vl, vs]) ∧ FrzOf PairAt H vp r.prs ∧ TupOf IntAt H vl r.loops ∧ TupOf StackAt H vs r.stk
theorem RulesAt.mono : Mono RulesAt := fun H H' v x k ⟨a, vp, vl, vs, e, h, h1, h2, h3⟩ => ⟨a, vp, vl, vs, e, k _ _ h, FrzOf.mono PairAt.mono _ _ _ _ k h1, TupOf.mono IntAt.mono _ _ _ _ k h2, TupOf.mono StackAt.mono _ _ _ _ k h3⟩
/-- pairs as a tuple of either make -/
def PrsW (H : Hp) (v : V) (xs : List (Str × Int)) : Prop := ∃ (a : Addr) (vs : List V), v = .ref a ∧ ((∃ o, H a = some (.frz o (.tup vs))) ∨ H a = some (.tup vs)) ∧ Paired (PairAt H) vs xs
theorem PrsW.mono : Mono PrsW := fun H H' v x k ⟨a, vs, e, h, r⟩ => ⟨a, vs, e, h.elim (fun ⟨o, h⟩ => .inl ⟨o, k.frz _ _ _ h⟩) (fun h => .inr (k _ _ h)), paired_imp (fun _ _ => PairAt.mono _ _ _ _ k) r⟩
theorem SqT.w {K : PySem.W.Frag} {H : Hp} {a : Addr} {xs : List V} (h : (∃ o, H a = some (.frz o (.tup xs))) ∨ H a = some (.tup xs)) : SqT K H a xs := h.elim (fun ⟨_, h⟩ => SqT.fz h) (fun h => SqT.of h)
def RulesW (H : Hp) (v : V) (r : Rl) : Prop := ∃ a vp vl vs, v = .ref a ∧ H a = some (.tup [.str r.letters, vp, .int r.span, vl, vs]) ∧ PrsW H vp r.prs ∧ TupOf IntAt H vl r.loops ∧ TupOf StackAt H vs r.stk
theorem RulesW.mono : Mono RulesW := fun H H' v x k ⟨a, vp, vl, vs, e, h, h1, h2, h3⟩ => ⟨a, vp, vl, vs, e, k _ _ h, PrsW.mono _ _ _ _ k h1, TupOf.mono IntAt.mono _ _ _ _ k h2, TupOf.mono StackAt.mono _ _ _ _ k h3⟩
theorem RulesAt.w {H : Hp} {v : V} {r : Rl} (h : RulesAt H v r) : RulesW H v r := by
  obtain ⟨a, vp, vl, vs, e, h, ⟨ap, o, us, e1, h1, _, p⟩, h2, h3⟩ := h
  exact ⟨a, vp, vl, vs, e, h, ⟨ap, us, e1, .inl ⟨o, h1⟩, p⟩, h2, h3⟩
def Two (t : Str) : Prop := t.length = 2 ∧ Small t
structure RlOk (r : Rl) : Prop where
  let6 : r.letters.length ≤ 6
  let1 : 1 ≤ r.letters.length
  small : Small r.letters
  prs : r.prs.length ≤ 12
  pr : ∀ x ∈ r.prs, Two x.1 ∧ -99 ≤ x.2 ∧ x.2 ≤ 99
  sp0 : 0 ≤ r.span
  sp3 : r.span ≤ 3
  lo9 : r.loops.length = 9
  lo : ∀ x ∈ r.loops, -99 ≤ x ∧ x ≤ 99
  stk : r.stk.length ≤ 12
  st : ∀ x ∈ r.stk, Two x.1 ∧ Two x.2.1 ∧ -99 ≤ x.2.2 ∧ x.2.2 ≤ 99
  nd : (r.stk.map fun x => (x.1, x.2.1)).Nodup
  pn : (r.prs.map (·.1)).Nodup
/-! ### a dict by two texts -/
def encE (x : Str × Str × Int) : List Key × V := ([.inr x.1, .inr x.2.1], .int x.2.2)
def putE (es : List (Str × Str × Int)) (a b : Str) (i : Int) : List (Str × Str × Int) :=
  if (es.any fun x => decide (x.1 = a ∧ x.2.1 = b)) = true then es.map (fun x => if x.1 = a ∧ x.2.1 = b then (x.1, x.2.1, i) else x) else es ++ [(a, b, i)]
theorem encE_key (x : Str × Str × Int) (a b : Str) : ((encE x).1 = [Sum.inr a, Sum.inr b]) ↔ (x.1 = a ∧ x.2.1 = b) := by
  unfold encE
  constructor
  · intro h
    injection h with h1 h2
    injection h2 with h3 _
    exact ⟨Sum.inr.inj h1, Sum.inr.inj h3⟩
  · rintro ⟨h1, h2⟩
    rw [h1, h2]
theorem put_enc (es : List (Str × Str × Int)) (a b : Str) (i : Int) : putK (es.map encE) [Sum.inr a, Sum.inr b] (.int i) = (putE es a b i).map encE := by
  have hany : ((es.map encE).any fun kv => decide (kv.1 = [Sum.inr a, Sum.inr b])) = es.any fun x => decide (x.1 = a ∧ x.2.1 = b) := by
    rw [List.any_map]
    congr 1
    funext x
    exact decide_eq_decide.mpr (encE_key x a b)
  unfold putK putE
  rw [hany]
  by_cases h : (es.any fun x => decide (x.1 = a ∧ x.2.1 = b)) = true
  · rw [if_pos h, if_pos h, List.map_map, List.map_map]
    refine List.map_congr_left fun x _ => ?_
    show (if (encE x).1 = [Sum.inr a, Sum.inr b] then ((encE x).1, V.int i) else encE x) = encE (if x.1 = a ∧ x.2.1 = b then (x.1, x.2.1, i) else x)
    by_cases e : x.1 = a ∧ x.2.1 = b
    · rw [if_pos ((encE_key x a b).mpr e), if_pos e]
      rfl
    · rw [if_neg (fun z => e ((encE_key x a b).mp z)), if_neg e]
  · rw [if_neg h, if_neg h, List.map_append]
    rfl
theorem putE_keys (es : List (Str × Str × Int)) (a b : Str) (i : Int) (hn : (es.map fun x => (x.1, x.2.1)).Nodup) : ((putE es a b i).map fun x => (x.1, x.2.1)).Nodup := by
  unfold putE
  split
  · rw [List.map_map]
    have e : ((fun x : Str × Str × Int => (x.1, x.2.1)) ∘ fun x => if x.1 = a ∧ x.2.1 = b then (x.1, x.2.1, i) else x) = fun x => (x.1, x.2.1) := by
      funext x
      show (fun x : Str × Str × Int => (x.1, x.2.1)) (if x.1 = a ∧ x.2.1 = b then (x.1, x.2.1, i) else x) = _
      split <;> rfl
    rw [e]
    exact hn
  · rename_i h
    rw [List.map_append]
    refine List.nodup_append.mpr ⟨hn, by simp, fun x hx y hy e => ?_⟩
    obtain ⟨z, hz, rfl⟩ := List.mem_map.mp hx
    have hy' : y = (a, b) := by simpa using hy
    rw [hy'] at e
    injection e with e1 e2
    exact h (List.any_eq_true.mpr ⟨z, hz, decide_eq_true ⟨e1, e2⟩⟩)
theorem putE_len (es : List (Str × Str × Int)) (a b : Str) (i : Int) : (putE es a b i).length ≤ es.length + 1 := by
  unfold putE
  split
  · rw [List.length_map]
    omega
  · rw [List.length_append]
    exact Nat.le_refl _
theorem putE_all {Pd : Str × Str × Int → Prop} {es : List (Str × Str × Int)} {a b : Str} {i : Int} (h : ∀ x ∈ es, Pd x) (hn : Pd (a, b, i)) : ∀ x ∈ putE es a b i, Pd x := by
  intro x hx
  unfold putE at hx
  split at hx
  · obtain ⟨y, hy, rfl⟩ := List.mem_map.mp hx
    split
    · rename_i e
      rw [e.1, e.2]
      exact hn
    · exact h y hy
  · rcases List.mem_append.mp hx with hx | hx
    · exact h x hx
    · rw [List.mem_singleton.mp hx]
      exact hn
theorem val_enc {es : List (Str × Str × Int)} {a b : Str} {i : Int} (hn : (es.map fun x => (x.1, x.2.1)).Nodup) (h : (a, b, i) ∈ es) : valV (es.map encE) [Sum.inr a, Sum.inr b] = some (.int i) := by
  induction es with
  | nil => cases h
  | cons y r ih =>
    rw [List.map_cons]
    rw [List.map_cons, List.nodup_cons] at hn
    by_cases e : y.1 = a ∧ y.2.1 = b
    · rw [valV_pos ((encE_key y a b).mpr e)]
      rcases List.mem_cons.mp h with z | z
      · rw [← z]
        rfl
      · exact absurd (List.mem_map.mpr ⟨_, z, by rw [e.1, e.2]⟩) hn.1
    · rw [valV_neg (fun z => e ((encE_key y a b).mp z))]
      rcases List.mem_cons.mp h with z | z
      · rw [← z] at e
        exact absurd ⟨rfl, rfl⟩ e
      · exact ih hn.2 z
theorem map_erase {α β : Type} (f : α → β) : ∀ (xs : List α) (k : Nat), (xs.map f).eraseIdx k = (xs.eraseIdx k).map f
  | [], _ => rfl
  | _ :: _, 0 => rfl
  | x :: r, k + 1 => by
    show f x :: (r.map f).eraseIdx k = f x :: (r.eraseIdx k).map f
    rw [map_erase f r k]
theorem dpStrs {K : PySem.W.Frag} {H : Hp} : ∀ us : List Str, DpAll K H (us.map V.str) (us.map PyData.str)
  | [] => .nil
  | _ :: r => .cons (.str _) (dpStrs r)
theorem sm_strs {us : List Str} {n m : Nat} (hn : us.length ≤ n) (h : ∀ t ∈ us, Small t ∧ t.length ≤ m) (hM : n * (m + 1) ≤ 1000000) : Sm 1000000 1 (.list (us.map PyData.str)) := by
  refine Sm.lst (n := n) (m := m) (k := 0) (by rw [List.length_map]; exact hn) (fun d hd => ?_) hM
  obtain ⟨t, ht, rfl⟩ := List.mem_map.mp hd
  exact Sm.str (h t ht).1.ok (h t ht).2
theorem keys_zip {H : Hp} : ∀ {es : List (Str × Str × Int)} {bs : List Addr}, IsKeys H (es.map encE) bs → ∃ bes : List (Addr × (Str × Str × Int)), bes.map (·.1) = bs ∧ bes.map (·.2) = es ∧ ∀ x ∈ bes, H x.1 = some (.tup [.str x.2.1, .str x.2.2.1])
  | [], _, .nil => ⟨[], rfl, rfl, fun x h => by cases h⟩
  | e :: es, b :: bs, .cons r t => by
    obtain ⟨bes, h1, h2, h3⟩ := keys_zip (es := es) t
    refine ⟨(b, e) :: bes, by rw [List.map_cons, h1], by rw [List.map_cons, h2], fun x hx => ?_⟩
    rcases List.mem_cons.mp hx with rfl | hx
    · exact r
    · exact h3 x hx
theorem ixN_in {n : Nat} {i : Int} (h0 : 0 ≤ i) (h1 : i < n) : seqIndex? i n = some i.toNat := by
  refine (ixN_seq ?_).1
  unfold ixN
  rw [if_pos h0, if_pos h1]
end Pf


namespace Pf
open PySem PySem.Spec PyProof.Rows L2
/-! ### enumerate of a text -/
def ItES (x : Str) : It :=
  ⟨fun i _ => i < x.cps.size, fun i H v H' => ∃ T c, v = .ref T ∧ H T = none ∧ H' = upd H T (.tup [.int (i : Nat), .str ⟨#[c]⟩]) ∧ x.cps[i]? = some c, fun i _ => i = x.cps.size⟩
theorem turn_es {P : Program} {w : World} {K : PySem.W.Frag} {elts : List Expr} {kk : Nat} {tpos : Pos} (x : Str) (t : Tok) (e it : Addr) :
    Turn P w K (.Tuple elts kk tpos) (ItES x) [e, it] e (fun i h => (∃ old, IsEnum h e it ((i : Nat) : Int) old) ∧ h.IsStrIter it (strIterType x) x t i ∧ e ≠ it) where
  mem := by simp
  obj := fun i h st b hb => by
    obtain ⟨⟨old, he⟩, ⟨o, ho, hc, hd⟩, _⟩ := st
    have e' : b = e ∨ b = it := by simpa using hb
    cases e' with
    | inl z =>
      rw [z]
      exact ⟨_, he, fun v q => nomatch q⟩
    | inr z =>
      rw [z]
      exact ⟨o, ho, fun v q => by rw [hd] at q; cases q⟩
  keep := fun i h h' st k => by
    obtain ⟨⟨old, he⟩, ⟨o, ho, r⟩, hne⟩ := st
    exact ⟨⟨old, k e (by simp) _ he⟩, ⟨o, k it (by simp) o ho, r⟩, hne⟩
  item := by
    intro X hP hw hK hc i pins s σ H E I hf st hg
    subst hP hw hK
    obtain ⟨⟨old, he⟩, hit, hne⟩ := st
    have hel : e < s.heap.objs.size := Heap.lt_size he
    have hil : it < s.heap.objs.size := by
      obtain ⟨_, q, _⟩ := hit
      exact Heap.lt_size q
    have D := Draws.text (prog := X.prog) (w := X.w) (A := X.A.in1) (show X.A.in1.handled = none from I.ok.hd hc) it x t
    refine wpAny_pyNext_enum_itemD D he hit hg hne (by simpa using hne) fun u h' tk hu ho hit' hT hsz hk => ?_
    obtain ⟨c, t2, hcx, rfl⟩ := hu
    refine ⟨_, rfl, wpAny_letOwnedTupleGo_enum (s := { s with heap := h', toks := tk + 1 }) ho fun h'' he' sb => ?_⟩
    have hT2 := (sb.2 _ (Nat.ne_of_gt hel)).trans hT
    have new : ObjOk X.prog X.w (upd H s.heap.objs.size (.tup [.int (i : Nat), .str ⟨#[c]⟩])) h'' s.heap.objs.size (.tup [.int (i : Nat), .str ⟨#[c]⟩]) :=
      ⟨by show 2 ≤ sizeLine; decide, [.int i tk, .str ⟨#[c]⟩ t2], .cons ⟨_, rfl⟩ (.cons ⟨_, rfl⟩ .nil), ⟨_, hT2, rfl, _, rfl⟩⟩
    have I1 : Inv X pins σ (upd H s.heap.objs.size (.tup [.int (i : Nat), .str ⟨#[c]⟩])) { s with heap := h'', toks := tk + 1 } :=
      I.turnedNew (ch := [e, it]) (fun b ob hb q => (sb.2 b (fun z => hb (by simp [z]))).trans (hk b ob (fun z => hb (by simp [z])) (fun z => hb (by simp [z])) q)) hf (Nat.le_refl _) new
    obtain ⟨oi, hoi, ri⟩ := hit'
    refine ⟨.ref s.heap.objs.size, _, I1, rfl, ⟨_, c, rfl, I.hok.fresh (Nat.le_refl _), rfl, hcx⟩, ⟨⟨.str ⟨#[c]⟩ t2, ?_⟩, ⟨oi, (sb.2 it (Ne.symm hne)).trans hoi, ri⟩, hne⟩, fun b hb => ?_⟩
    · have e1 : ((i + 1 : Nat) : Int) = (i : Int) + 1 := by omega
      rw [e1]
      exact he'
    · have hb' : b < s.heap.objs.size := by
        have e' : b = e ∨ b = it := by simpa using hb
        cases e' with
        | inl z => rw [z]; exact hel
        | inr z => rw [z]; exact hil
      rw [upd_ne (Nat.ne_of_lt hb')]
      exact (hf b hb).1
  done := by
    intro X hP hw hK hc i pins s σ H E I hf st hg
    subst hP hw hK
    obtain ⟨⟨old, he⟩, hit, hne⟩ := st
    have hi : i = x.cps.size := hg
    subst hi
    obtain ⟨f0, f1, f2, f3, f4, f5⟩ := hf it (by simp)
    have D := Draws.text (prog := X.prog) (w := X.w) (A := X.A.in1) (show X.A.in1.handled = none from I.ok.hd hc) it x t
    exact wpAny_pyNext_enum_endD D he hit fun h' eb => ⟨rfl, I.turned (t' := s.toks) (fun b o hb q => eb b o hb q) f0 f1 f3 f4 f5⟩
  self := fun A i s Q E st h => by
    obtain ⟨⟨_, he⟩, _⟩ := st
    exact wpAny_pyIter_enum he h
def iEnumS (ta : TA) : TI := fun σ H R => ta σ H fun vs H1 => ∃ x, vs = [.str x] ∧ R (ItES x) H1
theorem pi_enumS {X : Cx} {e : Expr} {ta : TA} {p pos tpos : Pos} {elts : List Expr} {kk : Nat} (hg : Gl X "enumerate") (hm : X.mg "enumerate" = none) (ha : PA X [e] ta) (hs : starEach [e] X.env = [(false, eval e X.env)] := by rfl) :
    PI X (.Tuple elts kk tpos) (.Call (.Name "enumerate" p) [e] [] pos) (iEnumS ta) := by
  refine ⟨fun pins s σ H R I h => ?_⟩
  refine Call_ (ld_blt I hg hm boot_enumerate (PyProof.Rows.callWith_type1 (thn (ha.run pos pins s σ H _ I h) fun us s1 ⟨vs, H1, I1, r1, q1⟩ => ?_) hs rfl))
  obtain ⟨x, rfl, q⟩ := q1
  obtain ⟨u, rfl, t, rfl⟩ := vals1 r1
  refine call_enumerate_str fun h' he hit hsz hk => wpAny_pyIter_enum he ?_
  refine ⟨s1.heap.objs.size + 1, [s1.heap.objs.size + 1, s1.heap.objs.size], _, _, H1, rfl, I1.kept (t' := s1.toks) hk, turn_es x t (s1.heap.objs.size + 1) s1.heap.objs.size, ⟨⟨.none, he⟩, hit, Nat.succ_ne_self _⟩, fun b hb => ?_, q⟩
  have e' : b = s1.heap.objs.size + 1 ∨ b = s1.heap.objs.size := by simpa using hb
  have hle : s1.heap.objs.size ≤ b := by
    cases e' with
    | inl z => rw [z]; exact Nat.le_add_right _ _
    | inr z => rw [z]; exact Nat.le_refl _
  exact I1.fpOk hle (I1.hok.fresh hle)
theorem for_es {x : Str} {g : TG} {tb : TS} {D : Ends} {σ : L2.St} {H : Hp} (Pv : Nat → L2.St → Hp → Prop) (h0 : Pv 0 σ H)
    (hs : ∀ i c T σ H, x.cps[i]? = some c → Pv i σ H → H T = none → g (.ref T) σ (upd H T (.tup [.int (i : Nat), .str ⟨#[c]⟩])) fun σ2 H2 => tb { D with nx := Pv (i + 1), ct := Pv (i + 1), bk := D.nx } σ2 H2) (hd : ∀ σ H, Pv x.cps.size σ H → D.nx σ H) :
    ∃ W : Nat → Nat → L2.St → Hp → Prop, (∃ m, W 0 m σ H) ∧ ∀ i m σ H, W i m σ H →
      ((ItES x).stop i H ∧ D.nx σ H) ∨ ((ItES x).go i H ∧ ∃ N : L2.St → Hp → Prop, (∀ σ' H', N σ' H' → ∃ m', m' < m ∧ W (i + 1) m' σ' H') ∧ ∀ y H', (ItES x).yld i H y H' → g y σ H' fun σ2 H2 => tb { D with nx := N, ct := N, bk := D.nx } σ2 H2) := by
  refine ⟨fun i m σ H => m = x.cps.size - i ∧ i ≤ x.cps.size ∧ Pv i σ H, ⟨x.cps.size, by simp, Nat.zero_le _, h0⟩, ?_⟩
  rintro i m σ H ⟨rfl, hi, p⟩
  by_cases hlt : i < x.cps.size
  · refine .inr ⟨hlt, Pv (i + 1), fun σ' H' p' => ⟨x.cps.size - (i + 1), by omega, rfl, hlt, p'⟩, fun y H' z => ?_⟩
    obtain ⟨T, c, rfl, hT, rfl, hc⟩ := z
    exact hs i c T σ _ hc p hT
  · have e : i = x.cps.size := by omega
    subst e
    exact .inl ⟨rfl, hd σ H p⟩
theorem lc_es {x : Str} {g : TG} {tt : TT} {te : TE} {vs : List Nat} {σ : L2.St} {H1 : Hp} {D : Addr} {Qd : Hp → Prop} (Pv : Nat → Hp → Prop) (h0 : Pv 0 (upd H1 D (.lst [])))
    (hs : ∀ i c T H, x.cps[i]? = some c → Pv i H → H T = none → g (.ref T) (wipe σ vs) (upd H T (.tup [.int (i : Nat), .str ⟨#[c]⟩])) fun σ2 H2 => wipe σ2 vs = wipe σ vs ∧ tt σ2 H2 fun b H3 =>
      if b = true then te σ2 H3 fun y H4 => ∃ acc, H4 D = some (.lst acc) ∧ acc.length < sizeLine ∧ Pv (i + 1) (upd H4 D (.lst (acc ++ [y]))) else Pv (i + 1) H3) (hd : ∀ H, Pv x.cps.size H → Qd H) :
    ∃ W : Nat → Nat → Hp → Prop, (∃ m, W 0 m (upd H1 D (.lst []))) ∧ ∀ i m H, W i m H →
      ((ItES x).stop i H ∧ Qd H) ∨ ((ItES x).go i H ∧ ∃ Nx : Hp → Prop, (∀ H', Nx H' → ∃ m', m' < m ∧ W (i + 1) m' H') ∧ ∀ y H', (ItES x).yld i H y H' → g y (wipe σ vs) H' fun σ2 H2 => wipe σ2 vs = wipe σ vs ∧ tt σ2 H2 fun b H3 =>
        if b = true then te σ2 H3 fun y H4 => ∃ acc, H4 D = some (.lst acc) ∧ acc.length < sizeLine ∧ Nx (upd H4 D (.lst (acc ++ [y]))) else Nx H3) := by
  refine ⟨fun i m H => m = x.cps.size - i ∧ i ≤ x.cps.size ∧ Pv i H, ⟨x.cps.size, by simp, Nat.zero_le _, h0⟩, ?_⟩
  rintro i m H ⟨rfl, hi, p⟩
  by_cases hlt : i < x.cps.size
  · refine .inr ⟨hlt, Pv (i + 1), fun H' p' => ⟨x.cps.size - (i + 1), by omega, rfl, hlt, p'⟩, fun y H' z => ?_⟩
    obtain ⟨T, c, rfl, hT, rfl, hc⟩ := z
    exact hs i c T _ hc p hT
  · have e : i = x.cps.size := by omega
    subst e
    exact .inl ⟨rfl, hd H p⟩
/-! ### a text backwards: some text, no longer -/
def tRevS (te : TE) : TE := fun σ H Q => te σ H fun x H1 => ∃ z : Str, x = .str z ∧ z.length ≤ sizeLine ∧ ∀ y : Str, y.length ≤ z.length → (∀ c ∈ y.cps.toList, c ∈ z.cps.toList) → Q (.str y) H1
theorem sliceBy_mem (x : Str) (l u : Option (Int × Tok)) (st : Int × Tok) : ∀ c ∈ (Txt.sliceBy x l u st).cps.toList, c ∈ x.cps.toList := by
  intro c hc
  unfold Txt.sliceBy at hc
  split at hc
  · exact hc
  · have hc : c ∈ List.filterMap (x.cps[·]?) _ := hc
    obtain ⟨i, _, hi⟩ := List.mem_filterMap.mp hc
    exact Array.mem_toList_iff.mpr (Array.mem_of_getElem? hi)
theorem pe_revS {X : Cx} {e : Expr} {te : TE} {k : Nat} {p1 p2 p3 pos : Pos} (he : PE X e te) : PE X (.Subscript e (.Slice none none (some (.UnaryOp .USub (.Constant (.int 1) k p1) p2)) p3) pos) (tRevS te) := by
  refine ⟨fun pins s σ H Q I h => ?_⟩
  refine Subscript_ (thn (he.run pins s σ H _ I h) fun v s1 ⟨x, H1, I1, r1, q1⟩ => ?_)
  obtain ⟨z, rfl, hz, q⟩ := q1
  obtain ⟨t, rfl⟩ := r1
  have hst : PO X (some (.UnaryOp .USub (.Constant (.int 1) k p1) p2)) (tPart (tUn (rU fun i => .int (-i)) (tC (.int 1)))) := po_some (pe_un un_neg pe_int)
  refine wpAny_Slice (thn (po_none.run pins s1 σ H1 (fun o H2 => o = none ∧ H2 = H1) I1 ⟨rfl, rfl⟩) fun vl s2 ⟨l, H2, I2, pl, el, e2⟩ => ?_)
  subst el e2
  refine thn (po_none.run pins s2 σ H2 (fun o H3 => o = none ∧ H3 = H2) I2 ⟨rfl, rfl⟩) fun vu s3 ⟨u, H3, I3, pu, eu, e3⟩ => ?_
  subst eu e3
  refine thn (hst.run pins s3 σ H3 (fun o H4 => o = some (-1) ∧ H4 = H3) I3 ⟨1, rfl, -1, rfl, rfl, rfl⟩) fun vs s4 ⟨o, H4, I4, ps, eo, e4⟩ => ?_
  subst eo e4
  cases pl
  cases pu
  cases ps with
  | int i t5 =>
    refine tail_any (ops := [.str z t, .ref s4.heap.objs.size]) (typeIs_str _ _ _) (PySem.F.slot_str_getitem.lookup) ?_ (by with_unfolding_all rfl)
    refine wpAny_getItem_str_slice (l := none) (u := none) (st := some (-1, t5)) ⟨_, Heap.get?_push_size _ rfl, rfl, rfl⟩ rfl ?_
    refine post_val_or_str ⟨Nat.le_trans (Txt.sliceBy_le z none none (-1, t5) (show (-1 : Int) ≠ 0 by decide)) hz, fun t6 tk => ?_⟩
    exact ⟨.str _, H4, (I4.kept (t' := tk) fun b ob q => Heap.get?_push_of_some _ q), ⟨_, rfl⟩, q _ (Txt.sliceBy_le z none none (-1, t5) (show (-1 : Int) ≠ 0 by decide)) (sliceBy_mem z none none (-1, t5))⟩
end Pf


namespace Pf
open PySem PySem.Spec PyProof.Rows L2
/-! ### enumerate of a tuple -/
abbrev EnO (a : Addr) : Obj := { cls := .type "enumerate", data := .fields #[.none, .bool false, .ref a, rawInt 0, .none, .none] }
theorem meets_en1 {u : Value} {ob : Obj} {G : Heap → Prop} (B : Begins u ob G) : Meets (Builtin.«enumerate.__new__» ⟨[.type "enumerate", u], []⟩) (fun _ R s => G s.heap ∧ R (.ok (.ret (.ref (s.heap.push ob).objs.size))) { s with heap := (s.heap.push ob).push (EnO s.heap.objs.size) }) :=
  .of_wp fun prog w A R s z => by
    obtain ⟨hp, g, d, tk, os⟩ := s
    obtain ⟨z1, z⟩ := z
    have hse := sub_enumerate
    have q : ∀ {A' : Around} {E : Value → Shared → Prop} {Q : Value → Shared → Prop}, Q (.ref hp.objs.size) ⟨hp.push ob, g, d, tk, os⟩ → wpAny (model prog w) A' (pyIter u) Q E ⟨hp, g, d, tk, os⟩ := fun r => B.iter prog w _ _ ⟨hp, g, d, tk, os⟩ _ z1 r
    wp_walk using q
    refine wpAny_stack_any fun sk => wpAny_pure ?_
    split
    · rename_i c _ _ _ _ _
      cases ec : (c == Value.type "enumerate")
      · wp_walk using q
        exact ⟨_, rfl, z⟩
      · wp_walk using q
        exact ⟨_, rfl, z⟩
    · wp_walk using q
      exact ⟨_, rfl, z⟩
theorem en1_begins {P : Program} {w : World} {A : Around} {E : Value → Shared → Prop} {s : Shared} {u : Value} {ob : Obj} {G : Heap → Prop} {Q : Value → Shared → Prop} (B : Begins u ob G) (z1 : G s.heap)
    (z : ∀ h', IsEnum h' (s.heap.objs.size + 1) s.heap.objs.size 0 .none → h'.get? s.heap.objs.size = some ob → h'.objs.size = s.heap.objs.size + 2 → (∀ b o, s.heap.get? b = some o → h'.get? b = some o) → Q (.ref (s.heap.objs.size + 1)) { s with heap := h' }) :
    wpAny (model P w) A (call (.type "enumerate") [u]) Q E s := by
  refine callType_new F.called_enumerate (by decide) (F.typeCall_enumerate_1 _) (F.newCall_enumerate_1 _) (fun obj => F.args_object_init_2 obj _) F.entry_enumerate_new (meets_en1 B) ⟨z1, ?_⟩
  have e1 : (s.heap.push ob).objs.size = s.heap.objs.size + 1 := Heap.size_push ..
  show _ ∧ _
  rw [e1]
  have hen : IsEnum ((s.heap.push ob).push (EnO s.heap.objs.size)) (s.heap.objs.size + 1) s.heap.objs.size 0 .none := by
    have := Heap.get?_push_size (s.heap.push ob) (o := EnO s.heap.objs.size) rfl
    rw [e1] at this
    exact this
  exact ⟨⟨_, hen, rfl⟩, z _ hen (Heap.get?_push_of_some _ (Heap.get?_push_size _ B.free)) (by rw [Heap.size_push, e1]) fun b o y => Heap.get?_push_of_some _ (Heap.get?_push_of_some _ y)⟩
def ItET (K : PySem.W.Frag) (a : Addr) : It :=
  ⟨fun i H => ∃ (xs : List V) (x : V), SqT K H a xs ∧ xs[i]? = some x, fun i H v H' => ∃ T x, v = .ref T ∧ H T = none ∧ H' = upd H T (.tup [.int (i : Nat), x]) ∧ ∀ xs, SqT K H a xs → xs[i]? = some x, fun i H => ∃ xs : List V, SqT K H a xs ∧ xs.length = i⟩
theorem turn_et {P : Program} {w : World} {K : PySem.W.Frag} {elts : List Expr} {kk : Nat} {tpos : Pos} (a e it : Addr) :
    Turn P w K (.Tuple elts kk tpos) (ItET K a) [e, it] e (fun i h => (∃ old, IsEnum h e it ((i : Nat) : Int) old) ∧ h.IsTupleIter it a i ∧ e ≠ it ∧ e ≠ a ∧ a ≠ it) where
  mem := by simp
  obj := fun i h st b hb => by
    obtain ⟨⟨old, he⟩, ⟨o, ho, hc, hd⟩, _⟩ := st
    have e' : b = e ∨ b = it := by simpa using hb
    cases e' with
    | inl z =>
      rw [z]
      exact ⟨_, he, fun v q => nomatch q⟩
    | inr z =>
      rw [z]
      exact ⟨o, ho, fun v q => by rw [hd] at q; cases q⟩
  keep := fun i h h' st k => by
    obtain ⟨⟨old, he⟩, ⟨o, ho, r⟩, hne⟩ := st
    exact ⟨⟨old, k e (by simp) _ he⟩, ⟨o, k it (by simp) o ho, r⟩, hne⟩
  item := by
    intro X hP hw hK hc i pins s σ H E I hf st hg
    subst hP hw hK
    obtain ⟨⟨old, he⟩, hit, hne, hea, hai⟩ := st
    obtain ⟨xs, x, hq, hx⟩ := hg
    obtain ⟨its, rv, pt, hz⟩ := I.tuple hq
    obtain ⟨u, hu, ru⟩ := rv.get hx
    have hel : e < s.heap.objs.size := Heap.lt_size he
    have hil : it < s.heap.objs.size := by
      obtain ⟨_, q, _⟩ := hit
      exact Heap.lt_size q
    have hti : s.heap.IsTuple a its.toArray := pt
    have D := Draws.tuple (prog := X.prog) (w := X.w) (A := X.A.in1) (show X.A.in1.handled = none from I.ok.hd hc) it a hai its.toArray
    refine wpAny_pyNext_enum_itemD D he ⟨hit, hti⟩ (by have := (List.getElem?_eq_some_iff.mp hu).1; simpa using this) hne (by simp [hne, hea]) fun y h' tk hy ho hit' hT hsz hk => ?_
    have ey : y = u := by
      have h2 : its[i]? = some y := by simpa using hy
      rw [hu] at h2
      exact (Option.some.inj h2).symm
    subst ey
    refine ⟨_, rfl, wpAny_letOwnedTupleGo_enum (s := { s with heap := h', toks := tk + 1 }) ho fun h'' he' sb => ?_⟩
    have hT2 := (sb.2 _ (Nat.ne_of_gt hel)).trans hT
    have new : ObjOk X.prog X.w (upd H s.heap.objs.size (.tup [.int (i : Nat), x])) h'' s.heap.objs.size (.tup [.int (i : Nat), x]) :=
      ⟨by show 2 ≤ sizeLine; decide, [.int i tk, y], .cons ⟨_, rfl⟩ (.cons ru .nil), ⟨_, hT2, rfl, _, rfl⟩⟩
    have I1 : Inv X pins σ (upd H s.heap.objs.size (.tup [.int (i : Nat), x])) { s with heap := h'', toks := tk + 1 } :=
      I.turnedNew (ch := [e, it]) (fun b ob hb q => (sb.2 b (fun z => hb (by simp [z]))).trans (hk b ob (fun z => hb (by simp [z])) (fun z => hb (by simp [z])) q)) hf (Nat.le_refl _) new
    obtain ⟨oi, hoi, ri⟩ := hit'.1
    refine ⟨.ref s.heap.objs.size, _, I1, rfl, ⟨_, x, rfl, I.hok.fresh (Nat.le_refl _), rfl, fun ys hy => by rw [I.tuple_inj hy hq]; exact hx⟩, ⟨⟨y, ?_⟩, ⟨oi, (sb.2 it (Ne.symm hne)).trans hoi, ri⟩, hne, hea, hai⟩, fun b hb => ?_⟩
    · have e1 : ((i + 1 : Nat) : Int) = (i : Int) + 1 := by omega
      rw [e1]
      exact he'
    · have hb' : b < s.heap.objs.size := by
        have e' : b = e ∨ b = it := by simpa using hb
        cases e' with
        | inl z => rw [z]; exact hel
        | inr z => rw [z]; exact hil
      rw [upd_ne (Nat.ne_of_lt hb')]
      exact (hf b hb).1
  done := by
    intro X hP hw hK hc i pins s σ H E I hf st hg
    subst hP hw hK
    obtain ⟨⟨old, he⟩, hit, hne, hea, hai⟩ := st
    obtain ⟨xs, hq, hx⟩ := hg
    obtain ⟨its, rv, pt, hz⟩ := I.tuple hq
    have hln := rv.length
    obtain ⟨f0, f1, f2, f3, f4, f5⟩ := hf it (by simp)
    have hti : s.heap.IsTuple a its.toArray := pt
    have D := Draws.tuple (prog := X.prog) (w := X.w) (A := X.A.in1) (show X.A.in1.handled = none from I.ok.hd hc) it a hai its.toArray
    have ei : its.toArray.size = i := by
      rw [List.size_toArray]
      omega
    exact wpAny_pyNext_enum_endD D he ⟨by rw [ei]; exact hit, hti⟩ fun h' eb => ⟨rfl, I.turned (t' := s.toks) (fun b o hb q => eb b o hb q) f0 f1 f3 f4 f5⟩
  self := fun A i s Q E st h => by
    obtain ⟨⟨_, he⟩, _⟩ := st
    exact wpAny_pyIter_enum he h
def iEnumT (K : PySem.W.Frag) (ta : TA) : TI := fun σ H R => ta σ H fun vs H1 => ∃ a xs, vs = [.ref a] ∧ SqT K H1 a xs ∧ R (ItET K a) H1
theorem pi_enumT {X : Cx} {e : Expr} {ta : TA} {p pos tpos : Pos} {elts : List Expr} {kk : Nat} (hg : Gl X "enumerate") (hm : X.mg "enumerate" = none) (ha : PA X [e] ta) (hs : starEach [e] X.env = [(false, eval e X.env)] := by rfl) :
    PI X (.Tuple elts kk tpos) (.Call (.Name "enumerate" p) [e] [] pos) (iEnumT X.K ta) := by
  refine ⟨fun pins s σ H R I h => ?_⟩
  refine Call_ (ld_blt I hg hm boot_enumerate (PyProof.Rows.callWith_type1 (thn (ha.run pos pins s σ H _ I h) fun us s1 ⟨vs, H1, I1, r1, q1⟩ => ?_) hs rfl))
  obtain ⟨a, xs, rfl, hq, q⟩ := q1
  obtain ⟨u, rfl, er⟩ := vals1 r1
  cases er
  obtain ⟨its, rv, pt, hz⟩ := I1.tuple hq
  have hti : s1.heap.IsTuple a its.toArray := pt
  have hal : a < s1.heap.objs.size := by
    obtain ⟨_, q, _⟩ := hti
    exact Heap.lt_size q
  refine en1_begins (begins_tuple a its.toArray) hti fun h' he hit hsz hk => wpAny_pyIter_enum he ?_
  refine ⟨s1.heap.objs.size + 1, [s1.heap.objs.size + 1, s1.heap.objs.size], _, _, H1, rfl, I1.kept (t' := s1.toks) hk, turn_et a (s1.heap.objs.size + 1) s1.heap.objs.size, ⟨⟨.none, he⟩, ⟨_, hit, rfl, rfl⟩, Nat.succ_ne_self _, Nat.ne_of_gt (Nat.lt_succ_of_lt hal), Nat.ne_of_lt hal⟩, fun b hb => ?_, q⟩
  have e' : b = s1.heap.objs.size + 1 ∨ b = s1.heap.objs.size := by simpa using hb
  have hle : s1.heap.objs.size ≤ b := by
    cases e' with
    | inl z => rw [z]; exact Nat.le_add_right _ _
    | inr z => rw [z]; exact Nat.le_refl _
  exact I1.fpOk hle (I1.hok.fresh hle)
theorem walk_et {K : PySem.W.Frag} {a : Addr} {xs : List V} : Walk (ItET K a) xs.length (fun H => SqT K H a xs) (YPair (fun i => some (.int (i : Nat))) (fun i => xs[i]?)) :=
  ⟨fun i H hi q => ⟨xs, _, q, List.getElem?_eq_getElem hi⟩, fun H q => ⟨xs, q, rfl⟩, fun i H x H' hi q ⟨T, y, e1, e2, e3, e4⟩ => ⟨T, _, y, e1, e2, e3, rfl, e4 xs q⟩⟩
theorem walk_zt {K : PySem.W.Frag} {a b : Addr} {xs ys : List V} {n : Nat} (hn : n = min xs.length ys.length) : Walk (RZ.ItzT K a b) n (fun H => SqT K H a xs ∧ SqT K H b ys) (YPair (fun i => xs[i]?) (fun i => ys[i]?)) := by
  subst hn
  refine ⟨fun i H hi q => ⟨xs, ys, _, _, q.1, q.2, List.getElem?_eq_getElem (by omega), List.getElem?_eq_getElem (by omega)⟩, fun H q => ⟨xs, ys, q.1, q.2, by omega⟩, fun i H x H' hi q ⟨T, y, z, e1, e2, e3, e4, e5⟩ => ⟨T, y, z, e1, e2, e3, e4 xs q.1, e5 ys q.2⟩⟩
/-! ### two fors in a comprehension -/
def LcIn (J1 : It) (g1 : TG) (tt1 : TT) (te : TE) (vs1 : List Nat) (σ2 : L2.St) (D : Addr) (H4 : Hp) (Nx : Hp → Prop) : Prop := ∃ W1 : Nat → Nat → Hp → Prop, (∃ m, W1 0 m H4) ∧ ∀ j k H, W1 j k H →
  (J1.stop j H ∧ Nx H) ∨ (J1.go j H ∧ ∃ Nx1 : Hp → Prop, (∀ H', Nx1 H' → ∃ k', k' < k ∧ W1 (j + 1) k' H') ∧ ∀ x H', J1.yld j H x H' → g1 x (wipe σ2 vs1) H' fun σ3 H5 => wipe σ3 vs1 = wipe σ2 vs1 ∧ tt1 σ3 H5 fun b H6 => if b = true then te σ3 H6 fun y H7 => ∃ acc, H7 D = some (.lst acc) ∧ acc.length < sizeLine ∧ Nx1 (upd H7 D (.lst (acc ++ [y]))) else Nx1 H6)
theorem lc_in {J1 : It} {n : Nat} {G : Hp → Prop} {Y : Nat → Hp → V → Hp → Prop} (w : Walk J1 n G Y) {g1 : TG} {tt1 : TT} {te : TE} {vs1 : List Nat} {σ2 : L2.St} {D : Addr} {H4 : Hp} {Nx : Hp → Prop} (Pv : Nat → Hp → Prop) (h0 : Pv 0 H4) (hG : ∀ i H, i ≤ n → Pv i H → G H)
    (hs : ∀ i x H H', i < n → Pv i H → Y i H x H' → g1 x (wipe σ2 vs1) H' fun σ3 H5 => wipe σ3 vs1 = wipe σ2 vs1 ∧ tt1 σ3 H5 fun b H6 => if b = true then te σ3 H6 fun y H7 => ∃ acc, H7 D = some (.lst acc) ∧ acc.length < sizeLine ∧ Pv (i + 1) (upd H7 D (.lst (acc ++ [y]))) else Pv (i + 1) H6)
    (hd : ∀ H, Pv n H → Nx H) : LcIn J1 g1 tt1 te vs1 σ2 D H4 Nx := by
  refine ⟨fun i m H => m = n - i ∧ i ≤ n ∧ Pv i H, ⟨n, rfl, Nat.zero_le _, h0⟩, ?_⟩
  rintro i m H ⟨rfl, hi, pv⟩
  have hq := hG i H hi pv
  by_cases hlt : i < n
  · exact .inr ⟨w.goes i H hlt hq, Pv (i + 1), fun H' p' => ⟨n - (i + 1), by omega, rfl, hlt, p'⟩, fun x H' y => hs i x H H' hlt pv (w.yields i H x H' hlt hq y)⟩
  · obtain rfl : i = n := by omega
    exact .inl ⟨w.stops H hq, hd H pv⟩
theorem lc_two {J : It} {n : Nat} {G : Hp → Prop} {Y : Nat → Hp → V → Hp → Prop} (w : Walk J n G Y) {g : TG} {tt : TT} {wi1 : TI} {g1 : TG} {tt1 : TT} {te : TE} {vs vs1 : List Nat} {σ : L2.St} {H1 : Hp} {D : Addr} {Qd : Hp → Prop} (Pv : Nat → Hp → Prop) (h0 : Pv 0 (upd H1 D (.lst []))) (hG : ∀ i H, i ≤ n → Pv i H → G H)
    (hs : ∀ i x H H', i < n → Pv i H → Y i H x H' → g x (wipe σ vs) H' fun σ2 H2 => wipe σ2 vs = wipe σ vs ∧ tt σ2 H2 fun b H3 => if b = true then wi1 σ2 H3 fun J1 H4 => LcIn J1 g1 tt1 te vs1 σ2 D H4 (Pv (i + 1)) else Pv (i + 1) H3)
    (hd : ∀ H, Pv n H → Qd H) :
    ∃ W : Nat → Nat → Hp → Prop, (∃ m, W 0 m (upd H1 D (.lst []))) ∧ ∀ i m H, W i m H → (J.stop i H ∧ Qd H) ∨ (J.go i H ∧ ∃ Nx : Hp → Prop, (∀ H', Nx H' → ∃ m', m' < m ∧ W (i + 1) m' H') ∧ ∀ x H', J.yld i H x H' → g x (wipe σ vs) H' fun σ2 H2 => wipe σ2 vs = wipe σ vs ∧ tt σ2 H2 fun b H3 =>
      if b = true then wi1 σ2 H3 fun J1 H4 => LcIn J1 g1 tt1 te vs1 σ2 D H4 Nx else Nx H3) := by
  refine ⟨fun i m H => m = n - i ∧ i ≤ n ∧ Pv i H, ⟨n, rfl, Nat.zero_le _, h0⟩, ?_⟩
  rintro i m H ⟨rfl, hi, pv⟩
  have hq := hG i H hi pv
  by_cases hlt : i < n
  · exact .inr ⟨w.goes i H hlt hq, Pv (i + 1), fun H' p' => ⟨n - (i + 1), by omega, rfl, hlt, p'⟩, fun x H' y => hs i x H H' hlt pv (w.yields i H x H' hlt hq y)⟩
  · obtain rfl : i = n := by omega
    exact .inl ⟨w.stops H hq, hd H pv⟩
/-! ### tuples of numbers compared; truths by identity -/
theorem ltT (K : PySem.W.Frag) {X : Cx} (hu : X.A.units < cLine) (h : X.K = K := by rfl) : OpR X (compareOp .Lt) (rLtT K) := h ▸ op_ltT hu
theorem lex2 (a b c d : Int) : HT.lexLt [a, b] [c, d] = decide (a < c ∨ (a = c ∧ b < d)) := by
  rw [HT.lexLt_cons, HT.lexLt_cons, HT.lexLt_nil_nil]
  by_cases e : a = c
  · rw [if_pos e]
    by_cases e2 : b = d
    · rw [if_pos e2]
      exact (decide_eq_false (by omega)).symm
    · rw [if_neg e2]
      exact decide_eq_decide.mpr (by omega)
  · rw [if_neg e]
    exact decide_eq_decide.mpr (by omega)
/-! ### parts of tuples -/
theorem piT (K : PySem.W.Frag) {X : Cx} {tg l : Expr} {tl : TE} (hl : PE X l tl) (h : X.K = K := by rfl) : PI X tg l (iTup K tl) := by
  subst h
  exact pi_tup hl
theorem piL (K : PySem.W.Frag) {X : Cx} {tg l : Expr} {tl : TE} (hl : PE X l tl) (h : X.K = K := by rfl) : PI X tg l (iList K tl) := by
  subst h
  exact pi_list hl
/-- a part of a tuple: the same one, or another -/
def rSlE (K : PySem.W.Frag) : V → Option Int → Option Int → Hp → VK → Prop := fun x lo hi H Q => ∃ a xs, x = .ref a ∧ H a = some (.tup xs) ∧ ∀ p H', Ext H H' → H' p = some (.tup (cutV xs lo hi)) → Q (.ref p) H'
theorem slE (K : PySem.W.Frag) {X : Cx} (h : X.K = K := by rfl) : SlR X (rSlE K) := fun pins s σ H x v vl vu lo hi sl Q I rx hs pl pu ⟨a, xs, ex, ha, q⟩ => by
  refine slA K h pins s σ H x v vl vu lo hi sl Q I rx hs pl pu ⟨a, xs, ex, SqT.of ha, fun z => ?_, fun _ p hp => q p _ (Ext.new hp) upd_same⟩
  refine q a H Ext.refl ?_
  have e : cutV xs lo hi = xs := by
    unfold cutV
    rw [z.1, z.2, List.drop_zero, Nat.sub_zero, List.take_length]
  rw [e]
  exact ha
theorem cut_from {xs : List V} {k : Nat} : cutV xs (some (k : Int)) none = xs.drop k := by
  unfold cutV
  have e1 : HT.sIx xs.length 0 (some (k : Int)) = min k xs.length := HT.sIx_nat _ _ _
  have e2 : HT.sIx xs.length xs.length none = xs.length := rfl
  rw [e1, e2, List.take_of_length_le (by rw [List.length_drop]; omega)]
  by_cases h : k ≤ xs.length
  · rw [Nat.min_eq_left h]
  · rw [Nat.min_eq_right (by omega), List.drop_length, List.drop_eq_nil_of_le (by omega)]
theorem cut_to {xs : List V} {k : Nat} : cutV xs none (some (k : Int)) = xs.take k := by
  unfold cutV
  have e1 : HT.sIx xs.length 0 none = 0 := rfl
  have e2 : HT.sIx xs.length xs.length (some (k : Int)) = min k xs.length := HT.sIx_nat _ _ _
  rw [e1, e2, List.drop_zero, Nat.sub_zero]
  by_cases h : k ≤ xs.length
  · rw [Nat.min_eq_left h]
  · rw [Nat.min_eq_right (by omega), List.take_length, List.take_of_length_le (by omega)]
theorem paired_take {α β : Type} {R : α → β → Prop} : ∀ {xs : List α} {ys : List β} (k : Nat), Paired R xs ys → Paired R (xs.take k) (ys.take k)
  | _, _, 0, _ => by rw [List.take_zero, List.take_zero]; exact .nil
  | _, _, k + 1, .nil => by rw [List.take_nil, List.take_nil]; exact .nil
  | _, _, k + 1, .cons r t => by rw [List.take_succ_cons, List.take_succ_cons]; exact .cons r (paired_take k t)
theorem paired_drop {α β : Type} {R : α → β → Prop} : ∀ {xs : List α} {ys : List β} (k : Nat), Paired R xs ys → Paired R (xs.drop k) (ys.drop k)
  | _, _, 0, h => by rw [List.drop_zero, List.drop_zero]; exact h
  | _, _, k + 1, .nil => by rw [List.drop_nil, List.drop_nil]; exact .nil
  | _, _, k + 1, .cons r t => by rw [List.drop_succ_cons, List.drop_succ_cons]; exact paired_drop k t
/-- two tuples put together: one of them, or another -/
def rCatE (K : PySem.W.Frag) : R2 := fun x y H Q => ∃ a b xs ys, x = .ref a ∧ y = .ref b ∧ H a = some (.tup xs) ∧ H b = some (.tup ys) ∧ xs.length + ys.length ≤ sizeLine ∧ ∀ p H', Ext H H' → H' p = some (.tup (xs ++ ys)) → Q (.ref p) H'
theorem catE (K : PySem.W.Frag) {X : Cx} (h : X.K = K := by rfl) : OpR X (binaryOp .Add) (rCatE K) := fun pins s σ H x y v u Q I rx ry ⟨a, b, xs, ys, ex, ey, ha, hb, hz, q⟩ => by
  refine catA K h pins s σ H x y v u Q I rx ry ⟨a, b, xs, ys, ex, ey, SqT.of ha, SqT.of hb, hz, fun z => ?_, fun _ z => ?_, fun _ _ p hp => q p _ (Ext.new hp) upd_same⟩
  · exact q b H Ext.refl (by rw [z]; exact hb)
  · exact q a H Ext.refl (by rw [z, List.append_nil]; exact ha)
end Pf


namespace Pf
open PySem PySem.Spec PyProof.Rows L2
/-! ### sorting tuples, the first of them empty -/
section
open PySem.W PySem.SeqAt PySem.Calls
variable {prog : Program} {w : World} {A : Around} {E : Value → Shared → Prop} {s : Shared}
theorem tup_lt1 {Q : Bool → Shared → Prop} {a b : Value} {xs ys : List PyData} {as bs : List Addr} (ra : Reads s.heap a (.tuple xs) as) (rb : Reads s.heap b (.tuple ys) bs) (hal : alikeAll xs ys = true)
    (hu : A.units + min (PyData.tuple xs).depth (PyData.tuple ys).depth < cLine) (hq : Q (dataLt (.tuple xs) (.tuple ys)) s) : wpAny (model prog w) A (oneLt' true a b) Q E s := by
  cases ra with
  | @tuple l o vs n _ as₁ h1 h2 h3 h4 =>
    cases rb with
    | @tuple m p ws k _ bs₁ g1 g2 g3 g4 =>
      have z1 : vs.size = xs.length := by simpa using ReadsAll.length _ _ _ h4
      have z2 : ws.size = ys.length := by simpa using ReadsAll.length _ _ _ g4
      rw [dataLt_tuple, ← firstLt_toks xs ys hal, ← z1, ← z2] at hq
      obtain ⟨ocls, odd, odata, osl⟩ := o
      obtain ⟨pcls, pdd, pdata, psl⟩ := p
      simp only at h2 h3 g2 g3
      subst h2 h3 g2 g3
      rw [oneLt'_eq]
      simp only [if_true]
      refine wpAny_bind (wpAny_cRoomFor (room_here hu) (wpAny_bind (wpAny_callSpecialIfBound?_slot (T := "tuple") ⟨_, h1, rfl⟩ F.slot_tuple_lt ?_)))
      refine call_meets F.slot_tuple_lt ⟨_, h1, rfl⟩ F.entry_tuple_lt (F.args_tuple_lt_2 _ _) (tuple_ltAt l m vs ws n k odd pdd osl psl (pairEq xs ys) (fun j => dataLt (xs.getD j .none) (ys.getD j .none))) ⟨h1, g1, fun j j1 j2 => ?_, fun j j1 j2 hj => ?_, wpAny_truthy_bool hq⟩
      · have y := eqAt_alikeAll xs ys A.in1 s vs.toList ws.toList _ _ h4 g4 hal (room_in hu) j (by simpa using j1) (by simpa using j2)
        simpa using y
      · have y := rcLt_alikeAll xs ys A.in1 s vs.toList ws.toList _ _ h4 g4 hal (room_in hu) j (by simpa using j1) (by simpa using j2) hj
        simpa using y
theorem ft_at {M : Model} {v : Value} {ds : List PyData} {as : List Addr} (r : Reads s.heap v (.tuple ds) as) : ∃ f : Option Value, (ds = [] → f = none) ∧ ∀ Q : Option Value → Shared → Prop, Q f s → wpAny M A (firstOfTuple' v) Q E s := by
  cases r with
  | @tuple a o xs n _ _ ho hc hd hr =>
    refine ⟨xs[0]?, fun e => ?_, fun Q q => ?_⟩
    · subst e
      cases q : xs.toList with
      | nil =>
        rw [← Array.getElem?_toList, q]
        rfl
      | cons f fr =>
        rw [q] at hr
        cases hr
    · rw [kas_first_eq]
      refine wpAny_bind (Looks.here (show Looks M s.heap (typeOf (.ref a)) o.cls from (Looks.ld ho).andThen .now) ?_)
      rw [hc, if_neg (by simp)]
      exact wpAny_bind (listItems_at ho hd (wpAny_pure q))
theorem fts_at {M : Model} : ∀ {vs : List Value} {ds : List PyData}, EachIs (fun v d => ∃ as, Reads s.heap v d as) vs ds → (∀ d ∈ ds, ∃ xs, d = .tuple xs) → ∃ fs : List (Option Value), (∀ r, ds = .tuple [] :: r → ∃ t, fs = none :: t) ∧ ∀ Q : List (Option Value) → Shared → Prop, Q fs s → wpAny M A (vs.mapM firstOfTuple') Q E s
  | _, _, .nil, _ => ⟨[], (fun r z => by cases z), fun Q q => by rw [List.mapM_nil]; exact wpAny_pure q⟩
  | _, _, .cons (b := d) ⟨as, r⟩ t, ht => by
    obtain ⟨fs, _, h2⟩ := fts_at (M := M) t fun d hd => ht d (List.mem_cons_of_mem _ hd)
    obtain ⟨xs, rfl⟩ := ht d (List.mem_cons_self ..)
    obtain ⟨f, e1, e2⟩ := ft_at (M := M) (A := A) (E := E) r
    refine ⟨f :: fs, fun r z => ⟨fs, ?_⟩, fun Q q => ?_⟩
    · injection z with z _
      injection z with z
      rw [e1 z]
    · rw [List.mapM_cons]
      exact wpAny_bind (e2 _ (wpAny_bind (h2 _ (wpAny_pure q))))
theorem kind_empt {M : Model} {vs : List Value} {ds : List PyData} {Q : SortKind → Shared → Prop} (e : EachIs (fun v d => ∃ as, Reads s.heap v d as) vs (.tuple [] :: ds)) (ht : ∀ d ∈ PyData.tuple [] :: ds, ∃ xs, d = .tuple xs) (q : Q oneType' s) : wpAny M A (keyKind' vs.toArray) Q E s := by
  obtain ⟨fs, h1, h2⟩ := fts_at (M := M) (A := A) (E := E) e ht
  obtain ⟨t, rfl⟩ := h1 ds rfl
  obtain ⟨v0, vr, rfl⟩ : ∃ v0 vr, vs = v0 :: vr := by
    cases e with
    | cons z zs => exact ⟨_, _, rfl⟩
  rw [keyKind'_eq, List.mapM_toArray, map_eq_pure_bind]
  refine wpAny_bind (wpAny_bind (h2 _ (wpAny_pure ?_)))
  rw [if_neg (by simp), if_neg (by simp), oneTypeOnly'_eq, List.mapM_toArray, map_eq_pure_bind]
  refine wpAny_bind (wpAny_bind (wpAny_bind (kas_mapM (r := Value.type "tuple") _ (fun v hv Q' hq => ?_) (wpAny_pure ?_))))
  · obtain ⟨d, hd, as, r⟩ := e.left v hv
    obtain ⟨xs, rfl⟩ := ht d hd
    exact (looks_reads r).here hq
  · have h0 : (List.map (fun _ => Value.type "tuple") (v0 :: vr)).toArray[0]? = some (Value.type "tuple") := by simp
    rw [h0]
    have ha : ((List.map (fun _ : Value => Value.type "tuple") (v0 :: vr)).toArray.all fun x => x == Value.type "tuple") = true := by
      simp only [List.all_toArray, List.all_map, List.all_eq_true]
      intro _ _
      rfl
    simp only [ha, if_true]
    exact wpAny_pure (wpAny_pure q)
theorem sorts_empt {vs : List Value} {ds : List PyData} (e : EachIs (fun v d => ∃ as, Reads s.heap v d as) vs (.tuple [] :: ds)) (hal : AllAlike (.tuple [] :: ds)) (ht : ∀ d ∈ PyData.tuple [] :: ds, ∃ xs, d = .tuple xs) (hu : ∀ d ∈ PyData.tuple [] :: ds, A.units + d.depth < cLine) : SortsAt prog w A s (dataKind s.heap (.tuple [] :: ds)) vs := by
  refine ⟨fun v hv => ?_, oneType', ?_, fun h2 E Q hq => kind_empt e ht hq⟩
  · obtain ⟨d, hd, as, r⟩ := e.left v hv
    exact ⟨_, dataKind_some hal hd r⟩
  · intro E x y a b Q ha hb hq
    obtain ⟨d, as, hd, ra, rfl⟩ := dataKind_inv ha
    obtain ⟨d', as', hd', rb, rfl⟩ := dataKind_inv hb
    have hdd := hal d hd d' hd'
    have hroom : A.units + min d.depth d'.depth < cLine := Nat.lt_of_le_of_lt (Nat.add_le_add_left (Nat.min_le_left _ _) _) (hu d hd)
    obtain ⟨xs, rfl⟩ := ht d hd
    obtain ⟨ys, rfl⟩ := ht d' hd'
    rw [keyLt'_oneType]
    exact tup_lt1 ra rb (by simpa [alike] using hdd) hroom hq
theorem sorted_empt {β : Type} {vs : List Value} {bs : List β} {enc : β → PyData} {R : Value → β → Prop} {l : Addr} {r : List PyData} {Q : Value → Shared → Prop} (hl : s.heap.IsList l vs.toArray) (e : EachIs R vs bs) (er : EachIs (fun v b => ∃ as, Reads s.heap v (enc b) as) vs bs) (hal : AllAlike (bs.map enc)) (h0 : bs.map enc = .tuple [] :: r) (ht : ∀ d ∈ bs.map enc, ∃ xs, d = .tuple xs) (hL : bs.length ≤ sizeLine)
    (hu : ∀ b, b ∈ bs → A.units + 2 + (enc b).depth < cLine) (h : ∀ out, out.length = bs.length → EachIs R out (bs.mergeSort (dataLe false enc)) → Q (.ref (s.heap.objs.size + 1)) { s with heap := sortedAll s.heap vs (List.toArray out) }) :
    wpAny (model prog w) A (call (.builtin "sorted") [.ref l]) Q E s := by
  have er2 : EachIs (fun v b => ∃ as, Reads (sortingHeap (copyHeap s.heap vs) (s.heap.objs.size + 1) vs) v (enc b) as) vs bs := er.mono fun _ _ ⟨as, z⟩ => ⟨as, PyProof.Rows.Reads.keeps (fun _ _ => sorting_copy_old) z⟩
  have em := each_map (R := fun v d => ∃ as, Reads (sortingHeap (copyHeap s.heap vs) (s.heap.objs.size + 1) vs) v d as) enc er2
  have bm := bound_map (A := A.in1.in1) (bs := bs) (enc := enc) hu
  have S : SortsAt prog w A.in1.in1 { s with heap := sortingHeap (copyHeap s.heap vs) (s.heap.objs.size + 1) vs } (dataKind (sortingHeap (copyHeap s.heap vs) (s.heap.objs.size + 1) vs) (bs.map enc)) vs := by
    rw [h0] at em bm ht hal ⊢
    exact sorts_empt (s := { s with heap := sortingHeap (copyHeap s.heap vs) (s.heap.objs.size + 1) vs }) em hal ht bm
  exact sorted_vals hl S (by rw [e.length]; exact hL) (h _ (by rw [sortVals_length false rfl]; exact e.length) (sortVals_data false e er2 hal))
end
/-- sorted of tuples, the first of them empty -/
def rSortE (K : PySem.W.Frag) : List V → Hp → VK → Prop := fun vs H Q => ∃ (β : Type) (v : β → V) (d : β → PyData) (a : Addr) (bs : List β) (r : List PyData), vs = [.ref a] ∧ SqL K H a (bs.map v) ∧ (∀ b ∈ bs, Dp K H (v b) (d b) ∧ (d b).depth ≤ 50) ∧
  PySem.W.AllAlike (bs.map d) ∧ bs.map d = .tuple [] :: r ∧ (∀ e ∈ bs.map d, ∃ xs, e = .tuple xs) ∧ ∀ p, H p = none → Q (.ref p) (upd H p (.lst ((bs.mergeSort (PySem.W.dataLe false d)).map v)))
theorem cr_sortE (K : PySem.W.Frag) {X : Cx} (hu : X.A.units + 64 < cLine) (hK : X.K = K := by rfl) : CallR X (.builtin "sorted") (rSortE K) := by
  subst hK
  intro pins s σ H vs us Q I r h
  obtain ⟨β, v, d, a, bs, rd, rfl, hs, hd, al, h0, ht, q⟩ := h
  obtain ⟨u, rfl, rfl⟩ := vals1 r
  obtain ⟨its, rv, hl, hz⟩ := I.list hs
  rw [List.length_map] at hz
  refine sorted_empt (enc := d) (R := fun (u : Value) (b : β) => RelV (v b) u) hl.isList (each_vals rv) (each_reads I rv fun b hb => (hd b hb).1) al h0 ht hz (fun b hb => ?_) fun out hlen he => ?_
  · have := (hd b hb).2
    omega
  · obtain ⟨ep, he'⟩ := PyProof.Rows.sortedAll_at s.heap its out.toArray
    have hlen2 : ((bs.mergeSort (PySem.W.dataLe false d)).map v).length ≤ sizeLine := by
      rw [List.length_map, List.length_mergeSort]
      exact hz
    exact ⟨.ref _, upd H (s.heap.objs.size + 1) (.lst ((bs.mergeSort (PySem.W.dataLe false d)).map v)), I.laid (t' := s.toks) (fun _ _ => PyProof.Rows.sortedAll_old) (Nat.le_succ _) ⟨hlen2, out, ep, vals_each he, by simpa using he'⟩, rfl, q _ (I.hok.fresh (Nat.le_succ _))⟩
end Pf


namespace Pf
open PySem PySem.Spec PyProof.Rows L2
/-! ### a dict by tuples, made in a comprehension -/
theorem dset_t {X : Cx} {pins : List (Addr × Obj)} {σ : L2.St} {H : Hp} {s : Shared} {E : Value → Shared → Prop} {D b : Addr} {kvs : List (List Key × V)} {ks : List Key} {z : V} {u : Value} {Q : Unit → Shared → Prop} (hu : X.A.units < cLine) (I : Inv X pins σ H s) (hD : H D = some (.dT kvs)) (hb : H b = some (.tup (ks.map kV))) (hz : kvs.length < sizeLine)
    (rz : RelV z u) (go : ∀ s', Inv X pins σ (upd H D (.dT (putK kvs ks z))) s' → Q () s') : wpAny (model X.prog X.w) X.A (dictSet D (.ref b) u) Q E s := by
  obtain ⟨len, nsys, xs, rel, dd⟩ := dt_of I.hok hD
  have lx : xs.length ≤ sizeLine := Paired.length rel ▸ len
  have lp := length_putK kvs ks z
  refine wpAny_dictSet_heap (hsz := lx) (show (tupleKind (mixKind X.prog X.w)).room X.A from hu) (key_of I.hok hb) dd fun h' dd' same => go _ ?_
  obtain ⟨ob, es, ep, e1, e2, e3, e4, _, e5⟩ := dd'
  have stays : ∀ c ys, H c = some (.tup ys) → (upd H D (.dT (putK kvs ks z))) c = some (.tup ys) := fun c ys ec => by
    rw [upd_ne (ne_of ec hD (by intro y; cases y))]
    exact ec
  exact d_write I (by rw [hD]; exact True.intro) same ⟨ob, e1⟩ ⟨by omega, nsys, _, (rel.put ks hb rz).keeps stays, ob, es, ep, e1, e2, e3, e4, e5⟩
/-- what is asked of a turn's key and value -/
def PutT (D : Addr) (y z : V) (H : Hp) (N : Hp → Prop) : Prop := ∃ kvs ks b, y = .ref b ∧ H b = some (.tup (ks.map kV)) ∧ H D = some (.dT kvs) ∧ kvs.length < sizeLine ∧ N (upd H D (.dT (putK kvs ks z)))
def tDcT (wi : TI) (g : TG) (tk tv : TE) (vs : List Nat) : TE := fun σ H Q => wi σ H fun J H1 => ∀ D, H1 D = none → ∃ W : Nat → Nat → Hp → Prop, (∃ m, W 0 m (upd H1 D (.dT []))) ∧ ∀ i m H, W i m H →
  (J.stop i H ∧ Q (.ref D) H) ∨ (J.go i H ∧ ∃ Nx : Hp → Prop, (∀ H', Nx H' → ∃ m', m' < m ∧ W (i + 1) m' H') ∧ ∀ x H', J.yld i H x H' → g x (wipe σ vs) H' fun σ2 H2 => wipe σ2 vs = wipe σ vs ∧ tk σ2 H2 fun y H3 => tv σ2 H3 fun z H4 => PutT D y z H4 Nx)
/-- the block's context is free of what the walk itself holds -/
theorem blk_free {X : Cx} {s : Shared} {H : Hp} {scope : Scope} {ce : Env} {fp : List Addr} {σ' : L2.St} {H' : Hp} {s' : Shared} (J : Inv (X.blk s H scope ce fp) [] σ' H' s') (nn : ∀ b ∈ fp, H' b = none) : ∀ b ∈ fp, FpOk (X.blk s H scope ce fp) [] H' b := fun b hb =>
  ⟨nn b hb, (J.ok.exf b hb).1, J.ok.exfs b hb, .inl hb, fun x c e => (J.ok.exf b hb).2 x c e, fun p hp => by
    have hp : p ∈ ([] : List (Addr × Obj)) ++ [] := hp
    cases hp⟩
/-- a turn is over: the block again as it began, but for the heap -/
theorem blk_turn {X Y : Cx} {fp : List Addr} {it : Addr} {tg : Expr} {J : It} {tn : Nat → Heap → Prop} {P : Program} {w : World} {K : PySem.W.Frag} (T : Turn P w K tg J fp it tn) {i : Nat} {h7 : Heap} (st : tn (i + 1) h7) {σ0 σ8 : L2.St} {vs : List Nat} {H' : Hp} {s' : Shared} (hw : wipe σ8 vs = wipe σ0 vs)
    (JJ : Inv Y ([] ++ pinsAt fp h7) σ8 H' s') : Inv Y [] (wipe σ0 vs) H' s' ∧ tn (i + 1) s'.heap ∧ ∀ b ∈ fp, H' b = none := by
  have held : ∀ b ∈ fp, ∀ o, h7.get? b = some o → s'.heap.get? b = some o ∧ H' b = none := fun b hb o e => by
    have z := JJ.pin (b, o) (List.mem_append_right _ (List.mem_append_right _ (mem_pinsAt hb e)))
    exact ⟨z.1, z.2.1⟩
  refine ⟨(JJ.unpinned (pins := [])).weak (by rw [← hw, wipe_length]) (fun j v e => ?_), T.keep _ _ _ st fun b hb o e => (held b hb o e).1, fun b hb => ?_⟩
  · rw [← hw] at e
    exact (wipe_some e).1
  · obtain ⟨o, e, _⟩ := T.obj _ _ st b hb
    exact (held b hb o e).2
theorem dcT_core {X : Cx} {pins : List (Addr × Obj)} {s : Shared} {σ : L2.St} {H : Hp} {Q : VK} {kx vx tg iter : Expr} {scope : Scope} {own : List (Str × Nat)} {pos pos' : Pos} {wi : TI} {g : TG} {tk tv : TE} {use : Option (Value → Sem Unit)} {Qf : Value → Shared → Prop} (hu : X.A.units < cLine) (calm : X.calm = true) (nd : X.N.Nodup) (I : Inv X pins σ H s) (hi : PI X tg iter wi) (ok : BlkOk X.N X.env.scope scope own)
    (hg : ∀ (s : Shared) (H : Hp) (C : Addr) (cl : List (Str × Addr)) (fp : List Addr), PG (X.blk s H scope (compEnvC scope cl C X.env) fp) tg g)
    (hk : ∀ (s : Shared) (H : Hp) (C : Addr) (cl : List (Str × Addr)) (fp : List Addr), PE (X.blk s H scope (compEnvC scope cl C X.env) fp) kx tk)
    (hv : ∀ (s : Shared) (H : Hp) (C : Addr) (cl : List (Str × Addr)) (fp : List Addr), PE (X.blk s H scope (compEnvC scope cl C X.env) fp) vx tv) (hfs : ∀ x, foldedSetIterable iter X.env x = pure x) (h : tDcT wi g tk tv (own.map (·.2)) σ H Q)
    (fin : ∀ D C s' m H', Inv X pins σ H' s' → Q (.ref D) H' → s'.heap.Ns C m → FpOk X pins H' C → compPost (model X.prog X.w) X.A X.xe use Qf (.ref D) C (.ok .next) s') :
    wpAny (model X.prog X.w) X.A (comprehension (.DictComp kx vx [⟨tg, iter, [], 0⟩] scope pos) scope X.env pos' newDict false (eval iter X.env) use) Qf X.xe s := by
  have cells : ∀ y ∈ scope.names, y.2 = .free → ∃ c, X.env.cells.lookup y.1 = some c := fun y hy e => (ok.free y hy e).elim (fun k => I.ok.has _ (.inl k)) fun k => I.ok.has _ (.inr k)
  refine wpAny_comprehension_free (use := use) rfl hfs (closure_ok cells) ok.kind (fun y hy e => by rw [ok.uniq y hy, e]) (thn (hi.run pins s σ H _ I h) fun xv sa ha => thn ha fun itv sb hb => ?_)
  obtain ⟨it, fp, tn, J, Hb, rfl, Ib, T, stb, fb, rest⟩ := hb
  refine wpAny_newObj_type (newEnv_comp ?_)
  obtain ⟨W, ⟨m0, w0⟩, turn⟩ := rest sb.heap.objs.size (Ib.hok.fresh (Nat.le_refl _))
  have Ic : Inv X pins σ (upd Hb sb.heap.objs.size (.dT [])) { sb with heap := sb.heap.push { cls := .type "dict", data := .dict #[] } } := Ib.laid (t' := sb.toks) (fun b o e => Heap.get?_push_of_some _ e) (Nat.le_refl _) (dt_empty sb.heap Ib.big)
  have stc : tn 0 (sb.heap.push { cls := .type "dict", data := .dict #[] }) := T.keep _ _ _ stb fun b _ o e => Heap.get?_push_of_some _ e
  have below : ∀ b ∈ fp, b < sb.heap.objs.size := fun b hb => by
    obtain ⟨o, e, _⟩ := T.obj _ _ stb b hb
    exact Heap.lt_size e
  have fc : ∀ b ∈ fp, FpOk X pins (upd Hb sb.heap.objs.size (.dT [])) b ∧ b < (sb.heap.push { cls := .type "dict", data := .dict #[] }).objs.size := fun b hb => by
    refine ⟨⟨?_, (fb b hb).2⟩, ?_⟩
    · rw [upd_ne (Nat.ne_of_lt (below b hb))]
      exact (fb b hb).1
    · rw [Heap.size_push]
      exact Nat.lt_succ_of_lt (below b hb)
  generalize sb.heap.objs.size = D at turn w0 Ic fc ⊢
  generalize hsc : ({ sb with heap := sb.heap.push { cls := .type "dict", data := .dict #[] } } : Shared) = sc at Ic ⊢
  have stc : tn 0 sc.heap := by rw [← hsc]; exact stc
  generalize upd Hb D (.dT []) = Hc at w0 Ic fc
  have fc : ∀ b ∈ fp, FpOk X pins Hc b ∧ b < sc.heap.objs.size := by rw [← hsc]; exact fc
  have Id := block_start Ic ok nd fc
  have pg := hg sc Hc sc.heap.objs.size (cellsFrom (sc.heap.objs.size + 1) scope.names (cloFrom X.env.cells scope.names [])) fp
  have pk := hk sc Hc sc.heap.objs.size (cellsFrom (sc.heap.objs.size + 1) scope.names (cloFrom X.env.cells scope.names [])) fp
  have pv := hv sc Hc sc.heap.objs.size (cellsFrom (sc.heap.objs.size + 1) scope.names (cloFrom X.env.cells scope.names [])) fp
  show codeAny _ _ (.compStart _ 0 (.ref it) (.ref D) (compEnvC scope (cellsFrom (sc.heap.objs.size + 1) scope.names (cloFrom X.env.cells scope.names [])) sc.heap.objs.size X.env)) (compPost _ _ _ _ _ (.ref D) sc.heap.objs.size) { sc with heap := pushCells (sc.heap.push { cls := .type "dict", data := .dict #[] }) scope.names }
  have std : tn 0 (pushCells (sc.heap.push { cls := .type "dict", data := .dict #[] }) scope.names) := T.keep _ _ _ stc fun b _ o e => pushCells_keeps _ _ _ _ (Heap.get?_push_of_some _ e)
  generalize ec : compEnvC scope (cellsFrom (sc.heap.objs.size + 1) scope.names (cloFrom X.env.cells scope.names [])) sc.heap.objs.size X.env = ce at Id pg pk pv ⊢
  have cl : ce.locals = sc.heap.objs.size := by rw [← ec]; rfl
  generalize ed : ({ sc with heap := pushCells (sc.heap.push { cls := .type "dict", data := .dict #[] }) scope.names } : Shared) = sd at Id ⊢
  have std : tn 0 sd.heap := by rw [← ed]; exact std
  have loop : codeAny (model X.prog X.w) X.A (.compLoop (.DictComp kx vx [⟨tg, iter, [], 0⟩] scope pos) 0 (.ref it) (.ref D) ce) (compPost (model X.prog X.w) X.A X.xe use Qf (.ref D) sc.heap.objs.size) sd := by
    refine compLoop_anyD (fun n s' => ∃ i H', Inv (X.blk sc Hc scope ce fp) [] (wipe σ (own.map (·.2))) H' s' ∧ tn i s'.heap ∧ (∀ b ∈ fp, H' b = none) ∧ W i n H') ?_ m0 ⟨0, Hc, Id, std, fun b hb => (fc b hb).1.1, w0⟩
    rintro n s5 ⟨i, H5, I5, st5, n5, w5⟩
    rcases turn i n H5 w5 with ⟨ends, qq⟩ | ⟨goes, Nx, hNx, step⟩
    · refine thnF (T.done (X.blk sc Hc scope ce fp) rfl rfl rfl calm i [] s5 _ H5 (fun _ _ => False) I5 (blk_free I5 n5) st5 ends) fun r s6 ⟨er, I6⟩ => ?_
      subst er
      have I7 : Inv X pins σ H5 s6 := Ic.call' (ch := fp) I6.os I6.base I6.hok I6.bare fun b hb => ⟨(fc b hb).1.2.2.2.1, (fc b hb).1.2.1, (fc b hb).1.2.2.2.2.1, (fc b hb).1.2.2.2.2.2⟩
      have nl : H5 sc.heap.objs.size = none := by
        rw [← cl]
        exact I6.free
      obtain ⟨m, hn, _⟩ := I6.loc
      have hn : s6.heap.Ns ce.locals m := hn
      rw [cl] at hn
      exact fin D sc.heap.objs.size s6 m H5 I7 qq hn (Ic.fpOk (Nat.le_refl _) nl)
    · refine thnF (T.item (X.blk sc Hc scope ce fp) rfl rfl rfl calm i [] s5 _ H5 (fun _ _ => False) I5 (blk_free I5 n5) st5 goes) fun r s6 ⟨u, er, h6⟩ => ?_
      subst er
      refine thnF h6 fun _ s7 ⟨x, H7, I7, r7, y7, st7, n7⟩ => ?_
      refine thnF (pg.run _ s7 _ H7 x u _ (I7.pinned (blk_free I7 n7) (T.obj _ _ st7)) r7 (step x H7 y7)) fun _ s8 ⟨σ8, H8, I8, hw8, q8⟩ => ?_
      rw [List.forIn_nil]
      refine wpAny_pure ?_
      rw [if_pos rfl]
      refine thnF (pk.run _ s8 σ8 H8 _ I8 q8) fun v9 s9 ⟨y9, H9, I9, r9, q9⟩ => ?_
      refine thnF (pv.run _ s9 σ8 H9 _ I9 q9) fun v10 s10 ⟨z10, H10, I10, r10, kvs, ks, b, ey, eb, eD, lz, nx⟩ => ?_
      subst ey
      cases (show v9 = Value.ref b from r9)
      refine dset_t (X := X.blk sc Hc scope ce fp) hu I10 eD eb lz r10 fun s11 I11 => ?_
      obtain ⟨m', hm, w'⟩ := hNx _ nx
      obtain ⟨a1, a2, a3⟩ := blk_turn (X := X) T st7 hw8 I11
      exact ⟨m', hm, i + 1, _, a1, a2, a3, w'⟩
  exact codeAny_compStart_dict loop (T.self X.A 0 _ _ _ std loop)
theorem pe_dcT {X : Cx} {kx vx tg iter : Expr} {scope : Scope} {own : List (Str × Nat)} {pos : Pos} {wi : TI} {g : TG} {tk tv : TE} (hu : X.A.units < cLine) (calm : X.calm = true) (nd : X.N.Nodup) (hi : PI X tg iter wi) (ok : BlkOk X.N X.env.scope scope own)
    (hg : ∀ (s : Shared) (H : Hp) (C : Addr) (cl : List (Str × Addr)) (fp : List Addr), PG (X.blk s H scope (compEnvC scope cl C X.env) fp) tg g)
    (hk : ∀ (s : Shared) (H : Hp) (C : Addr) (cl : List (Str × Addr)) (fp : List Addr), PE (X.blk s H scope (compEnvC scope cl C X.env) fp) kx tk)
    (hv : ∀ (s : Shared) (H : Hp) (C : Addr) (cl : List (Str × Addr)) (fp : List Addr), PE (X.blk s H scope (compEnvC scope cl C X.env) fp) vx tv) (hfs : ∀ x, foldedSetIterable iter X.env x = pure x := by intro _; rfl) :
    PE X (.DictComp kx vx [⟨tg, iter, [], 0⟩] scope pos) (tDcT wi g tk tv (own.map (·.2))) := by
  refine ⟨fun pins s σ H Q I h => ?_⟩
  rw [arm_eval_DictComp]
  refine dcT_core hu calm nd I hi ok hg hk hv hfs h fun D C s' m H' I' q hn f => ⟨m, hn, fun h'' sb => ?_⟩
  obtain ⟨f0, f1, f2, f3, f4, f5⟩ := f
  exact ⟨.ref D, H', I'.turned (t' := s'.toks) (fun b o hb e => (sb.2 b hb).trans e) f0 f1 f3 f4 f5, rfl, q⟩
/-- a name on the same line takes it, before the block's own names go -/
theorem ps_setDcT {X : Cx} {i : Nat} {y : Str} {py : Pos} {kx vx tg iter : Expr} {scope : Scope} {own : List (Str × Nat)} {pos spos : Pos} {wi : TI} {g : TG} {tk tv : TE} (hu : X.A.units < cLine) (calm : X.calm = true) (nd : X.N.Nodup) (at_ : X.N[i]? = some y) (loc : X.env.scope.names.lookup y = some .local)
    (sw : swapsWith (.DictComp kx vx [⟨tg, iter, [], 0⟩] scope pos) (some (.Name y py)) spos.line X.env = pure true) (hi : PI X tg iter wi) (ok : BlkOk X.N X.env.scope scope own)
    (hg : ∀ (s : Shared) (H : Hp) (C : Addr) (cl : List (Str × Addr)) (fp : List Addr), PG (X.blk s H scope (compEnvC scope cl C X.env) fp) tg g)
    (hk : ∀ (s : Shared) (H : Hp) (C : Addr) (cl : List (Str × Addr)) (fp : List Addr), PE (X.blk s H scope (compEnvC scope cl C X.env) fp) kx tk)
    (hv : ∀ (s : Shared) (H : Hp) (C : Addr) (cl : List (Str × Addr)) (fp : List Addr), PE (X.blk s H scope (compEnvC scope cl C X.env) fp) vx tv) (hfs : ∀ x, foldedSetIterable iter X.env x = pure x := by intro _; rfl) :
    PS X (.Assign [.Name y py] (.DictComp kx vx [⟨tg, iter, [], 0⟩] scope pos) spos) (tAsg (tDcT wi g tk tv (own.map (·.2))) (gName i)) := by
  refine ⟨fun pins s σ H D I h => ?_⟩
  rw [exec_Assign_Name_used _ _ _ _ sw]
  refine wpAny_bind (wpAny_standAt (wpAny_bind ?_))
  show wpAny _ X.A (do let _ ← comprehension (.DictComp kx vx [⟨tg, iter, [], 0⟩] scope pos) scope X.env (firstIterPos [⟨tg, iter, [], 0⟩] pos) newDict false (eval iter X.env) (some (assign (.Name y py) X.env))) _ _ s
  have h : tDcT wi g tk tv (own.map (·.2)) σ H (fun x H1 => gName i x σ H1 D.nx) := h
  refine wpAny_bind (thn (dcT_core (Qf := fun _ s' => SP X pins D .next s') hu calm nd I hi ok hg hk hv hfs h fun L C s' m H' I' q hn f => ?_) fun _ s' hq => wpAny_pure (wpAny_pure hq))
  show wpAny _ _ (assign (.Name y py) X.env (.ref L)) _ _ _
  refine wpAny_assign_Name (store_ok2 (v := V.ref L) I' nd at_ (.inl loc) rfl (fun s2 I2 ⟨a, sb, ha⟩ => ?_) (.inr loc))
  obtain ⟨f0, f1, f2, f3, f4, f5⟩ := f
  have apart : C ≠ a := by
    rcases ha with z | z
    · rw [z]
      exact f1
    · exact fun e => f4 y a z e.symm
  exact ⟨m, hn.sameBut sb apart, fun h3 sb3 => ⟨_, H', I2.turned (t' := s2.toks) (fun b o hb e => (sb3.2 b hb).trans e) f0 f1 f3 f4 f5, q⟩⟩
theorem swD_true {kx vx : Expr} {gs : List Comprehension} {scope : Scope} {pos py : Pos} {y : Str} {l : Nat} {env : Env} (hk : env.scope.kind = .function) (hy : env.scope.names.lookup y = some .local) (hl : (py.line == pos.line) = true)
    (ha : (scope.names.any fun (n, k) => n == y && (k == .local || k == .cell)) = false) : swapsWith (.DictComp kx vx gs scope pos) (some (.Name y py)) l env = pure true := by
  have ky : env.kindOf y = some .local := hy
  have hb : env.blockKind = .function := by unfold Env.blockKind; rw [hk]; rfl
  unfold swapsWith
  simp only [hb, ky, ha, Expr.pos, hl]
  rfl
theorem dcT_it {J : It} {n : Nat} {G : Hp → Prop} {Y : Nat → Hp → V → Hp → Prop} (w : Walk J n G Y) {g : TG} {tk tv : TE} {vs : List Nat} {σ : L2.St} {H1 : Hp} {D : Addr} {Qd : Hp → Prop} (Pv : Nat → Hp → Prop) (h0 : Pv 0 (upd H1 D (.dT []))) (hG : ∀ i H, i ≤ n → Pv i H → G H)
    (hs : ∀ i x H H', i < n → Pv i H → Y i H x H' → g x (wipe σ vs) H' fun σ2 H2 => wipe σ2 vs = wipe σ vs ∧ tk σ2 H2 fun y H3 => tv σ2 H3 fun z H4 => PutT D y z H4 (Pv (i + 1))) (hd : ∀ H, Pv n H → Qd H) :
    ∃ W : Nat → Nat → Hp → Prop, (∃ m, W 0 m (upd H1 D (.dT []))) ∧ ∀ i m H, W i m H → (J.stop i H ∧ Qd H) ∨ (J.go i H ∧ ∃ Nx : Hp → Prop, (∀ H', Nx H' → ∃ m', m' < m ∧ W (i + 1) m' H') ∧ ∀ x H', J.yld i H x H' → g x (wipe σ vs) H' fun σ2 H2 => wipe σ2 vs = wipe σ vs ∧ tk σ2 H2 fun y H3 => tv σ2 H3 fun z H4 => PutT D y z H4 Nx) := by
  refine ⟨fun i m H => m = n - i ∧ i ≤ n ∧ Pv i H, ⟨n, rfl, Nat.zero_le _, h0⟩, ?_⟩
  rintro i m H ⟨rfl, hi, pv⟩
  have hq := hG i H hi pv
  by_cases hlt : i < n
  · exact .inr ⟨w.goes i H hlt hq, Pv (i + 1), fun H' p' => ⟨n - (i + 1), by omega, rfl, hlt, p'⟩, fun x H' y => hs i x H H' hlt pv (w.yields i H x H' hlt hq y)⟩
  · obtain rfl : i = n := by omega
    exact .inl ⟨w.stops H hq, hd H pv⟩
end Pf


namespace Pf
open PySem PySem.Spec PyProof.Rows L2
/-! ### a list lengthened in its place -/
theorem lk_iadd : typeLookup (.type "list") (dunderI "add") = pure (some (.builtin "list.__iadd__")) := PySem.F.slot_list_iadd.lookup
theorem nf_list : fillsNumberSlot (.type "list") "add" = pure false := by kernel_rfl
theorem iadd_lst {M : Model} {A : Around} {E : Value → Shared → Prop} {s : Shared} {a b : Value} {Q : Value → Shared → Prop} (ha : s.TypeIs a "list") (hb : s.TypeIs b "list") (hc : wpAny M A (call (.builtin "list.__iadd__") [a, b]) Q E s) : wpAny M A (inplaceOp .Add a b) Q E s := by
  unfold inplaceOp
  refine wpAny_holding ?_
  have h1 : fillsInplaceSlot (.type "list") "add" (Operator.Add == .Add) = pure false := by
    unfold fillsInplaceSlot
    show (typeLookup (.type "list") (dunderI "add") >>= fun z => pure (z.isSome && !isSeqSlot z)) = pure false
    rw [lk_iadd]
    kernel_rfl
  have h2 : seqSlot? (.type "list") (dunderI "add") = pure (some (.builtin "list.__iadd__")) := PySem.seqSlot_of lk_iadd (by kernel_rfl)
  refine wpAny_bind (wpAny_typeOf ha (wpAny_bind (wpAny_of_eq h1 ?_)))
  show wpAny M A (if false = true then _ else _) Q E s
  rw [if_neg Bool.false_ne_true]
  exact wpAny_bind (wpAny_binaryOp1_none (nm := "add") ha hb nf_list (wpAny_bind (wpAny_of_eq h2 (wpAny_bind (wpAny_rule hc)))))
def rIext : TIp := fun x y H Q => ∃ l b xs zs, x = .ref l ∧ y = .ref b ∧ H l = some (.lst xs) ∧ H b = some (.lst zs) ∧ xs.length + zs.length ≤ sizeLine ∧ Q (.ref l) (upd H l (.lst (xs ++ zs)))
theorem ip_ext {X : Cx} : PIp X .Add rIext := by
  intro pins s σ H x y v u Q I rx ry h
  obtain ⟨l, b, xs, zs, rfl, rfl, hH, hB, hz, q⟩ := h
  cases rx
  cases ry
  obtain ⟨z, its, n, r, hl, e⟩ := I.lstM hH
  obtain ⟨z2, its2, n2, r2, hl2, e2⟩ := I.lstM hB
  have hs2 : its.toArray.size + its2.toArray.size ≤ sizeLine := by
    rw [List.size_toArray, List.size_toArray]
    omega
  have long : ¬ (!its.toArray.isEmpty && Builtin.List.listTooLong (its.toArray.size + its2.toArray.size)) = true := by
    rw [notLongL hs2, Bool.and_false]
    exact Bool.false_ne_true
  refine iadd_lst ⟨_, e, rfl⟩ ⟨_, e2, rfl⟩ (call_meets PySem.F.slot_list_iadd ⟨_, e, rfl⟩ PySem.F.entry_list_iadd (PySem.F.args_list_iadd_2 _ _) (AutoSeq1.list___iadd___list_list_0 l its.toArray n b its2.toArray n2 long (by rw [List.size_toArray]; omega) (by omega)) ⟨e, e2, ?_⟩)
  refine ⟨.ref l, _, I.lset (its' := its ++ its2) hH e (by simp) (r.append r2) ?_, rfl, q⟩
  rw [List.length_append]
  omega
end Pf


namespace Pf
open PySem PySem.Spec PyProof.Rows L2
/-! ### sorted of a dict by tuples -/
theorem obj_there {P : Program} {w : World} {H : Hp} {h : Heap} {a : Addr} {o : HO} (x : ObjOk P w H h a o) : ∃ u, h.get? a = some u := by
  cases o with
  | lst _ =>
    obtain ⟨_, _, _, _, e⟩ := x
    exact ⟨_, e⟩
  | tup _ =>
    obtain ⟨_, _, _, u, e, _⟩ := x
    exact ⟨u, e⟩
  | dK _ =>
    obtain ⟨_, _, _, _, u, _, _, e, _⟩ := x
    exact ⟨u, e⟩
  | dT _ =>
    obtain ⟨_, _, _, _, u, _, _, e, _⟩ := x
    exact ⟨u, e⟩
  | set _ _ =>
    obtain ⟨u, _, _, _, e, _⟩ := x
    exact ⟨u, e⟩
  | ins _ _ _ =>
    obtain ⟨_, _, _, e, _⟩ := x
    exact ⟨_, e⟩
  | own _ => exact x
  | xd _ =>
    obtain ⟨_, ⟨u, _, _, e, _⟩, _⟩ := x
    exact ⟨u, e⟩
  | rng _ _ =>
    obtain ⟨_, _, _, e⟩ := x
    exact ⟨_, e⟩
  | frz u _ => exact ⟨u, x.1⟩
  | tbl _ => exact ⟨_, x⟩
  | met _ _ => exact ⟨_, x⟩
  | ext _ => exact x.2.1
def rSortKT (K : PySem.W.Frag) : List V → Hp → VK → Prop := fun vs H Q => ∃ (d : Addr) (kvs : List (List Key × V)), vs = [.ref d] ∧ Rd H d (.dT kvs) ∧ ∀ bs : List Addr, IsKeys H kvs bs → ∃ (β : Type) (ad : β → Addr) (dd : β → PyData) (ys : List β), bs = ys.map ad ∧ (∀ y ∈ ys, Dp K H (.ref (ad y)) (dd y) ∧ (dd y).depth ≤ 50) ∧
  PySem.W.AllAlike (ys.map dd) ∧ PySem.W.Sortable (ys.map dd) ∧ ∀ p, H p = none → Q (.ref p) (upd H p (.lst ((ys.mergeSort (PySem.W.dataLe false dd)).map fun y => .ref (ad y))))
theorem cr_sortKT (K : PySem.W.Frag) {X : Cx} (calm : X.calm = true) (hu : X.A.units + 64 < cLine) (hK : X.K = K := by rfl) : CallR X (.builtin "sorted") (rSortKT K) := by
  subst hK
  intro pins s σ H vs us Q I r h
  obtain ⟨d, kvs, rfl, hd, q⟩ := h
  obtain ⟨u, rfl, er⟩ := vals1 r
  cases er
  obtain ⟨z, hs, ks, pr, o, es, ep, ho, hx, hdt, he, hn⟩ := (show ObjOk X.prog X.w H s.heap d (.dT kvs) from hd.ok I.hok)
  have l1 : es.size = ks.length := size_of_entries he
  have l2 : kvs.length = ks.length := Paired.length pr
  obtain ⟨β, ad, dd, ys, eys, hy, al, so, qq⟩ := q _ (isKeys_of pr)
  have hyl : ys.length = ks.length := by
    have := congrArg List.length eys
    rw [List.length_map, List.length_map] at this
    exact this.symm
  refine Calls.call_function_entry kind_sorted plain_sorted entry_sorted (args_sorted1 _) ?_
  unfold Builtin.«sorted»
  refine wpAny_bind (m := checkCount "sorted" 1 1 _) (wpAny_pure ?_)
  refine wpAny_bind (PySem.W.kdu_collect (kdl_raw hs hx hdt) (I.ok.hd calm) ho (by omega) fun h1 tk acc kp items => ?_)
  have ea : acc.toList = ys.map fun y => Value.ref (ad y) := by
    have e0 : (ks.map fun x => x.2.1).map Value.ref = ys.map fun y => Value.ref (ad y) := by
      rw [eys, List.map_map]
      rfl
    rw [← e0]
    refine List.ext_getElem? fun j => ?_
    rw [List.getElem?_map, List.getElem?_map]
    cases hj : acc.toList[j]? with
    | none =>
      have := List.getElem?_eq_none_iff.mp hj
      rw [Array.length_toList, items.1] at this
      rw [List.getElem?_eq_none (by omega)]
      rfl
    | some v =>
      obtain ⟨en, hen, hv⟩ := items.2 j v (by rw [← Array.getElem?_toList]; exact hj)
      have qe := entry_at he j
      rw [hen] at qe
      cases hb : ks[j]? with
      | none =>
        rw [hb] at qe
        exact nomatch (show some en = none from qe)
      | some b =>
        rw [hb] at qe
        rw [hv, Option.some.inj (show some en = some (entryOfKey (tupleKind (mixKind X.prog X.w)) b) from qe)]
        rfl
  have hz2 : acc.toList.length ≤ sizeLine := by
    rw [ea, List.length_map]
    omega
  refine wpAny_bind (wpAny_newList ?_ hz2)
  have hat : (h1.push (seqObj "list" acc.toList.toArray 0)).get? h1.objs.size = some (seqObj "list" acc.toList.toArray 0) := Heap.get?_push_size _ rfl
  have hlt : ∀ b ob, s.heap.get? b = some ob → b ≠ h1.objs.size := fun b ob e => Nat.ne_of_lt (Heap.lt_size (kp b ob e))
  have old : ∀ b ob, s.heap.get? b = some ob → (h1.push (seqObj "list" acc.toList.toArray 0)).get? b = some ob := fun b ob e => Heap.get?_push_of_some _ (kp b ob e)
  have rel : PySem.W.EachIs (fun (v : Value) (y : β) => RelV (V.ref (ad y)) v) acc.toList ys := by
    rw [ea]
    clear q qq eys hy al so hyl ea
    induction ys with
    | nil => exact .nil
    | cons y t ih => exact .cons rfl ih
  have rv : Vals (ys.map fun y => V.ref (ad y)) acc.toList := vals_each (v := fun y => V.ref (ad y)) rel
  have rd : PySem.W.EachIs (fun (v : Value) (y : β) => ∃ as, Reads (PySem.W.sortingHeap (h1.push (seqObj "list" acc.toList.toArray 0)) h1.objs.size acc.toList) v (dd y) as) acc.toList ys := (each_reads (v := fun y => V.ref (ad y)) I rv fun y hy' => (hy y hy').1).mono fun _ _ ⟨as, w⟩ => ⟨as, PyProof.Rows.Reads.keeps (fun b ob e => PySem.W.sortingHeap_old (hlt b ob e) (old b ob e)) w⟩
  have hub : ∀ y ∈ ys, X.A.in1.in1.units + (dd y).depth < cLine := fun y hy' => by
    have := (hy y hy').2
    show X.A.units + 2 + (dd y).depth < cLine
    omega
  have S := PySem.W.SortsAt.data (prog := X.prog) (w := X.w) (A := X.A.in1.in1) (s := { s with heap := PySem.W.sortingHeap (h1.push (seqObj "list" acc.toList.toArray 0)) h1.objs.size acc.toList, toks := tk }) (PySem.W.each_map (R := fun v d => ∃ as, Reads (PySem.W.sortingHeap (h1.push (seqObj "list" acc.toList.toArray 0)) h1.objs.size acc.toList) v d as) dd rd) al so (PySem.W.bound_map hub)
  refine wpAny_bind (wpAny_holding (wpAny_call_entry slot_list_sort ⟨_, hat, rfl⟩ entry_list_sort ?body (args_list_sort _)))
  case body =>
    refine PySem.W.list_sort_vals (s := { s with heap := h1.push (seqObj "list" acc.toList.toArray 0), toks := tk }) hat S hz2 ⟨_, rfl, wpAny_pure ⟨_, rfl, ?_⟩⟩
    have each := PySem.W.sortVals_data false rel rd al
    generalize PySem.W.sortVals (PySem.W.dataKind (PySem.W.sortingHeap (h1.push (seqObj "list" acc.toList.toArray 0)) h1.objs.size acc.toList) (ys.map dd)) false acc.toList acc.toList = out at each ⊢
    obtain ⟨ee, he'⟩ := PyProof.Rows.sortedHeap_at (vs := acc.toList) (out := out.toArray) hat
    have hl2 : ((ys.mergeSort (PySem.W.dataLe false dd)).map fun y => V.ref (ad y)).length ≤ sizeLine := by
      rw [List.length_map, List.length_mergeSort]
      omega
    have gone : s.heap.get? h1.objs.size = none := by
      cases e : s.heap.get? h1.objs.size with
      | none => rfl
      | some ob => exact absurd rfl (hlt _ ob e)
    have free : H h1.objs.size = none := by
      cases e : H h1.objs.size with
      | none => rfl
      | some u =>
        obtain ⟨ob, e2⟩ := obj_there (I.hok _ _ e)
        rw [gone] at e2
        cases e2
    exact ⟨.ref h1.objs.size, upd H h1.objs.size (.lst ((ys.mergeSort (PySem.W.dataLe false dd)).map fun y => V.ref (ad y))), I.laidN (t' := tk) (fun b ob e => by rw [PyProof.Rows.sortedHeap_old (hlt b ob e) (Heap.lt_size (old b ob e))]; exact old b ob e) gone free ⟨hl2, out, ee, vals_each (v := fun y => V.ref (ad y)) each, by simpa using he'⟩, rfl, qq _ free⟩
end Pf


namespace Pf
open PySem PySem.Spec PyProof.Rows L2
/-! ### a text so many times: some text of its letters, no longer than it may be -/
theorem rep_cps (x : Array Nat) : ∀ (n : Nat) (acc : Array Nat), (((List.replicate n x).foldl (· ++ ·) acc).size = acc.size + x.size * n) ∧ ∀ c ∈ ((List.replicate n x).foldl (· ++ ·) acc).toList, c ∈ acc.toList ∨ c ∈ x.toList
  | 0, acc => ⟨by rw [Nat.mul_zero]; rfl, fun c h => .inl h⟩
  | n + 1, acc => by
    have ih := rep_cps x n (acc ++ x)
    rw [List.replicate_succ, List.foldl_cons]
    refine ⟨?_, fun c h => ?_⟩
    · rw [ih.1, Array.size_append, Nat.mul_succ]
      omega
    · rcases ih.2 c h with z | z
      · rw [Array.toList_append, List.mem_append] at z
        exact z
      · exact .inr z
def rRepS : R2 := fun x y H Q => ∃ (z : Str) (k : Int), x = .str z ∧ y = .int k ∧ 0 ≤ k ∧ k ≤ 1000 ∧ z.length ≤ 1000 ∧ ∀ w : Str, w.length ≤ z.length * k.toNat → (∀ c ∈ w.cps.toList, c ∈ z.cps.toList) → Q (.str w) H
theorem op_repS {X : Cx} : OpR X (binaryOp .Mult) rRepS := by
  intro pins s σ H x y v u Q I rx ry h
  obtain ⟨z, k, rfl, rfl, k0, k1, hz, q⟩ := h
  obtain ⟨t, rfl⟩ := rx
  obtain ⟨t2, rfl⟩ := ry
  have hm : z.length * k.toNat ≤ 1000 * 1000 := Nat.mul_le_mul hz (by omega)
  have hbig : (z.length : Int) * k ≤ 1000 * 1000 := Int.mul_le_mul (by omega) k1 k0 (by decide)
  refine PySem.P.mul_str (by rw [decide_eq_false (by omega), decide_eq_false (by omega)]; rfl) (fun h1 _ z2 => ?_) (fun _ _ => ?_) ?_
  · have h3 : (1000 : Int) ≤ (2 ^ 63 - 1) / k := by
      rw [Int.le_ediv_iff_mul_le (by omega)]
      omega
    omega
  · unfold Builtin.Str.tooLong
    exact decide_eq_false (by rw [sizeLine_eq]; omega)
  · by_cases c1 : k < 1
    · rw [if_pos c1]
      exact ⟨by decide, .str Str.empty, H, I.tok _, ⟨_, rfl⟩, q _ (Nat.zero_le _) (fun c hc => by cases hc)⟩
    · rw [if_neg c1]
      by_cases c2 : (k == 1 || z.length == 0) = true
      · rw [if_pos c2]
        refine ⟨.str z, H, I, ⟨_, rfl⟩, q z ?_ fun _ hc => hc⟩
        exact Nat.le_mul_of_pos_right _ (by omega)
      · rw [if_neg c2]
        have hr := rep_cps z.cps k.toNat #[]
        have hl : (⟨(List.replicate k.toNat z.cps).foldl (· ++ ·) #[]⟩ : Str).length = z.length * k.toNat := by
          show ((List.replicate k.toNat z.cps).foldl (· ++ ·) #[]).size = _
          rw [hr.1]
          show 0 + z.length * k.toNat = _
          omega
        refine ⟨?_, .str _, H, I.tok _, ⟨_, rfl⟩, q _ (Nat.le_of_eq hl) fun c hc => ?_⟩
        · rw [hl, sizeLine_eq]
          omega
        · rcases hr.2 c hc with y | y
          · cases y
          · exact y
/-! ### a list under way -/
section
variable {β : Type} {R : Hp → V → β → Prop} {D : Addr} {H H1 H4 : Hp} {ys : List β} {v : V} {b : β}
def GenL (R : Hp → V → β → Prop) (D : Addr) (H1 : Hp) (ys : List β) (H : Hp) : Prop := ∃ vs, H D = some (.lst vs) ∧ Paired (R H) vs ys ∧ Ext H1 H
theorem genl_new (hD : H1 D = none) : GenL R D H1 [] (upd H1 D (.lst [])) := ⟨[], upd_same, .nil, Ext.new hD⟩
theorem GenL.ext (h : GenL R D H1 ys H) : Ext H1 H := by
  obtain ⟨_, _, _, k⟩ := h
  exact k
theorem GenL.keep (m : Mono R) (h : GenL R D H1 ys H) (k : Ext H H4) : GenL R D H1 ys H4 := by
  obtain ⟨vs, hL, hP, k1⟩ := h
  exact ⟨vs, k _ _ hL, paired_imp (fun _ _ => m _ _ _ _ (TupK.ext k)) hP, k1.trans k⟩
theorem genl_step (m : Mono R) (hD : H1 D = none) (h : GenL R D H1 ys H) (k : Ext H H4) (hv : R H4 v b) (hn : ys.length < 1000000) : ∃ acc, H4 D = some (.lst acc) ∧ acc.length < sizeLine ∧ GenL R D H1 (ys ++ [b]) (upd H4 D (.lst (acc ++ [v]))) := by
  obtain ⟨vs, hL, hP, k1⟩ := h
  have hl := paired_len hP
  have hL4 := k _ _ hL
  exact ⟨vs, hL4, szLt (by omega), vs ++ [v], upd_same, paired_app (paired_imp (fun _ _ => m _ _ _ _ ((TupK.ext k).trans (TupK.lst hL4))) hP) (.cons (m _ _ _ _ (TupK.lst hL4) hv) .nil), (k1.trans k).put hD⟩
/-- one more at its end -/
theorem app_ok {Q : VK} (m : Mono R) (hD : H1 D = none) (h : GenL R D H1 ys H) (k : Ext H H4) (hv : R H4 v b) (hn : ys.length < 1000000) (q : ∀ H', GenL R D H1 (ys ++ [b]) H' → Q .non H') : rAppend (.ref D) [v] H4 Q := by
  obtain ⟨acc, h1, h2, h3⟩ := genl_step m hD h k hv hn
  exact ⟨D, acc, v, rfl, rfl, h1, h2, q _ h3⟩
theorem GenL.sq {K : PySem.W.Frag} (h : GenL R D H1 ys H) : ∃ vs, SqL K H D vs := by
  obtain ⟨vs, h1, _⟩ := h
  exact ⟨vs, SqL.of h1⟩
end
theorem putT_len (c : List (List Key × V)) (k : List Key) (v : V) : (putK c k v).length ≤ c.length + 1 := by
  unfold putK
  split
  · rw [List.length_map]
    omega
  · rw [List.length_append, List.length_singleton]
    exact Nat.le_refl _
end Pf


namespace Pf
open PySem PySem.Spec PyProof.Rows L2
def topS (i : Nat) : Stmt := PySem.Challenge.pw_pairfolds_k66_crossed_foldings_known.main.body.getD i (.Pass ⟨0, 0, 0, 0⟩)
/-! ### the pen: a list of cells, a place, a rest -/
def Pen (H : Hp) (p c : Addr) (n : Nat) : Prop := ∃ (cells : List Int) (a r : Int), H p = some (.lst [.ref c, .int a, .int r]) ∧ H c = some (.lst (cells.map V.int)) ∧ 0 ≤ a ∧ a ≤ n ∧ 0 ≤ r ∧ cells.length ≤ 63
section
variable {H H' : Hp} {p c q : Addr} {n m : Nat} {o : HO}
theorem Pen.mono (h : Pen H p c n) (l : n ≤ m) : Pen H p c m := by
  obtain ⟨cells, a, r, h1, h2, h3, h4, h5, h6⟩ := h
  exact ⟨cells, a, r, h1, h2, h3, by omega, h5, h6⟩
theorem Pen.put (h : Pen H p c n) (hp : q ≠ p) (hc : q ≠ c) : Pen (upd H q o) p c n := by
  obtain ⟨cells, a, r, h1, h2, h3⟩ := h
  exact ⟨cells, a, r, by rw [upd_ne hp.symm]; exact h1, by rw [upd_ne hc.symm]; exact h2, h3⟩
theorem Pen.ne (h : Pen H p c n) (hq : H q = none) : q ≠ p ∧ q ≠ c := by
  obtain ⟨cells, a, r, h1, h2, h3⟩ := h
  exact ⟨(ne_of_none h1 hq).symm, (ne_of_none h2 hq).symm⟩
theorem Pen.new (h : Pen H p c n) (hq : H q = none) : Pen (upd H q o) p c n := h.put (h.ne hq).1 (h.ne hq).2
theorem Pen.tup (h : Pen H p c n) {b : Addr} {xs : List V} (e : H b = some (.tup xs)) : b ≠ p := by
  obtain ⟨cells, a, r, h1, _⟩ := h
  exact ne_of e h1 (by intro z; cases z)
theorem Pen.frz (h : Pen H p c n) {b : Addr} {ob : Obj} {u : HO} (e : H b = some (.frz ob u)) : b ≠ p := by
  obtain ⟨cells, a, r, h1, _⟩ := h
  exact ne_of e h1 (by intro z; cases z)
theorem Pen.ext (h : Pen H p c n) (k : Ext H H') : Pen H' p c n := by
  obtain ⟨cells, a, r, h1, h2, h3⟩ := h
  exact ⟨cells, a, r, k _ _ h1, k _ _ h2, h3⟩
end
theorem TupK.of {p c : Addr} {n : Nat} {H H' : Hp} (k : Kp p H H') (hP : Pen H p c n) : TupK H H' := ⟨fun b _ e => k b _ (hP.tup e) e, fun b _ _ e => k b _ (hP.frz e) e⟩
theorem Kp.ext {p : Addr} {H H' : Hp} (k : Ext H H') : Kp p H H' := fun b o _ e => k b o e
theorem dpInts {K : PySem.W.Frag} {H : Hp} : ∀ cells : List Int, DpAll K H (cells.map V.int) (cells.map PyData.int)
  | [] => .nil
  | _ :: r => .cons (.int _) (dpInts r)
theorem cut_ints (ns : List Int) (lo hi : Option Int) : ∃ cs : List Int, cutV (ns.map V.int) lo hi = cs.map V.int ∧ cs.length ≤ ns.length := by
  unfold cutV
  refine ⟨(ns.drop _).take _, by rw [List.map_take, List.map_drop], ?_⟩
  rw [List.length_take, List.length_drop]
  omega
theorem mod_b (z m : Int) (h : 0 < m) (h2 : m < 2 ^ 64) : -(2 ^ 64) < z % m ∧ z % m < 2 ^ 64 := by
  have h3 := Int.emod_nonneg z (show m ≠ 0 by omega)
  have h4 := Int.emod_lt_of_pos z h
  omega
theorem draw_b1 {z a : Int} (a0 : 0 ≤ a) (a1 : a ≤ 1000000) : (z % 2147483579 + 43793 * a + 97).natAbs < 2 ^ 64 := by
  have h3 := Int.emod_nonneg z (show (2147483579 : Int) ≠ 0 by decide)
  have h4 := Int.emod_lt_of_pos z (show (0 : Int) < 2147483579 by decide)
  omega
theorem draw_b3 (z : Int) {a : Int} (a0 : 0 ≤ a) (a1 : a ≤ 1000000) : (z % 2147483647 * (a + 39119) + 81667 * a * a).natAbs < 2 ^ 64 := by
  have h3 := Int.emod_nonneg z (show (2147483647 : Int) ≠ 0 by decide)
  have h4 := Int.emod_lt_of_pos z (show (0 : Int) < 2147483647 by decide)
  have h1 : z % 2147483647 * (a + 39119) ≤ 2147483647 * 1039119 := Int.mul_le_mul (by omega) (by omega) (by omega) (by decide)
  have h2 : 0 ≤ z % 2147483647 * (a + 39119) := Int.mul_nonneg h3 (by omega)
  have h5 : 81667 * a * a ≤ 81667 * 1000000 * 1000000 := Int.mul_le_mul (by omega) a1 a0 (by decide)
  have h6 : 0 ≤ 81667 * a * a := Int.mul_nonneg (by omega) a0
  omega
section
variable {P : Program} {w : World} {K : PySem.W.Frag} {mg : Str → Option Value} {base : Heap}
abbrev s_law_pen : Stmt := topS 13
theorem sc_law_pen : FnScope ["_law_script"] ["_law_script"] (defScope s_law_pen) :=
  ⟨rfl, rfl, rfl, by decide +kernel, rfl, by decide +kernel, by decide +kernel⟩
def spStart (K : PySem.W.Frag) : Sp := fun vs H Q _ => ∃ (a : Addr) (ns : List Int), vs = [.ref a] ∧ SqL K H a (ns.map V.int) ∧ ns.length ≤ 63 ∧ ∀ p c H', Pen H' p c 0 → Q (.ref p) H'
theorem ok_start {f : Addr} {fd : FuncData} {k : Nat} (F : Fun K "_law_pen" "_law_pen" s_law_pen f fd) (mlist : mg "list" = none) : FnOk P w K mg base CX0 (k + 1) f fd ["_law_script"] (spStart K) := by
  refine F.ok sc_law_pen (fun vs H Q E h => ?_) (fun cdv A outer s H vs Q E hr h => ?_)
  · obtain ⟨a, ns, rfl, _⟩ := h
    rfl
  · obtain ⟨a, ns, rfl, hS, hns, q⟩ := h
    refine ⟨_, (pss_one (ps_ret (pe_lst (pa_cons (pe_callTy (listOf K) (by rfl) mlist (by decide +kernel) (pa_cons (pe_slice (slL K) (pv 0) po_none (po_some pe_int)) pa_nil)) (pa_cons pe_int (pa_cons pe_int pa_nil)))))), ?_⟩
    obtain ⟨cs, hcs, hcl⟩ := cut_ints ns none (some 63)
    refine ⟨_, rfl, 63, rfl, a, _, rfl, hS, fun c0 hc0 => ?_⟩
    rw [hcs]
    refine ⟨c0, _, rfl, .inl (SqL.of upd_same), fun c hc => ⟨szL (show 3 ≤ 1000000 by decide), fun p hp => ?_⟩⟩
    refine q p c _ ⟨cs, 0, 0, upd_same, ?_, by decide, by decide, by decide, by omega⟩
    exact Ext.new hp _ _ upd_same
abbrev s_law_pick : Stmt := topS 14
theorem sc_law_pick : FnScope ["_law_pen_here", "_law_upto", "_law_digit", "_law_turn", "_law_cell", "_law_great", "_law_stirred"] ["_law_pen_here", "_law_upto"] (defScope s_law_pick) :=
  ⟨rfl, rfl, rfl, by decide +kernel, rfl, by decide +kernel, by decide +kernel⟩
def spDraw : Sp := fun vs H Q _ => ∃ (p c : Addr) (m : Int) (n : Nat), vs = [.ref p, .int m] ∧ Pen H p c n ∧ n < 1000000 ∧ 0 < m ∧ m < 1000000 ∧
  ∀ r H', 0 ≤ r → r < m → Kp p H H' → Pen H' p c (n + 1) → Q (.int r) H'
theorem ok_draw {f : Addr} {fd : FuncData} {k : Nat} (F : Fun K "_law_pick" "_law_pick" s_law_pick f fd) (mlen : mg "len" = none) (mabs : mg "abs" = none) (mint : mg "int" = none) : FnOk P w K mg base CX0 (k + 1) f fd ["_law_pen_here", "_law_upto"] spDraw := by
  refine F.ok sc_law_pick (fun vs H Q E h => ?_) (fun cdv A outer s H vs Q E hr h => ?_)
  · obtain ⟨p, c, m, n, rfl, _⟩ := h
    rfl
  · obtain ⟨p, c, m, n, rfl, hP, hn, m0, m1, q⟩ := h
    obtain ⟨cells, a, r, hp, hc, a0, a1, r0, cl⟩ := hP
    refine ⟨_, (pss_cons (ps_if (pt_cmpR op_gt (pe_ix (ixL K) (pv 0) pe_int (fun _ _ => rfl)) pe_int (nomark _)) (pss_cons (ps_set (i := 2) sc_law_pick.nd rfl (.inl rfl) (pe_op op_mod (pe_ix (ixL K) (pv 0) pe_int (fun _ _ => rfl)) (pv 1)))
      (pss_cons (ps_asg (pe_op op_fdiv (pe_ix (ixL K) (pv 0) pe_int (fun _ _ => rfl)) (pv 1)) (pg_sub (pv 0) pe_int set_list))
      (pss_one (ps_ret (pv 2))))) pss_nil)
      (pss_cons (ps_set (i := 3) sc_law_pick.nd rfl (.inl rfl) (pe_ix (ixL K) (pv 0) pe_int (fun _ _ => rfl)))
      (pss_cons (ps_asg (pe_op op_add (pv 3) pe_int) (pg_sub (pv 0) pe_int set_list))
      (pss_cons (ps_set (i := 4) sc_law_pick.nd rfl (.inl rfl) (pe_op op_add (pe_op op_mul pe_int (pv 3)) pe_int))
      (pss_cons (ps_if (pt_cmpR (neD K hr.units) (pe_ix (ixL K) (pv 0) pe_int (fun _ _ => rfl)) (pe_lst pa_nil) (nomark _)) (pss_one (ps_set (i := 4) sc_law_pick.nd rfl (.inl rfl) (pe_ix (ixL K) (pe_ix (ixL K) (pv 0) pe_int (fun _ _ => rfl)) (pe_op op_mod (pv 3) (pe_callB (lenQ K) (by rfl) mlen (by decide +kernel) (pa_cons (pe_ix (ixL K) (pv 0) pe_int (fun _ _ => rfl)) pa_nil))) (fun _ _ => rfl)))) pss_nil)
      (pss_cons (ps_if (PW.pt (pw_and (pt_cmpR op_lt (pv 3) (pe_callB (lenQ K) (by rfl) mlen (by decide +kernel) (pa_cons (pe_ix (ixL K) (pv 0) pe_int (fun _ _ => rfl)) pa_nil)) (nomark _)) (pw_and1 (pt_cmpR op_ge (pe_callB call_abs (by rfl) mabs (by decide +kernel) (pa_cons (pv 4) pa_nil)) (pe_op op_pow pe_int pe_int) (nomark _))))) (pss_cons (ps_set (i := 5) sc_law_pick.nd rfl (.inl rfl) (pe_op op_add (pe_op op_mul pe_int (pe_callB call_abs (by rfl) mabs (by decide +kernel) (pa_cons (pv 4) pa_nil))) (pe_callTy call_int1 (by rfl) mint (by decide +kernel) (pa_cons (pe_cmpR op_lt (pv 4) pe_int (nomark _)) pa_nil))))
      (pss_cons (ps_asg (pe_op op_fdiv (pv 5) (pv 1)) (pg_sub (pv 0) pe_int set_list))
      (pss_one (ps_ret (pe_op op_mod (pv 5) (pv 1)))))) pss_nil)
      (pss_cons (ps_set (i := 6) sc_law_pick.nd rfl (.inl rfl) (pe_op op_mod (pe_op op_pow (pe_op op_add (pe_op op_add (pe_op op_mod (pv 4) pe_int) (pe_op op_mul pe_int (pv 3))) pe_int) pe_int) pe_int))
      (pss_cons (ps_set (i := 6) sc_law_pick.nd rfl (.inl rfl) (pe_op op_mod (pe_op op_pow (pe_op op_add (pe_op op_mul (pv 6) (pe_op op_add (pv 3) pe_int)) (pe_op op_mul (pe_op op_mul pe_int (pv 3)) (pv 3))) pe_int) pe_int))
      (pss_one (ps_ret (pe_op op_mod (pe_op op_fdiv (pv 6) pe_int) (pv 1)))))))))))), ?_⟩
    have ncp : c ≠ p := ne_of hc hp (by
      intro z
      injection z with z
      cases cells with
      | nil => cases z
      | cons x y => injection z with z1 _; cases z1)
    refine ⟨.ref p, rfl, p, _, 2, .int r, rfl, rfl, SqL.of hp, rfl, _, _, rfl, rfl, _, rfl, ite2 (fun e => ?_) (fun e => ?_)⟩
    · refine ⟨.ref p, rfl, p, _, 2, .int r, rfl, rfl, SqL.of hp, rfl, .int m, rfl, r, m, rfl, rfl, m0, ?_⟩
      refine ⟨.ref p, rfl, p, _, 2, .int r, rfl, rfl, SqL.of hp, rfl, .int m, rfl, r, m, rfl, rfl, ⟨m0, by omega⟩, .ref p, rfl, p, _, 2, 2, rfl, rfl, hp, rfl, ?_⟩
      refine ⟨_, rfl, q _ _ (Int.emod_nonneg _ (by omega)) (Int.emod_lt_of_pos _ m0) Kp.at ⟨cells, a, r / m, upd_same, ?_, a0, by omega, Int.ediv_nonneg r0 (by omega), cl⟩⟩
      rw [upd_ne ncp]
      exact hc
    · refine ⟨.ref p, rfl, p, _, 1, .int a, rfl, rfl, SqL.of hp, rfl, ?_⟩
      refine ⟨.int a, rfl, a, 1, rfl, rfl, .ref p, rfl, p, _, 1, 1, rfl, rfl, hp, rfl, ?_⟩
      have hp1 : (upd H p (.lst [.ref c, .int (a + 1), .int r])) p = some (.lst [.ref c, .int (a + 1), .int r]) := upd_same
      have hc1 : (upd H p (.lst [.ref c, .int (a + 1), .int r])) c = some (.lst (cells.map V.int)) := by
        rw [upd_ne ncp]
        exact hc
      -- cell
      refine ⟨.int a, rfl, 2017, a, rfl, rfl, .inl ⟨by decide, by decide⟩, _, 89, rfl, rfl, ?_⟩
      refine ⟨.ref p, rfl, p, _, 0, .ref c, rfl, rfl, SqL.of hp1, rfl, Nat.zero_le _, fun l hl => ?_⟩
      have nlp : l ≠ p := (ne_of_none hp1 hl).symm
      have nlc : l ≠ c := (ne_of_none hc1 hl).symm
      have hl0 : H l = none := by
        have h := hl
        rw [upd_ne nlp] at h
        exact h
      have hp2 : (upd (upd H p (.lst [.ref c, .int (a + 1), .int r])) l (.lst [])) p = some (.lst [.ref c, .int (a + 1), .int r]) := by
        rw [upd_ne nlp.symm]
        exact hp1
      have hc2 : (upd (upd H p (.lst [.ref c, .int (a + 1), .int r])) l (.lst [])) c = some (.lst (cells.map V.int)) := by
        rw [upd_ne nlc.symm]
        exact hc1
      have k2 : Kp p H (upd (upd H p (.lst [.ref c, .int (a + 1), .int r])) l (.lst [])) := Kp.at.put hl0
      refine ⟨.list (cells.map .int), .list [], .lst (SqL.of hc2) (dpInts cells), .lst (SqL.of upd_same) .nil, PySem.W.shaped_ints _, by decide, _, rfl, ite2 (fun e1 => ?_) (fun e1 => ?_)⟩
      have hne : 0 < cells.length := by
        cases cells with
        | nil => cases e1
        | cons x y => exact Nat.succ_pos _
      have hl1 : ((cells.map V.int).length : Int) = cells.length := by rw [List.length_map]
      obtain ⟨z, _, hat⟩ := atI_ints (ns := cells) (Int.emod_nonneg a (show ((cells.map V.int).length : Int) ≠ 0 by omega)) (by
        have := Int.emod_lt_of_pos a (show (0 : Int) < ((cells.map V.int).length : Int) by omega)
        omega)
      have hl2 : (0 : Int) < ((cells.map V.int).length : Int) := by omega
      refine ⟨.ref p, rfl, p, _, 0, .ref c, rfl, rfl, SqL.of hp2, rfl, .int a, rfl, .ref p, rfl, p, _, 0, .ref c, rfl, rfl, SqL.of hp2, rfl, c, _, rfl, .inl (SqL.of hc2), _, _, rfl, rfl, hl2, c, _, _, _, rfl, rfl, SqL.of hc2, hat, ?_⟩
      all_goals
        refine ⟨.int a, rfl, .ref p, rfl, p, _, 0, .ref c, rfl, rfl, SqL.of hp2, rfl, c, _, rfl, .inl (SqL.of hc2), _, _, rfl, rfl, _, rfl, ite2 (fun e2 => ?_) (fun e2 => ?_)⟩
        refine ⟨_, rfl, _, rfl, 10, 18, rfl, rfl, ⟨by decide, by decide, by decide⟩, _, _, rfl, rfl, _, rfl, ite2 (fun e3 => ?_) (fun e3 => ?_)⟩
        · refine ⟨_, rfl, _, rfl, 2, _, rfl, rfl, .inl ⟨by decide, by decide⟩, _, rfl, _, _, rfl, rfl, .inr ⟨_, rfl, ?_⟩⟩
          refine ⟨_, _, rfl, rfl, ?_⟩
          refine ⟨_, rfl, .int m, rfl, _, m, rfl, rfl, ⟨m0, by omega⟩, .ref p, rfl, p, _, 2, 2, rfl, rfl, hp2, rfl, ?_⟩
          refine ⟨_, rfl, .int m, rfl, _, m, rfl, rfl, m0, q _ _ (Int.emod_nonneg _ (by omega)) (Int.emod_lt_of_pos _ m0) (k2.trans Kp.at) ⟨cells, a + 1, _, upd_same, ?_, by omega, by omega, Int.ediv_nonneg ?_ (by omega), cl⟩⟩
          · rw [upd_ne ncp]
            exact hc2
          · split <;> split <;> omega
        all_goals
          refine ⟨_, rfl, _, 2147483579, rfl, rfl, (show (0 : Int) < 2147483579 by decide), .int a, rfl, 43793, a, rfl, rfl, .inl ⟨by decide, by decide⟩, _, _, rfl, rfl, _, 97, rfl, rfl, _, 5, rfl, rfl, ⟨by decide, by decide, draw_b1 a0 (by omega)⟩, _, 2147483647, rfl, rfl, (show (0 : Int) < 2147483647 by decide), ?_⟩
          refine ⟨_, rfl, .int a, rfl, a, 39119, rfl, rfl, _, _, rfl, rfl, .inl (mod_b _ 2147483647 (by decide) (by decide)), .int a, rfl, 81667, a, rfl, rfl, .inl ⟨by decide, by decide⟩, .int a, rfl, _, a, rfl, rfl, .inl ⟨by omega, by omega⟩, _, _, rfl, rfl, _, 3, rfl, rfl, ⟨by decide, by decide, draw_b3 _ a0 (by omega)⟩, _, 2147483563, rfl, rfl, (show (0 : Int) < 2147483563 by decide), ?_⟩
          refine ⟨_, rfl, _, 32, rfl, rfl, ⟨by decide, by decide⟩, .int m, rfl, _, m, rfl, rfl, m0, q _ _ (Int.emod_nonneg _ (by omega)) (Int.emod_lt_of_pos _ m0) k2 ⟨cells, a + 1, r, hp2, hc2, by omega, by omega, r0, cl⟩⟩
abbrev CDraw (P : Program) (w : World) (K : PySem.W.Frag) (mg : Str → Option Value) (base : Heap) : Prop := Ca P w K mg base 1 "_law_pick" ["_law_pen_here", "_law_upto"] spDraw
abbrev s_law_some_worth : Stmt := topS 15
theorem sc_law_some_worth : FnScope ["_law_pen_here", "_law_far"] ["_law_pen_here"] (defScope s_law_some_worth) :=
  ⟨rfl, rfl, rfl, by decide +kernel, rfl, by decide +kernel, by decide +kernel⟩
def spWorth : Sp := fun vs H Q _ => ∃ (p c : Addr) (n : Nat), vs = [.ref p] ∧ Pen H p c n ∧ n + 4 < 1000000 ∧
  ∀ (i : Int) H', -99 ≤ i → i ≤ 99 → Kp p H H' → Pen H' p c (n + 4) → Q (.int i) H'
theorem ok_worth {f : Addr} {fd : FuncData} (F : Fun K "_law_some_worth" "_law_some_worth" s_law_some_worth f fd) (c_law_pick : CDraw P w K mg base) : FnOk P w K mg base CX0 2 f fd ["_law_pen_here"] spWorth := by
  refine F.ok sc_law_some_worth (fun vs H Q E h => ?_) (fun cdv A outer s H vs Q E hr h => ?_)
  · obtain ⟨p, c, n, rfl, _⟩ := h
    rfl
  · obtain ⟨p, c, n, rfl, hP, hn, q⟩ := h
    refine ⟨_, (pss_cons (ps_set (i := 1) sc_law_some_worth.nd rfl (.inl rfl) (pe_op op_sub (pe_ca c_law_pick (hr.mono (by decide)) (by rfl) (pa_cons (pv 0) (pa_cons pe_int pa_nil))) pe_int))
      (pss_one (ps_ret (pe_ix (ixL K) (pe_lst (pa_cons pe_int (pa_cons (pe_op op_sub (pe_ca c_law_pick (hr.mono (by decide)) (by rfl) (pa_cons (pv 0) (pa_cons pe_int pa_nil))) pe_int) (pa_cons pe_int (pa_cons (pe_un un_neg pe_int) (pa_cons (pe_op op_sub (pe_ca c_law_pick (hr.mono (by decide)) (by rfl) (pa_cons (pv 0) (pa_cons pe_int pa_nil))) pe_int) (pa_cons (pe_un un_neg pe_int) (pa_cons (pv 1) (pa_cons (pe_ix (ixL K) (pe_lst (pa_cons pe_int (pa_cons (pe_un un_neg pe_int) pa_nil))) (pe_op op_mod (pv 1) pe_int) (fun _ _ => rfl)) pa_nil))))))))) (pe_ca c_law_pick (hr.mono (by decide)) (by rfl) (pa_cons (pv 0) (pa_cons pe_int pa_nil))) (fun _ _ => rfl))))), ?_⟩
    refine ⟨_, rfl, p, c, 199, n, rfl, hP, by omega, by decide, by decide, fun r1 H1 r1a r1b k1 hP1 => ⟨r1, 99, rfl, rfl, ?_⟩⟩
    refine ⟨_, rfl, p, c, 9, n + 1, rfl, hP1, by omega, by decide, by decide, fun r2 H2 r2a r2b k2 hP2 => ⟨r2, 6, rfl, rfl, 1, rfl, ?_⟩⟩
    refine ⟨_, rfl, p, c, 5, n + 2, rfl, hP2, by omega, by decide, by decide, fun r3 H3 r3a r3b k3 hP3 => ⟨r3, 2, rfl, rfl, 3, rfl, _, rfl, 99, rfl, ?_⟩⟩
    refine ⟨szL (show 2 ≤ 1000000 by decide), fun l0 hl0 => ?_⟩
    have m0 := Int.emod_nonneg (r1 - 99) (show (2 : Int) ≠ 0 by decide)
    have m1 := Int.emod_lt_of_pos (r1 - 99) (show (0 : Int) < 2 by decide)
    obtain ⟨y, hy, hat0⟩ := atI_ints (ns := [99, -99]) m0 m1
    have hy2 : -99 ≤ y ∧ y ≤ 99 := by
      simp only [List.mem_cons, List.not_mem_nil, or_false] at hy
      omega
    refine ⟨_, rfl, _, 2, rfl, rfl, (show (0 : Int) < 2 by decide), l0, _, _, _, rfl, rfl, SqL.of upd_same, hat0, ?_⟩
    refine ⟨szL (show 8 ≤ 1000000 by decide), fun l hl => ?_⟩
    have hP4 := (hP3.new (o := .lst [.int 99, .int (-99)]) hl0).new (o := .lst [.int 0, .int (r2 - 6), .int 1, .int (-1), .int (r3 - 2), .int (-3), .int (r1 - 99), .int y]) hl
    refine ⟨_, rfl, p, c, 8, n + 3, rfl, hP4, by omega, by decide, by decide, fun r4 H4 r4a r4b k4 hP5 => ?_⟩
    obtain ⟨z, hz, hat⟩ := atI_ints (ns := [0, r2 - 6, 1, -1, r3 - 2, -3, r1 - 99, y]) r4a r4b
    have hz2 : -99 ≤ z ∧ z ≤ 99 := by
      simp only [List.mem_cons, List.not_mem_nil, or_false] at hz
      omega
    exact ⟨l, _, r4, _, rfl, rfl, SqL.of (k4 _ _ ((hP3.new hl0).ne hl).1 upd_same), hat, q z _ hz2.1 hz2.2 ((((k1.trans k2).trans k3).trans (Kp.new hl0)).trans ((Kp.new hl).trans k4)) hP5⟩
abbrev CWorth (P : Program) (w : World) (K : PySem.W.Frag) (mg : Str → Option Value) (base : Heap) : Prop := Ca P w K mg base 2 "_law_some_worth" ["_law_pen_here"] spWorth
end
end Pf


namespace Pf
open PySem PySem.Spec PyProof.Rows L2
/-! ### the sum of a dict's values -/
theorem preSum_is (is : List Int) : ∀ n, n ≤ is.length → preSum (fun i => is.getD i 0) n = (is.take n).sum
  | 0, _ => by rw [List.take_zero]; rfl
  | n + 1, h => by
    have ih := preSum_is is n (by omega)
    have e : is[n]? = some (is.getD n 0) := by
      rw [List.getD_eq_getElem?_getD, List.getElem?_eq_getElem (by omega)]
      rfl
    rw [List.take_add_one, e, List.sum_append, ← ih]
    simp [preSum]
def tSumV (td : TE) : TE := fun σ H Q => td σ H fun x H1 => ∃ (a : Addr) (kvs : List (Key × V)) (is : List Int), x = V.ref a ∧ H1 a = some (.dK kvs) ∧ kvs.map (·.2) = is.map V.int ∧ Q (.int is.sum) H1
theorem pe_sumV {X : Cx} {o : Expr} {p pos apos mpos : Pos} {td : TE} (calm : X.calm = true) (gl : Gl X "sum") (free : X.mg "sum" = none) (ho : PE X o td) (b0 : attributeBase o "values" X.env (eval o X.env) = eval o X.env := by rfl) (l0 : (apos.endLine == mpos.line) = true := by rfl)
    (st : starEach [Expr.Call (.Attribute o "values" apos) [] [] mpos] X.env = [(false, eval (Expr.Call (.Attribute o "values" apos) [] [] mpos) X.env)] := by rfl) : PE X (.Call (.Name "sum" p) [.Call (.Attribute o "values" apos) [] [] mpos] [] pos) (tSumV td) := by
  refine ⟨fun pins s σ H Q I h => wpAny_Call_Name_kw (ld_blt I gl free (u := .builtin "sum") (by decide +kernel) ?_ (by decide) (by decide))⟩
  rw [st]
  refine PySem.callWith_builtin1 (wpAny_Call_method0_late b0 l0 (thn (ho.run pins s σ H _ I h) fun v s1 ⟨x, H1, I1, r1, a, kvs, is, ex, ha, hv, q⟩ => ?_))
  subst ex
  obtain rfl : v = Value.ref a := r1
  obtain ⟨_, nsys, vs, rel, dof⟩ := dk_of I1.hok ha
  obtain ⟨ep, dat⟩ := dof.dictAt
  obtain ⟨ob, es, hob, ex, _⟩ := id dat
  have low : a < s1.heap.objs.size := Heap.lt_size hob
  refine ⟨"dict", "dict.values", F.plainAttrs_dict, F.slot_dict_values, F.type_dict_values, ⟨ob, hob, ex.1⟩, fun b e => by cases e; exact ⟨ob, hob, ex.2.1⟩, Calls.callWith_builtin rfl (PySem.evalArgs_none ?_)⟩
  refine call_meetsIn F.slot_dict_values ⟨ob, hob, ex.1⟩ F.entry_dict_values (F.args_dict_values_1 _) (meets_dict_values (mixKind X.prog X.w) a nsys) ⟨⟨vs, dof⟩, ?_⟩
  have len : vs.length = is.length := by
    have e1 := congrArg List.length hv
    rw [List.length_map, List.length_map] at e1
    exact (KV.length rel).symm.trans e1
  have each : ∀ (i : Nat) (v : Value), (∃ k, vs[i]? = some (k, v)) → ∃ t, v = Value.int (is.getD i 0) t := fun i v ⟨k, hk⟩ => by
    obtain ⟨y, h1, h2⟩ := KV.at' rel hk
    have e1 : (kvs.map (·.2))[i]? = some y := by
      rw [List.getElem?_map, h1]
      rfl
    rw [hv, List.getElem?_map] at e1
    obtain ⟨j, hj, rfl⟩ := Option.map_eq_some_iff.mp e1
    obtain ⟨t, h3⟩ := h2
    refine ⟨t, ?_⟩
    rw [h3, List.getD_eq_getElem?_getD, hj]
    rfl
  have stay : ∀ b u, s1.heap.get? b = some u → (s1.heap.push { cls := .type "dict_values", data := .fields #[.ref a] }).get? b = some u := fun b u e => Heap.get?_push_of_some _ e
  have dat1 : (s1.heap.push { cls := .type "dict_values", data := .fields #[.ref a] }).DictAt (mixKind X.prog X.w) a vs ep := dat.keep stay
  have grown : (s1.heap.push { cls := .type "dict_values", data := .fields #[.ref a] }).objs.size = s1.heap.objs.size + 1 := Heap.size_push _ _
  refine call_sum_walkG (wpAny_pyIter_values (v := s1.heap.objs.size) (d := a) ⟨_, Heap.get?_push_size _ rfl, rfl, rfl⟩ dat1 ?_)
  refine ⟨_, _, _, _, _, _, fun i => is.getD i 0, rfl, Walks.dictValues (knd := mixKind X.prog X.w) (A := X.A.in1) (I.ok.hd calm) (s1.heap.push { cls := .type "dict_values", data := .fields #[.ref a] }).objs.size a (by rw [grown]; exact Nat.ne_of_lt (Nat.lt_succ_of_lt low)) vs ep,
    ⟨⟨_, Heap.get?_push_size _ rfl, rfl, rfl⟩, dat1.keep fun b u e => Heap.get?_push_of_some _ e⟩, fun b hb => ?_, each, fun h' tk t' hk => ?_⟩
  · show b < ((s1.heap.push _).push _).objs.size
    rw [Heap.size_push, Heap.size_push]
    rw [grown] at hb
    simp only [List.mem_cons, List.not_mem_nil, or_false] at hb
    rcases hb with rfl | rfl
    · exact Nat.lt_succ_self _
    · exact Nat.lt_succ_of_lt (Nat.lt_succ_of_lt low)
  · have e0 := preSum_is is vs.length (by omega)
    rw [len, List.take_length] at e0
    refine ⟨.int is.sum, H1, I1.kept (t' := tk) fun b u e => hk b u (fun hmem => ?_) (Heap.get?_push_of_some _ (stay b u e)), ⟨t', ?_⟩, q⟩
    · have e1 := List.mem_singleton.mp hmem
      have e2 := Heap.lt_size e
      rw [grown] at e1
      rw [e1] at e2
      exact absurd e2 (Nat.not_lt.mpr (Nat.le_succ _))
    · rw [len, e0]
end Pf


namespace Pf
open PySem PySem.Spec PyProof.Rows L2
/-! ### what is sorted once it is gathered -/
theorem sort_tail {X : Cx} {pins : List (Addr × Obj)} {σ : L2.St} {H : Hp} {s : Shared} {Q : VK} (I : Inv X pins σ H s) (hu : X.A.units + 64 < cLine) {β : Type} {v : β → V} {dd : β → PyData} {ys : List β} {acc : List Value} (rv : Vals (ys.map v) acc) (hy : ∀ y ∈ ys, Dp X.K H (v y) (dd y) ∧ (dd y).depth ≤ 50)
    (al : PySem.W.AllAlike (ys.map dd)) (so : PySem.W.Sortable (ys.map dd)) (hn : ys.length ≤ sizeLine) (qq : ∀ p, H p = none → Q (.ref p) (upd H p (.lst ((ys.mergeSort (PySem.W.dataLe false dd)).map v)))) {R : PySem.Fin → Shared → Prop} {E : Value → Shared → Prop}
    (hR : ∀ l s', EP X pins σ Q l s' → R (.done (.ret l)) s') :
    wpAny (model X.prog X.w) X.A.in1 (do let l ← newList acc; let _ ← holding [l] (call (.builtin "list.sort") [l] []); ret l) R E s := by
  have hz2 : acc.length ≤ sizeLine := by
    rw [← rv.length, List.length_map]
    exact hn
  refine wpAny_bind (wpAny_newList ?_ hz2)
  have hat : (s.heap.push (seqObj "list" acc.toArray 0)).get? s.heap.objs.size = some (seqObj "list" acc.toArray 0) := Heap.get?_push_size _ rfl
  have hlt : ∀ b ob, s.heap.get? b = some ob → b ≠ s.heap.objs.size := fun b ob e => Nat.ne_of_lt (Heap.lt_size e)
  have old : ∀ b ob, s.heap.get? b = some ob → (s.heap.push (seqObj "list" acc.toArray 0)).get? b = some ob := fun b ob e => Heap.get?_push_of_some _ e
  have rel : PySem.W.EachIs (fun (u : Value) (y : β) => RelV (v y) u) acc ys := each_vals (v := v) rv
  have rd : PySem.W.EachIs (fun (u : Value) (y : β) => ∃ as, Reads (PySem.W.sortingHeap (s.heap.push (seqObj "list" acc.toArray 0)) s.heap.objs.size acc) u (dd y) as) acc ys := (each_reads (v := v) I rv fun y hy' => (hy y hy').1).mono fun _ _ ⟨as, w⟩ => ⟨as, PyProof.Rows.Reads.keeps (fun b ob e => PySem.W.sortingHeap_old (hlt b ob e) (old b ob e)) w⟩
  have hub : ∀ y ∈ ys, X.A.in1.in1.units + (dd y).depth < cLine := fun y hy' => by
    have := (hy y hy').2
    show X.A.units + 2 + (dd y).depth < cLine
    omega
  have S := PySem.W.SortsAt.data (prog := X.prog) (w := X.w) (A := X.A.in1.in1) (s := { s with heap := PySem.W.sortingHeap (s.heap.push (seqObj "list" acc.toArray 0)) s.heap.objs.size acc }) (PySem.W.each_map (R := fun v d => ∃ as, Reads (PySem.W.sortingHeap (s.heap.push (seqObj "list" acc.toArray 0)) s.heap.objs.size acc) v d as) dd rd) al so (PySem.W.bound_map hub)
  refine wpAny_bind (wpAny_holding (wpAny_call_entry slot_list_sort ⟨_, hat, rfl⟩ entry_list_sort ?body (args_list_sort _)))
  case body =>
    refine PySem.W.list_sort_vals (s := { s with heap := s.heap.push (seqObj "list" acc.toArray 0) }) hat S hz2 ⟨_, rfl, wpAny_pure (hR _ _ ?_)⟩
    have each := PySem.W.sortVals_data false rel rd al
    generalize PySem.W.sortVals (PySem.W.dataKind (PySem.W.sortingHeap (s.heap.push (seqObj "list" acc.toArray 0)) s.heap.objs.size acc) (ys.map dd)) false acc acc = out at each ⊢
    obtain ⟨ee, he'⟩ := PyProof.Rows.sortedHeap_at (vs := acc) (out := out.toArray) hat
    have hl2 : ((ys.mergeSort (PySem.W.dataLe false dd)).map v).length ≤ sizeLine := by
      rw [List.length_map, List.length_mergeSort]
      omega
    have free : H s.heap.objs.size = none := I.hok.fresh (Nat.le_refl _)
    have gone : s.heap.get? s.heap.objs.size = none := by
      cases e : s.heap.get? s.heap.objs.size with
      | none => rfl
      | some ob => exact absurd rfl (hlt _ ob e)
    exact ⟨.ref s.heap.objs.size, upd H s.heap.objs.size (.lst ((ys.mergeSort (PySem.W.dataLe false dd)).map v)), I.laidN (t' := s.toks) (fun b ob e => by rw [PyProof.Rows.sortedHeap_old (hlt b ob e) (Heap.lt_size (old b ob e))]; exact old b ob e) gone free ⟨hl2, out, ee, vals_each (v := v) each, by simpa using he'⟩, rfl, qq _ free⟩
/-! ### sorted(d): a dict by numbers -/
def rSortKI (K : PySem.W.Frag) : List V → Hp → VK → Prop := fun vs H Q => ∃ (a : Addr) (kvs : List (Key × V)) (ks : List Int), vs = [.ref a] ∧ Rd H a (.dK kvs) ∧ kvs.map (·.1) = ks.map Sum.inl ∧ ∀ p, H p = none → Q (.ref p) (upd H p (.lst ((ks.mergeSort (PySem.W.dataLe false PyData.int)).map V.int)))
theorem cr_sortKI (K : PySem.W.Frag) {X : Cx} (calm : X.calm = true) (hu : X.A.units + 64 < cLine) (hK : X.K = K := by rfl) : CallR X (.builtin "sorted") (rSortKI K) := by
  subst hK
  intro pins s σ H xs us Q I r q
  obtain ⟨a, kvs, ks, ex, hd, hks, q⟩ := q
  subst ex
  obtain ⟨u, eu, rx⟩ := vals1 r
  subst eu
  cases rx
  obtain ⟨z, lo, vs, rel, dd⟩ := dk_rd I.hok hd
  obtain ⟨ep, hat⟩ := dd.dictAt
  have hkeys : vs.map (·.1) = ks.map Sum.inl := rel.keys.symm.trans hks
  have hl : vs.length = ks.length := by
    have e := congrArg List.length hkeys
    rw [List.length_map, List.length_map] at e
    exact e
  have hkl : kvs.length = ks.length := by
    have e := congrArg List.length hks
    rw [List.length_map, List.length_map] at e
    exact e
  have h16 : vs.length ≤ sizeLine := by omega
  refine Calls.call_function_entry PyProof.Rows.kind_sorted PyProof.Rows.plain_sorted PyProof.Rows.entry_sorted (PyProof.Rows.args_sorted1 _) ?_
  unfold Builtin.«sorted»
  refine wpAny_bind (m := checkCount "sorted" 1 1 _) (wpAny_pure ?_)
  refine wpAny_bind (PySem.W.kdu_collect (A := X.A.in1) (PySem.W.kdl_dict (knd := mixKind X.prog X.w) (kvs := vs) (ep := ep) lo) (I.ok.hd calm) hat h16 fun h' tk acc hk hacc => ?_)
  have hal : acc.toList.length = ks.length := by rw [Array.length_toList, hacc.1, hl]
  have hS : IntsAre acc.toList ks := ints_each hal fun j v e => by
    obtain ⟨k, x, e1, e2⟩ := hacc.2 j v (by rw [← Array.getElem?_toList]; exact e)
    have e3 : (vs.map (·.1))[j]? = some k := by rw [List.getElem?_map, e1]; rfl
    rw [hkeys, List.getElem?_map] at e3
    cases e4 : ks[j]? with
    | none => rw [e4] at e3; cases e3
    | some y =>
      rw [e4] at e3
      have e5 : Sum.inl y = k := Option.some.inj e3
      subst e5
      rcases keyIs_shape (show keyIs (Sum.inl y) v = true from e2) with ⟨i, t, ek, ev⟩ | ⟨z, t, ek, ev⟩
      · cases ek
        exact ⟨y, t, rfl, ev⟩
      · cases ek
  have I1 : Inv X pins σ H { s with heap := h', toks := tk } := I.kept hk
  refine sort_tail I1 hu (v := V.int) (dd := PyData.int) (ys := ks) (vals_of_ints hS) (fun y _ => ⟨.int _, by simp [PyData.depth]⟩) (PySem.W.AllAlike.of fun b b' => by simp [PySem.W.alike]) (PySem.W.Sortable.others fun b => ⟨(fun z => by cases z), fun xs z => by cases z⟩) (by omega) q fun l s' h => ⟨_, rfl, h⟩
/-! ### sorted(d.items()): a dict by numbers, of numbers -/
theorem laid_tuples {X : Cx} {pins : List (Addr × Obj)} {σ : L2.St} {H : Hp} {s : Shared} {h' : Heap} {tk : Nat} {kvs : List (Key × V)} {vs : List (Key × Value)} {as : List Addr} (I : Inv X pins σ H s) (kv : KV kvs vs)
    (hk : ∀ b o, s.heap.get? b = some o → h'.get? b = some o) (hl : as.length = vs.length) (hG : PySem.W.KdxG (mixKind X.prog X.w) vs s.heap.objs.size h' as) :
    ∃ H' : Hp, Ext H H' ∧ Paired (fun (t : Addr) (q : Key × V) => H' t = some (.tup [kV q.1, q.2])) as kvs ∧ Inv X pins σ H' { s with heap := h', toks := tk } := by
  have lk : kvs.length = vs.length := Paired.length kv
  have nd : as.Nodup := List.Pairwise.imp (fun {a b} (h : a < b) => Nat.ne_of_lt h) hG.rise
  have new : ∀ t ∈ as, H t = none := fun t ht => I.hok.fresh (Nat.le_of_lt (hG.above t ht))
  have atP := LiI.putT_at as kvs H (by omega) nd
  have off : ∀ b, b ∉ as → LiI.putT H as kvs b = H b := fun b h1 => LiI.putT_off as kvs _ h1
  have low : ∀ b o, s.heap.get? b = some o → b ∉ as := fun b o e z => absurd (Heap.lt_size e) (Nat.not_lt.mpr (Nat.le_of_lt (hG.above b z)))
  have kp : ∀ b u, H b = some u → (LiI.putT H as kvs) b = some u := fun b u e => by
    rw [off b (fun z => by rw [new b z] at e; cases e)]
    exact e
  refine ⟨LiI.putT H as kvs, kp, atP, ?_⟩
  refine I.call' (ch := []) rfl ⟨fun b o q _ _ _ => hk b o q, fun b o q _ _ _ => ⟨o.slots, hk b o q⟩, fun b o q n _ => ?_, fun b o q _ => ⟨o, hk b o q⟩, fun b xs q => kp b _ q, fun b o u q => kp b _ q, fun b ps q => ⟨#[], by rw [kp b _ q]; simp⟩⟩ (fun b u q => ?_) I.bare fun b z => by simp at z
  · rw [off b (low b o q)]
    exact n
  · by_cases hb : b ∈ as
    · obtain ⟨j, pk, e1, e2, e3⟩ := LiI.paired_ix atP hb
      rw [e3] at q
      cases q
      obtain ⟨key, k, x, f1, f2, f3⟩ := hG.pairs j b e1
      obtain ⟨qv, g1, g2, g3⟩ := LiI.paired_get kv e2
      rw [f1] at g1
      cases g1
      have rk : RelV (kV pk.1) key := by
        rw [g2]
        exact relV_key (show keyIs k key = true from f2)
      exact ⟨by show 2 ≤ sizeLine; decide, [key, x], .cons rk (.cons g3 .nil), ⟨_, f3, rfl, _, rfl⟩⟩
    · rw [off b hb] at q
      exact (I.hok b u q).stay (fun d v _ y => hk d v y) (fun d y => kp d _ y) fun d xs y => kp d _ y
def d2 (y : Addr × Int × Int) : PyData := .tuple [.int y.2.1, .int y.2.2]
def tSortItems (te : TE) : TE := fun σ H Q => te σ H fun x H1 => ∃ (d : Addr) (t : List (Int × Int)), x = .ref d ∧ H1 d = some (.dK (t.map fun y => (.inl y.1, .int y.2))) ∧
  ∀ (p : Addr) (ys : List (Addr × Int × Int)) (H' : Hp), H1 p = none → Ext H1 H' → H' p = some (.lst (ys.map fun y => .ref y.1)) → (∀ y ∈ ys, H' y.1 = some (.tup [.int y.2.1, .int y.2.2])) → ys.map (·.2) = t.mergeSort (PySem.W.dataLe false fun z : Int × Int => PyData.tuple [.int z.1, .int z.2]) → Q (.ref p) H'
theorem pe_sortItems {X : Cx} {o : Expr} {p pos apos mpos : Pos} {td : TE} (calm : X.calm = true) (hu : X.A.units + 64 < cLine) (gl : Gl X "sorted") (free : X.mg "sorted" = none) (ho : PE X o td) (b0 : attributeBase o "items" X.env (eval o X.env) = eval o X.env := by rfl) (l0 : (apos.endLine == mpos.line) = true := by rfl)
    (st : starEach [Expr.Call (.Attribute o "items" apos) [] [] mpos] X.env = [(false, eval (Expr.Call (.Attribute o "items" apos) [] [] mpos) X.env)] := by rfl) : PE X (.Call (.Name "sorted" p) [.Call (.Attribute o "items" apos) [] [] mpos] [] pos) (tSortItems td) := by
  refine ⟨fun pins s σ H Q I h => wpAny_Call_Name_kw (ld_blt I gl free (u := .builtin "sorted") (by decide +kernel) ?_ (by decide) (by decide))⟩
  rw [st]
  refine PySem.callWith_builtin1 (wpAny_Call_method0_late b0 l0 (thn (ho.run pins s σ H _ I h) fun v s1 ⟨x, H1, I1, r1, a, t, ex, ha, q⟩ => ?_))
  subst ex
  obtain rfl : v = Value.ref a := r1
  obtain ⟨hz, nsys, vs, rel, dof⟩ := dk_of I1.hok ha
  obtain ⟨ep, dat⟩ := dof.dictAt
  obtain ⟨ob, es, hob, ex, _⟩ := id dat
  have low : a < s1.heap.objs.size := Heap.lt_size hob
  refine ⟨"dict", "dict.items", F.plainAttrs_dict, F.slot_dict_items, F.type_dict_items, ⟨ob, hob, ex.1⟩, fun b e => by cases e; exact ⟨ob, hob, ex.2.1⟩, Calls.callWith_builtin rfl (PySem.evalArgs_none ?_)⟩
  refine call_meetsIn F.slot_dict_items ⟨ob, hob, ex.1⟩ F.entry_dict_items (F.args_dict_items_1 _) (meets_dict_items (mixKind X.prog X.w) a nsys) ⟨⟨vs, dof⟩, ?_⟩
  have len : vs.length = t.length := by
    have e1 := KV.length rel
    rw [List.length_map] at e1
    exact e1.symm
  have hz' : t.length ≤ sizeLine := by
    rw [List.length_map] at hz
    exact hz
  have I2 : Inv X pins σ H1 { s1 with heap := s1.heap.push { cls := .type "dict_items", data := .fields #[.ref a] } } := I1.kept (t' := s1.toks) fun b ob q => Heap.get?_push_of_some _ q
  refine Calls.call_function_entry PyProof.Rows.kind_sorted PyProof.Rows.plain_sorted PyProof.Rows.entry_sorted (PyProof.Rows.args_sorted1 _) ?_
  unfold Builtin.«sorted»
  refine wpAny_bind (m := checkCount "sorted" 1 1 _) (wpAny_pure ?_)
  refine wpAny_bind (PySem.W.kdx_collect (A := X.A.in1) (knd := mixKind X.prog X.w) (kvs := vs) (ep := ep) (I.ok.hd calm) ⟨_, Heap.get?_push_size _ rfl, rfl, rfl⟩ (dat.push _) (by omega) fun h' tk as hk hl hG => ?_)
  obtain ⟨H', k1, k6, J⟩ := laid_tuples (tk := tk) I2 rel hk hl hG
  have hal : as.length = t.length := by omega
  have e1 : (as.zip t).map (·.1) = as := List.map_fst_zip (by omega)
  have e2 : (as.zip t).map (·.2) = t := List.map_snd_zip (by omega)
  have hat : ∀ y ∈ as.zip t, H' y.1 = some (.tup [.int y.2.1, .int y.2.2]) := by
    have : ∀ {as : List Addr} {t : List (Int × Int)}, Paired (fun (b : Addr) (q : Key × V) => H' b = some (.tup [kV q.1, q.2])) as (t.map fun y => ((.inl y.1 : Key), V.int y.2)) → ∀ y ∈ as.zip t, H' y.1 = some (.tup [.int y.2.1, .int y.2.2]) := by
      intro as
      induction as with
      | nil => intro t _ y hy; cases hy
      | cons b as ih =>
        intro t hp y hy
        cases t with
        | nil => cases hy
        | cons z t =>
          rw [List.map_cons] at hp
          cases hp with
          | cons r tl =>
            rcases List.mem_cons.mp hy with rfl | hy
            · exact r
            · exact ih tl y hy
    exact this k6
  have rv : Vals ((as.zip t).map fun y => V.ref y.1) (as.map Value.ref) := by
    have e3 : ((as.zip t).map fun y => V.ref y.1) = as.map V.ref := by
      have := congrArg (List.map V.ref) e1
      rw [List.map_map] at this
      exact this
    rw [e3]
    exact LiI.vals_refs as
  refine sort_tail J hu (v := fun y : Addr × Int × Int => V.ref y.1) (dd := d2) (ys := as.zip t) rv (fun y hy => ⟨.tup (SqT.of (hat y hy)) (.cons (.int _) (.cons (.int _) .nil)), by simp [d2, PyData.depth, PyData.depthAll]⟩) (PySem.W.AllAlike.of fun b b' => by simp [d2, PySem.W.alike, PySem.W.alikeAll]) (PySem.W.Sortable.tuples fun b => ⟨_, _, rfl⟩) (by rw [List.length_zip]; omega) (fun p hp => ?_) fun l s' h => ⟨_, rfl, h⟩
  have xp := Ext.new (o := .lst (((as.zip t).mergeSort (PySem.W.dataLe false d2)).map fun y => V.ref y.1)) hp
  refine q p _ _ (k1.none hp) (k1.trans xp) upd_same (fun y hy => xp _ _ (hat y ((List.mergeSort_perm _ _).mem_iff.mp hy))) ?_
  have hm := List.map_mergeSort (r := PySem.W.dataLe false d2) (s := PySem.W.dataLe false fun z : Int × Int => PyData.tuple [.int z.1, .int z.2]) (f := fun b : Addr × Int × Int => b.2) (l := as.zip t) (fun a _ b _ => rfl)
  rw [e2] at hm
  exact hm
end Pf


namespace Pf
open PySem PySem.Spec PyProof.Rows L2
/-! ### sorted(d.items()): a dict by texts, of numbers -/
def d2S (y : Addr × Str × Int) : PyData := .tuple [.str y.2.1, .int y.2.2]
def tSortItemsS (te : TE) : TE := fun σ H Q => te σ H fun x H1 => ∃ (d : Addr) (t : List (Str × Int)), x = .ref d ∧ H1 d = some (.dK (t.map fun y => (.inr y.1, .int y.2))) ∧
  ∀ (p : Addr) (ys : List (Addr × Str × Int)) (H' : Hp), H1 p = none → Ext H1 H' → H' p = some (.lst (ys.map fun y => .ref y.1)) → (∀ y ∈ ys, H' y.1 = some (.tup [.str y.2.1, .int y.2.2])) → ys.map (·.2) = t.mergeSort (PySem.W.dataLe false fun z : Str × Int => PyData.tuple [.str z.1, .int z.2]) → Q (.ref p) H'
theorem pe_sortItemsS {X : Cx} {o : Expr} {p pos apos mpos : Pos} {td : TE} (calm : X.calm = true) (hu : X.A.units + 64 < cLine) (gl : Gl X "sorted") (free : X.mg "sorted" = none) (ho : PE X o td) (b0 : attributeBase o "items" X.env (eval o X.env) = eval o X.env := by rfl) (l0 : (apos.endLine == mpos.line) = true := by rfl)
    (st : starEach [Expr.Call (.Attribute o "items" apos) [] [] mpos] X.env = [(false, eval (Expr.Call (.Attribute o "items" apos) [] [] mpos) X.env)] := by rfl) : PE X (.Call (.Name "sorted" p) [.Call (.Attribute o "items" apos) [] [] mpos] [] pos) (tSortItemsS td) := by
  refine ⟨fun pins s σ H Q I h => wpAny_Call_Name_kw (ld_blt I gl free (u := .builtin "sorted") (by decide +kernel) ?_ (by decide) (by decide))⟩
  rw [st]
  refine PySem.callWith_builtin1 (wpAny_Call_method0_late b0 l0 (thn (ho.run pins s σ H _ I h) fun v s1 ⟨x, H1, I1, r1, a, t, ex, ha, q⟩ => ?_))
  subst ex
  obtain rfl : v = Value.ref a := r1
  obtain ⟨hz, nsys, vs, rel, dof⟩ := dk_of I1.hok ha
  obtain ⟨ep, dat⟩ := dof.dictAt
  obtain ⟨ob, es, hob, ex, _⟩ := id dat
  have low : a < s1.heap.objs.size := Heap.lt_size hob
  refine ⟨"dict", "dict.items", F.plainAttrs_dict, F.slot_dict_items, F.type_dict_items, ⟨ob, hob, ex.1⟩, fun b e => by cases e; exact ⟨ob, hob, ex.2.1⟩, Calls.callWith_builtin rfl (PySem.evalArgs_none ?_)⟩
  refine call_meetsIn F.slot_dict_items ⟨ob, hob, ex.1⟩ F.entry_dict_items (F.args_dict_items_1 _) (meets_dict_items (mixKind X.prog X.w) a nsys) ⟨⟨vs, dof⟩, ?_⟩
  have len : vs.length = t.length := by
    have e1 := KV.length rel
    rw [List.length_map] at e1
    exact e1.symm
  have hz' : t.length ≤ sizeLine := by
    rw [List.length_map] at hz
    exact hz
  have I2 : Inv X pins σ H1 { s1 with heap := s1.heap.push { cls := .type "dict_items", data := .fields #[.ref a] } } := I1.kept (t' := s1.toks) fun b ob q => Heap.get?_push_of_some _ q
  refine Calls.call_function_entry PyProof.Rows.kind_sorted PyProof.Rows.plain_sorted PyProof.Rows.entry_sorted (PyProof.Rows.args_sorted1 _) ?_
  unfold Builtin.«sorted»
  refine wpAny_bind (m := checkCount "sorted" 1 1 _) (wpAny_pure ?_)
  refine wpAny_bind (PySem.W.kdx_collect (A := X.A.in1) (knd := mixKind X.prog X.w) (kvs := vs) (ep := ep) (I.ok.hd calm) ⟨_, Heap.get?_push_size _ rfl, rfl, rfl⟩ (dat.push _) (by omega) fun h' tk as hk hl hG => ?_)
  obtain ⟨H', k1, k6, J⟩ := laid_tuples (tk := tk) I2 rel hk hl hG
  have hal : as.length = t.length := by omega
  have e1 : (as.zip t).map (·.1) = as := List.map_fst_zip (by omega)
  have e2 : (as.zip t).map (·.2) = t := List.map_snd_zip (by omega)
  have hat : ∀ y ∈ as.zip t, H' y.1 = some (.tup [.str y.2.1, .int y.2.2]) := by
    have : ∀ {as : List Addr} {t : List (Str × Int)}, Paired (fun (b : Addr) (q : Key × V) => H' b = some (.tup [kV q.1, q.2])) as (t.map fun y => ((.inr y.1 : Key), V.int y.2)) → ∀ y ∈ as.zip t, H' y.1 = some (.tup [.str y.2.1, .int y.2.2]) := by
      intro as
      induction as with
      | nil => intro t _ y hy; cases hy
      | cons b as ih =>
        intro t hp y hy
        cases t with
        | nil => cases hy
        | cons z t =>
          rw [List.map_cons] at hp
          cases hp with
          | cons r tl =>
            rcases List.mem_cons.mp hy with rfl | hy
            · exact r
            · exact ih tl y hy
    exact this k6
  have rv : Vals ((as.zip t).map fun y => V.ref y.1) (as.map Value.ref) := by
    have e3 : ((as.zip t).map fun y => V.ref y.1) = as.map V.ref := by
      have := congrArg (List.map V.ref) e1
      rw [List.map_map] at this
      exact this
    rw [e3]
    exact LiI.vals_refs as
  refine sort_tail J hu (v := fun y : Addr × Str × Int => V.ref y.1) (dd := d2S) (ys := as.zip t) rv (fun y hy => ⟨.tup (SqT.of (hat y hy)) (.cons (.str _) (.cons (.int _) .nil)), by simp [d2S, PyData.depth, PyData.depthAll]⟩) (PySem.W.AllAlike.of fun b b' => by simp [d2S, PySem.W.alike, PySem.W.alikeAll]) (PySem.W.Sortable.tuples fun b => ⟨_, _, rfl⟩) (by rw [List.length_zip]; omega) (fun p hp => ?_) fun l s' h => ⟨_, rfl, h⟩
  have xp := Ext.new (o := .lst (((as.zip t).mergeSort (PySem.W.dataLe false d2S)).map fun y => V.ref y.1)) hp
  refine q p _ _ (k1.none hp) (k1.trans xp) upd_same (fun y hy => xp _ _ (hat y ((List.mergeSort_perm _ _).mem_iff.mp hy))) ?_
  have hm := List.map_mergeSort (r := PySem.W.dataLe false d2S) (s := PySem.W.dataLe false fun z : Str × Int => PyData.tuple [.str z.1, .int z.2]) (f := fun b : Addr × Str × Int => b.2) (l := as.zip t) (fun a _ b _ => rfl)
  rw [e2] at hm
  exact hm
/-! ### the least of three -/
def rMin3 : List V → Hp → VK → Prop := fun xs H Q => ∃ i j k : Int, xs = [.int i, .int j, .int k] ∧ ∀ m : Int, m ≤ i → m ≤ j → m ≤ k → (m = i ∨ m = j ∨ m = k) → Q (.int m) H
theorem call_min3 {X : Cx} (hc : X.calm = true) : CallR X (.builtin "min") rMin3 := fun pins s σ H xs us Q I r h => by
  obtain ⟨i, j, k, ex, q⟩ := h
  refine call_min3Nu hc pins s σ H xs us Q I r ⟨.int i, .int j, .int k, .int (if k < (if j < i then j else i) then k else (if j < i then j else i)), ex, ?_, q _ ?_ ?_ ?_ ?_⟩
  · have e1 : nuMin2 (.int i) (.int j) = some (.int (if j < i then j else i)) := by
      show some (if decide (j < i) = true then V.int j else V.int i) = _
      by_cases h : j < i
      · rw [if_pos (decide_eq_true h), if_pos h]
      · rw [if_neg (fun z => h (of_decide_eq_true z)), if_neg h]
    show (nuMin2 (.int i) (.int j)).bind _ = _
    rw [e1]
    generalize (if j < i then j else i) = m
    show some (if decide (k < m) = true then V.int k else V.int m) = _
    by_cases h : k < m
    · rw [if_pos (decide_eq_true h), if_pos h]
    · rw [if_neg (fun z => h (of_decide_eq_true z)), if_neg h]
  all_goals (split <;> split <;> omega)
end Pf


namespace Pf
open PySem PySem.Spec PyProof.Rows L2
/-! ### dict(zip(a, b)) of two tuples -/
section
variable {P : Program} {w : World} {A : Around} {E : Value → Shared → Prop} {s : Shared} {q U O G j1 j2 m1 m2 : Addr} {f : Bool} {og : Obj} {k1 k2 : Nat} {us vs : Array Value}
theorem zn_item {u v : Value} {R : Value → Shared → Prop} (D : ZipApart q U O j1 j2 m1 m2) (hq : IsZipHeld s.heap q U O G f) (hG : s.heap.get? G = some og) (hU : IsPair s.heap U (.ref j1) (.ref j2)) (t1 : s.heap.IsTupleIter j1 m1 k1) (t2 : s.heap.IsTupleIter j2 m2 k2) (b1 : s.heap.IsTuple m1 us) (b2 : s.heap.IsTuple m2 vs) (eu : us[k1]? = some u) (ev : vs[k2]? = some v)
    (next : ∀ h', IsZipHeld h' q U O G true → h'.IsTupleIter j1 m1 (k1 + 1) → h'.IsTupleIter j2 m2 (k2 + 1) → IsPair h' s.heap.objs.size u v → (∀ c o, c ≠ q → c ≠ j1 → c ≠ j2 → s.heap.get? c = some o → h'.get? c = some o) → R (.ref s.heap.objs.size) { s with heap := h' }) :
    wpAny (model P w) A (Builtin.«zip.__next__» ⟨[.ref q], []⟩) (fun fin s' => ∃ v, fin = .done (.ret v) ∧ R v s') E s := by
  show wpAny _ _ (field (.ref q) 2 >>= _) _ _ _
  refine wpAny_bind (wpAny_field hq rfl (x := .bool false) rfl ?_)
  show wpAny _ _ (field (.ref q) 3 >>= _) _ _ _
  refine wpAny_bind (wpAny_field hq rfl (x := .ref U) rfl (wpAny_bind (wpAny_seqItems hU rfl ?_)))
  show wpAny _ _ (Builtin.SmallTypes.ownedTupleIsFree (.ref q) >>= _) _ _ _
  refine wpAny_bind (wpAny_tupleHeld_zip hq hG fun g1 q1 e1 => ?_)
  simp only [Bool.false_eq_true, if_false]; refine wpAny_bind ?_; rw [← Array.forIn_toList]; simp only [List.forIn_cons, List.forIn_nil]
  refine wpAny_bind (wpAny_bind (wpAny_holding ?_))
  show wpAny _ _ (Builtin.SmallTypes.nextOf (.ref j1) >>= _) _ _ _
  refine wpAny_bind (RZ.nextOf_tuple_item (s := { s with heap := g1 }) (t1.extBut e1.extBut D.i1z) (b1.extBut e1.extBut D.l1z) eu fun g2 t1b e2 => wpAny_pure (wpAny_pure ?_))
  refine wpAny_bind (wpAny_bind (wpAny_holding ?_))
  show wpAny _ _ (Builtin.SmallTypes.nextOf (.ref j2) >>= _) _ _ _
  refine wpAny_bind (RZ.nextOf_tuple_item (s := { s with heap := g2 }) ((t2.extBut e1.extBut D.i2z).extBut e2.extBut D.i12.symm) ((b2.extBut e1.extBut D.l2z).extBut e2.extBut D.l2i1) ev fun g3 t2b e3 => wpAny_pure (wpAny_pure (wpAny_pure ?_)))
  show wpAny _ _ (newTuple [u, v] >>= _) _ _ _
  refine wpAny_bind (wpAny_newTuple (wpAny_pure ⟨_, rfl, ?_⟩))
  have sz : g3.objs.size = s.heap.objs.size := by rw [e3.1, e2.1, e1.1]
  have q3 : IsZipHeld g3 q U O G true := e3.extBut _ _ D.i2z.symm (e2.extBut _ _ D.i1z.symm q1)
  have pr : IsPair (g3.push { cls := .type "tuple", data := .seq #[u, v] }) g3.objs.size u v := Heap.get?_push_size _ rfl
  show R (.ref g3.objs.size) _
  rw [sz] at pr ⊢
  exact next _ (Heap.get?_push_of_some _ q3) ((t1b.extBut e3.extBut D.i12).at fun o e => Heap.get?_push_of_some _ e) (t2b.at fun o e => Heap.get?_push_of_some _ e) pr fun c o c1 c2 c3 e => Heap.get?_push_of_some _ (e3.extBut _ _ c3 (e2.extBut _ _ c2 (e1.extBut _ _ c1 e)))
theorem zn_end {R : Fin → Shared → Prop} (hh : A.handled = none) (D : ZipApart q U O j1 j2 m1 m2) (hq : IsZipHeld s.heap q U O G f) (hG : s.heap.get? G = some og) (hU : IsPair s.heap U (.ref j1) (.ref j2)) (t1 : s.heap.IsTupleIter j1 m1 k1) (b1 : s.heap.IsTuple m1 us) (eu : us[k1]? = none)
    (next : ∀ h' e, (∀ c o, c ≠ q → c ≠ j1 → s.heap.get? c = some o → h'.get? c = some o) → (∃ o, h'.get? e = some o ∧ o.cls = .type "StopIteration") → E (.ref e) { s with heap := h' }) :
    wpAny (model P w) A (Builtin.«zip.__next__» ⟨[.ref q], []⟩) R E s := by
  show wpAny _ _ (field (.ref q) 2 >>= _) _ _ _
  refine wpAny_bind (wpAny_field hq rfl (x := .bool false) rfl ?_)
  show wpAny _ _ (field (.ref q) 3 >>= _) _ _ _
  refine wpAny_bind (wpAny_field hq rfl (x := .ref U) rfl (wpAny_bind (wpAny_seqItems hU rfl ?_)))
  show wpAny _ _ (Builtin.SmallTypes.ownedTupleIsFree (.ref q) >>= _) _ _ _
  refine wpAny_bind (wpAny_tupleHeld_zip hq hG fun g1 q1 e1 => ?_)
  simp only [Bool.false_eq_true, if_false]; refine wpAny_bind ?_; rw [← Array.forIn_toList]; simp only [List.forIn_cons, List.forIn_nil]
  refine wpAny_bind (wpAny_bind (wpAny_holding ?_))
  show wpAny _ _ (Builtin.SmallTypes.nextOf (.ref j1) >>= _) _ _ _
  exact wpAny_bind (RZ.nextOf_tuple_end (s := { s with heap := g1 }) hh (t1.extBut e1.extBut D.i1z) (b1.extBut e1.extBut D.l1z) eu fun g2 e e2 he => next g2 e (fun c o c1 c2 x => e2 _ _ c2 (e1.extBut _ _ c1 x)) he)
theorem zp_item {u v : Value} {R : Option Value → Shared → Prop} (D : ZipApart q U O j1 j2 m1 m2) (hq : IsZipHeld s.heap q U O G f) (hG : s.heap.get? G = some og) (hU : IsPair s.heap U (.ref j1) (.ref j2)) (t1 : s.heap.IsTupleIter j1 m1 k1) (t2 : s.heap.IsTupleIter j2 m2 k2) (b1 : s.heap.IsTuple m1 us) (b2 : s.heap.IsTuple m2 vs) (eu : us[k1]? = some u) (ev : vs[k2]? = some v)
    (next : ∀ h', IsZipHeld h' q U O G true → h'.IsTupleIter j1 m1 (k1 + 1) → h'.IsTupleIter j2 m2 (k2 + 1) → IsPair h' s.heap.objs.size u v → (∀ c o, c ≠ q → c ≠ j1 → c ≠ j2 → s.heap.get? c = some o → h'.get? c = some o) → R (some (.ref s.heap.objs.size)) { s with heap := h' }) :
    wpAny (model P w) A (pyNext (.ref q)) R E s := by
  have ty : s.TypeIs (.ref q) "zip" := ⟨_, hq, rfl⟩
  unfold pyNext
  exact wpAny_bind (wpAny_attempt (wpAny_callSpecial?_slot (name := Str.ofString "__next__") ty F.slot_zip_next (wpAny_call_entry F.slot_zip_next ty F.entry_zip_next (zn_item D hq hG hU t1 t2 b1 b2 eu ev fun h' a1 a3 a4 a5 a7 => wpAny_pure (next h' a1 a3 a4 a5 a7)) (F.args_zip_next_1 _))))
theorem zp_end {R : Option Value → Shared → Prop} (hh : A.handled = none) (D : ZipApart q U O j1 j2 m1 m2) (hq : IsZipHeld s.heap q U O G f) (hG : s.heap.get? G = some og) (hU : IsPair s.heap U (.ref j1) (.ref j2)) (t1 : s.heap.IsTupleIter j1 m1 k1) (b1 : s.heap.IsTuple m1 us) (eu : us[k1]? = none)
    (next : ∀ h', (∀ c o, c ≠ q → c ≠ j1 → s.heap.get? c = some o → h'.get? c = some o) → R none { s with heap := h' }) : wpAny (model P w) A (pyNext (.ref q)) R E s := by
  have ty : s.TypeIs (.ref q) "zip" := ⟨_, hq, rfl⟩
  unfold pyNext
  refine wpAny_bind (wpAny_attempt (wpAny_callSpecial?_slot (name := Str.ofString "__next__") ty F.slot_zip_next (wpAny_call_entry F.slot_zip_next ty F.entry_zip_next (zn_end hh D hq hG hU t1 b1 eu fun h' e kp ⟨o, ho, hc⟩ => ?_) (F.args_zip_next_1 _))))
  exact wpAny_bind (wpAny_isInstance (T := "StopIteration") (b := true) ⟨o, ho, hc⟩ isSubtype_stop (wpAny_pure (next _ kp)))
end
theorem zipT_arg {P : Program} {w : World} (q U O j1 j2 m1 m2 : Addr) (D : ZipApart q U O j1 j2 m1 m2) (us vs : Array Value) (hl : us.size = vs.size) :
    PairArg P w "zip" q [q, U, O, j1, j2, m1, m2] [q, O, j1, j2] us.size (fun i k v => us[i]? = some k ∧ vs[i]? = some v)
      (fun h => IsZip h q U O .none ∧ IsPair h U (.ref j1) (.ref j2) ∧ (∃ a b, IsPair h O a b) ∧ h.IsTupleIter j1 m1 0 ∧ h.IsTupleIter j2 m2 0 ∧ h.IsTuple m1 us ∧ h.IsTuple m2 vs) where
  type := fun s ok => ⟨_, ok.1, rfl⟩
  notDict := by decide
  keep := fun h h' ⟨z0, z1, ⟨a, b, z2⟩, z3, z4, z5, z6⟩ k => ⟨k _ _ z0, k _ _ z1, ⟨a, b, k _ _ z2⟩, z3.at fun o e => k _ o e, z4.at fun o e => k _ o e, z5.at fun o e => k _ o e, z6.at fun o e => k _ o e⟩
  there := fun h ⟨z0, z1, ⟨a, b, z2⟩, ⟨_, z3, _⟩, ⟨_, z4, _⟩, ⟨_, z5, _⟩, ⟨_, z6, _⟩⟩ c hc => by
    simp only [List.mem_cons, List.not_mem_nil, or_false] at hc
    rcases hc with rfl | rfl | rfl | rfl | rfl | rfl | rfl
    · exact ⟨_, z0⟩
    · exact ⟨_, z1⟩
    · exact ⟨_, z2⟩
    · exact ⟨_, z3⟩
    · exact ⟨_, z4⟩
    · exact ⟨_, z5⟩
    · exact ⟨_, z6⟩
  sub := fun b hb => by simp only [List.mem_cons, List.not_mem_nil, or_false] at hb ⊢; rcases hb with rfl | rfl | rfl | rfl <;> simp
  noKeys := fun A s Q E hA ok h => getAttrOr_miss_zip ok.1 rfl rfl rfl zip_no_keys (by decide +kernel) hA h
  iter := fun A s d Q E hA ⟨z0, z1, ⟨a, b, z2⟩, z3, z4, z5, z6⟩ hd hdf h => by
    simp only [List.mem_cons, List.not_mem_nil, or_false, not_or] at hdf
    obtain ⟨d0, d1, d2, d3, d4, d5, d6⟩ := hdf
    refine wpAny_pyIter_zip z0 (h q [q, O, j1, j2] (fun i h => IsPair h U (.ref j1) (.ref j2) ∧ h.IsTupleIter j1 m1 i ∧ h.IsTupleIter j2 m2 i ∧ h.IsTuple m1 us ∧ h.IsTuple m2 vs ∧ ((IsZip h q U O .none ∧ ∃ a b, IsPair h O a b) ∨ ∃ G f og, IsZipHeld h q U O G f ∧ h.get? G = some og ∧ G ≠ q ∧ G ≠ j1 ∧ G ≠ j2 ∧ G ≠ d)) s.heap s.toks ?_ ⟨z1, z3, z4, z5, z6, .inl ⟨z0, a, b, z2⟩⟩ (fun _ _ e => e) fun b hb => .inl hb)
    refine { off := fun hm => ?_, frame := fun i g1 g2 st k => ?_, item := fun i s1 Q1 E1 hi st hds next => ?_, done := fun s1 Q1 E1 st next => ?_ }
    · simp only [List.mem_cons, List.not_mem_nil, or_false] at hm
      rcases hm with e | e | e | e
      · exact d0 e
      · exact d2 e
      · exact d3 e
      · exact d4 e
    · obtain ⟨y1, y3, y4, y5, y6, y⟩ := st
      refine ⟨k _ _ (Ne.symm d1) y1, y3.at fun o e => k _ o (Ne.symm d3) e, y4.at fun o e => k _ o (Ne.symm d4) e, y5.at fun o e => k _ o (Ne.symm d5) e, y6.at fun o e => k _ o (Ne.symm d6) e, ?_⟩
      rcases y with ⟨y0, a, b, y2⟩ | ⟨G, f, og, y0, yG, r1, r2, r3, r4⟩
      · exact .inl ⟨k _ _ (Ne.symm d0) y0, a, b, k _ _ (Ne.symm d2) y2⟩
      · exact .inr ⟨G, f, og, k _ _ (Ne.symm d0) y0, k _ _ r4 yG, r1, r2, r3, r4⟩
    · obtain ⟨y1, y3, y4, y5, y6, y⟩ := st
      have eu := Array.getElem?_eq_getElem hi
      have ev := Array.getElem?_eq_getElem (hl ▸ hi : i < vs.size)
      have lt : ∀ {c o}, s1.heap.get? c = some o → s1.heap.objs.size ≠ c := fun e => Nat.ne_of_gt (Heap.lt_size e)
      have n1 : s1.heap.objs.size ≠ j1 := let ⟨_, e, _⟩ := y3; lt e
      have n2 : s1.heap.objs.size ≠ j2 := let ⟨_, e, _⟩ := y4; lt e
      rcases y with ⟨y0, a, b, y2⟩ | ⟨G, f, og, y0, yG, r1, r2, r3, r4⟩
      · refine RZ.pyNext_zipT_item D y0 y1 y2 y3 y4 y5 y6 eu ev fun h' a1 a2 a3 a4 a5 a6 k => ?_
        refine next s1.heap.objs.size _ _ h' s1.toks ⟨eu, ev⟩ (.inl ⟨_, a5, rfl, _, rfl⟩) ⟨k _ _ D.TIz D.TITO D.TIi1 D.TIi2 y1, a3, a4, y5.at fun o e => k _ o D.l1z D.l1TO D.l1i1 D.l1i2 e, y6.at fun o e => k _ o D.l2z D.l2TO D.l2i1 D.l2i2 e, .inr ⟨s1.heap.objs.size, false, _, a1, a5, lt y0, n1, n2, Nat.ne_of_gt hds⟩⟩ fun c o hc e => ?_
        simp only [List.mem_cons, List.not_mem_nil, or_false, not_or] at hc
        exact k c o hc.1 hc.2.1 hc.2.2.1 hc.2.2.2 e
      · refine zp_item D y0 yG y1 y3 y4 y5 y6 eu ev fun h' a1 a3 a4 a5 k => ?_
        refine next s1.heap.objs.size _ _ h' s1.toks ⟨eu, ev⟩ (.inl ⟨_, a5, rfl, _, rfl⟩) ⟨k _ _ D.TIz D.TIi1 D.TIi2 y1, a3, a4, y5.at fun o e => k _ o D.l1z D.l1i1 D.l1i2 e, y6.at fun o e => k _ o D.l2z D.l2i1 D.l2i2 e, .inr ⟨G, true, og, a1, k _ _ r1 r2 r3 yG, r1, r2, r3, r4⟩⟩ fun c o hc e => ?_
        simp only [List.mem_cons, List.not_mem_nil, or_false, not_or] at hc
        exact k c o hc.1 hc.2.2.1 hc.2.2.2 e
    · obtain ⟨y1, y3, y4, y5, y6, y⟩ := st
      have eu : us[us.size]? = none := Array.getElem?_eq_none (Nat.le_refl _)
      rcases y with ⟨y0, a, b, y2⟩ | ⟨G, f, og, y0, yG, r1, r2, r3, r4⟩
      · refine RZ.pyNext_zipT_end hA D y0 y1 y2 y3 y4 y5 y6 (.inl eu) fun h' k => next h' s1.toks fun c o hc e => ?_
        simp only [List.mem_cons, List.not_mem_nil, or_false, not_or] at hc
        exact k c o hc.1 hc.2.1 hc.2.2.1 hc.2.2.2 e
      · refine zp_end hA D y0 yG y1 y3 y5 eu fun h' k => next h' s1.toks fun c o hc e => ?_
        simp only [List.mem_cons, List.not_mem_nil, or_false, not_or] at hc
        exact k c o hc.1 hc.2.2.1 e
theorem kv_zip {P : Program} {w : World} : ∀ {kvs : List (Key × V)} {its its2 : List Value}, Vals (kvs.map fun x => kV x.1) its → Vals (kvs.map (·.2)) its2 → ∃ prs : List (Key × Value), KV kvs prs ∧ prs.length = kvs.length ∧ ∀ (i : Nat) (key v : Value), its[i]? = some key → its2[i]? = some v → ∃ k, prs[i]? = some (k, v) ∧ (mixKind P w).is k key = true
  | [], _, _, r1, r2 => ⟨[], .nil, rfl, fun i key v e _ => by
      cases r1
      cases e⟩
  | (k, y) :: rest, _, _, r1, r2 => by
    rw [List.map_cons] at r1 r2
    cases r1 with
    | cons a1 t1 =>
      cases r2 with
      | cons a2 t2 =>
        obtain ⟨prs, r, hl, hp⟩ := kv_zip (P := P) (w := w) t1 t2
        refine ⟨(k, _) :: prs, .cons ⟨rfl, a2⟩ r, by rw [List.length_cons, List.length_cons, hl], fun i key v e e2 => ?_⟩
        cases i with
        | zero =>
          rw [List.getElem?_cons_zero] at e e2
          cases e
          cases e2
          exact ⟨k, rfl, kV_is a1⟩
        | succ i =>
          rw [List.getElem?_cons_succ] at e e2
          exact hp i key v e e2
def tDz (K : PySem.W.Frag) (ta : TA) : TE := fun σ H Q => ta σ H fun vs H1 => ∃ (a b : Addr) (kvs : List (Key × V)), vs = [.ref a, .ref b] ∧ SqT K H1 a (kvs.map fun x => kV x.1) ∧ SqT K H1 b (kvs.map (·.2)) ∧ ∀ p, H1 p = none → Q (.ref p) (upd H1 p (.dK (mergeK [] kvs)))
theorem pe_dictZip {X : Cx} {e e2 : Expr} {ta : TA} {p p2 pos pos2 : Pos} (hgd : Gl X "dict") (hmd : X.mg "dict" = none) (hg : Gl X "zip") (hm : X.mg "zip" = none) (hcalm : X.calm = true) (ha : PA X [e, e2] ta)
    (na : starEach [.Call (.Name "zip" p2) [e, e2] [] pos2] X.env = (false, eval (.Call (.Name "zip" p2) [e, e2] [] pos2) X.env) :: starEach [] X.env := by rfl)
    (hs : starEach [e, e2] X.env = (false, eval e X.env) :: starEach [e2] X.env := by rfl) (hpl : (backTo pos2 (starEach [e2] X.env)).any (·.1) = false := by rfl) :
    PE X (.Call (.Name "dict" p) [.Call (.Name "zip" p2) [e, e2] [] pos2] [] pos) (tDz X.K ta) := by
  refine ⟨fun pins s σ H Q I h => ?_⟩
  refine Call_ (ld_blt I hgd hmd PyProof.Rows.boot_dict (PyProof.Rows.callWith_type1 (args_cons (Call_ (ld_blt I hg hm PyProof.Rows.boot_zip (PyProof.Rows.callWith_type1 (thn (ha.run pos2 pins s σ H _ I h) fun us s1 ⟨vs, H1, I1, r1, q1⟩ => ?_) hs hpl))) na) na))
  obtain ⟨a, b, kvs, rfl, ha1, hb1, q⟩ := q1
  cases r1 with
  | cons ra rr =>
    cases rr with
    | cons rb rr =>
      cases rr
      cases ra
      cases rb
      obtain ⟨its, v1, p1, hz1⟩ := I1.tuple ha1
      obtain ⟨its2, v2, p2', hz2⟩ := I1.tuple hb1
      obtain ⟨o1, ho1, y1⟩ := id p1
      obtain ⟨o2, ho2, y2⟩ := id p2'
      obtain ⟨prs, rel, hl, hp⟩ := kv_zip (P := X.prog) (w := X.w) v1 v2
      have l1 : its.length = kvs.length := by
        have := v1.length
        rw [List.length_map] at this
        exact this.symm
      have l2 : its2.length = kvs.length := by
        have := v2.length
        rw [List.length_map] at this
        exact this.symm
      rw [List.length_map] at hz1
      refine RZ.call_zipT (show s1.heap.IsTuple a its.toArray from p1) (show s1.heap.IsTuple b its2.toArray from p2') fun h' hz hTI hTO t1 t2 hsz hk => args_nil ?_
      have D := PySem.W.ktu_apart s1.heap.objs.size a b (Heap.lt_size ho1) (Heap.lt_size ho2)
      refine PySem.call_dict_pairs (knd := mixKind X.prog X.w) (kvs := prs) (zipT_arg _ _ _ _ _ a b D its.toArray its2.toArray (by rw [List.size_toArray, List.size_toArray, l1, l2])) (I1.ok.hd hcalm) ⟨hz, hTI, ⟨_, _, hTO⟩, t1, t2, ⟨o1, hk _ _ ho1, y1⟩, ⟨o2, hk _ _ ho2, y2⟩⟩ ⟨?_, fun i key v e => ?_⟩ ?_ fun h2 tk hd hk2 => ?_
      · rw [hl, List.size_toArray, l1]
      · exact hp i key v (by simpa using e.1) (by simpa using e.2)
      · rw [List.size_toArray, l1]
        exact hz1
      · have keep : ∀ c o, s1.heap.get? c = some o → h2.get? c = some o := fun c o e => by
          have hlt := Heap.lt_size e
          refine hk2 c o (fun hm => ?_) (hk c o e)
          simp only [List.mem_cons, List.not_mem_nil, or_false] at hm
          rcases hm with z | z | z | z
          · exact Nat.not_lt.mpr (Nat.le_add_right _ _) (z ▸ hlt)
          · exact Nat.not_lt.mpr (Nat.le_add_right _ _) (z ▸ hlt)
          · exact Nat.not_lt.mpr (Nat.le_refl _) (z ▸ hlt)
          · exact Nat.not_lt.mpr (Nat.le_add_right _ _) (z ▸ hlt)
        have hle : s1.heap.objs.size ≤ h'.objs.size := by
          rw [hsz]
          exact Nat.le_add_right _ _
        have hm : (h'.objs.size == sysModules) = false := beq_eq_false_iff_ne.mpr (Nat.ne_of_gt (Nat.lt_of_lt_of_le I1.big hle))
        have hlen : (mergeK [] kvs).length ≤ sizeLine := by
          refine Nat.le_trans (length_mergeK kvs []) ?_
          rw [List.length_nil, Nat.zero_add]
          exact hz1
        exact ⟨.ref h'.objs.size, upd H1 h'.objs.size (.dK (mergeK [] kvs)), I1.laid (t' := tk) keep hle (show ObjOk X.prog X.w _ _ _ (.dK (mergeK [] kvs)) from ⟨hlen, hm, merged [] prs, KV.merge rel .nil, hd⟩), rfl, q _ (I1.hok.fresh hle)⟩
end Pf


namespace Pf
open PySem PySem.Spec PyProof.Rows L2
/-! ### sum(lists, start) -/
abbrev LiO (its : List Value) (n : Nat) : Obj := { cls := .type "list", dict := none, data := .seq its.toArray n, slots := #[] }
section
variable {P : Program} {w : World} {A : Around} {R : Result → Shared → Prop} {I l S : Addr} {items : Array Value}
theorem suml_loop (hh : A.in1.handled = none) (nIS : I ≠ S) (nIl : l ≠ I) (nSl : l ≠ S) : ∀ (rest : List (Addr × List Value)) (i : Nat) (s : Shared) (t : Addr) (acc : List Value) (c1 ct : Nat), items.size = i + rest.length → s.heap.IsListIter I l i → s.heap.IsList l items →
    (∀ (j : Nat) (x : Addr × List Value), rest[j]? = some x → items[i + j]? = some (.ref x.1) ∧ x.1 ≠ I ∧ x.1 ≠ S ∧ ∃ c, s.heap.get? x.1 = some (LiO x.2 c)) → s.heap.get? S = some (LiO [.ref t] c1) → s.heap.get? t = some (LiO acc ct) → t ≠ I → t ≠ S →
    acc.length + (rest.map (·.2)).flatten.length ≤ sizeLine →
    (∀ h' tk t' c', h'.get? t' = some (LiO (acc ++ (rest.map (·.2)).flatten) c') → (rest = [] → t' = t) → (rest ≠ [] → s.heap.objs.size ≤ t') → (∀ b o, b ≠ I → b ≠ S → s.heap.get? b = some o → h'.get? b = some o) → R (.ok (.ret (.ref t'))) { s with heap := h', toks := tk }) →
    codeAny (model P w) A (.builtin "sum.loop" ⟨[.ref I, .ref S, rawInt 2, rawInt 0], []⟩) R s
  | [], i, s, t, acc, c1, ct, hn, it, hl, _, hS, ht, _, _, _, hR => by
    refine codeAny_builtin F.entry_sum_loop ?_; rw [Around.under_plainId F.plain_sum_loop _]
    show wpAny _ A.in1 (seqItems? (.ref S) >>= _) _ _ _
    refine wpAny_bind (wpAny_seqItems hS rfl ?_)
    show wpAny _ A.in1 (tryCatch (pyNext (.ref I)) _ >>= _) _ _ _
    refine wpAny_bind (wpAny_tryCatch (wpAny_pyNext_list_end hh it hl (Array.getElem?_eq_none (by rw [hn]; exact Nat.le_refl _)) fun h' he => ?_))
    exact wpAny_pure (hR h' s.toks t ct (by rw [List.map_nil, List.flatten_nil, List.append_nil]; exact he t _ (by assumption) ht) (fun _ => rfl) (fun z => absurd rfl z) fun b o n1 _ e => he b o n1 e)
  | (b, ys) :: rest, i, s, t, acc, c1, ct, hn, it, hl, hx, hS, ht, ntI, ntS, hz, hR => by
    obtain ⟨e0, nbI, nbS, cb, hb⟩ := hx 0 (b, ys) rfl
    rw [List.map_cons, List.flatten_cons] at hR
    rw [List.map_cons, List.flatten_cons, List.length_append] at hz
    have hz : acc.length + (ys.length + (rest.map (·.2)).flatten.length) ≤ sizeLine := hz
    refine codeAny_builtin F.entry_sum_loop ?_; rw [Around.under_plainId F.plain_sum_loop _]
    show wpAny _ A.in1 (seqItems? (.ref S) >>= _) _ _ _
    refine wpAny_bind (wpAny_seqItems hS rfl ?_)
    show wpAny _ A.in1 (tryCatch (pyNext (.ref I)) _ >>= _) _ _ _
    refine wpAny_bind (wpAny_tryCatch (wpAny_pyNext_list_item it hl e0 fun h1 it1 s1 => ?_))
    have hS1 := s1.extBut _ _ nIS.symm hS
    have ht1 := s1.extBut _ _ ntI ht
    have hb1 := s1.extBut _ _ nbI hb
    show wpAny _ A.in1 ((holding [Value.ref b] (binaryOp .Add (.ref t) (.ref b))).attempt >>= _) _ _ _
    refine wpAny_bind (wpAny_attempt (wpAny_holding (PySem.P.add_list (n := ct) (n2 := cb) ht1 hb1 ?_ (by rw [List.size_toArray, List.size_toArray]; show acc.length + ys.length ≤ _; omega))))
    have ea : acc.toArray ++ ys.toArray = (acc ++ ys).toArray := by simp
    rw [ea]
    have sz1 : h1.objs.size = s.heap.objs.size := s1.1
    generalize hh2 : h1.push { cls := Value.type "list", data := Data.seq (acc ++ ys).toArray } = h2
    have up2 : ∀ c o, h1.get? c = some o → h2.get? c = some o := fun c o e => hh2 ▸ Heap.get?_push_of_some _ e
    have new2 : h2.get? h1.objs.size = some (LiO (acc ++ ys) 0) := hh2 ▸ Heap.get?_push_size _ rfl
    have sz2 : h2.objs.size = h1.objs.size + 1 := hh2 ▸ Heap.size_push ..
    have ltS : S < h1.objs.size := Heap.lt_size hS1
    have ltI : I < h1.objs.size := by
      obtain ⟨_, e, _⟩ := it1
      exact Heap.lt_size e
    show wpAny _ A.in1 (updateSeq S (fun _ => #[.ref h1.objs.size]) >>= _) _ _ _
    refine wpAny_bind (wpAny_updateSeq (up2 _ _ hS1) rfl ?_)
    have hS3 := Heap.get?_update_self (Obj.mapSeq fun _ => #[Value.ref h1.objs.size]) (up2 _ _ hS1) rfl
    refine wpAny_bind (wpAny_letGo ?_)
    refine wpAny_bind (wpAny_updateSeq hS3 rfl (wpAny_pure ⟨plainId_quiet F.plain_sum_loop _, ?_⟩))
    have hS4 := Heap.get?_update_self (Obj.mapSeq fun _ => #[Value.ref h1.objs.size]) hS3 rfl
    have up4 : ∀ c o, c ≠ S → h2.get? c = some o → ((h2.update S (Obj.mapSeq fun _ => #[Value.ref h1.objs.size])).update S (Obj.mapSeq fun _ => #[Value.ref h1.objs.size])).get? c = some o := fun c o n e => (Heap.get?_update_other _ _ n.symm).trans ((Heap.get?_update_other _ _ n.symm).trans e)
    have all : ∀ c o, c ≠ I → c ≠ S → s.heap.get? c = some o → ((h2.update S (Obj.mapSeq fun _ => #[Value.ref h1.objs.size])).update S (Obj.mapSeq fun _ => #[Value.ref h1.objs.size])).get? c = some o := fun c o n1 n2 e => up4 c o n2 (up2 _ _ (s1.extBut _ _ n1 e))
    refine suml_loop hh nIS nIl nSl rest (i + 1) { s with heap := (h2.update S (Obj.mapSeq fun _ => #[Value.ref h1.objs.size])).update S (Obj.mapSeq fun _ => #[Value.ref h1.objs.size]) } h1.objs.size (acc ++ ys) _ 0 ?_ ?_ ?_ (fun j x hj => ?_) hS4 (up4 _ _ (Nat.ne_of_gt ltS) new2) (Nat.ne_of_gt ltI) (Nat.ne_of_gt ltS) ?_ fun h' tk t' c' g1 g2 g3 g4 => ?_
    · rw [hn, List.length_cons]
      omega
    · exact it1.at fun o e => up4 _ _ nIS (up2 _ _ e)
    · exact hl.at fun o e => all _ _ nIl nSl e
    · obtain ⟨y1, y2, y3, c, y4⟩ := hx (j + 1) x hj
      exact ⟨by rw [show i + 1 + j = i + (j + 1) by omega]; exact y1, y2, y3, c, all _ _ y2 y3 y4⟩
    · rw [List.length_append]
      omega
    · refine hR h' tk t' c' (by rw [← List.append_assoc]; exact g1) (fun z => nomatch z) (fun _ => ?_) fun b o n1 n2 e => g4 b o n1 n2 (all _ _ n1 n2 e)
      cases hr : rest with
      | nil =>
        rw [g2 hr, sz1]
        exact Nat.le_refl _
      | cons y r =>
        have := g3 (by rw [hr]; intro z; cases z)
        have e4 : ((h2.update S (Obj.mapSeq fun _ => #[Value.ref h1.objs.size])).update S (Obj.mapSeq fun _ => #[Value.ref h1.objs.size])).objs.size = h2.objs.size := by
          rw [Heap.size_update, Heap.size_update]
        exact Nat.le_trans (by rw [← sz1, ← Nat.lt_succ_iff]; show h1.objs.size < _; rw [e4, sz2]; exact Nat.lt_succ_of_le (Nat.le_succ _)) this
end
theorem sub_ls : isSubtype (.type "list") (.type "str") = pure false := by rw [isSubtype_type]; kernel_rfl
theorem sub_lb : isSubtype (.type "list") (.type "bytes") = pure false := by rw [isSubtype_type]; kernel_rfl
theorem sub_la : isSubtype (.type "list") (.type "bytearray") = pure false := by rw [isSubtype_type]; kernel_rfl
theorem args_sum2 (a b : Value) : argsOk "sum" ⟨[a, b], []⟩ := by unfold argsOk; kernel_rfl
theorem lists_of {X : Cx} {pins : List (Addr × Obj)} {σ : L2.St} {H : Hp} {s : Shared} (I : Inv X pins σ H s) : ∀ {ls : List (Addr × List V)}, (∀ x ∈ ls, H x.1 = some (.lst x.2)) → ∃ rest : List (Addr × List Value), rest.map (·.1) = ls.map (·.1) ∧ Vals (ls.map (·.2)).flatten (rest.map (·.2)).flatten ∧ ∀ x ∈ rest, ∃ c, s.heap.get? x.1 = some (LiO x.2 c)
  | [], _ => ⟨[], rfl, .nil, fun x h => by cases h⟩
  | (a, ys) :: ls, h => by
    obtain ⟨rest, r1, r2, r3⟩ := lists_of I (ls := ls) fun x hx => h x (List.mem_cons_of_mem _ hx)
    obtain ⟨_, its, n, r, _, e⟩ := I.lstM (h (a, ys) (List.mem_cons_self ..))
    refine ⟨(a, its) :: rest, by rw [List.map_cons, List.map_cons, r1], ?_, fun x hx => ?_⟩
    · rw [List.map_cons, List.map_cons, List.flatten_cons, List.flatten_cons]
      exact r.append r2
    · rcases List.mem_cons.mp hx with rfl | hx
      · exact ⟨n, e⟩
      · exact r3 x hx
def rSumL (K : PySem.W.Frag) : List V → Hp → VK → Prop := fun vs H Q => ∃ (a b : Addr) (ls : List (Addr × List V)) (xs : List V), vs = [.ref a, .ref b] ∧ SqL K H a (ls.map fun x => .ref x.1) ∧ (∀ x ∈ ls, H x.1 = some (.lst x.2)) ∧ H b = some (.lst xs) ∧ xs.length + (ls.map (·.2)).flatten.length ≤ sizeLine ∧
  (ls = [] → Q (.ref b) H) ∧ (ls ≠ [] → ∀ p, H p = none → Q (.ref p) (upd H p (.lst (xs ++ (ls.map (·.2)).flatten))))
theorem cr_sumL (K : PySem.W.Frag) {X : Cx} (hcalm : X.calm = true) (hK : X.K = K := by rfl) : CallR X (.builtin "sum") (rSumL K) := by
  subst hK
  intro pins s σ H vs us Q I r h
  obtain ⟨a, b, ls, xs, rfl, ha, hls, hb, hz, q0, q1⟩ := h
  cases r with
  | cons ra rr =>
    cases rr with
    | cons rb rr =>
      cases rr
      cases ra
      cases rb
      obtain ⟨its, v1, pl, _⟩ := I.list ha
      obtain ⟨rest, r1, r2, r3⟩ := lists_of I hls
      obtain ⟨_, bs, nb, vb, _, eb⟩ := I.lstM hb
      have hl : s.heap.IsList a its.toArray := pl.isList
      have ei : its = rest.map fun x => Value.ref x.1 := by
        have e1 : (ls.map fun x => V.ref x.1) = (ls.map (·.1)).map V.ref := by rw [List.map_map]; rfl
        rw [e1] at v1
        rw [refs_at v1, ← r1, List.map_map]
        rfl
      refine call_function_tree F.kind_sum F.plain_sum F.entry_sum (args_sum2 _ _) ?_
      unfold Builtin.«sum»; simp only [List.length_cons, List.length_nil]; rw [if_neg (by decide)]
      refine wpAny_bind (wpAny_of_eq (show Builtin.Builtins.bindParams "sum" ["start"] 0 ⟨[.ref b], []⟩ = pure [some (.ref b)] from rfl) ?_)
      refine wpAny_bind (wpAny_pyIter_list hl ?_)
      have tb : ∀ tk, Shared.TypeIs { s with heap := s.heap.push { cls := .type "list_iterator", data := .fields #[.ref a, .int 0 0] }, toks := tk } (.ref b) "list" := fun _ => ⟨_, Heap.get?_push_of_some _ eb, rfl⟩
      refine wpAny_bind (wpAny_pure ?_)
      simp only [List.forIn_cons, List.forIn_nil]
      refine wpAny_bind (wpAny_bind (wpAny_bind (wpAny_isInstance (T := "list") (b := false) (tb _) sub_ls ?_))); simp only [Bool.false_eq_true, if_false]
      refine wpAny_pure (wpAny_bind (wpAny_bind (wpAny_isInstance (T := "list") (b := false) (tb _) sub_lb ?_))); simp only [Bool.false_eq_true, if_false]
      refine wpAny_pure (wpAny_bind (wpAny_bind (wpAny_isInstance (T := "list") (b := false) (tb _) sub_la ?_))); simp only [Bool.false_eq_true, if_false]
      refine wpAny_pure (wpAny_pure (wpAny_bind (wpAny_newObj_type (wpAny_pure ⟨plainId_quiet F.plain_sum_loop _, ?_⟩))))
      have lt : ∀ {c o}, s.heap.get? c = some o → c < s.heap.objs.size := fun e => Heap.lt_size e
      have la : a < s.heap.objs.size := pl.lt
      have lb : b < s.heap.objs.size := lt eb
      have sz : (s.heap.push { cls := .type "list_iterator", data := .fields #[.ref a, .int 0 0] }).objs.size = s.heap.objs.size + 1 := Heap.size_push ..
      have up : ∀ c o, s.heap.get? c = some o → ((s.heap.push { cls := .type "list_iterator", data := .fields #[.ref a, .int 0 0] }).push (LiO [.ref b] 0)).get? c = some o := fun c o e => Heap.get?_push_of_some _ (Heap.get?_push_of_some _ e)
      have off : ∀ {c}, c < s.heap.objs.size + 1 → c ≠ (s.heap.push { cls := .type "list_iterator", data := .fields #[.ref a, .int 0 0] }).objs.size := fun h => by
        rw [sz]
        exact Nat.ne_of_lt h
      refine suml_loop (P := X.prog) (w := X.w) (A := X.A) (I := s.heap.objs.size) (l := a) (S := (s.heap.push { cls := .type "list_iterator", data := .fields #[.ref a, .int 0 0] }).objs.size) (items := its.toArray) (I.ok.hd hcalm) (off (Nat.lt_succ_self _)) (Nat.ne_of_lt la) (off (Nat.lt_succ_of_lt la)) rest 0 { s with heap := (s.heap.push { cls := .type "list_iterator", data := .fields #[.ref a, .int 0 0] }).push (LiO [.ref b] 0) } b bs 0 nb ?_ ⟨_, Heap.get?_push_of_some _ (Heap.get?_push_size _ rfl), rfl, rfl⟩ (hl.at fun o e => up _ _ e) (fun j x hj => ?_) ?_ (up _ _ eb) (Nat.ne_of_lt lb) (off (Nat.lt_succ_of_lt lb)) ?_ fun h' tk t' c' g1 g2 g3 g4 => ?_
      · rw [List.size_toArray, ei, List.length_map, Nat.zero_add]
      · obtain ⟨c, hc⟩ := r3 x (List.mem_of_getElem? hj)
        have lx := lt hc
        refine ⟨?_, Nat.ne_of_lt lx, off (Nat.lt_succ_of_lt lx), c, up _ _ hc⟩
        rw [Nat.zero_add, List.getElem?_toArray, ei, List.getElem?_map, hj]
        rfl
      · exact Heap.get?_push_size _ rfl
      · have := r2.length
        have := vb.length
        omega
      · have keep : ∀ c o, s.heap.get? c = some o → h'.get? c = some o := fun c o e => g4 c o (Nat.ne_of_lt (lt e)) (off (Nat.lt_succ_of_lt (lt e))) (up c o e)
        cases hr : ls with
        | nil =>
          have hrest : rest = [] := by
            rw [hr] at r1
            cases rest with
            | nil => rfl
            | cons y z => cases r1
          rw [g2 hrest]
          exact ⟨.ref b, H, I.kept keep, rfl, q0 hr⟩
        | cons y z =>
          have hrest : rest ≠ [] := fun e => by
            rw [e, hr] at r1
            cases r1
          have hle : s.heap.objs.size ≤ t' := Nat.le_trans (by rw [Heap.size_push, Heap.size_push]; omega) (g3 hrest)
          refine ⟨.ref t', upd H t' (.lst (xs ++ (ls.map (·.2)).flatten)), I.laid keep hle (show ObjOk X.prog X.w _ _ _ (.lst (xs ++ (ls.map (·.2)).flatten)) from ⟨?_, bs ++ (rest.map (·.2)).flatten, c', vb.append r2, g1⟩), rfl, q1 (by rw [hr]; intro e; cases e) _ (I.hok.fresh hle)⟩
          rw [List.length_append]
          exact hz
/-! ### tuple(xs) of a list, its object known; dict(ps) of such a tuple of pairs -/
def rTupleFz (K : PySem.W.Frag) : List V → Hp → VK → Prop := fun xs H Q => ∃ p ys, xs = [.ref p] ∧ SqL K H p ys ∧ ∀ (l : Addr) (o : Obj), H l = none → o.dict = none → Q (.ref l) (upd H l (.frz o (.tup ys)))
theorem tupleFz (K : PySem.W.Frag) {X : Cx} (hK : X.K = K := by rfl) : CallR X (.type "tuple") (rTupleFz K) := by
  subst hK
  intro pins s σ H vs us Q I r h
  obtain ⟨p, ys, rfl, hs, q⟩ := h
  obtain ⟨u, rfl, rfl⟩ := vals1 r
  obtain ⟨its, rv, pl, hz⟩ := I.list hs
  refine call_tuple_list pl.isList (fun h' hk => ?_) (by rw [List.size_toArray, ← rv.length]; exact hz)
  have I1 : Inv X pins σ H { s with heap := h' } := I.kept (t' := s.toks) hk
  refine ⟨.ref h'.objs.size, _, I1.laid (t' := s.toks) (o := .frz { cls := .type "tuple", data := .seq its.toArray } (.tup ys)) (fun b o e => Heap.get?_push_of_some _ e) (Nat.le_refl _) ?_, rfl, q _ _ (I1.hok.fresh (Nat.le_refl _)) rfl⟩
  exact ⟨Heap.get?_push_size _ rfl, hz, its, rv, IsTup.new _ _⟩
theorem trips {X : Cx} {pins : List (Addr × Obj)} {σ : L2.St} {H : Hp} {s : Shared} (I : Inv X pins σ H s) : ∀ {ps : List Addr} {kvs : List (Key × V)}, Paired (fun p kv => SqT X.K H p [kV kv.1, kv.2]) ps kvs →
    ∃ tr : List (Key × Value × Value), tr.length = ps.length ∧ KV kvs (tr.map fun t => (t.1, t.2.2)) ∧ ∀ (j : Nat) (t : Key × Value × Value), tr[j]? = some t → ∃ b : Addr, ps[j]? = some b ∧ IsTup s.heap b #[t.2.1, t.2.2] ∧ (mixKind X.prog X.w).is t.1 t.2.1 = true
  | _, _, .nil => ⟨[], rfl, .nil, fun j t e => by simp at e⟩
  | _, _, .cons (a := p) (b := kv) h t => by
    obtain ⟨tr, hl, r, hp⟩ := trips I t
    obtain ⟨its, rv, ht, _⟩ := I.tuple h
    obtain ⟨u, y, ei, ru, ry⟩ := vals2 rv
    subst ei
    refine ⟨(kv.1, u, y) :: tr, by rw [List.length_cons, List.length_cons, hl], .cons ⟨rfl, ry⟩ r, fun j t e => ?_⟩
    cases j with
    | zero =>
      rw [List.getElem?_cons_zero] at e
      cases e
      exact ⟨p, rfl, ht, kV_is ru⟩
    | succ j =>
      rw [List.getElem?_cons_succ] at e
      obtain ⟨b, e1, e2⟩ := hp j t e
      exact ⟨b, by rw [List.getElem?_cons_succ]; exact e1, e2⟩
def rDictT (K : PySem.W.Frag) : List V → Hp → VK → Prop := fun xs H Q => ∃ (a : Addr) (o : Obj) (ps : List Addr) (kvs : List (Key × V)), xs = [.ref a] ∧ H a = some (.frz o (.tup (ps.map V.ref))) ∧ o.dict = none ∧ Paired (fun p kv => SqT K H p [kV kv.1, kv.2]) ps kvs ∧ ∀ p, H p = none → Q (.ref p) (upd H p (.dK (mergeK [] kvs)))
theorem dictT (K : PySem.W.Frag) {X : Cx} (hcalm : X.calm = true := by rfl) (hK : X.K = K := by rfl) : CallR X (.type "dict") (rDictT K) := by
  subst hK
  intro pins s σ H xs us Q I r h
  obtain ⟨a, o, ps, kvs, rfl, ha, hd, hp, q⟩ := h
  obtain ⟨u, rfl, rfl⟩ := vals1 r
  obtain ⟨e, hz, its, rv, o', e', hc, n, hdat⟩ := I.hok a _ ha
  have eo : o' = o := by
    rw [e] at e'
    exact (Option.some.inj e').symm
  subst eo
  obtain ⟨tr, hl, rel, htr⟩ := trips I hp
  have ei : its = ps.map Value.ref := refs_at rv
  rw [List.length_map] at hz
  refine PySem.call_dict_pairs (knd := mixKind X.prog X.w) (kvs := tr.map fun t => (t.1, t.2.2)) (PairArg.tuple a its.toArray (fun j => ps.getD j 0) (tr.map fun t => (t.2.1, t.2.2))) (I.ok.hd hcalm) ⟨⟨o', n, e, hc, hd, hdat⟩, ?_, fun j k v hj => ?_⟩ ⟨?_, fun i key v hi => ?_⟩ ?_ fun h' tk hd' k => ?_
  · rw [List.size_toArray, ei, List.length_map, List.length_map, hl]
  · rw [List.getElem?_map] at hj
    cases ht : tr[j]? with
    | none =>
      rw [ht] at hj
      cases hj
    | some t =>
      rw [ht] at hj
      cases hj
      obtain ⟨b, e1, e2, _⟩ := htr j t ht
      have eb : ps.getD j 0 = b := by
        rw [List.getD_eq_getElem?_getD, e1]
        rfl
      refine ⟨?_, .inl ?_⟩
      · rw [List.getElem?_toArray, ei, List.getElem?_map, e1]
        show some (Value.ref b) = some (Value.ref (ps.getD j 0))
        rw [eb]
      · show s.heap.IsTuple (ps.getD j 0) _
        rw [eb]
        exact e2
  · rw [List.length_map, List.length_map]
  · have hi : (tr.map fun t => (t.2.1, t.2.2))[i]? = some (key, v) := hi
    rw [List.getElem?_map] at hi
    cases ht : tr[i]? with
    | none =>
      rw [ht] at hi
      cases hi
    | some t =>
      rw [ht] at hi
      cases hi
      obtain ⟨b, _, _, e3⟩ := htr i t ht
      exact ⟨t.1, by rw [List.getElem?_map, ht]; rfl, e3⟩
  · rw [List.length_map, hl]
    exact hz
  · have hm : (s.heap.objs.size == sysModules) = false := beq_eq_false_iff_ne.mpr (Nat.ne_of_gt I.big)
    have hkl : kvs.length = ps.length := by
      have := rel.length
      rw [List.length_map, hl] at this
      exact this
    have hlen : (mergeK [] kvs).length ≤ sizeLine := by
      refine Nat.le_trans (length_mergeK kvs []) ?_
      rw [List.length_nil, Nat.zero_add, hkl]
      exact hz
    exact ⟨.ref s.heap.objs.size, upd H s.heap.objs.size (.dK (mergeK [] kvs)), I.laid (t' := tk) (fun b o e => k b o (fun z => nomatch z) e) (Nat.le_refl _) (show ObjOk X.prog X.w _ _ _ (.dK (mergeK [] kvs)) from ⟨hlen, hm, merged [] _, KV.merge rel .nil, hd'⟩), rfl, q _ (I.hok.fresh (Nat.le_refl _))⟩
end Pf


namespace Pf
open PySem PySem.Spec PyProof.Rows L2 HT
/-! ### a product in its place; a tuple lengthened; data compared -/
def ipM : TIp := fun x y H Q => ∃ i j, x = .int i ∧ y = .int j ∧ CMul i j ∧ Q (.int (i * j)) H
theorem ip_mul {X : Cx} : PIp X .Mult ipM := by
  intro pins s σ H x y v u Q I r1 r2 h
  obtain ⟨i, j, e1, e2, hc, q⟩ := h
  subst e1; subst e2
  obtain ⟨t, rfl⟩ := r1
  obtain ⟨t', rfl⟩ := r2
  exact imul_int ⟨.int _, H, I.tok _, ⟨_, rfl⟩, q⟩ hc.ok
theorem no_tup_iadd : typeLookup (.type "tuple") (dunderI "add") = pure none := by kernel_rfl
def rItup : TIp := fun x y H Q => ∃ a b xs ys, x = .ref a ∧ y = .ref b ∧ H a = some (.tup xs) ∧ H b = some (.tup ys) ∧ xs.length + ys.length ≤ sizeLine ∧ ∀ p H', Ext H H' → H' p = some (.tup (xs ++ ys)) → Q (.ref p) H'
theorem ip_tup {X : Cx} : PIp X .Add rItup := by
  intro pins s σ H x y v u Q I rx ry h
  obtain ⟨a, b, xs, ys, rfl, rfl, ha, hb, hz, q⟩ := h
  cases rx
  cases ry
  obtain ⟨its, r1, p1, _⟩ := I.tuple (SqT.of (K := X.K) ha)
  obtain ⟨its2, r2, p2, _⟩ := I.tuple (SqT.of (K := X.K) hb)
  obtain ⟨⟨cls, dd, data, sl⟩, ho, hc, n, hd⟩ := id p1
  obtain ⟨⟨cls2, dd2, data2, sl2⟩, ho2, hc2, n2, hd2⟩ := id p2
  simp only at hc hd hc2 hd2
  subst hc hd hc2 hd2
  have e : its.toArray ++ its2.toArray = (its ++ its2).toArray := by simp
  have go : ∀ {S : PySem.Spec}, PySem.Meets (Builtin.«tuple.__add__» ⟨[.ref a, .ref b], []⟩) S → S X.A (wants (EP X pins σ Q) X.xe) s → wpAny (model X.prog X.w) X.A (inplaceOp .Add (.ref a) (.ref b)) (EP X pins σ Q) X.xe s := fun g h =>
    inplaceOp_concat ⟨_, ho, rfl⟩ ⟨_, ho2, rfl⟩ no_tup_iadd PySem.noFill_tuple_add PySem.seq_tuple_add (call_meets PySem.F.slot_tuple_add ⟨_, ho, rfl⟩ PySem.F.entry_tuple_add (PySem.F.args_tuple_add_2 _ _) g h)
  by_cases h1 : its = []
  · have hx : xs = [] := by
      have := r1.length
      rw [h1] at this
      exact List.eq_nil_of_length_eq_zero this
    exact go (tuple_addW0 a b its.toArray its2.toArray n n2 dd dd2 sl sl2 (by simp [h1])) ⟨ho, ho2, .ref b, H, I, rfl, q b H Ext.refl (by rw [hx]; exact hb)⟩
  · by_cases h2 : its2 = []
    · have hy : ys = [] := by
        have := r2.length
        rw [h2] at this
        exact List.eq_nil_of_length_eq_zero this
      exact go (tuple_addW1 a b its.toArray its2.toArray n n2 dd dd2 sl sl2 (by simpa using h1) (by simp [h2])) ⟨ho, ho2, .ref a, H, I, rfl, q a H Ext.refl (by rw [hy, List.append_nil]; exact ha)⟩
    · refine go (tuple_addW2 a b its.toArray its2.toArray n n2 dd dd2 sl sl2 (by simpa using h1) (by simpa using h2) (by rw [List.size_toArray, List.size_toArray, ← r1.length, ← r2.length]; exact hz)) ⟨ho, ho2, ?_⟩
      rw [e]
      refine ⟨.ref s.heap.objs.size, _, I.laid (t' := s.toks) (o := .tup (xs ++ ys)) (fun b ob q => Heap.get?_push_of_some _ q) (Nat.le_refl _) ?_, rfl, q _ _ (Ext.new (I.hok.fresh (Nat.le_refl _))) upd_same⟩
      exact ⟨by rw [List.length_append]; exact hz, _, r1.append r2, IsTup.new _ _⟩
def rLtD (K : PySem.W.Frag) : R2 := fun x y H Q => ∃ d e, Dp K H x d ∧ Dp K H y e ∧ PySem.W.alike d e = true ∧ d ≠ .none ∧ d.depth ≤ 64 ∧ Q (.bl (PySem.W.dataLt d e)) H
theorem ltD (K : PySem.W.Frag) {X : Cx} (hu : X.A.units + 64 < cLine) (h : X.K = K := by rfl) : OpR X (compareOp .Lt) (rLtD K) := by
  subst h
  intro pins s σ H x y v u Q I rx ry h
  obtain ⟨d, e, hd, he, ha, hn, hdp, q⟩ := h
  obtain ⟨as, r1⟩ := Dp.reads I d x v hd rx
  obtain ⟨bs, r2⟩ := Dp.reads I e y u he ry
  exact PySem.W.lt_data r1 r2 ha hn (by have := Nat.min_le_left d.depth e.depth; omega) ⟨.bl _, H, I, rfl, q⟩
end Pf


namespace Pf
open PySem PySem.Spec PyProof.Rows L2
def rSumE (K : PySem.W.Frag) : List V → Hp → VK → Prop := fun vs H Q => ∃ (a b : Addr) (ls : List (Addr × List V)), vs = [.ref a, .ref b] ∧ SqL K H a (ls.map fun x => .ref x.1) ∧ (∀ x ∈ ls, H x.1 = some (.lst x.2)) ∧ H b = some (.lst []) ∧ (ls.map (·.2)).flatten.length ≤ sizeLine ∧
  ∀ p H', Ext H H' → H' p = some (.lst (ls.map (·.2)).flatten) → Q (.ref p) H'
theorem sumE (K : PySem.W.Frag) {X : Cx} (hcalm : X.calm = true) (hK : X.K = K := by rfl) : CallR X (.builtin "sum") (rSumE K) := fun pins s σ H vs us Q I r h => by
  obtain ⟨a, b, ls, rfl, h1, h2, h3, h4, q⟩ := h
  refine cr_sumL K hcalm hK pins s σ H _ us Q I r ⟨a, b, ls, [], rfl, h1, h2, h3, by rw [List.length_nil, Nat.zero_add]; exact h4, fun e => ?_, fun _ p hp => ?_⟩
  · refine q b H Ext.refl ?_
    rw [e]
    exact h3
  · exact q p _ (Ext.new hp) upd_same
theorem sum_len_le {m : Nat} : ∀ {ys : List Str}, (∀ y ∈ ys, y.length ≤ m) → (ys.map (·.length)).sum ≤ ys.length * m
  | [], _ => Nat.zero_le _
  | y :: r, h => by
    have h1 := h y (List.mem_cons_self ..)
    have h2 := sum_len_le (ys := r) fun x hx => h x (List.mem_cons_of_mem _ hx)
    rw [List.map_cons, List.sum_cons, List.length_cons, Nat.succ_mul]
    omega
theorem fits_join {ys : List Str} {k m : Nat} (hk : ys.length ≤ k) (h : ∀ y ∈ ys, y.length ≤ m) (hm : k * m ≤ 1000000) : (ys.map (·.length)).sum + ys.length * ("" : Str).length ≤ 16777216 := by
  have h1 := sum_len_le h
  have h2 : ys.length * m ≤ k * m := Nat.mul_le_mul_right m hk
  have h3 : ("" : Str).length = 0 := by decide +kernel
  rw [h3, Nat.mul_zero]
  omega
def Of (L x : Str) : Prop := ∀ c ∈ x.cps.toList, c ∈ L.cps.toList
theorem Of.small {L x : Str} (h : Of L x) (hs : Small L) : Small x := fun c hc => hs c (h c hc)
theorem Of.app {L a b : Str} (ha : Of L a) (hb : Of L b) : Of L (a ++ b) := fun c h => by
  rw [Str.cps_append, Array.toList_append, List.mem_append] at h
  exact h.elim (ha c) (hb c)
theorem of_nil (L : Str) : Of L "" := by
  have : ("" : Str).cps.toList = [] := by decide +kernel
  intro c hc
  rw [this] at hc
  cases hc
theorem sjoin_of {L : Str} : ∀ {ys : List Str}, (∀ y ∈ ys, Of L y) → Of L (Str.join "" ys)
  | [], _ => of_nil L
  | [y], h => h y (List.mem_cons_self ..)
  | y :: z :: r, h => ((h y (List.mem_cons_self ..)).app (of_nil L)).app (sjoin_of (ys := z :: r) fun x hx => h x (List.mem_cons_of_mem _ hx))
theorem cutS_of {L x : Str} (h : Of L x) (lo hi : Option Int) : Of L (cutS x lo hi) := fun c hc => by
  unfold cutS at hc
  exact h c (List.mem_of_mem_drop (List.mem_of_mem_take hc))
theorem cutS_one (x : Str) : (cutS x none (some 1)).length ≤ 1 := by
  show (((x.cps.toList.drop (HT.sIx x.length 0 none)).take (HT.sIx x.length x.length (some 1) - HT.sIx x.length 0 none)).toArray).size ≤ 1
  rw [List.size_toArray, List.length_take]
  have : HT.sIx x.length x.length (some ((1 : Nat) : Int)) = min 1 x.length := HT.sIx_nat _ _ _
  have h2 : HT.sIx x.length x.length (some (1 : Int)) = min 1 x.length := this
  rw [h2]
  omega
/-! ### a dict by texts, of small numbers -/
def encT (y : Str × Int) : Key × V := (.inr y.1, .int y.2)
theorem put_encT (t : List (Str × Int)) (k : Str) (z : Int) (hn : (t.map (·.1)).Nodup) : ∃ t' : List (Str × Int), putK (t.map encT) (.inr k) (.int z) = t'.map encT ∧ (t'.map (·.1)).Nodup ∧ t'.length ≤ t.length + 1 ∧ ∀ y ∈ t', y ∈ t ∨ y = (k, z) := by
  unfold putK
  by_cases h : k ∈ t.map (·.1)
  · rw [if_pos (by
      rw [List.any_eq_true]
      obtain ⟨y, hy, e⟩ := List.mem_map.mp h
      exact ⟨encT y, List.mem_map.mpr ⟨y, hy, rfl⟩, decide_eq_true (by rw [← e]; rfl)⟩)]
    refine ⟨t.map fun y => if y.1 = k then (k, z) else y, ?_, ?_, by rw [List.length_map]; omega, fun y hy => ?_⟩
    · rw [List.map_map, List.map_map]
      refine List.map_congr_left fun y _ => ?_
      show (if (Sum.inr y.1 : Key) = Sum.inr k then (Sum.inr y.1, V.int z) else encT y) = encT (if y.1 = k then (k, z) else y)
      by_cases e : y.1 = k
      · rw [if_pos (by rw [e]), if_pos e, e]
        rfl
      · rw [if_neg (fun w => e (Sum.inr.inj w)), if_neg e]
    · rw [List.map_map]
      have e : ((fun y : Str × Int => y.1) ∘ fun y => if y.1 = k then (k, z) else y) = fun y => y.1 := by
        funext y
        show (if y.1 = k then (k, z) else y).1 = y.1
        split
        · rename_i e
          exact e.symm
        · rfl
      rw [e]
      exact hn
    · obtain ⟨y0, hy0, rfl⟩ := List.mem_map.mp hy
      split
      · exact .inr rfl
      · exact .inl hy0
  · rw [if_neg (by
      intro w
      obtain ⟨kv, hkv, e⟩ := List.any_eq_true.mp w
      obtain ⟨y, hy, rfl⟩ := List.mem_map.mp hkv
      have e : (Sum.inr y.1 : Key) = Sum.inr k := of_decide_eq_true e
      exact h (List.mem_map.mpr ⟨y, hy, Sum.inr.inj e⟩))]
    refine ⟨t ++ [(k, z)], by rw [List.map_append]; rfl, ?_, by rw [List.length_append]; exact Nat.le_refl _, fun y hy => ?_⟩
    · rw [List.map_append]
      refine List.nodup_append.mpr ⟨hn, List.pairwise_singleton _ _, fun a ha b hb => ?_⟩
      rw [List.mem_singleton.mp hb]
      intro e
      have e : a = k := e
      exact h (by rw [← e]; exact ha)
    · rcases List.mem_append.mp hy with hy | hy
      · exact .inl hy
      · exact .inr (List.mem_singleton.mp hy)
abbrev scTie : Scope := { kind := .function, names := [(".0", .local), ("_law_one", .cell), ("_law_letters", .cell)], isGenerator := false, isCoroutine := false }
section
variable {P : Program} {w : World} {K : PySem.W.Frag} {mg : Str → Option Value} {base : Heap}
abbrev s_law_ties : Stmt := topS 16
theorem sc_law_ties : FnScope ["_law_pen_here", "_law_letters", "_law_upto", "_law_every", "_law_many", "_law_found", "_law_turn", "_law_k", "_law_one", "_law_other"] ["_law_pen_here", "_law_letters", "_law_upto"] (defScope s_law_ties) :=
  ⟨rfl, rfl, rfl, by decide +kernel, rfl, by decide +kernel, by decide +kernel⟩
def spTies : Sp := fun vs H Q _ => ∃ (p c : Addr) (sg : Str) (n : Nat), vs = [.ref p, .str sg, .int 12] ∧ Pen H p c n ∧ n + 60 < 1000000 ∧ 1 ≤ sg.length ∧ sg.length ≤ 6 ∧ Small sg ∧
  ∀ (v : V) (prs : List (Str × Int)) (H' : Hp), FrzOf PairAt H' v prs → prs.length ≤ 12 → (prs.map (·.1)).Nodup → (∀ y ∈ prs, Two y.1 ∧ Of sg y.1 ∧ -99 ≤ y.2 ∧ y.2 ≤ 99) → Kp p H H' → Pen H' p c (n + 52) → Q v H'
theorem ok_ties {f : Addr} {fd : FuncData} (F : Fun K "_law_ties" "_law_ties" s_law_ties f fd) (c_law_pick : CDraw P w K mg base) (c_law_some_worth : CWorth P w K mg base) (msum : mg "sum" = none) (mmin : mg "min" = none) (mlen : mg "len" = none) (mrange : mg "range" = none) (msorted : mg "sorted" = none) (mtuple : mg "tuple" = none) : FnOk P w K mg base CX0 3 f fd ["_law_pen_here", "_law_letters", "_law_upto"] spTies := by
  refine F.ok sc_law_ties (fun vs H Q E h => ?_) (fun cdv A outer s H vs Q E hr h => ?_)
  · obtain ⟨p, c, sg, n, rfl, _⟩ := h
    rfl
  · obtain ⟨p, c, sg, n, rfl, hP, hn, hs1, hs6, hsm, q⟩ := h
    refine ⟨_, (pss_cons (ps_set (i := 3) sc_law_ties.nd rfl (.inl rfl) (pe_callB (sumE K rfl) (by rfl) msum (by decide +kernel) (pa_cons (pe_lc (own := [("_law_one", 8)]) (g := gName 8) (by rfl) sc_law_ties.nd (pi_str (pv 1)) (blkOk_by (own := [("_law_one", 8)]) (N := ["_law_pen_here", "_law_letters", "_law_upto", "_law_every", "_law_many", "_law_found", "_law_turn", "_law_k", "_law_one", "_law_other"]) (sc := defScope s_law_ties) (by decide +kernel)) (fun _ _ _ _ _ => (pg_name (i := 8) sc_law_ties.nd rfl (.inr rfl))) (fun _ _ _ _ _ => pts_nil) (fun _ _ _ _ _ => (pe_lc (own := [("_law_other", 9)]) (g := gName 9) (by rfl) sc_law_ties.nd (pi_str (pv 1)) (blkOk_by (own := [("_law_other", 9)]) (N := ["_law_pen_here", "_law_letters", "_law_upto", "_law_every", "_law_many", "_law_found", "_law_turn", "_law_k", "_law_one", "_law_other"]) (sc := scTie) (by decide +kernel)) (fun _ _ _ _ _ => (pg_name (i := 9) sc_law_ties.nd rfl (.inl rfl))) (fun _ _ _ _ _ => pts_nil) (fun _ _ _ _ _ => (pe_op op_add_str (pv 8) (pv 9)))))) (pa_cons (pe_lst pa_nil) pa_nil))))
      (pss_cons (ps_set (i := 4) sc_law_ties.nd rfl (.inl rfl) (pe_callB (call_min3 rfl) (by rfl) mmin (by decide +kernel) (pa_cons pe_int (pa_cons (pv 2) (pa_cons (pe_ix (ixL K) (pe_lst (pa_cons (pe_callB (lenQ K) (by rfl) mlen (by decide +kernel) (pa_cons (pv 3) pa_nil)) (pa_cons (pe_op op_add pe_int (pe_ca c_law_pick (hr.mono (by decide)) (by rfl) (pa_cons (pv 0) (pa_cons (pe_callB (lenQ K) (by rfl) mlen (by decide +kernel) (pa_cons (pv 3) pa_nil)) pa_nil)))) (pa_cons pe_int (pa_cons pe_int pa_nil))))) (pe_ca c_law_pick (hr.mono (by decide)) (by rfl) (pa_cons (pv 0) (pa_cons pe_int pa_nil))) (fun _ _ => rfl)) pa_nil)))))
      (pss_cons (ps_set (i := 5) sc_law_ties.nd rfl (.inl rfl) pe_dnewK)
      (pss_cons (ps_set (i := 6) sc_law_ties.nd rfl (.inl rfl) (pe_ca c_law_pick (hr.mono (by decide)) (by rfl) (pa_cons (pv 0) (pa_cons (pe_callB (lenQ K) (by rfl) mlen (by decide +kernel) (pa_cons (pv 3) pa_nil)) pa_nil))))
      (pss_cons (ps_for PassesOwn.never rfl (pi_range1 (by rfl) mrange (pa_cons (pv 4) pa_nil)) (pg_name (i := 7) sc_law_ties.nd rfl (.inl rfl)) (pss_one (ps_dput (hu_of hr) (pv 5) (pe_ix (ixL K) (pv 3) (pe_op op_mod (pe_op op_add (pv 6) (pv 7)) (pe_callB (lenQ K) (by rfl) mlen (by decide +kernel) (pa_cons (pv 3) pa_nil))) (fun _ _ => rfl)) (pe_ca c_law_some_worth (hr.mono (by decide)) (by rfl) (pa_cons (pv 0) pa_nil)) rfl)))
      (pss_one (ps_ret (pe_callTy (tupleFz K) (by rfl) mtuple (by decide +kernel) (pa_cons (pe_sortItemsS rfl hr.units (by rfl) msorted (pv 5)) pa_nil))))))))), ?_⟩
    have hsz : sg.cps.size ≤ 6 := hs6
    have hsz1 : 1 ≤ sg.cps.size := hs1
    -- every text of two letters
    refine ⟨_, rfl, _, rfl, fun D hD => lc_str (fun i H2 => ∃ ls : List (Addr × List Str), H2 D = some (.lst (ls.map fun x => .ref x.1)) ∧ ls.length = i ∧ (∀ x ∈ ls, x.1 ≠ D ∧ H2 x.1 = some (.lst (x.2.map V.str)) ∧ x.2.length = sg.cps.size ∧ ∀ t ∈ x.2, Two t ∧ Of sg t) ∧ Ext H H2)
      ⟨[], upd_same, rfl, (fun x hx => by cases hx), Ext.new hD⟩ (fun i ch H2 hi hv => ?_) (fun H2 hv => ?_)⟩
    · obtain ⟨ls, hL2, hll, hls, k2⟩ := hv
      have hi6 : i < sg.cps.size := (Array.getElem?_eq_some_iff.mp hi).1
      have hci : ch ∈ sg.cps.toList := Array.mem_toList_iff.mpr (Array.mem_of_getElem? hi)
      refine ⟨rfl, _, rfl, _, rfl, fun D2 hD2 => lc_str (fun j H3 => ∃ zs : List Str, zs.length = j ∧ (∀ t ∈ zs, Two t ∧ Of sg t) ∧ Ext H2 H3 ∧ H3 D2 = some (.lst (zs.map V.str))) ⟨[], rfl, (fun t h => by cases h), Ext.new hD2, upd_same⟩ (fun j cj H3 hj hv => ?_) (fun H3 hv => ?_)⟩
      · obtain ⟨zs, hzs, hz2, k3, hL3⟩ := hv
        have hj6 : j < sg.cps.size := (Array.getElem?_eq_some_iff.mp hj).1
        have hcj : cj ∈ sg.cps.toList := Array.mem_toList_iff.mpr (Array.mem_of_getElem? hj)
        refine ⟨rfl, _, rfl, _, rfl, _, _, rfl, rfl, szL (show 1 + 1 ≤ 1000000 by decide), _, hL3, szLt ?_, zs ++ [⟨#[ch]⟩ ++ ⟨#[cj]⟩], ?_, fun t ht => ?_, k3.put hD2, ?_⟩
        · rw [List.length_map]
          omega
        · rw [List.length_append, List.length_singleton]
          omega
        · rcases List.mem_append.mp ht with ht | ht
          · exact hz2 t ht
          · rw [List.mem_singleton.mp ht]
            refine ⟨⟨rfl, (Small.one (hsm.at hi)).app (Small.one (hsm.at hj))⟩, Of.app (fun c hc => ?_) (fun c hc => ?_)⟩
            · have : c = ch := by simpa using hc
              rw [this]
              exact hci
            · have : c = cj := by simpa using hc
              rw [this]
              exact hcj
        · rw [upd_same, List.map_append]
          rfl
      · obtain ⟨zs, hzs, hz2, k3, hL3⟩ := hv
        have hLD := k3 _ _ hL2
        have nD : D2 ≠ D := fun z => by
          rw [z, hL2] at hD2
          cases hD2
        refine ⟨_, hLD, szLt (by rw [List.length_map]; omega), ls ++ [(D2, zs)], by rw [upd_same, List.map_append]; rfl, by rw [List.length_append, List.length_singleton, hll], fun x hx => ?_, (k2.trans k3).put hD⟩
        rcases List.mem_append.mp hx with hx | hx
        · obtain ⟨h1, h2, h3, h4⟩ := hls x hx
          refine ⟨h1, ?_, h3, h4⟩
          rw [upd_ne h1]
          exact k3 _ _ h2
        · rw [List.mem_singleton.mp hx]
          refine ⟨nD, ?_, hzs, hz2⟩
          rw [upd_ne nD]
          exact hL3
    obtain ⟨ls, hL2, hll, hls, k2⟩ := hv
    refine ⟨Nat.zero_le _, fun b3 hb3 => ?_⟩
    have x3 := Ext.new (o := .lst []) hb3
    have hfl : ((ls.map fun x => (x.1, x.2.map V.str)).map (·.2)).flatten = (ls.map (·.2)).flatten.map V.str := by
      rw [List.map_map, List.map_flatten, List.map_map]
      rfl
    have hlen : ((ls.map (·.2)).flatten).length = ls.length * sg.cps.size := by
      have : ∀ l : List (Addr × List Str), (∀ x ∈ l, x.2.length = sg.cps.size) → ((l.map (·.2)).flatten).length = l.length * sg.cps.size := by
        intro l
        induction l with
        | nil => intro _; rw [List.length_nil, Nat.zero_mul]; rfl
        | cons x l ih =>
          intro h
          rw [List.map_cons, List.flatten_cons, List.length_append, h x (List.mem_cons_self ..), ih fun y hy => h y (List.mem_cons_of_mem _ hy), List.length_cons, Nat.succ_mul]
          omega
      exact this ls fun x hx => (hls x hx).2.2.1
    have hl36 : ls.length * sg.cps.size ≤ 6 * 6 := Nat.mul_le_mul (by omega) hsz
    have hl1 : 1 * 1 ≤ ls.length * sg.cps.size := Nat.mul_le_mul (by omega) hsz1
    refine ⟨D, b3, ls.map fun x => (x.1, x.2.map V.str), rfl, SqL.of (by rw [List.map_map]; exact x3 _ _ hL2), fun x hx => ?_, upd_same, szL (by rw [hfl, List.length_map]; omega), fun le H4 k4 hLe => ?_⟩
    · obtain ⟨y, hy, rfl⟩ := List.mem_map.mp hx
      exact x3 _ _ (hls y hy).2.1
    rw [hfl] at hLe
    obtain ⟨ts, hts⟩ : ∃ ts, ts = (ls.map (·.2)).flatten := ⟨_, rfl⟩
    rw [← hts] at hLe hlen
    have ht2 : ∀ t ∈ ts, Two t ∧ Of sg t := fun t ht => by
      rw [hts] at ht
      obtain ⟨l, hl, ht⟩ := List.mem_flatten.mp ht
      obtain ⟨x, hx, rfl⟩ := List.mem_map.mp hl
      exact (hls x hx).2.2.2 t ht
    have kp4 : Kp p H H4 := Kp.ext ((k2.trans x3).trans k4)
    have hP4 := hP.ext ((k2.trans x3).trans k4)
    have htl : 1 ≤ ts.length := by omega
    have nle : le ≠ p := fun z => by
      obtain ⟨cells, a, r, hp, _⟩ := hP4
      rw [z, hp] at hLe
      injection hLe with hLe
      injection hLe with hLe
      cases ts with
      | nil => cases hLe
      | cons t ts =>
        injection hLe with h1 _
        cases h1
    have hll : (ts.map V.str).length = ts.length := List.length_map ..
    -- how many
    refine ⟨_, rfl, _, rfl, le, _, rfl, .inl (SqL.of hLe), _, rfl, _, rfl, le, _, rfl, .inl (SqL.of hLe), p, c, _, _, rfl, hP4, by omega, by omega, by omega, fun d H5 d0 d1 k5 hP5 => ⟨1, d, rfl, rfl, szL (show 4 ≤ 1000000 by decide), fun l5 hl5 => ?_⟩⟩
    have hP5' := hP5.new (o := .lst [.int ((ts.map V.str).length : Nat), .int (1 + d), .int 3, .int 0]) hl5
    refine ⟨_, rfl, p, c, 4, _, rfl, hP5', by omega, by decide, by decide, fun e H6 e0 e1 k6 hP6 => ?_⟩
    obtain ⟨z, hz, hat6⟩ := atI_ints (ns := [((ts.map V.str).length : Int), 1 + d, 3, 0]) e0 e1
    have hz0 : 0 ≤ z := by
      simp only [List.mem_cons, List.not_mem_nil, or_false] at hz
      omega
    refine ⟨l5, _, e, _, rfl, rfl, SqL.of (k6 _ _ (hP5.ne hl5).1 upd_same), hat6, 12, 12, z, rfl, fun m m1 m2 m3 m4 => ?_⟩
    have kp6 : Kp p H4 H6 := (k5.trans (Kp.new hl5)).trans k6
    have hLe6 := kp6 _ _ nle hLe
    -- a dict
    refine fun D7 hD7 => ?_
    have nD7 := hP6.ne hD7
    have hLe7 := (Kp.new (p := p) (o := .dK []) hD7) _ _ nle hLe6
    have hP7 := hP6.new (o := .dK []) hD7
    refine ⟨_, rfl, _, rfl, le, _, rfl, .inl (SqL.of hLe7), p, c, _, _, rfl, hP7, by omega, by omega, by omega, fun tn H8 t0 t1 k8 hP8 => ?_⟩
    have hD8 := k8 _ _ nD7.1 (upd_same (H := H6) (a := D7) (o := .dK []))
    have hLe8 := k8 _ _ nle hLe7
    have kp8 : Kp p H6 H8 := (Kp.new hD7).trans k8
    refine ⟨_, rfl, m, rfl, by omega, by omega, for_range (lo := 0) (n := m.toNat) (fun i σ H9 => ∃ (y7 : Option V) (t : List (Str × Int)), σ = [some (.ref p), some (.str sg), some (.int 12), some (.ref le), some (.int m), some (.ref D7), some (.int tn), y7, none, none] ∧ H9 D7 = some (.dK (t.map encT)) ∧ t.length ≤ i ∧ (t.map (·.1)).Nodup ∧ (∀ y ∈ t, Two y.1 ∧ Of sg y.1 ∧ -99 ≤ y.2 ∧ y.2 ≤ 99) ∧ H9 le = some (.lst (ts.map V.str)) ∧ Kp p H6 H9 ∧ Pen H9 p c (n + 3 + 4 * i))
      ⟨none, [], rfl, hD8, Nat.le_refl _, List.Pairwise.nil, (fun y hy => by cases hy), hLe8, kp8, hP8.mono (by omega)⟩ (fun i σ H9 hi hv => ?_) (fun σ H9 hv => ?_)⟩
    · obtain ⟨y7, t, rfl, hD9, htl9, htn, htb, hLe9, k9, hP9⟩ := hv
      refine ⟨_, rfl, p, c, _, rfl, hP9, by omega, fun wv H10 w0 w1 k10 hP10 => ?_⟩
      have hD10 := k10 _ _ nD7.1 hD9
      have hLe10 := k10 _ _ nle hLe9
      have g0 := Int.emod_nonneg (tn + (0 + (i : Int))) (show ((ts.map V.str).length : Int) ≠ 0 by omega)
      have g1 := Int.emod_lt_of_pos (tn + (0 + (i : Int))) (show (0 : Int) < ((ts.map V.str).length : Int) by omega)
      obtain ⟨u, hu⟩ : ∃ u, ts[((tn + (0 + (i : Int))) % ((ts.map V.str).length : Int)).toNat]? = some u := ⟨_, List.getElem?_eq_getElem (by omega)⟩
      have hat : atI (ts.map V.str) ((tn + (0 + (i : Int))) % ((ts.map V.str).length : Int)) = some (.str u) := by
        have e1 : (ts.map V.str)[((tn + (0 + (i : Int))) % ((ts.map V.str).length : Int)).toNat]? = some (.str u) := by
          rw [List.getElem?_map, hu]
          rfl
        rw [atI_get g0 g1, ← e1, List.getElem?_eq_getElem]
      obtain ⟨t', e', hn', hl', hb'⟩ := put_encT t u wv htn
      refine ⟨_, rfl, _, rfl, _, rfl, _, rfl, _, _, rfl, rfl, _, rfl, le, _, rfl, .inl (SqL.of hLe10), _, _, rfl, rfl, (show (0 : Int) < ((ts.map V.str).length : Int) by omega), le, _, _, _, rfl, rfl, SqL.of hLe10, hat, D7, _, rfl, DPut.k (k := .inr u) hD10 (szLt (by rw [List.length_map]; omega)), ?_⟩
      have nDl : le ≠ D7 := fun z => by
        rw [z, hD10] at hLe10
        cases hLe10
      have hD7H6 : H6 D7 = none := hD7
      refine ⟨_, t', rfl, by rw [upd_same, e'], by omega, hn', fun y hy => ?_, ?_, (k9.trans k10).put hD7H6, (hP10.put nD7.1 nD7.2).mono (by omega)⟩
      · rcases hb' y hy with h | rfl
        · exact htb y h
        · have := ht2 u (List.mem_of_getElem? hu)
          exact ⟨this.1, this.2, w0, w1⟩
      · rw [upd_ne nDl]
        exact hLe10
    · obtain ⟨y7, t, rfl, hD9, htl9, htn, htb, hLe9, k9, hP9⟩ := hv
      refine ⟨_, rfl, D7, t, rfl, hD9, fun p10 ys H10 hp10 k10 hL10 hys e10 => ?_⟩
      refine ⟨p10, _, rfl, SqL.of hL10, fun l o hl ho => ?_⟩
      have x11 := Ext.new (o := .frz o (.tup (ys.map fun y => V.ref y.1))) hl
      have pm : (ys.map (·.2)).Perm t := by
        rw [e10]
        exact List.mergeSort_perm _ _
      refine q (.ref l) (ys.map (·.2)) _ ⟨l, o, _, rfl, upd_same, ho, ?_⟩ ?_ ?_ (fun y hy => htb y (pm.mem_iff.mp hy)) (((kp4.trans kp6).trans k9).trans (Kp.ext (k10.trans x11))) ((hP9.ext (k10.trans x11)).mono (by omega))
      · have aux : ∀ l : List (Addr × Str × Int), (∀ y ∈ l, H10 y.1 = some (.tup [.str y.2.1, .int y.2.2])) → Paired (PairAt H10) (l.map fun y => V.ref y.1) (l.map (·.2)) := by
          intro l
          induction l with
          | nil => intro _; exact .nil
          | cons y l ih => intro h; exact .cons ⟨y.1, rfl, h y (List.mem_cons_self ..)⟩ (ih fun z hz => h z (List.mem_cons_of_mem _ hz))
        exact paired_imp (fun _ _ ⟨a, e, h⟩ => ⟨a, e, x11 _ _ h⟩) (aux ys hys)
      · rw [pm.length_eq]
        omega
      · exact (pm.map (·.1)).nodup_iff.mpr htn
abbrev CTies (P : Program) (w : World) (K : PySem.W.Frag) (mg : Str → Option Value) (base : Heap) : Prop := Ca P w K mg base 3 "_law_ties" ["_law_pen_here", "_law_letters", "_law_upto"] spTies
end
end Pf


namespace Pf
open PySem PySem.Spec PyProof.Rows L2
/-! ### rules as data -/
theorem dpIntsAt {K : PySem.W.Frag} {H : Hp} : ∀ {vs : List V} {ns : List Int}, Paired (IntAt H) vs ns → DpAll K H vs (ns.map PyData.int)
  | _, _, .nil => .nil
  | _, _, .cons e t => .cons ((show _ = V.int _ from e) ▸ .int _) (dpIntsAt t)
def dPr (x : Str × Int) : PyData := .tuple [.str x.1, .int x.2]
theorem dpPairs {K : PySem.W.Frag} {H : Hp} : ∀ {vs : List V} {prs : List (Str × Int)}, Paired (PairAt H) vs prs → DpAll K H vs (prs.map dPr)
  | _, _, .nil => .nil
  | _, _, .cons ⟨_, e, h⟩ t => .cons (e ▸ .tup (SqT.of h) (.cons (.str _) (.cons (.int _) .nil))) (dpPairs t)
theorem sm_prs {prs : List (Str × Int)} (hn : prs.length ≤ 12) (h : ∀ x ∈ prs, Two x.1 ∧ -99 ≤ x.2 ∧ x.2 ≤ 99) : Sm 2000 2 (.tuple (prs.map dPr)) := by
  refine Sm.tup (n := 12) (m := 130) (k := 1) (by rw [List.length_map]; exact hn) (fun d hd => ?_) (by decide)
  obtain ⟨x, hx, rfl⟩ := List.mem_map.mp hd
  have h1 := h x hx
  refine Sm.tup (n := 2) (m := 64) (k := 0) (Nat.le_refl _) (fun d hd => ?_) (by decide)
  simp only [List.mem_cons, List.not_mem_nil, or_false] at hd
  rcases hd with rfl | rfl
  · exact (Sm.str h1.1.2.ok (Nat.le_refl _)).le (by rw [h1.1.1]; decide) (Nat.le_refl _)
  · exact Sm.int (by omega) (by omega)
def dSt (x : Str × Str × Int) : PyData := .tuple [.str x.1, .str x.2.1, .int x.2.2]
theorem dpStacks {K : PySem.W.Frag} {H : Hp} : ∀ {vs : List V} {ps : List (Str × Str × Int)}, Paired (StackAt H) vs ps → DpAll K H vs (ps.map dSt)
  | _, _, .nil => .nil
  | _, _, .cons ⟨_, e, h⟩ t => .cons (e ▸ .tup (SqT.of h) (.cons (.str _) (.cons (.str _) (.cons (.int _) .nil)))) (dpStacks t)
def dRl (r : Rl) : PyData := .tuple [.str r.letters, .tuple (r.prs.map dPr), .int r.span, .tuple (r.loops.map PyData.int), .tuple (r.stk.map dSt)]
theorem dp_rules {K : PySem.W.Frag} {H : Hp} {v : V} {r : Rl} (h : RulesAt H v r) : Dp K H v (dRl r) := by
  obtain ⟨a, vp, vl, vs, rfl, hA, ⟨ap, oz, us, rfl, hp, _, hP⟩, ⟨al, ls, rfl, hl, hL⟩, ⟨as, ss, rfl, hs, hS⟩⟩ := h
  exact .tup (SqT.of hA) (.cons (.str _) (.cons (.tup (SqT.fz hp) (dpPairs hP)) (.cons (.int _) (.cons (.tup (SqT.of hl) (dpIntsAt hL)) (.cons (.tup (SqT.of hs) (dpStacks hS)) .nil)))))
theorem sm_rules {r : Rl} (ok : RlOk r) : Sm 50000 3 (dRl r) := by
  refine Sm.tup (n := 5) (m := 5000) (k := 2) (Nat.le_refl _) (fun d hd => ?_) (by decide)
  simp only [List.mem_cons, List.not_mem_nil, or_false] at hd
  have h3 := ok.sp0
  have h4 := ok.sp3
  rcases hd with rfl | rfl | rfl | rfl | rfl
  · exact (Sm.str ok.small.ok ok.let6).le (by decide) (by decide)
  · exact (sm_prs ok.prs ok.pr).le (by decide) (by decide)
  · exact (Sm.int (by omega) (by omega)).le (by decide) (by decide)
  · refine (Sm.tup (n := 9) (m := 64) (k := 0) (by rw [List.length_map, ok.lo9]; exact Nat.le_refl _) (fun d hd => ?_) (Nat.le_refl _)).le (by decide) (by decide)
    obtain ⟨z, hz, rfl⟩ := List.mem_map.mp hd
    have := ok.lo z hz
    exact Sm.int (by omega) (by omega)
  · refine (Sm.tup (n := 12) (m := 200) (k := 1) (by rw [List.length_map]; exact ok.stk) (fun d hd => ?_) (Nat.le_refl _)).le (by decide) (by decide)
    obtain ⟨z, hz, rfl⟩ := List.mem_map.mp hd
    have hk := ok.st z hz
    refine Sm.tup (n := 3) (m := 64) (k := 0) (Nat.le_refl _) (fun d hd => ?_) (by decide)
    simp only [List.mem_cons, List.not_mem_nil, or_false] at hd
    rcases hd with rfl | rfl | rfl
    · exact (Sm.str hk.1.2.ok (Nat.le_of_eq hk.1.1)).le (by decide) (by decide)
    · exact (Sm.str hk.2.1.2.ok (Nat.le_of_eq hk.2.1.1)).le (by decide) (by decide)
    · exact Sm.int (by omega) (by omega)
def dKept (r : Rl) (x : Str) : PyData := .tuple [dRl r, .str x]
theorem sm_kept {r : Rl} (ok : RlOk r) {x : Str} (hx : x.length ≤ 20) (hs : Of r.letters x) : Sm 200000 4 (dKept r x) := by
  refine Sm.tup (n := 2) (m := 60000) (k := 3) (Nat.le_refl _) (fun d hd => ?_) (by decide)
  simp only [List.mem_cons, List.not_mem_nil, or_false] at hd
  rcases hd with rfl | rfl
  · exact (sm_rules ok).le (by decide) (by decide)
  · exact (Sm.str (hs.small ok.small).ok hx).le (by decide) (by decide)
theorem cutS_list (x : Str) {lo hi : Nat} (h : lo ≤ hi) (hx : hi ≤ x.length) : (cutS x (some (lo : Int)) (some (hi : Int))).cps.toList = (x.cps.toList.drop lo).take (hi - lo) := by
  show ((x.cps.toList.drop (HT.sIx x.length 0 (some (lo : Int)))).take (HT.sIx x.length x.length (some (hi : Int)) - HT.sIx x.length 0 (some (lo : Int)))).toArray.toList = _
  have e1 : HT.sIx x.length 0 (some (lo : Int)) = min lo x.length := HT.sIx_nat _ _ _
  have e2 : HT.sIx x.length x.length (some (hi : Int)) = min hi x.length := HT.sIx_nat _ _ _
  have m1 : min lo x.length = lo := Nat.min_eq_left (by omega)
  have m2 : min hi x.length = hi := Nat.min_eq_left hx
  rw [e1, e2, m1, m2]
theorem len_list (x : Str) : x.cps.toList.length = x.length := Array.length_toList
theorem part_len {x x' : Str} {s m : Nat} (h : x'.cps.toList = (x.cps.toList.drop s).take m) (hm : s + m ≤ x.length) : x'.length = m := by
  rw [← len_list, h, List.length_take, List.length_drop, len_list]
  omega
theorem none_of {p : Addr} {H H' : Hp} (k : Kp p H H') {b : Addr} (nb : b ≠ p) (h : H' b = none) : H b = none := by
  cases e : H b with
  | none => rfl
  | some o =>
    rw [k b o nb e] at h
    cases h
/-- texts of pairs are of the letters; the last letter of all is none of them -/
def OfP (r : Rl) : Prop := (∀ y ∈ r.prs, Of r.letters y.1) ∧ ∀ ch ∈ r.letters.cps.toList, ch < 122 ∧ ch ≤ r.letters.cps.toList.getD (r.letters.length - 1) 0
def alpha : Str := "abcdefghijklmnopqrstuvwxyz"
theorem alpha_len : alpha.length = 26 := by decide +kernel
theorem alpha_low : ∀ a0, a0 < 20 → ∀ a1, a1 < 7 → ∀ ch ∈ (alpha.cps.toList.drop a0).take a1, ch < 122 ∧ ch ≤ ((alpha.cps.toList.drop a0).take a1).getD (a1 - 1) 0 := by decide +kernel
theorem alpha_small : Small alpha := by unfold Small; decide +kernel
section
variable {P : Program} {w : World} {K : PySem.W.Frag} {mg : Str → Option Value} {base : Heap}
abbrev s_law_code : Stmt := topS 17
theorem sc_law_code : FnScope ["_law_pen_here", "_law_way", "_law_first", "_law_letters", "_law_ties_here", "_law_even", "_law_k", "_law_loops", "_law_stacks", "_law_one", "_law_other", "_law_piles", "_law_key"] ["_law_pen_here"] (defScope s_law_code) :=
  ⟨rfl, rfl, rfl, by decide +kernel, rfl, by decide +kernel, by decide +kernel⟩
def spRules : Sp := fun vs H Q _ => ∃ (p c : Addr) (n : Nat), vs = [.ref p] ∧ Pen H p c n ∧ n + 300 < 1000000 ∧
  ∀ v r H', RulesAt H' v r → RlOk r → OfP r → Kp p H H' → Pen H' p c (n + 300) → Q v H'
theorem ok_rules {f : Addr} {fd : FuncData} (F : Fun K "_law_code" "_law_code" s_law_code f fd) (c_law_pick : CDraw P w K mg base) (c_law_some_worth : CWorth P w K mg base) (c_law_ties : CTies P w K mg base)
    (mlen : mg "len" = none) (mint : mg "int" = none) (mtuple : mg "tuple" = none) (mrange : mg "range" = none) (msorted : mg "sorted" = none) : FnOk P w K mg base CX0 4 f fd ["_law_pen_here"] spRules := by
  refine F.ok sc_law_code (fun vs H Q E h => ?_) (fun cdv A outer s H vs Q E hr h => ?_)
  · obtain ⟨p, c, n, rfl, _⟩ := h
    rfl
  · obtain ⟨p, c, n, rfl, hP, hn, q⟩ := h
    refine ⟨_, (pss_cons (ps_set (i := 1) sc_law_code.nd rfl (.inl rfl) (pe_ca c_law_pick (hr.mono (by decide)) (by rfl) (pa_cons (pv 0) (pa_cons pe_int pa_nil))))
      (pss_cons (ps_set (i := 2) sc_law_code.nd rfl (.inl rfl) (pe_ca c_law_pick (hr.mono (by decide)) (by rfl) (pa_cons (pv 0) (pa_cons pe_int pa_nil))))
      (pss_cons (ps_set (i := 3) sc_law_code.nd rfl (.inl rfl) (pe_slice sl_str pe_str (po_some (pv 2)) (po_some (pe_op op_add (pv 2) (pe_ix (ixL K) (pe_lst (pa_cons (pe_op op_add pe_int (pe_ca c_law_pick (hr.mono (by decide)) (by rfl) (pa_cons (pv 0) (pa_cons pe_int pa_nil)))) (pa_cons pe_int (pa_cons (pe_op op_add pe_int (pe_ca c_law_pick (hr.mono (by decide)) (by rfl) (pa_cons (pv 0) (pa_cons pe_int pa_nil)))) pa_nil)))) (pv 1) (fun _ _ => rfl))))))
      (pss_cons (ps_set (i := 4) sc_law_code.nd rfl (.inl rfl) (pe_ca c_law_ties (hr.mono (by decide)) (by rfl) (pa_cons (pv 0) (pa_cons (pv 3) (pa_cons pe_int pa_nil)))))
      (pss_cons (ps_set (i := 5) sc_law_code.nd rfl (.inr rfl) (pe_cmpR op_eq (pe_ca c_law_pick (hr.mono (by decide)) (by rfl) (pa_cons (pv 0) (pa_cons pe_int pa_nil))) pe_int (nomark _)))
      (pss_cons (ps_setLc (i := 7) (own := [("_law_k", 6)]) (g := gName 6) (by rfl) sc_law_code.nd rfl rfl (sw_true rfl rfl rfl (by decide +kernel)) (pi_range1 (by rfl) mrange (pa_cons pe_int pa_nil)) (blkOk_by (own := [("_law_k", 6)]) (N := ["_law_pen_here", "_law_way", "_law_first", "_law_letters", "_law_ties_here", "_law_even", "_law_k", "_law_loops", "_law_stacks", "_law_one", "_law_other", "_law_piles", "_law_key"]) (sc := defScope s_law_code) (by decide +kernel)) (fun _ _ _ _ _ => (pg_name (i := 6) sc_law_code.nd rfl (.inl rfl))) (fun _ _ _ _ _ => pts_nil) (fun _ _ _ _ _ => (pe_ifExp (pt_val (pv 5)) pe_int (pe_ca c_law_some_worth (hr.mono (by decide)) (by rfl) (pa_cons (pv 0) pa_nil)))))
      (pss_cons (ps_set (i := 8) sc_law_code.nd rfl (.inr rfl) pe_dnewT)
      (pss_cons (ps_for PassesOwn.never rfl (pi_range1 (by rfl) mrange (pa_cons (pe_op op_mul (pe_ix (ixL K) (pe_lst (pa_cons pe_int (pa_cons (pe_ca c_law_pick (hr.mono (by decide)) (by rfl) (pa_cons (pv 0) (pa_cons pe_int pa_nil))) pa_nil))) (pe_ca c_law_pick (hr.mono (by decide)) (by rfl) (pa_cons (pv 0) (pa_cons pe_int pa_nil))) (fun _ _ => rfl)) (pe_callTy call_int1 (by rfl) mint (by decide +kernel) (pa_cons (pe_cmpR (neD K hr.units) (pv 4) (pe_tup pa_nil) (nomark _)) pa_nil))) pa_nil)) (pg_name (i := 6) sc_law_code.nd rfl (.inl rfl)) (pss_cons (ps_par (i := 9) (j := 10) rfl sc_law_code.nd rfl rfl (by decide) rfl rfl (pa_cons (pe_ix (ixT K) (pe_ix (ixT K) (pv 4) (pe_ca c_law_pick (hr.mono (by decide)) (by rfl) (pa_cons (pv 0) (pa_cons (pe_callB (lenQ K) (by rfl) mlen (by decide +kernel) (pa_cons (pv 4) pa_nil)) pa_nil))) (fun _ _ => rfl)) pe_int (fun _ _ => rfl)) (pa_cons (pe_ix (ixT K) (pe_ix (ixT K) (pv 4) (pe_ca c_law_pick (hr.mono (by decide)) (by rfl) (pa_cons (pv 0) (pa_cons (pe_callB (lenQ K) (by rfl) mlen (by decide +kernel) (pa_cons (pv 4) pa_nil)) pa_nil))) (fun _ _ => rfl)) pe_int (fun _ _ => rfl)) pa_nil)) (by rfl))
      (pss_one (ps_dput (hu_of hr) (pv 8) (pe_tup (pa_cons (pv 9) (pa_cons (pv 10) pa_nil))) (pe_ca c_law_some_worth (hr.mono (by decide)) (by rfl) (pa_cons (pv 0) pa_nil)) rfl))))
      (pss_cons (ps_set (i := 11) sc_law_code.nd rfl (.inl rfl) (pe_callTy (tupleOf K) (by rfl) mtuple (by decide +kernel) (pa_cons (pe_lc (own := [("_law_key", 12)]) (g := gName 12) (by rfl) sc_law_code.nd (pi_list (pe_callB (cr_sortKT K rfl hr.units) (by rfl) msorted (by decide +kernel) (pa_cons (pv 8) pa_nil))) (blkOk_by (own := [("_law_key", 12)]) (N := ["_law_pen_here", "_law_way", "_law_first", "_law_letters", "_law_ties_here", "_law_even", "_law_k", "_law_loops", "_law_stacks", "_law_one", "_law_other", "_law_piles", "_law_key"]) (sc := defScope s_law_code) (by decide +kernel)) (fun _ _ _ _ _ => (pg_name (i := 12) sc_law_code.nd rfl (.inl rfl))) (fun _ _ _ _ _ => pts_nil) (fun _ _ _ _ _ => (pe_op (catT K) (pv 12) (pe_tup (pa_cons (pe_dget (hu_of hr) (pv 8) (pv 12) (fun _ _ => rfl)) pa_nil))))) pa_nil)))
      (pss_one (ps_ret (pe_tup (pa_cons (pv 3) (pa_cons (pv 4) (pa_cons (pe_ix (ixL K) (pe_lst (pa_cons pe_int (pa_cons pe_int (pa_cons (pe_ca c_law_pick (hr.mono (by decide)) (by rfl) (pa_cons (pv 0) (pa_cons pe_int pa_nil))) pa_nil)))) (pe_ca c_law_pick (hr.mono (by decide)) (by rfl) (pa_cons (pv 0) (pa_cons pe_int pa_nil))) (fun _ _ => rfl)) (pa_cons (pe_callTy (tupleOf K) (by rfl) mtuple (by decide +kernel) (pa_cons (pv 7) pa_nil)) (pa_cons (pv 11) pa_nil))))))))))))))))), ?_⟩
    refine ⟨_, rfl, p, c, 3, n, rfl, hP, by omega, by decide, by decide, fun way H1 wa wb k1 hP1 => ?_⟩
    refine ⟨_, rfl, p, c, 20, _, rfl, hP1, by omega, by decide, by decide, fun fi H2 fa fb k2 hP2 => ?_⟩
    -- letters
    refine ⟨_, rfl, _, rfl, _, rfl, _, rfl, p, c, 6, _, rfl, hP2, by omega, by decide, by decide, fun g1 H3 ga gb k3 hP3 => ⟨1, g1, rfl, rfl, ?_⟩⟩
    refine ⟨_, rfl, p, c, 3, _, rfl, hP3, by omega, by decide, by decide, fun g2 H4 gc gd k4 hP4 => ⟨1, g2, rfl, rfl, szL (show 3 ≤ 1000000 by decide), fun l5 hl5 => ?_⟩⟩
    obtain ⟨sz', hsz', hat5⟩ := atI_ints (ns := [1 + g1, 2, 1 + g2]) wa wb
    have hszb : 1 ≤ sz' ∧ sz' ≤ 6 := by
      simp only [List.mem_cons, List.not_mem_nil, or_false] at hsz'
      omega
    refine ⟨_, rfl, l5, _, _, _, rfl, rfl, SqL.of upd_same, hat5, _, _, rfl, rfl, _, rfl, alpha, rfl, szL (by rw [alpha_len]; decide), ?_⟩
    obtain ⟨a0, rfl⟩ : ∃ a0 : Nat, fi = (a0 : Int) := ⟨fi.toNat, by omega⟩
    obtain ⟨a1, rfl⟩ : ∃ a1 : Nat, sz' = (a1 : Int) := ⟨sz'.toNat, by omega⟩
    have hcut := cutS_list alpha (lo := a0) (hi := a0 + a1) (by omega) (by rw [alpha_len]; omega)
    have hcast : ((a0 + a1 : Nat) : Int) = (a0 : Int) + (a1 : Int) := by omega
    rw [hcast, Nat.add_sub_cancel_left] at hcut
    have hsl := part_len hcut (by rw [alpha_len]; omega)
    have hsm : Small (cutS alpha (some (a0 : Int)) (some ((a0 : Int) + (a1 : Int)))) := fun ch hc => by
      rw [hcut] at hc
      exact alpha_small ch (List.mem_of_mem_drop (List.mem_of_mem_take hc))
    have hsz : ∀ ch ∈ (cutS alpha (some (a0 : Int)) (some ((a0 : Int) + (a1 : Int)))).cps.toList, ch < 122 ∧ ch ≤ (cutS alpha (some (a0 : Int)) (some ((a0 : Int) + (a1 : Int)))).cps.toList.getD ((cutS alpha (some (a0 : Int)) (some ((a0 : Int) + (a1 : Int)))).length - 1) 0 := fun ch hc => by
      rw [hsl, hcut]
      rw [hcut] at hc
      exact alpha_low a0 (by omega) a1 (by omega) ch hc
    show gName 3 (V.str (cutS alpha (some (a0 : Int)) (some ((a0 : Int) + (a1 : Int))))) _ _ _
    generalize cutS alpha (some (a0 : Int)) (some ((a0 : Int) + (a1 : Int))) = sg at hsl hsm hsz ⊢
    have hP5 := hP4.new (o := .lst [.int (1 + g1), .int 2, .int (1 + g2)]) hl5
    have k05 : Kp p H (upd H4 l5 (.lst [.int (1 + g1), .int 2, .int (1 + g2)])) := (((k1.trans k2).trans k3).trans k4).trans (Kp.new hl5)
    generalize upd H4 l5 (.lst [.int (1 + g1), .int 2, .int (1 + g2)]) = H5 at hP5 k05 ⊢
    clear hP1 hP2 hP3 hP4 k1 k2 k3 k4 hl5 hcut
    -- ties
    refine ⟨_, rfl, _, rfl, p, c, sg, _, rfl, hP5, by omega, by omega, by omega, hsm, fun vt prs H10 hTp hprl hpn hpb k10 hP10 => ?_⟩
    obtain ⟨tp, oz, tus, rfl, htp, hoz, hTr0⟩ := id hTp
    have kp10 : Kp p H H10 := k05.trans k10
    have htul := paired_len hTr0
    have hOk : ∀ x ∈ prs, Two x.1 ∧ -99 ≤ x.2 ∧ x.2 ≤ 99 := fun x hx => ⟨(hpb x hx).1, (hpb x hx).2.2⟩
    -- even
    refine ⟨_, rfl, p, c, 3, _, rfl, hP10, by omega, by decide, by decide, fun ev H11 ea eb k11 hP11 => ⟨rfl, ?_⟩⟩
    -- loops
    refine ⟨9, rfl, by decide, by decide, fun D22 hD22 => lc_range (lo := 0) (n := 9) (fun i H22 => ∃ ns : List Int, ns.length = i ∧ (∀ x ∈ ns, -99 ≤ x ∧ x ≤ 99) ∧ H22 D22 = some (.lst (ns.map V.int)) ∧ Kp p H11 H22 ∧ Pen H22 p c (n + 60 + 4 * i)) ⟨[], rfl, (fun x h => by cases h), upd_same, Kp.new hD22, (hP11.new hD22).mono (by omega)⟩ (fun i H22 hi hv => ?_) (fun H22 hv => ?_)⟩
    · obtain ⟨ns, hns, hnb, hL22, k22, hP22⟩ := hv
      have nD := hP11.ne hD22
      have done : ∀ (wv : Int) (H23 : Hp), -99 ≤ wv → wv ≤ 99 → Kp p H22 H23 → Pen H23 p c (n + 60 + 4 * i + 4) → ∃ acc, H23 D22 = some (.lst acc) ∧ acc.length < sizeLine ∧ ∃ ns : List Int, ns.length = i + 1 ∧ (∀ x ∈ ns, -99 ≤ x ∧ x ≤ 99) ∧ (upd H23 D22 (.lst (acc ++ [.int wv]))) D22 = some (.lst (ns.map V.int)) ∧ Kp p H11 (upd H23 D22 (.lst (acc ++ [.int wv]))) ∧ Pen (upd H23 D22 (.lst (acc ++ [.int wv]))) p c (n + 60 + 4 * (i + 1)) := fun wv H23 w0 w1 k23 hP23 => by
        refine ⟨_, k23 _ _ nD.1 hL22, szLt (by rw [List.length_map]; omega), ns ++ [wv], by rw [List.length_append, List.length_singleton, hns], fun x hx => ?_, by rw [upd_same, List.map_append]; rfl, (k22.trans k23).put hD22, (hP23.put nD.1 nD.2).mono (by omega)⟩
        rcases List.mem_append.mp hx with hx | hx
        · exact hnb x hx
        · rw [List.mem_singleton.mp hx]
          exact ⟨w0, w1⟩
      refine ⟨rfl, _, rfl, _, rfl, ite2 (fun e => ?_) (fun e => ?_)⟩
      · exact done 0 H22 (by decide) (by decide) Kp.refl (hP22.mono (by omega))
      · exact ⟨_, rfl, p, c, _, rfl, hP22, by omega, fun wv H23 w0 w1 k23 hP23 => done wv H23 w0 w1 k23 hP23⟩
    obtain ⟨ns, hns, hnb, hL22, k22, hP22⟩ := hv
    have nD22 := hP11.ne hD22
    have k1022 : Kp p H10 H22 := k11.trans k22
    -- stacks
    refine fun st hst => ?_
    have nst := hP22.ne hst
    have hP13 := hP22.new (o := .dT []) hst
    have k1013 : Kp p H10 (upd H22 st (.dT [])) := k1022.trans (Kp.new hst)
    have hD13 : (upd H22 st (.dT [])) st = some (.dT []) := upd_same
    have hL13 := (Kp.new (p := p) (o := .dT []) hst) _ _ nD22.1 hL22
    generalize hH13 : upd H22 st (.dT []) = H13 at hP13 k1013 hD13 hL13 ⊢
    refine ⟨_, rfl, p, c, 13, _, rfl, hP13, by omega, by decide, by decide, fun r1 H14 ra rb k14 hP14 => ⟨szL (show 2 ≤ 1000000 by decide), fun l15 hl15 => ?_⟩⟩
    refine ⟨_, rfl, p, c, 2, _, rfl, hP14.new hl15, by omega, by decide, by decide, fun r2 H16 rc rd k16 hP16 => ?_⟩
    obtain ⟨y, hy, haty⟩ := atI_ints (ns := [0, r1]) rc rd
    have hy2 : 0 ≤ y ∧ y ≤ 12 := by
      simp only [List.mem_cons, List.not_mem_nil, or_false] at hy
      omega
    have k1316 : Kp p H13 H16 := (k14.trans (Kp.new hl15)).trans k16
    have hTp16 : FrzOf PairAt H16 (.ref tp) prs := FrzOf.mono PairAt.mono _ _ _ _ (TupK.of (k1013.trans k1316) hP10) hTp
    refine ⟨l15, _, r2, _, rfl, rfl, SqL.of (k16 _ _ (hP14.ne hl15).1 upd_same), haty, _, rfl, Nat.zero_le _, fun d17 hd17 => ?_⟩
    have x17 := Ext.new (o := .tup []) hd17
    have hTp17 : FrzOf PairAt (upd H16 d17 (.tup [])) (.ref tp) prs := FrzOf.mono PairAt.mono _ _ _ _ (TupK.ext x17) hTp16
    have dp17 : Dp K (upd H16 d17 (.tup [])) (.ref tp) (.tuple (prs.map dPr)) := by
      obtain ⟨tp', oz', tus', e', htp', _, hTr'⟩ := hTp17
      cases e'
      exact .tup (SqT.fz htp') (dpPairs hTr')
    refine ⟨.tuple (prs.map dPr), .tuple [], dp17, .tup (SqT.of upd_same) .nil, (sm_prs hprl hOk).shaped (by decide), by decide, .inr ⟨_, rfl, y, _, rfl, rfl, .inl ⟨by omega, by omega⟩, ?_⟩⟩
    obtain ⟨cnt, hcnt, cnt0, cnt12, cntU⟩ : ∃ cnt : Int, cnt = y * (if (!PyData.eqv (.tuple (prs.map dPr)) (.tuple [])) = true then 1 else 0) ∧ 0 ≤ cnt ∧ cnt ≤ 12 ∧ (0 < cnt → 0 < prs.length) := by
      refine ⟨_, rfl, ?_⟩
      cases prs with
      | nil =>
        have : (!PyData.eqv (.tuple (([] : List (Str × Int)).map dPr)) (.tuple [])) = false := by simp [PyData.eqv, PyData.eqvAll]
        rw [this]
        simp
      | cons y z =>
        have : (!PyData.eqv (.tuple ((y :: z).map dPr)) (.tuple [])) = true := by simp [PyData.eqv, PyData.eqvAll]
        rw [this, if_pos rfl, Int.mul_one, List.length_cons]
        omega
    have k1617 := k1316.trans (Kp.ext x17)
    have hD17 := k1617 _ _ nst.1 hD13
    have hL17 := k1617 _ _ nD22.1 hL13
    have hP17 := hP16.ext x17
    generalize upd H16 d17 (.tup []) = H17 at x17 hTp17 k1617 hD17 hL17 hP17 ⊢
    have nDst : D22 ≠ st := fun z => by
      rw [z, hD13] at hL13
      cases hL13
    refine ⟨cnt, congrArg (fun z => [V.int z]) hcnt.symm, by omega, by omega, for_range (lo := 0) (n := cnt.toNat) (fun i σ H16 => ∃ (y6 y9 y10 : Option V) (es : List (Str × Str × Int)), σ = [some (.ref p), some (.int way), some (.int (a0 : Int)), some (.str sg), some (.ref tp), some (.bl (decide (V.int ev = V.int 0))), y6, some (.ref D22), some (.ref st), y9, y10, none, none] ∧ H16 st = some (.dT (es.map encE)) ∧ es.length ≤ i ∧ (es.map fun x => (x.1, x.2.1)).Nodup ∧ (∀ x ∈ es, Two x.1 ∧ Two x.2.1 ∧ -99 ≤ x.2.2 ∧ x.2.2 ≤ 99) ∧ H16 D22 = some (.lst (ns.map V.int)) ∧ TupK H17 H16 ∧ Kp p H H16 ∧ Pen H16 p c (n + 110 + 6 * i))
      ⟨_, _, _, [], rfl, hD17, Nat.zero_le _, List.nodup_nil, (fun x h => by cases h), hL17, ⟨fun _ _ e => e, fun _ _ _ e => e⟩, (kp10.trans k1013).trans k1617, hP17.mono (by omega)⟩ (fun i σ H16 hi hv => ?_) (fun σ H16 hv => ?_)⟩
    · obtain ⟨y6, y9, y10, es, rfl, hD16, hel, hnd, hok, hL16, tk16, k16, hP16⟩ := hv
      have hu0 : 0 < prs.length := cntU (by omega)
      have pick : ∀ {H' : Hp} {d : Int}, TupK H17 H' → 0 ≤ d → d < prs.length → ∃ (us : List V) (oz : Obj) (a1 : Addr) (t1 : Str × Int), H' tp = some (.frz oz (.tup us)) ∧ us.length = prs.length ∧ atI us d = some (.ref a1) ∧ H' a1 = some (.tup [.str t1.1, .int t1.2]) ∧ t1 ∈ prs := fun {H' d} tk d0 d1 => by
        obtain ⟨tp', oz', us', e', h1, h2, h3⟩ := FrzOf.mono PairAt.mono _ _ _ _ tk hTp17
        cases e'
        have hl := paired_len h3
        obtain ⟨u, hu⟩ : ∃ u, us'[d.toNat]? = some u := ⟨_, List.getElem?_eq_getElem (by omega)⟩
        obtain ⟨t1, ht1, a1, rfl, ha1⟩ := paired_get h3 hu
        refine ⟨us', oz', a1, t1, h1, hl, ?_, ha1, List.mem_of_getElem? ht1⟩
        rw [atI_get d0 (by omega), ← hu, List.getElem?_eq_getElem]
      obtain ⟨us0, oz0, _, _, hf0, hl0, _⟩ := pick (d := 0) tk16 (Int.le_refl _) (by omega)
      refine ⟨_, rfl, _, rfl, _, rfl, tp, _, rfl, .inr (SqT.fz hf0), p, c, _, _, rfl, hP16, by omega, by omega, by omega, fun d1 H18 da db k18 hP18 => ?_⟩
      have tk18 := tk16.trans (TupK.of k18 hP16)
      obtain ⟨us1, oz1, b1, t1, hf1, hl1, hat1, hb1, ht1⟩ := pick (d := d1) tk18 da (by omega)
      refine ⟨tp, _, d1, _, rfl, rfl, SqT.fz hf1, hat1, b1, _, 0, _, rfl, rfl, SqT.of hb1, rfl, ?_⟩
      refine ⟨_, rfl, _, rfl, _, rfl, tp, _, rfl, .inr (SqT.fz hf1), p, c, _, _, rfl, hP18, by omega, by omega, by omega, fun d2 H19 dc dd k19 hP19 => ?_⟩
      have tk19 := tk18.trans (TupK.of k19 hP18)
      obtain ⟨us2, oz2, b2, t2, hf2, hl2, hat2, hb2, ht2⟩ := pick (d := d2) tk19 dc (by omega)
      refine ⟨tp, _, d2, _, rfl, rfl, SqT.fz hf2, hat2, b2, _, 0, _, rfl, rfl, SqT.of hb2, rfl, _, _, rfl, ?_⟩
      refine ⟨_, rfl, p, c, _, rfl, hP19, by omega, fun w H20 wa wb k20 hP20 => ?_⟩
      refine ⟨_, rfl, _, rfl, _, rfl, szL (show 2 ≤ 1000000 by decide), fun tk htk => ?_⟩
      have x21 := Ext.new (o := .tup [.str t1.1, .str t2.1]) htk
      have hD20 := x21 _ _ (k20 _ _ nst.1 (k19 _ _ nst.1 (k18 _ _ nst.1 hD16)))
      have hL20 := x21 _ _ (k20 _ _ nD22.1 (k19 _ _ nD22.1 (k18 _ _ nD22.1 hL16)))
      have hP21 := hP20.ext x21
      refine ⟨st, _, rfl, DPut.t (k := [.inr t1.1, .inr t2.1]) hD20 upd_same (szLt (by rw [List.length_map]; omega)), ?_⟩
      rw [put_enc]
      have tkd : TupK (upd H20 tk (.tup [.str t1.1, .str t2.1])) (upd (upd H20 tk (.tup [.str t1.1, .str t2.1])) st (.dT ((putE es t1.1 t2.1 w).map encE))) := ⟨fun b xs e => by rw [upd_ne (ne_of e hD20 (by intro z; cases z))]; exact e, fun b o u e => by rw [upd_ne (ne_of e hD20 (by intro z; cases z))]; exact e⟩
      refine ⟨_, _, _, putE es t1.1 t2.1 w, rfl, upd_same, ?_, putE_keys _ _ _ _ hnd, putE_all hok ⟨(hOk t1 ht1).1, (hOk t2 ht2).1, wa, wb⟩, ?_, ?_, ?_, ?_⟩
      · have := putE_len es t1.1 t2.1 w
        omega
      · rw [upd_ne (ne_of hL20 hD20 (by intro z; cases z))]
        exact hL20
      · exact ((tk19.trans (TupK.of k20 hP19)).trans (TupK.ext x21)).trans tkd
      · have hst0 : H st = none := none_of (kp10.trans k1022) nst.1 hst
        exact ((((k16.trans k18).trans k19).trans k20).trans (Kp.ext x21)).put hst0
      · exact (hP21.put nst.1 nst.2).mono (by omega)
    · obtain ⟨y6, y9, y10, es, rfl, hD16, hel, hnd, hok, hL16, tk16, k16, hP16⟩ := hv
      have hes12 : es.length ≤ 12 := by omega
      -- piles
      refine ⟨_, rfl, st, _, rfl, .inl hD16, fun bs hkeys => ?_⟩
      obtain ⟨bes, hb1, hb2, hb3⟩ := keys_zip hkeys
      refine ⟨_, fun x => x.1, fun x => .tuple [.str x.2.1, .str x.2.2.1], bes, hb1.symm, fun x hx => ⟨.tup (SqT.of (hb3 x hx)) (.cons (.str _) (.cons (.str _) .nil)), by simp [PyData.depth, PyData.depthAll]⟩, ?_, .inl ?_, fun ls hls2 => ?_⟩
      · intro d1 h1 d2 h2
        obtain ⟨x1, _, rfl⟩ := List.mem_map.mp h1
        obtain ⟨x2, _, rfl⟩ := List.mem_map.mp h2
        simp [PySem.W.alike, PySem.W.alikeAll]
      · intro d1 h1
        obtain ⟨x1, _, rfl⟩ := List.mem_map.mp h1
        exact ⟨_, _, rfl⟩
      · obtain ⟨S, hS⟩ : ∃ S, S = bes.mergeSort (PySem.W.dataLe false fun x => PyData.tuple [.str x.2.1, .str x.2.2.1]) := ⟨_, rfl⟩
        rw [← hS]
        have hperm : S.Perm bes := hS ▸ List.mergeSort_perm _ _
        have hSl : S.length ≤ 12 := by
          rw [hperm.length_eq]
          have := congrArg List.length hb2
          rw [List.length_map] at this
          omega
        have e17 := Ext.new (o := .lst (S.map fun x => V.ref x.1)) hls2
        refine ⟨ls, rfl, ⟨_, SqL.of upd_same⟩, fun D hD => lc_list (K := K) (xs := S.map fun x => V.ref x.1) (fun i H18 => ∃ (vs : List V) (stk : List (Str × Str × Int)), H18 D = some (.lst vs) ∧ Paired (StackAt H18) vs stk ∧ stk = (S.take i).map (·.2) ∧ Ext (upd H16 ls (.lst (S.map fun x => V.ref x.1))) H18)
          ⟨[], [], upd_same, .nil, rfl, Ext.new hD⟩ (fun i H18 _ ⟨_, _, _, _, _, k⟩ => SqL.of (k _ _ upd_same)) (fun i u H18 hi hv => ?_) (fun H18 hv => ?_)⟩
        · obtain ⟨vs, stk, hL18, hPr18, hstk, k18⟩ := hv
          rw [List.getElem?_map] at hi
          obtain ⟨x, hx, rfl⟩ : ∃ x, S[i]? = some x ∧ u = V.ref x.1 := by
            cases e : S[i]? with
            | none => rw [e] at hi; cases hi
            | some x => rw [e] at hi; exact ⟨x, rfl, (Option.some.inj hi).symm⟩
          have hxm : x ∈ bes := hperm.mem_iff.mp (List.mem_of_getElem? hx)
          have hxe : x.2 ∈ es := hb2 ▸ List.mem_map.mpr ⟨x, hxm, rfl⟩
          have hb18 := k18 _ _ (e17 _ _ (hb3 x hxm))
          have hD18 := k18 _ _ (e17 _ _ hD16)
          have hdg : DGet H18 st (.ref x.1) (some (.int x.2.2.2)) := val_enc hnd hxe ▸ DGet.t (k := [.inr x.2.1, .inr x.2.2.1]) hD18 hb18
          refine ⟨rfl, _, rfl, _, rfl, _, rfl, st, _, rfl, hdg, szL (show 1 ≤ 1000000 by decide), fun t1 ht1 => ?_⟩
          have e19 := Ext.new (o := .tup [.int x.2.2.2]) ht1
          refine ⟨x.1, t1, _, _, rfl, rfl, SqT.of (e19 _ _ hb18), SqT.of upd_same, (fun z => by cases z), szL (show 2 + 1 ≤ 1000000 by decide), (fun z => by cases z), fun _ t2 ht2 => ?_⟩
          have e20 := e19.trans (Ext.new (o := .tup [.str x.2.1, .str x.2.2.1, .int x.2.2.2]) ht2)
          have hL20 := e20 _ _ hL18
          have nDt : t2 ≠ D := by
            intro z
            rw [← z] at hL20
            rw [upd_same] at hL20
            cases hL20
          have hvl : vs.length ≤ 12 := by
            rw [paired_len hPr18, hstk, List.length_map, List.length_take]
            omega
          refine ⟨vs, hL20, szLt (by omega), vs ++ [.ref t2], stk ++ [x.2], upd_same, ?_, ?_, (k18.trans e20).put hD⟩
          · refine (paired_imp (fun _ _ => StackAt.mono _ _ _ _ ((TupK.ext e20).trans (TupK.lst hL20))) hPr18).snoc ⟨t2, rfl, ?_⟩
            rw [upd_ne nDt, upd_same]
          · rw [List.take_add_one, hx, List.map_append, hstk]
            rfl
        · obtain ⟨vs, stk, hL18, hPr18, hstk, k18⟩ := hv
          rw [List.length_map, List.take_of_length_le (Nat.le_refl _)] at hstk
          have hkeys2 : (stk.map fun x => (x.1, x.2.1)).Nodup := by
            rw [hstk, List.map_map]
            have : (S.map ((fun x : Str × Str × Int => (x.1, x.2.1)) ∘ fun x : Addr × Str × Str × Int => x.2)).Perm (es.map fun x => (x.1, x.2.1)) := by
              rw [← hb2, List.map_map]
              exact hperm.map _
            exact this.nodup_iff.mpr hnd
          have hstE : ∀ x ∈ stk, x ∈ es := fun x hx => by
            rw [hstk] at hx
            obtain ⟨y, hy, rfl⟩ := List.mem_map.mp hx
            exact hb2 ▸ List.mem_map.mpr ⟨y, hperm.mem_iff.mp hy, rfl⟩
          have hst12 : stk.length ≤ 12 := by
            rw [hstk, List.length_map]
            exact hSl
          refine ⟨D, _, rfl, .inl ⟨SqL.of hL18, fun tr htr => ?_⟩⟩
          have e21 := (e17.trans k18).trans (Ext.new (o := .tup vs) htr)
          have hTr : TupOf StackAt (upd H18 tr (.tup vs)) (.ref tr) stk := ⟨tr, vs, rfl, upd_same, paired_imp (fun _ _ => StackAt.mono _ _ _ _ (TupK.new htr)) hPr18⟩
          have hL21 := e21 _ _ hL16
          have hP21 := hP16.ext e21
          have k21 := k16.trans (Kp.ext e21)
          have tk21 := tk16.trans (TupK.ext e21)
          generalize upd H18 tr (.tup vs) = H21 at hTr hP21 k21 tk21 hL21 ⊢
          -- the span, and the whole
          refine ⟨_, rfl, _, rfl, _, rfl, p, c, 4, _, rfl, hP21, by omega, by decide, by decide, fun r4 H23 rg rh k23 hP23 => ⟨szL (show 3 ≤ 1000000 by decide), fun l24 hl24 => ?_⟩⟩
          refine ⟨_, rfl, p, c, 3, _, rfl, hP23.new hl24, by omega, by decide, by decide, fun r5 H25 ri rj k25 hP25 => ?_⟩
          obtain ⟨z, hz, hatz⟩ := atI_ints (ns := [0, 1, r4]) ri rj
          have hz2 : 0 ≤ z ∧ z ≤ 3 := by
            simp only [List.mem_cons, List.not_mem_nil, or_false] at hz
            omega
          have k2125 : Kp p H21 H25 := (k23.trans (Kp.new hl24)).trans k25
          have hL25 := k2125 _ _ nD22.1 hL21
          refine ⟨l24, _, r5, _, rfl, rfl, SqL.of (k25 _ _ (hP23.ne hl24).1 upd_same), hatz, _, rfl, D22, _, rfl, .inl ⟨SqL.of hL25, fun tl htl => ?_⟩⟩
          have x23 := Ext.new (o := .tup (ns.map V.int)) htl
          have hTl : (upd H25 tl (.tup (ns.map V.int))) tl = some (.tup (ns.map V.int)) := upd_same
          refine ⟨_, rfl, szL (show 5 ≤ 1000000 by decide), fun tR htR => ?_⟩
          have xR := Ext.new (o := .tup [.str sg, .ref tp, .int z, .ref tl, .ref tr]) htR
          have kR := k2125.trans (Kp.ext (x23.trans xR))
          have tkR : TupK H17 _ := tk21.trans (TupK.of kR hP21)
          exact q _ ⟨sg, prs, z, _, stk⟩ _ ⟨tR, .ref tp, .ref tl, .ref tr, rfl, upd_same, FrzOf.mono PairAt.mono _ _ _ _ tkR hTp17, ⟨tl, _, rfl, xR _ _ hTl, paired_ints ns⟩, TupOf.mono StackAt.mono _ _ _ _ (TupK.of kR hP21) hTr⟩
            ⟨show sg.length ≤ 6 by omega, show 1 ≤ sg.length by omega, hsm, hprl, hOk, hz2.1, hz2.2, hns, hnb, hst12, fun x hx => hok x (hstE x hx), hkeys2, hpn⟩ ⟨fun y hy => (hpb y hy).2.1, hsz⟩ (k21.trans kR) ((hP25.ext (x23.trans xR)).mono (by omega))
abbrev CRules (P : Program) (w : World) (K : PySem.W.Frag) (mg : Str → Option Value) (base : Heap) : Prop := Ca P w K mg base 4 "_law_code" ["_law_pen_here"] spRules
end
end Pf


namespace Pf
open PySem PySem.Spec PyProof.Rows L2
def sgn (x : Str) (i : Int) : Str := ⟨#[x.cps.toList.getD i.toNat 0]⟩
theorem sgn_at {x : Str} {i : Int} (h0 : 0 ≤ i) (h1 : i < x.length) : atI x.cps.toList i = some (x.cps.toList.getD i.toNat 0) := by
  have h2 : i < x.cps.toList.length := by
    rw [Array.length_toList]
    exact h1
  rw [atI_get h0 h2, List.getD_eq_getElem?_getD, List.getElem?_eq_getElem (by omega)]
  rfl
def tx2 (x : Str) (p : Int × Int) : Str := sgn x p.1 ++ sgn x p.2
def pwV : List (Str × Int) → Str → V
  | [], _ => .non
  | (t, x) :: r, b => if t = b then .int x else pwV r b
theorem pwV_at {prs : List (Str × Int)} {i : Nat} {t : Str} {x : Int} (h : prs[i]? = some (t, x)) (b : Str) : pwV (prs.drop i) b = if t = b then .int x else pwV (prs.drop (i + 1)) b := by
  obtain ⟨hi, e⟩ := List.getElem?_eq_some_iff.mp h
  rw [List.drop_eq_getElem_cons hi, e, pwV]
theorem pwV_end {prs : List (Str × Int)} {i : Nat} (h : prs.length ≤ i) (b : Str) : pwV (prs.drop i) b = .non := by
  rw [List.drop_eq_nil_of_le h, pwV]
theorem pwV_is : ∀ (prs : List (Str × Int)) (b : Str), (!decide (pwV prs b = .non)) = decide (b ∈ prs.map (·.1))
  | [], _ => rfl
  | (t, x) :: r, b => by
    rw [pwV, List.map_cons]
    by_cases e : t = b
    · rw [if_pos e, decide_eq_false (fun z => by cases z), decide_eq_true (by rw [e]; exact List.mem_cons_self ..)]
      rfl
    · rw [if_neg e, pwV_is r b]
      refine decide_eq_decide.mpr ⟨fun h => List.mem_cons_of_mem _ h, fun h => ?_⟩
      rcases List.mem_cons.mp h with h | h
      · exact absurd h.symm e
      · exact h
def mayC (r : Rl) (x : Str) (i j : Int) : Bool := decide (r.span < j - i) && decide (tx2 x (i, j) ∈ r.prs.map (·.1))
def encP (x : Str × Int) : Key × V := (.inr x.1, .int x.2)
theorem val_isSome : ∀ (prs : List (Str × Int)) (b : Str), (valV (prs.map encP) (.inr b)).isSome = decide (b ∈ prs.map (·.1))
  | [], _ => rfl
  | (t, x) :: r, b => by
    rw [List.map_cons, List.map_cons]
    by_cases e : t = b
    · rw [valV_pos (show (encP (t, x)).1 = Sum.inr b by rw [e]; rfl), decide_eq_true (by rw [e]; exact List.mem_cons_self ..)]
      rfl
    · rw [valV_neg (show ¬ (encP (t, x)).1 = Sum.inr b from fun z => e (Sum.inr.inj z)), val_isSome r b]
      refine decide_eq_decide.mpr ⟨fun h => List.mem_cons_of_mem _ h, fun h => ?_⟩
      rcases List.mem_cons.mp h with h | h
      · exact absurd h.symm e
      · exact h
theorem merge_nd : ∀ (kvs acc : List (Key × V)), ((acc ++ kvs).map (·.1)).Nodup → mergeK acc kvs = acc ++ kvs
  | [], acc, _ => by rw [List.append_nil]; rfl
  | (k, v) :: r, acc, h => by
    have hno : (acc.any fun kv => decide (kv.1 = k)) = false := by
      rw [List.any_eq_false]
      intro kv hkv e
      have e := of_decide_eq_true e
      rw [List.map_append, List.map_cons] at h
      have := (List.nodup_append.mp h).2.2 kv.1 (List.mem_map.mpr ⟨kv, hkv, rfl⟩) k (List.mem_cons_self ..)
      exact this e
    have e1 : putK acc k v = acc ++ [(k, v)] := by
      unfold putK
      rw [hno, if_neg Bool.false_ne_true]
    show mergeK (putK acc k v) r = _
    rw [e1, merge_nd r (acc ++ [(k, v)]) (by rw [List.append_assoc]; exact h), List.append_assoc]
    rfl
theorem merge_prs {prs : List (Str × Int)} (h : (prs.map (·.1)).Nodup) : mergeK [] (prs.map encP) = prs.map encP := by
  rw [merge_nd, List.nil_append]
  rw [List.nil_append, List.map_map]
  have e : ((fun x : Key × V => x.1) ∘ encP) = (fun x : Str × Int => (Sum.inr x.1 : Key)) := rfl
  rw [e]
  have e2 : (prs.map fun x : Str × Int => (Sum.inr x.1 : Key)) = (prs.map (·.1)).map Sum.inr := by
    rw [List.map_map]
    rfl
  rw [e2]
  exact List.Pairwise.map _ (fun a b z y => z (Sum.inr.inj y)) h
section
variable {P : Program} {w : World} {K : PySem.W.Frag} {mg : Str → Option Value} {base : Heap}
abbrev s_pair_worth : Stmt := topS 3
theorem sc_pair_worth : FnScope ["rules", "both", "text", "worth"] ["rules", "both"] (defScope s_pair_worth) :=
  ⟨rfl, rfl, rfl, by decide +kernel, rfl, by decide +kernel, by decide +kernel⟩
def spPW : Sp := fun vs H Q _ => ∃ (v : V) (r : Rl) (b : Str), vs = [v, .str b] ∧ RulesW H v r ∧ Q (pwV r.prs b) H
theorem ok_pw {f : Addr} {fd : FuncData} {k : Nat} (F : Fun K "pair_worth" "pair_worth" s_pair_worth f fd) : FnOk P w K mg base CX0 (k + 1) f fd ["rules", "both"] spPW := by
  refine F.ok sc_pair_worth (fun vs H Q E h => ?_) (fun cdv A outer s H vs Q E hr h => ?_)
  · obtain ⟨v, r, b, rfl, _⟩ := h
    rfl
  · obtain ⟨v, r, b, rfl, ⟨a, vp, vl, vs, rfl, hA, ⟨ap, us, rfl, hp, hR⟩, _, _⟩, q⟩ := h
    refine ⟨_, (pss_cons (ps_for PassesOwn.never rfl (pi_tup (pe_ix (ixT K) (pv 0) pe_int (fun _ _ => rfl))) (pg_tup rfl (pgs_cons (pg_name (i := 2) sc_pair_worth.nd rfl (.inl rfl)) (pgs_cons (pg_name (i := 3) sc_pair_worth.nd rfl (.inl rfl)) pgs_nil))) (pss_one (ps_if (pt_cmpR op_eq (pv 2) (pv 1) (nomark _)) (pss_one (ps_ret (pv 3))) pss_nil)))
      (pss_one (ps_ret pe_non))), ?_⟩
    have hlen := paired_len hR
    refine ⟨_, rfl, a, _, 1, _, rfl, rfl, SqT.of hA, rfl, ap, rfl, ⟨_, SqT.w hp⟩, for_tup (xs := us) (fun i σ H2 => ∃ (y2 y3 : Option V), σ = [some (.ref a), some (.str b), y2, y3] ∧ H2 = H ∧ pwV (r.prs.drop i) b = pwV r.prs b)
      ⟨none, none, rfl, rfl, rfl⟩ (fun i σ H2 _ ⟨y2, y3, _, e, _⟩ => SqT.w (by rw [e]; exact hp)) (fun i u σ H2 hi hv => ?_) (fun σ H2 hv => ?_)⟩
    · obtain ⟨y2, y3, rfl, rfl, hd⟩ := hv
      obtain ⟨⟨t, x⟩, hx, a1, rfl, ha1⟩ := paired_get hR hi
      rw [pwV_at hx] at hd
      refine ⟨a1, _, rfl, SqT.of ha1, rfl, _, _, rfl, _, _, rfl, rfl, ?_⟩
      refine ⟨_, rfl, _, rfl, rfl, _, rfl, ite2 (fun e => ?_) (fun e => ?_)⟩
      · have e2 : t = b := V.str.inj (of_decide_eq_true e)
        rw [if_pos e2] at hd
        refine ⟨_, rfl, ?_⟩
        show Q (.int x) _
        rw [hd]
        exact q
      · have e2 : ¬ t = b := fun z => e (decide_eq_true (congrArg V.str z))
        rw [if_neg e2] at hd
        exact ⟨_, _, rfl, rfl, hd⟩
    · obtain ⟨y2, y3, rfl, rfl, hd⟩ := hv
      rw [pwV_end (by omega)] at hd
      show Q .non _
      rw [hd]
      exact q
abbrev CPW (P : Program) (w : World) (K : PySem.W.Frag) (mg : Str → Option Value) (base : Heap) : Prop := Ca P w K mg base 1 "pair_worth" ["rules", "both"] spPW
abbrev s_text_of : Stmt := topS 5
theorem sc_text_of : FnScope ["string", "pair"] ["string", "pair"] (defScope s_text_of) :=
  ⟨rfl, rfl, rfl, by decide +kernel, rfl, by decide +kernel, by decide +kernel⟩
def spTextOf : Sp := fun vs H Q _ => ∃ (x : Str) (t : Addr) (y : Int × Int), vs = [.str x, .ref t] ∧ H t = some (.tup [.int y.1, .int y.2]) ∧ x.length ≤ 1000 ∧ 0 ≤ y.1 ∧ y.1 < x.length ∧ 0 ≤ y.2 ∧ y.2 < x.length ∧ Q (.str (tx2 x y)) H
theorem ok_text_of {f : Addr} {fd : FuncData} {k : Nat} (F : Fun K "text_of" "text_of" s_text_of f fd) : FnOk P w K mg base CX0 (k + 1) f fd ["string", "pair"] spTextOf := by
  refine F.ok sc_text_of (fun vs H Q E h => ?_) (fun cdv A outer s H vs Q E hr h => ?_)
  · obtain ⟨x, t, y, rfl, _⟩ := h
    rfl
  · obtain ⟨x, t, y, rfl, hT, hx, i0, i1, j0, j1, q⟩ := h
    refine ⟨_, (pss_one (ps_ret (pe_op op_add_str (pe_ix ix_str (pv 0) (pe_ix (ixT K) (pv 1) pe_int (fun _ _ => rfl)) (fun _ _ => rfl)) (pe_ix ix_str (pv 0) (pe_ix (ixT K) (pv 1) pe_int (fun _ _ => rfl)) (fun _ _ => rfl))))), ?_⟩
    refine ⟨_, rfl, _, rfl, t, _, 0, _, rfl, rfl, SqT.of hT, rfl, x, y.1, _, rfl, rfl, szL (by omega), sgn_at i0 i1, ?_⟩
    refine ⟨_, rfl, _, rfl, t, _, 1, _, rfl, rfl, SqT.of hT, rfl, x, y.2, _, rfl, rfl, szL (by omega), sgn_at j0 j1, ?_⟩
    exact ⟨_, _, rfl, rfl, szL (show 1 + 1 ≤ 1000000 by decide), q⟩
abbrev CTx (P : Program) (w : World) (K : PySem.W.Frag) (mg : Str → Option Value) (base : Heap) : Prop := Ca P w K mg base 1 "text_of" ["string", "pair"] spTextOf
abbrev s_may_pair : Stmt := topS 6
theorem sc_may_pair : FnScope ["rules", "string", "i", "j"] ["rules", "string", "i", "j"] (defScope s_may_pair) :=
  ⟨rfl, rfl, rfl, by decide +kernel, rfl, by decide +kernel, by decide +kernel⟩
def spMP : Sp := fun vs H Q _ => ∃ (v : V) (r : Rl) (x : Str) (i j : Int), vs = [v, .str x, .int i, .int j] ∧ RulesW H v r ∧ x.length ≤ 1000 ∧ 0 ≤ i ∧ i < j ∧ j < x.length ∧ ∀ H', Ext H H' → Q (.bl (mayC r x i j)) H'
theorem ok_mp {f : Addr} {fd : FuncData} (F : Fun K "may_pair" "may_pair" s_may_pair f fd) (ctext_of : CTx P w K mg base) (cpair_worth : CPW P w K mg base) (mlen : mg "len" = none) : FnOk P w K mg base CX0 2 f fd ["rules", "string", "i", "j"] spMP := by
  refine F.ok sc_may_pair (fun vs H Q E h => ?_) (fun cdv A outer s H vs Q E hr h => ?_)
  · obtain ⟨v, r, x, i, j, rfl, _⟩ := h
    rfl
  · obtain ⟨v, r, x, i, j, rfl, hR, hx, e1, e2, e3, q⟩ := h
    obtain ⟨a, vp, vl, vs, rfl, hA, hp, hl, hs⟩ := id hR
    refine ⟨_, (pss_cons (ps_if (pt_not (pt_chain3 op_le op_lt op_lt pe_int (pv 2) (pv 3) (pe_callB call_len_str (by rfl) mlen (by decide +kernel) (pa_cons (pv 1) pa_nil)))) (pss_one (ps_ret pe_bl)) pss_nil)
      (pss_cons (ps_if (pt_cmpR op_lt (pe_op op_sub (pe_op op_sub (pv 3) (pv 2)) pe_int) (pe_ix (ixT K) (pv 0) pe_int (fun _ _ => rfl)) (nomark _)) (pss_one (ps_ret pe_bl)) pss_nil)
      (pss_one (ps_ret (pe_cmpR op_notN (pe_ca cpair_worth (hr.mono (by decide)) (by rfl) (pa_cons (pv 0) (pa_cons (pe_ca ctext_of (hr.mono (by decide)) (by rfl) (pa_cons (pv 1) (pa_cons (pe_tup (pa_cons (pv 2) (pa_cons (pv 3) pa_nil))) pa_nil))) pa_nil))) pe_non (nomark _)))))), ?_⟩
    refine ⟨_, rfl, 0, i, rfl, rfl, _, rfl, ?_⟩
    rw [decide_eq_true e1]
    refine iteT ⟨_, rfl, i, j, rfl, rfl, _, rfl, ?_⟩
    rw [decide_eq_true e2]
    refine iteT ⟨_, rfl, x, rfl, szL (by omega), _, _, rfl, rfl, _, rfl, ?_⟩
    rw [decide_eq_true e3]
    refine iteF ⟨_, rfl, _, rfl, _, _, rfl, rfl, _, 1, rfl, rfl, _, rfl, a, _, 2, _, rfl, rfl, SqT.of hA, rfl, _, _, rfl, rfl, _, rfl, ite2 (fun e4 => ?_) (fun e4 => ?_)⟩
    · have e4 : j - i - 1 < r.span := of_decide_eq_true e4
      have e : mayC r x i j = false := by
        unfold mayC
        rw [decide_eq_false (show ¬ r.span < j - i by omega), Bool.false_and]
      have := q H Ext.refl
      rw [e] at this
      exact this
    · have e4 : ¬ j - i - 1 < r.span := fun z => e4 (decide_eq_true z)
      refine ⟨_, rfl, _, rfl, _, rfl, _, rfl, szL (show 2 ≤ 1000000 by decide), fun t ht => ?_⟩
      refine ⟨x, t, (i, j), rfl, upd_same, hx, e1, (show i < x.length by omega), (show 0 ≤ j by omega), e3, ?_⟩
      refine ⟨_, r, _, rfl, RulesW.mono _ _ _ _ (TupK.new ht) hR, rfl, ?_⟩
      have e : mayC r x i j = !decide (pwV r.prs (tx2 x (i, j)) = .non) := by
        unfold mayC
        rw [decide_eq_true (show r.span < j - i by omega), Bool.true_and, pwV_is]
      have := q _ (Ext.new (o := .tup [.int i, .int j]) ht)
      rw [e] at this
      exact this
abbrev CMP (P : Program) (w : World) (K : PySem.W.Frag) (mg : Str → Option Value) (base : Heap) : Prop := Ca P w K mg base 2 "may_pair" ["rules", "string", "i", "j"] spMP
abbrev s_law_may : Stmt := topS 19
theorem sc_law_may : FnScope ["_law_code_here", "_law_page_here", "_law_i", "_law_j"] ["_law_code_here", "_law_page_here", "_law_i", "_law_j"] (defScope s_law_may) :=
  ⟨rfl, rfl, rfl, by decide +kernel, rfl, by decide +kernel, by decide +kernel⟩
def spMay : Sp := fun vs H Q _ => ∃ (v : V) (r : Rl) (x : Str) (i j : Int), vs = [v, .str x, .int i, .int j] ∧ RulesAt H v r ∧ RlOk r ∧ x.length ≤ 1000 ∧ 0 ≤ i ∧ i < x.length ∧ 0 ≤ j ∧ j < x.length ∧ ∀ H', Ext H H' → Q (.bl (mayC r x i j)) H'
theorem ok_may {f : Addr} {fd : FuncData} {k : Nat} (F : Fun K "_law_may" "_law_may" s_law_may f fd) (mdict : mg "dict" = none) : FnOk P w K mg base CX0 (k + 1) f fd ["_law_code_here", "_law_page_here", "_law_i", "_law_j"] spMay := by
  refine F.ok sc_law_may (fun vs H Q E h => ?_) (fun cdv A outer s H vs Q E hr h => ?_)
  · obtain ⟨v, r, x, i, j, rfl, _⟩ := h
    rfl
  · obtain ⟨v, r, x, i, j, rfl, hR, ok, hx, i0, i1, j0, j1, q⟩ := h
    obtain ⟨a, vp, vl, vs, rfl, hA, ⟨ap, oz, pus, rfl, hp, hoz, hRp⟩, _, _⟩ := id hR
    refine ⟨_, (pss_one (ps_ret (pe_and (pe_cmpR op_gt (pe_op op_sub (pv 3) (pv 2)) (pe_ix (ixT K) (pv 0) pe_int (fun _ _ => rfl)) (nomark _)) (pe_one (pe_cmp (pc_din (hu_of hr) (pe_op op_add_str (pe_ix ix_str (pv 1) (pv 2) (fun _ _ => rfl)) (pe_ix ix_str (pv 1) (pv 3) (fun _ _ => rfl))) (pe_callTy (dictT K) (by rfl) mdict (by decide +kernel) (pa_cons (pe_ix (ixT K) (pv 0) pe_int (fun _ _ => rfl)) pa_nil))) rfl))))), ?_⟩
    refine ⟨_, rfl, _, rfl, _, _, rfl, rfl, _, rfl, a, _, 2, _, rfl, rfl, SqT.of hA, rfl, _, _, rfl, rfl, _, rfl, ite2 (fun e => ?_) (fun e => ?_)⟩
    · have e : decide (r.span < j - i) = true := e
      obtain ⟨pas, hpas, hpp⟩ : ∃ pas : List Addr, pus = pas.map V.ref ∧ Paired (fun p kv => SqT K H p [kV kv.1, kv.2]) pas (r.prs.map encP) := by
        have aux : ∀ {us : List V} {ps : List (Str × Int)}, Paired (PairAt H) us ps → ∃ pas : List Addr, us = pas.map V.ref ∧ Paired (fun p kv => SqT K H p [kV kv.1, kv.2]) pas (ps.map encP) := by
          intro us ps h
          induction h with
          | nil => exact ⟨[], rfl, .nil⟩
          | cons h t ih =>
            obtain ⟨pas, e, hpp⟩ := ih
            obtain ⟨a1, e1, h1⟩ := h
            exact ⟨a1 :: pas, by rw [e1, e]; rfl, .cons (SqT.of h1) hpp⟩
        exact aux hRp
      refine ⟨_, rfl, _, rfl, x, i, _, rfl, rfl, szL (by omega), sgn_at i0 i1, _, rfl, _, rfl, x, j, _, rfl, rfl, szL (by omega), sgn_at j0 j1, _, _, rfl, rfl, szL (show 1 + 1 ≤ 1000000 by decide), ?_⟩
      refine ⟨_, rfl, a, _, 1, _, rfl, rfl, SqT.of hA, rfl, ap, oz, pas, r.prs.map encP, rfl, by rw [← hpas]; exact hp, hoz, hpp, fun d hd => ?_⟩
      rw [merge_prs ok.pn]
      refine ⟨d, _, rfl, DGet.k (k := .inr (tx2 x (i, j))) upd_same, ?_⟩
      rw [val_isSome]
      have := q _ (Ext.new (o := .dK (r.prs.map encP)) hd)
      unfold mayC at this
      rw [e, Bool.true_and] at this
      exact this
    · have e : decide (r.span < j - i) = false := Bool.eq_false_iff.mpr e
      have := q H Ext.refl
      unfold mayC at this
      rw [e, Bool.false_and] at this
      exact this
abbrev CMay (P : Program) (w : World) (K : PySem.W.Frag) (mg : Str → Option Value) (base : Heap) : Prop := Ca P w K mg base 1 "_law_may" ["_law_code_here", "_law_page_here", "_law_i", "_law_j"] spMay
end
end Pf


namespace Pf
open PySem PySem.Spec PyProof.Rows L2
theorem cutS_tail (x : Str) {lo : Nat} (h : lo ≤ x.length) : (cutS x (some (lo : Int)) none).cps.toList = (x.cps.toList.drop lo).take (x.length - lo) := by
  show ((x.cps.toList.drop (HT.sIx x.length 0 (some (lo : Int)))).take (HT.sIx x.length x.length none - HT.sIx x.length 0 (some (lo : Int)))).toArray.toList = _
  have e1 : HT.sIx x.length 0 (some (lo : Int)) = min lo x.length := HT.sIx_nat _ _ _
  have e2 : HT.sIx x.length x.length none = x.length := rfl
  rw [e1, e2, Nat.min_eq_left h]
theorem cutS_head (x : Str) {hi : Nat} (h : hi ≤ x.length) : (cutS x none (some (hi : Int))).cps.toList = (x.cps.toList.drop 0).take (hi - 0) := by
  show ((x.cps.toList.drop (HT.sIx x.length 0 none)).take (HT.sIx x.length x.length (some (hi : Int)) - HT.sIx x.length 0 none)).toArray.toList = _
  have e1 : HT.sIx x.length 0 none = 0 := rfl
  have e2 : HT.sIx x.length x.length (some (hi : Int)) = min hi x.length := HT.sIx_nat _ _ _
  rw [e1, e2, Nat.min_eq_left h]
theorem app_len (x y : Str) : (x ++ y).length = x.length + y.length := by
  show (x.cps ++ y.cps).size = x.cps.size + y.cps.size
  exact Array.size_append
theorem sgn_of {L x : Str} (h : Of L x) {i : Int} (h0 : 0 ≤ i) (h1 : i < x.length) : Of L (sgn x i) := fun c hc => by
  have hc : c = x.cps.toList.getD i.toNat 0 := by simpa [sgn] using hc
  have hl : i.toNat < x.cps.toList.length := by
    have : x.cps.toList.length = x.length := Array.length_toList
    omega
  rw [hc, List.getD_eq_getElem?_getD, List.getElem?_eq_getElem hl]
  exact h _ (List.getElem_mem hl)
theorem sgn_len (x : Str) (i : Int) : (sgn x i).length = 1 := rfl
theorem of_self (x : Str) : Of x x := fun c hc => hc
theorem cut_len (x : Str) (lo hi : Option Int) : (cutS x lo hi).length ≤ x.length := L2.cutS_length x lo hi
/-- an if, gone into by several ways -/
theorem if_by {c : TT} {t u : TS} {D : Ends} {σ : L2.St} {H : Hp} (R1 R2 : Hp → Prop) (hc : ∀ Q : Bool → Hp → Prop, (∀ H', R1 H' → Q true H') → (∀ H', R2 H' → Q false H') → c σ H Q) (h1 : ∀ H', R1 H' → t D σ H') (h2 : ∀ H', R2 H' → u D σ H') : tIfS c t u D σ H := hc _ (fun H' r => by rw [if_pos rfl]; exact h1 H' r) fun H' r => by
  rw [if_neg Bool.false_ne_true]
  exact h2 H' r
theorem if_byS {c : TT} {t u : TS} {D : Ends} {σ : L2.St} {H : Hp} (R1 R2 : Hp → Prop) (hc : ∀ Q : Bool → Hp → Prop, (∀ H', R1 H' → Q true H') → (∀ H', R2 H' → Q false H') → c σ H Q) (h1 : ∀ H', R1 H' → t { D with nx := u D } σ H') (h2 : ∀ H', R2 H' → u D σ H') : tSeq (tIfS c t tNext) u D σ H := if_by (D := { D with nx := u D }) R1 R2 hc h1 h2
theorem go_name {i : Nat} {v : V} {σ : L2.St} {H : Hp} {Q : L2.St → Hp → Prop} (h : Q (σ.set i (some v)) H) : gName i v σ H Q := h
theorem go_next {D : Ends} {σ : L2.St} {H : Hp} (h : D.nx σ H) : tNext D σ H := h
section
variable {P : Program} {w : World} {K : PySem.W.Frag} {mg : Str → Option Value} {base : Heap}
abbrev s_law_page : Stmt := topS 18
theorem sc_law_page : FnScope ["_law_pen_here", "_law_code_here", "_law_upto", "_law_letters", "_law_ties_here", "_law_size", "_law_found", "_law_both", "_law_way", "_law_spot", "_law_k"] ["_law_pen_here", "_law_code_here", "_law_upto"] (defScope s_law_page) :=
  ⟨rfl, rfl, rfl, by decide +kernel, rfl, by decide +kernel, by decide +kernel⟩
def spLetters : Sp := fun vs H Q _ => ∃ (p c : Addr) (v : V) (r : Rl) (m : Int) (n : Nat), vs = [.ref p, v, .int m] ∧ RulesAt H v r ∧ RlOk r ∧ OfP r ∧ 0 ≤ m ∧ m ≤ 12 ∧ Pen H p c n ∧ n + 60 < 1000000 ∧
  ∀ (x : Str) H', (x.length : Int) ≤ m → Of r.letters x → Kp p H H' → Pen H' p c (n + 60) → Q (.str x) H'
theorem ok_letters {f : Addr} {fd : FuncData} (F : Fun K "_law_page" "_law_page" s_law_page f fd) (c_law_pick : CDraw P w K mg base) (mrange : mg "range" = none) (mlen : mg "len" = none) : FnOk P w K mg base CX0 2 f fd ["_law_pen_here", "_law_code_here", "_law_upto"] spLetters := by
  refine F.ok sc_law_page (fun vs H Q E h => ?_) (fun cdv A outer s H vs Q E hr h => ?_)
  · obtain ⟨p, c, v, r, m, n, rfl, _⟩ := h
    rfl
  · obtain ⟨p, c, v, r, m, n, rfl, hR, ok, ofp, m0, m12, hP, hn, q⟩ := h
    obtain ⟨a, vp, vl, vs, rfl, hA, ⟨ap, oz, pus, rfl, hp, hoz, hRp⟩, hvl, hvs⟩ := id hR
    refine ⟨_, (pss_cons (ps_asg (pe_slice (slE K) (pv 1) po_none (po_some pe_int)) (pg_tup rfl (pgs_cons (pg_name (i := 3) sc_law_page.nd rfl (.inr rfl)) (pgs_cons (pg_name (i := 4) sc_law_page.nd rfl (.inl rfl)) pgs_nil))))
      (pss_cons (ps_set (i := 5) sc_law_page.nd rfl (.inl rfl) (pe_ix (ixL K) (pe_lst (pa_cons (pe_ca c_law_pick (hr.mono (by decide)) (by rfl) (pa_cons (pv 0) (pa_cons (pe_op op_add (pv 2) pe_int) pa_nil))) (pa_cons (pv 2) pa_nil))) (pe_ca c_law_pick (hr.mono (by decide)) (by rfl) (pa_cons (pv 0) (pa_cons pe_int pa_nil))) (fun _ _ => rfl)))
      (pss_cons (ps_if (PW.pt (pw_or (pt_cmpR (eqD K hr.units) (pv 4) (pe_tup pa_nil) (nomark _)) (pw_or1 (pt_cmpR op_eq (pe_ca c_law_pick (hr.mono (by decide)) (by rfl) (pa_cons (pv 0) (pa_cons pe_int pa_nil))) pe_int (nomark _))))) (pss_one (ps_ret (pe_join pe_str (pe_lc (own := [("_law_k", 10)]) (g := gName 10) (by rfl) sc_law_page.nd (pi_range1 (by rfl) mrange (pa_cons (pv 5) pa_nil)) (blkOk_by (own := [("_law_k", 10)]) (N := ["_law_pen_here", "_law_code_here", "_law_upto", "_law_letters", "_law_ties_here", "_law_size", "_law_found", "_law_both", "_law_way", "_law_spot", "_law_k"]) (sc := defScope s_law_page) (by decide +kernel)) (fun _ _ _ _ _ => (pg_name (i := 10) sc_law_page.nd rfl (.inl rfl))) (fun _ _ _ _ _ => pts_nil) (fun _ _ _ _ _ => (pe_ix ix_str (pv 3) (pe_ca c_law_pick (hr.mono (by decide)) (by rfl) (pa_cons (pv 0) (pa_cons (pe_callB call_len_str (by rfl) mlen (by decide +kernel) (pa_cons (pv 3) pa_nil)) pa_nil))) (fun _ _ => rfl))))))) pss_nil)
      (pss_cons (ps_set (i := 6) sc_law_page.nd rfl (.inl rfl) pe_str)
      (pss_cons (ps_while PassesOwn.never (pt_cmpR op_lt (pe_op op_add (pe_callB call_len_str (by rfl) mlen (by decide +kernel) (pa_cons (pv 6) pa_nil)) pe_int) (pv 5) (nomark _)) (pss_cons (ps_set (i := 7) sc_law_page.nd rfl (.inl rfl) (pe_ix (ixT K) (pe_ix (ixT K) (pv 4) (pe_ca c_law_pick (hr.mono (by decide)) (by rfl) (pa_cons (pv 0) (pa_cons (pe_callB (lenQ K) (by rfl) mlen (by decide +kernel) (pa_cons (pv 4) pa_nil)) pa_nil))) (fun _ _ => rfl)) pe_int (fun _ _ => rfl)))
      (pss_cons (ps_set (i := 8) sc_law_page.nd rfl (.inl rfl) (pe_ca c_law_pick (hr.mono (by decide)) (by rfl) (pa_cons (pv 0) (pa_cons pe_int pa_nil))))
      (pss_cons (ps_set (i := 6) sc_law_page.nd rfl (.inl rfl) (pe_ix (ixL K) (pe_lst (pa_cons (pe_op op_add_str (pe_op op_add_str (pe_ix ix_str (pv 7) pe_int (fun _ _ => rfl)) (pv 6)) (pe_ix ix_str (pv 7) pe_int (fun _ _ => rfl))) (pa_cons (pe_op op_add_str (pv 6) (pv 7)) (pa_cons (pe_op op_add_str (pv 7) (pv 6)) (pa_cons (pe_op op_add_str (pe_op op_add_str (pe_ix ix_str (pv 7) pe_int (fun _ _ => rfl)) (pv 6)) (pe_ix ix_str (pv 7) pe_int (fun _ _ => rfl))) pa_nil))))) (pv 8) (fun _ _ => rfl)))
      (pss_one (ps_if (PW.pt (pw_and (pt_cmpR op_gt (pv 8) pe_int (nomark _)) (pw_and1 (pt_cmpR op_lt (pe_callB call_len_str (by rfl) mlen (by decide +kernel) (pa_cons (pv 6) pa_nil)) (pv 5) (nomark _))))) (pss_cons (ps_set (i := 9) sc_law_page.nd rfl (.inl rfl) (pe_ca c_law_pick (hr.mono (by decide)) (by rfl) (pa_cons (pv 0) (pa_cons (pe_op op_add (pe_callB call_len_str (by rfl) mlen (by decide +kernel) (pa_cons (pv 6) pa_nil)) pe_int) pa_nil))))
      (pss_one (ps_set (i := 6) sc_law_page.nd rfl (.inl rfl) (pe_op op_add_str (pe_op op_add_str (pe_slice sl_str (pv 6) po_none (po_some (pv 9))) (pe_ix ix_str (pv 3) (pe_ca c_law_pick (hr.mono (by decide)) (by rfl) (pa_cons (pv 0) (pa_cons (pe_callB call_len_str (by rfl) mlen (by decide +kernel) (pa_cons (pv 3) pa_nil)) pa_nil))) (fun _ _ => rfl))) (pe_slice sl_str (pv 6) (po_some (pv 9)) po_none))))) pss_nil))))))
      (pss_one (ps_ret (pe_slice sl_str (pv 6) po_none (po_some (pv 5)))))))))), ?_⟩
    have hl6 := ok.let6
    have hl1 := ok.let1
    have hpl := paired_len hRp
    have hp12 := ok.prs
    refine ⟨_, rfl, 2, rfl, a, _, rfl, hA, fun t1 H1 k1 hT1 => ?_⟩
    rw [show cutV [.str r.letters, .ref ap, .int r.span, vl, vs] none (some 2) = [.str r.letters, .ref ap] from cut_to (k := 2)] at hT1
    refine ⟨t1, _, rfl, SqT.of hT1, rfl, _, _, rfl, _, _, rfl, rfl, ?_⟩
    have hP1 := hP.ext k1
    have tk01 := TupK.ext k1
    -- size
    refine ⟨_, rfl, _, rfl, m, 1, rfl, rfl, p, c, _, _, rfl, hP1, by omega, by omega, by omega, fun s1 H2 sa sb k2 hP2 => ⟨_, rfl, szL (show 2 ≤ 1000000 by decide), fun l3 hl3 => ?_⟩⟩
    refine ⟨_, rfl, p, c, 2, _, rfl, hP2.new hl3, by omega, by decide, by decide, fun s2 H3 sc sd k3 hP3 => ?_⟩
    obtain ⟨sz, hsz, hat3⟩ := atI_ints (ns := [s1, m]) sc sd
    have hszb : 0 ≤ sz ∧ sz ≤ m := by
      simp only [List.mem_cons, List.not_mem_nil, or_false] at hsz
      omega
    refine ⟨l3, _, s2, _, rfl, rfl, SqL.of (k3 _ _ (hP2.ne hl3).1 upd_same), hat3, ?_⟩
    have k13 : Kp p H1 H3 := (k2.trans (Kp.new hl3)).trans k3
    have k03 : Kp p H H3 := (Kp.ext k1).trans k13
    have tk03 : TupK H H3 := tk01.trans (TupK.of k13 hP1)
    have hF3 : FrzOf PairAt H3 (.ref ap) r.prs := FrzOf.mono PairAt.mono _ _ _ _ tk03 ⟨ap, oz, pus, rfl, hp, hoz, hRp⟩
    -- drawn letters
    refine go_name ?_
    dsimp only
    refine if_byS (fun H5 => Kp p H3 H5 ∧ Pen H5 p c (n + 3)) (fun H5 => Kp p H3 H5 ∧ Pen H5 p c (n + 3) ∧ r.prs ≠ []) (fun Q q1 q2 => ?_) (fun H5 h5 => ?_) (fun H5 h5 => ?_)
    · refine ⟨_, rfl, Nat.zero_le _, fun t4 ht4 => ?_⟩
      have x4 := Ext.new (o := .tup []) ht4
      have dp4 : Dp K (upd H3 t4 (.tup [])) (.ref ap) (.tuple (r.prs.map dPr)) := by
        obtain ⟨tp', oz', tus', e', htp', _, hTr'⟩ := FrzOf.mono PairAt.mono _ _ _ _ (TupK.ext x4) hF3
        cases e'
        exact .tup (SqT.fz htp') (dpPairs hTr')
      refine ⟨.tuple (r.prs.map dPr), .tuple [], dp4, .tup (SqT.of upd_same) .nil, (sm_prs ok.prs ok.pr).shaped (by decide), by decide, _, rfl, ?_⟩
      have ee : PyData.eqv (.tuple (r.prs.map dPr)) (.tuple []) = r.prs.isEmpty := by
        cases r.prs with
        | nil => simp [PyData.eqv, PyData.eqvAll]
        | cons y l => simp [PyData.eqv, PyData.eqvAll]
      rw [ee]
      refine ite2 (fun e => ?_) (fun e => ?_)
      · exact q1 _ ⟨Kp.ext x4, (hP3.ext x4).mono (by omega)⟩
      · have hne : r.prs ≠ [] := fun z => e (by rw [z]; rfl)
        refine ⟨_, rfl, p, c, 3, _, rfl, hP3.ext x4, by omega, by decide, by decide, fun s3 H5 se sf k5 hP5 => ⟨rfl, _, rfl, ?_⟩⟩
        cases hb : decide (V.int s3 = V.int 0) with
        | true => exact q1 _ ⟨(Kp.ext x4).trans k5, hP5⟩
        | false => exact q2 _ ⟨(Kp.ext x4).trans k5, hP5, hne⟩
    · obtain ⟨k5, hP5⟩ := h5
      refine ⟨⟨_, rfl⟩, _, rfl, sz, rfl, by omega, by omega, fun D hD => lc_range (lo := 0) (n := sz.toNat) (fun i H4 => ∃ ys : List Str, ys.length = i ∧ (∀ y ∈ ys, y.length = 1 ∧ Of r.letters y) ∧ H4 D = some (.lst (ys.map V.str)) ∧ Kp p H5 H4 ∧ Pen H4 p c (n + 3 + i)) ⟨[], rfl, (fun y h => by cases h), upd_same, Kp.new hD, (hP5.new hD).mono (by omega)⟩ (fun i H4 hi hv => ?_) (fun H4 hv => ?_)⟩
      · obtain ⟨ys, hyl, hyo, hL4, k4, hP4⟩ := hv
        refine ⟨rfl, _, rfl, _, rfl, _, rfl, r.letters, rfl, szL (by omega), p, c, (r.letters.length : Int), _, rfl, hP4, by omega, by omega, by omega, fun r5 H6 r5a r5b k6 hP6 => ?_⟩
        obtain ⟨ch, hch, hat5⟩ := atI_mem (xs := r.letters.cps.toList) r5a (by rw [Array.length_toList]; exact r5b)
        have nD := hP5.ne hD
        refine ⟨r.letters, r5, ch, rfl, rfl, szL (by omega), hat5, _, k6 _ _ nD.1 hL4, szLt ?_, ys ++ [⟨#[ch]⟩], ?_, fun y hy => ?_, ?_, (k4.trans k6).put hD, (hP6.put nD.1 nD.2)⟩
        · rw [List.length_map]
          omega
        · rw [List.length_append, List.length_singleton]
          omega
        · rcases List.mem_append.mp hy with hy | hy
          · exact hyo y hy
          · rw [List.mem_singleton.mp hy]
            refine ⟨rfl, fun c hc => ?_⟩
            have : c = ch := by simpa using hc
            rw [this]
            exact hch
        · rw [upd_same, List.map_append]
          rfl
      obtain ⟨ys, hyl, hyo, hL4, k4, hP4⟩ := hv
      refine ⟨"", D, ys, rfl, rfl, .inl (SqL.of hL4), fits_join (k := 20) (m := 1) (by omega) (fun y hy => Nat.le_of_eq (hyo y hy).1) (by decide), ?_⟩
      rw [join_str]
      have hj1 := sjoin_le (m := 1) fun y hy => Nat.le_of_eq (hyo y hy).1
      have hj2 := sjoin_of (L := r.letters) fun y hy => (hyo y hy).2
      exact q _ _ (by omega) hj2 ((k03.trans k5).trans k4) (hP4.mono (by omega))
    · obtain ⟨k5, hP5, hne⟩ := h5
      have hp0 : 0 < r.prs.length := List.length_pos_iff.mpr hne
      have pick : ∀ {H' : Hp} {d : Int}, Kp p H3 H' → 0 ≤ d → d < r.prs.length → ∃ (us : List V) (oz : Obj) (a1 : Addr) (t1 : Str × Int), H' ap = some (.frz oz (.tup us)) ∧ us.length = r.prs.length ∧ atI us d = some (.ref a1) ∧ H' a1 = some (.tup [.str t1.1, .int t1.2]) ∧ t1 ∈ r.prs := fun {H' d} k d0 d1 => by
        obtain ⟨tp', oz', us', e', h1, h2, h3⟩ := FrzOf.mono PairAt.mono _ _ _ _ (TupK.of k hP3) hF3
        cases e'
        have hl := paired_len h3
        obtain ⟨u, hu⟩ : ∃ u, us'[d.toNat]? = some u := ⟨_, List.getElem?_eq_getElem (by omega)⟩
        obtain ⟨t1, ht1, a1, rfl, ha1⟩ := paired_get h3 hu
        refine ⟨us', oz', a1, t1, h1, hl, ?_, ha1, List.mem_of_getElem? ht1⟩
        rw [atI_get d0 (by omega), ← hu, List.getElem?_eq_getElem]
      refine ⟨fun mm σ H6 => ∃ (y7 y8 y9 : Option V) (x : Str), σ = [some (.ref p), some (.ref a), some (.int m), some (.str r.letters), some (.ref ap), some (.int sz), some (.str x), y7, y8, y9, none] ∧ mm = 20 - x.length ∧ x.length ≤ 14 ∧ Of r.letters x ∧ Kp p H3 H6 ∧ Pen H6 p c (n + 3 + 2 * x.length),
        ⟨_, none, none, none, "", rfl, rfl, by decide, of_nil _, k5, hP5⟩, fun mm σ H6 hv => ?_⟩
      obtain ⟨y7, y8, y9, x, rfl, rfl, hxl, hxo, k6, hP6⟩ := hv
      refine ⟨_, rfl, x, rfl, szL (by omega), _, 1, rfl, rfl, _, rfl, _, _, rfl, rfl, _, rfl, ite2 (fun e => ?_) (fun e => ?_)⟩
      · have e : (x.length : Int) + 1 < sz := of_decide_eq_true e
        refine ⟨_, fun σ' H' h => h, ?_⟩
        obtain ⟨us0, oz0, _, _, hf0, hl0, _⟩ := pick (d := 0) k6 (Int.le_refl _) (by omega)
        refine ⟨_, rfl, _, rfl, _, rfl, ap, _, rfl, .inr (SqT.fz hf0), p, c, _, _, rfl, hP6, by omega, by omega, by omega, fun d1 H7 da db k7 hP7 => ?_⟩
        have k37 := k6.trans k7
        obtain ⟨us1, oz1, b1, t1, hf1, hl1, hat1, hb1, ht1⟩ := pick (d := d1) k37 da (by omega)
        have two := ok.pr t1 ht1
        have l2 : t1.1.length = 2 := two.1.1
        have of1 := ofp.1 t1 ht1
        refine ⟨ap, _, d1, _, rfl, rfl, SqT.fz hf1, hat1, b1, _, 0, _, rfl, rfl, SqT.of hb1, rfl, ?_⟩
        refine ⟨_, rfl, p, c, 4, _, rfl, hP7, by omega, by decide, by decide, fun wy H8 wa wb k8 hP8 => ?_⟩
        have k38 := k37.trans k8
        have s0 := sgn_at (x := t1.1) (i := 0) (by decide) (by omega)
        have s1' := sgn_at (x := t1.1) (i := 1) (by decide) (by omega)
        have f0 := sgn_of of1 (i := 0) (by decide) (by omega)
        have f1 := sgn_of of1 (i := 1) (by decide) (by omega)
        have e1 : (sgn t1.1 0 ++ x).length = 1 + x.length := app_len _ _
        have e2 : (sgn t1.1 0 ++ x ++ sgn t1.1 1).length = 1 + x.length + 1 := by rw [app_len, e1]; rfl
        have e3 : (x ++ t1.1).length = x.length + 2 := by rw [app_len, l2]
        have e4 : (t1.1 ++ x).length = 2 + x.length := by rw [app_len, l2]
        refine ⟨_, rfl, t1.1, 0, _, rfl, rfl, szL (by omega), s0, _, rfl, _, _, rfl, rfl, szL (show 1 + x.length ≤ 1000000 by omega), _, rfl, t1.1, 1, _, rfl, rfl, szL (by omega), s1', _, _, rfl, rfl, szL (show (sgn t1.1 0 ++ x).length + 1 ≤ 1000000 by omega), ?_⟩
        refine ⟨_, rfl, _, rfl, _, _, rfl, rfl, szL (by omega), _, rfl, _, rfl, _, _, rfl, rfl, szL (by omega), ?_⟩
        refine ⟨_, rfl, t1.1, 0, _, rfl, rfl, szL (by omega), s0, _, rfl, _, _, rfl, rfl, szL (show 1 + x.length ≤ 1000000 by omega), _, rfl, t1.1, 1, _, rfl, rfl, szL (by omega), s1', _, _, rfl, rfl, szL (show (sgn t1.1 0 ++ x).length + 1 ≤ 1000000 by omega), szL (show 4 ≤ 1000000 by decide), fun l9 hl9 => ?_⟩
        obtain ⟨yv, hyv, hat9⟩ := atI_mem (xs := [V.str (sgn t1.1 0 ++ x ++ sgn t1.1 1), .str (x ++ t1.1), .str (t1.1 ++ x), .str (sgn t1.1 0 ++ x ++ sgn t1.1 1)]) wa wb
        obtain ⟨y, rfl, hyl, hyo⟩ : ∃ y : Str, yv = .str y ∧ y.length = x.length + 2 ∧ Of r.letters y := by
          simp only [List.mem_cons, List.not_mem_nil, or_false] at hyv
          rcases hyv with rfl | rfl | rfl | rfl
          · exact ⟨_, rfl, by omega, (f0.app hxo).app f1⟩
          · exact ⟨_, rfl, by omega, hxo.app of1⟩
          · exact ⟨_, rfl, by omega, of1.app hxo⟩
          · exact ⟨_, rfl, by omega, (f0.app hxo).app f1⟩
        refine ⟨_, rfl, l9, _, wy, _, rfl, rfl, SqL.of upd_same, hat9, ?_⟩
        have x9 := Ext.new (o := .lst [V.str (sgn t1.1 0 ++ x ++ sgn t1.1 1), .str (x ++ t1.1), .str (t1.1 ++ x), .str (sgn t1.1 0 ++ x ++ sgn t1.1 1)]) hl9
        have k39 := k38.trans (Kp.ext x9)
        have hP9 := hP8.ext x9
        refine go_name ?_
        refine ⟨_, rfl, _, _, rfl, rfl, _, rfl, ite2 (fun e5 => ?_) (fun e5 => ?_)⟩
        · refine ⟨_, rfl, y, rfl, szL (by omega), _, rfl, _, _, rfl, rfl, _, rfl, ite2 (fun e6 => ?_) (fun e6 => ?_)⟩
          · have e6 : (y.length : Int) < sz := of_decide_eq_true e6
            refine ⟨_, rfl, _, rfl, y, rfl, szL (by omega), _, 1, rfl, rfl, p, c, _, _, rfl, hP9, by omega, by omega, by omega, fun sp H10 spa spb k10 hP10 => ?_⟩
            refine ⟨_, rfl, _, rfl, _, rfl, y, rfl, szL (by omega), ?_⟩
            refine ⟨_, rfl, _, rfl, _, rfl, r.letters, rfl, szL (by omega), p, c, _, _, rfl, hP10, by omega, by omega, by omega, fun gl H11 gla glb k11 hP11 => ?_⟩
            obtain ⟨g, rfl⟩ : ∃ g' : Nat, sp = (g' : Int) := ⟨sp.toNat, by omega⟩
            have h1 := cutS_head y (hi := g) (by omega)
            have h2 := cutS_tail y (lo := g) (by omega)
            have l1' := part_len h1 (by omega)
            have l2' := part_len h2 (by omega)
            have o1 := cutS_of hyo none (some (g : Int))
            have o2 := cutS_of hyo (some (g : Int)) none
            have og := sgn_of (of_self r.letters) gla glb
            have e7 : (cutS y none (some (g : Int)) ++ sgn r.letters gl).length = g + 1 := by rw [app_len, l1']; rfl
            refine ⟨r.letters, gl, _, rfl, rfl, szL (by omega), sgn_at gla glb, _, _, rfl, rfl, szL (show (cutS y none (some (g : Int))).length + 1 ≤ 1000000 by omega), ?_⟩
            refine ⟨_, rfl, _, rfl, _, rfl, y, rfl, szL (by omega), _, _, rfl, rfl, szL (show (cutS y none (some (g : Int)) ++ sgn r.letters gl).length + (cutS y (some (g : Int)) none).length ≤ 1000000 by omega), ?_⟩
            have e8 : (cutS y none (some (g : Int)) ++ sgn r.letters gl ++ cutS y (some (g : Int)) none).length = y.length + 1 := by
              rw [app_len, e7]
              omega
            exact ⟨20 - (y.length + 1), by omega, _, _, _, cutS y none (some (g : Int)) ++ sgn r.letters gl ++ cutS y (some (g : Int)) none, rfl, by rw [e8], by omega, (o1.app og).app o2, (k39.trans k10).trans k11, hP11.mono (by omega)⟩
          · exact ⟨20 - y.length, by omega, _, _, _, y, rfl, rfl, by omega, hyo, k39, hP9.mono (by omega)⟩
        · exact ⟨20 - y.length, by omega, _, _, _, y, rfl, rfl, by omega, hyo, k39, hP9.mono (by omega)⟩
      · refine ⟨_, rfl, _, rfl, _, rfl, x, rfl, szL (by omega), ?_⟩
        have hcl : ((cutS x none (some sz)).length : Int) ≤ m := by
          obtain ⟨z, rfl⟩ : ∃ z : Nat, sz = (z : Int) := ⟨sz.toNat, by omega⟩
          have e1 : HT.sIx x.length x.length (some (z : Int)) = min z x.length := HT.sIx_nat _ _ _
          have e2 : (cutS x none (some (z : Int))).length ≤ z := by
            show (((x.cps.toList.drop (HT.sIx x.length 0 none)).take (HT.sIx x.length x.length (some (z : Int)) - HT.sIx x.length 0 none)).toArray).size ≤ z
            rw [List.size_toArray, List.length_take, e1]
            omega
          omega
        exact q _ _ hcl (cutS_of hxo _ _) (k03.trans k6) (hP6.mono (by omega))
abbrev CLetters (P : Program) (w : World) (K : PySem.W.Frag) (mg : Str → Option Value) (base : Heap) : Prop := Ca P w K mg base 2 "_law_page" ["_law_pen_here", "_law_code_here", "_law_upto"] spLetters
end
end Pf


namespace Pf
open PySem PySem.Spec PyProof.Rows L2
abbrev Fo : Type := List (Int × Int)
/-! ### all foldings of a stretch, one behind another -/
def seg (r : Rl) (x : Str) (W : Nat → Int → List Fo) (n : Nat) (a : Int) (t : Nat) : List Fo :=
  if mayC r x a (a + 1 + t) = true then (W t (a + 1)).flatMap fun one => (W (n - 1 - t) (a + 2 + t)).map fun other => (a, a + 1 + t) :: (one ++ other) else []
def ws (r : Rl) (x : Str) : Nat → Nat → Int → List Fo
  | 0, _, _ => [[]]
  | _ + 1, 0, _ => [[]]
  | f + 1, n + 1, a => ws r x f n (a + 1) ++ (List.range n).flatMap fun t => seg r x (ws r x f) n a t
theorem seg_congr {r : Rl} {x : Str} {W W' : Nat → Int → List Fo} {n : Nat} {a : Int} {t : Nat} (ht : t < n) (h : ∀ m b, m < n → W m b = W' m b) : seg r x W n a t = seg r x W' n a t := by
  unfold seg
  rw [h t _ ht, h (n - 1 - t) _ (by omega)]
theorem flat_congr {α β : Type} {f g : α → List β} {l : List α} (h : ∀ y ∈ l, f y = g y) : l.flatMap f = l.flatMap g := by
  rw [List.flatMap_def, List.flatMap_def, List.map_congr_left h]
theorem ws_fuel (r : Rl) (x : Str) : ∀ (n f g : Nat) (a : Int), n ≤ f → n ≤ g → ws r x f n a = ws r x g n a := by
  intro n
  induction n using Nat.strongRecOn with
  | ind n ih =>
    intro f g a hf hg
    match n, f, g, hf, hg, ih with
    | 0, 0, 0, _, _, _ => rfl
    | 0, 0, g + 1, _, _, _ => rfl
    | 0, f + 1, 0, _, _, _ => rfl
    | 0, f + 1, g + 1, _, _, _ => rfl
    | n + 1, f + 1, g + 1, hf, hg, ih =>
      rw [ws, ws, ih n (by omega) f g (a + 1) (by omega) (by omega)]
      congr 1
      refine flat_congr fun t ht => ?_
      have ht := List.mem_range.mp ht
      exact seg_congr ht fun m b hm => ih m (by omega) f g b (by omega) (by omega)
def WA (r : Rl) (x : Str) (n : Nat) (a : Int) : List Fo := ws r x n n a
theorem WA_zero (r : Rl) (x : Str) (a : Int) : WA r x 0 a = [[]] := rfl
theorem WA_succ (r : Rl) (x : Str) (n : Nat) (a : Int) : WA r x (n + 1) a = WA r x n (a + 1) ++ (List.range n).flatMap fun t => seg r x (WA r x) n a t := by
  unfold WA
  rw [ws]
  congr 1
  refine flat_congr fun t ht => ?_
  have ht := List.mem_range.mp ht
  exact seg_congr ht fun m b hm => ws_fuel r x m n m b (by omega) (Nat.le_refl _)
theorem WA_one (r : Rl) (x : Str) (a : Int) : WA r x 1 a = [[]] := by
  rw [WA_succ, WA_zero]
  rfl
theorem WA_head (r : Rl) (x : Str) : ∀ (n : Nat) (a : Int), ∃ t, WA r x n a = [] :: t
  | 0, _ => ⟨[], rfl⟩
  | n + 1, a => by
    obtain ⟨t, e⟩ := WA_head r x n (a + 1)
    rw [WA_succ, e]
    exact ⟨_, rfl⟩
/-! ### how many, how long -/
def mz : Nat → Nat → Nat
  | 0, _ => 1
  | _ + 1, 0 => 1
  | f + 1, n + 1 => mz f n + ((List.range n).map fun t => mz f t * mz f (n - 1 - t)).sum
theorem sum_le {f g : Nat → Nat} : ∀ {l : List Nat}, (∀ t ∈ l, f t ≤ g t) → (l.map f).sum ≤ (l.map g).sum
  | [], _ => Nat.le_refl _
  | t :: r, h => by
    have h1 := h t (List.mem_cons_self ..)
    have h2 := sum_le (l := r) fun y hy => h y (List.mem_cons_of_mem _ hy)
    rw [List.map_cons, List.sum_cons, List.map_cons, List.sum_cons]
    omega
theorem flat_len {α β : Type} (f : α → List β) : ∀ l : List α, (l.flatMap f).length = (l.map fun y => (f y).length).sum
  | [] => rfl
  | y :: r => by
    rw [List.flatMap_cons, List.length_append, flat_len f r, List.map_cons, List.sum_cons]
theorem flat_const {α β : Type} {f : α → List β} {c : Nat} : ∀ {l : List α}, (∀ y ∈ l, (f y).length = c) → (l.flatMap f).length = l.length * c
  | [], _ => by rw [List.length_nil, Nat.zero_mul]; rfl
  | y :: r, h => by
    rw [List.flatMap_cons, List.length_append, h y (List.mem_cons_self ..), flat_const fun z hz => h z (List.mem_cons_of_mem _ hz), List.length_cons, Nat.succ_mul]
    omega
theorem seg_len {r : Rl} {x : Str} {W : Nat → Int → List Fo} {n : Nat} {a : Int} {t : Nat} : (seg r x W n a t).length ≤ (W t (a + 1)).length * (W (n - 1 - t) (a + 2 + t)).length := by
  unfold seg
  split
  · rw [flat_const (c := (W (n - 1 - t) (a + 2 + t)).length) fun y _ => List.length_map ..]
    exact Nat.le_refl _
  · exact Nat.zero_le _
theorem ws_len (r : Rl) (x : Str) : ∀ (f n : Nat) (a : Int), (ws r x f n a).length ≤ mz f n
  | 0, _, _ => Nat.le_refl _
  | _ + 1, 0, _ => Nat.le_refl _
  | f + 1, n + 1, a => by
    rw [ws, mz, List.length_append, flat_len]
    refine Nat.add_le_add (ws_len r x f n (a + 1)) (sum_le fun t _ => ?_)
    exact Nat.le_trans seg_len (Nat.mul_le_mul (ws_len r x f t _) (ws_len r x f _ _))
theorem WA_len (r : Rl) (x : Str) {n : Nat} (hn : n ≤ 12) (a : Int) : (WA r x n a).length ≤ 15511 := by
  have h1 := ws_len r x n n a
  have h2 : ∀ m : Nat, m < 13 → mz m m ≤ 15511 := by decide +kernel
  exact Nat.le_trans h1 (h2 n (by omega))
theorem WA_len10 (r : Rl) (x : Str) {n : Nat} (hn : n ≤ 10) (a : Int) : (WA r x n a).length ≤ 2188 := by
  have h1 := ws_len r x n n a
  have h2 : ∀ m : Nat, m < 11 → mz m m ≤ 2188 := by decide +kernel
  exact Nat.le_trans h1 (h2 n (by omega))
/-- each folding of a stretch: places within it, at most half as many pairs -/
theorem WA_in (r : Rl) (x : Str) : ∀ (n : Nat) (a : Int), ∀ q ∈ WA r x n a, (∀ y ∈ q, a ≤ y.1 ∧ y.1 < y.2 ∧ y.2 < a + n) ∧ 2 * q.length ≤ n := by
  intro n
  induction n using Nat.strongRecOn with
  | ind n ih =>
    intro a q hq
    match n, ih, hq with
    | 0, _, hq =>
      rw [WA_zero, List.mem_singleton] at hq
      subst hq
      exact ⟨(fun y hy => by cases hy), Nat.zero_le _⟩
    | n + 1, ih, hq =>
      rw [WA_succ] at hq
      rcases List.mem_append.mp hq with hq | hq
      · have := ih n (by omega) (a + 1) q hq
        exact ⟨fun y hy => by have := this.1 y hy; omega, by omega⟩
      · obtain ⟨t, ht, hq⟩ := List.mem_flatMap.mp hq
        have ht := List.mem_range.mp ht
        unfold seg at hq
        split at hq
        · obtain ⟨one, h1, hq⟩ := List.mem_flatMap.mp hq
          obtain ⟨other, h2, rfl⟩ := List.mem_map.mp hq
          have i1 := ih t (by omega) (a + 1) one h1
          have i2 := ih (n - 1 - t) (by omega) (a + 2 + t) other h2
          refine ⟨fun y hy => ?_, ?_⟩
          · rcases List.mem_cons.mp hy with rfl | hy
            · show a ≤ a ∧ a < a + 1 + t ∧ a + 1 + t < a + (n + 1 : Nat)
              omega
            · rcases List.mem_append.mp hy with hy | hy
              · have := i1.1 y hy
                omega
              · have := i2.1 y hy
                omega
          · rw [List.length_cons, List.length_append]
            omega
        · cases hq
/-! ### foldings in the heap, in a list -/
abbrev FoAt : Hp → V → Fo → Prop := TupOf TwoAt
theorem FoAt.mono : Mono FoAt := TupOf.mono TwoAt.mono
theorem paired_get2 {α β : Type} {R : α → β → Prop} {xs : List α} {ys : List β} {i : Nat} {x : α} (h : Paired R xs ys) (e : xs[i]? = some x) : ∃ y, ys[i]? = some y ∧ R x y := paired_get h e
section
variable {β : Type} {R : Hp → V → β → Prop} {D : Addr} {H H1 H4 : Hp} {bs : List β} {i n : Nat} {v : V} {b : β}
def GenP (R : Hp → V → β → Prop) (D : Addr) (H1 : Hp) (bs : List β) (i : Nat) (H : Hp) : Prop := ∃ vs, H D = some (.lst vs) ∧ Paired (R H) vs (bs.take i) ∧ Ext H1 H
theorem gen_new (hD : H1 D = none) : GenP R D H1 bs 0 (upd H1 D (.lst [])) := ⟨[], upd_same, by rw [List.take_zero]; exact .nil, Ext.new hD⟩
theorem GenP.ext (h : GenP R D H1 bs i H) : Ext H1 H := by
  obtain ⟨_, _, _, k⟩ := h
  exact k
theorem gen_step (m : Mono R) (hD : H1 D = none) (h : GenP R D H1 bs i H) (k : Ext H H4) (hv : R H4 v b) (hb : bs[i]? = some b) (hn : bs.length ≤ 1000000) : ∃ acc, H4 D = some (.lst acc) ∧ acc.length < sizeLine ∧ GenP R D H1 bs (i + 1) (upd H4 D (.lst (acc ++ [v]))) := by
  obtain ⟨vs, hL, hP, k1⟩ := h
  have hl := paired_len hP
  rw [List.length_take] at hl
  have hi := (List.getElem?_eq_some_iff.mp hb).1
  have hL4 := k _ _ hL
  refine ⟨vs, hL4, szLt (by omega), vs ++ [v], upd_same, ?_, (k1.trans k).put hD⟩
  rw [List.take_add_one, hb]
  exact paired_app (paired_imp (fun _ _ => m _ _ _ _ ((TupK.ext k).trans (TupK.lst hL4))) hP) (.cons (m _ _ _ _ (TupK.lst hL4) hv) .nil)
theorem gen_end (h : GenP R D H1 bs n H) (hn : bs.length ≤ n) : ∃ vs, H D = some (.lst vs) ∧ Paired (R H) vs bs ∧ Ext H1 H := by
  obtain ⟨vs, hL, hP, k⟩ := h
  rw [List.take_of_length_le hn] at hP
  exact ⟨vs, hL, hP, k⟩
end
section
variable {P : Program} {w : World} {K : PySem.W.Frag} {mg : Str → Option Value} {base : Heap}
/-! ### sorted -/
def dTwo (x : Int × Int) : PyData := .tuple [.int x.1, .int x.2]
def dFo (q : Fo) : PyData := .tuple (q.map dTwo)
theorem dpTwos {K : PySem.W.Frag} {H : Hp} : ∀ {vs : List V} {ps : List (Int × Int)}, Paired (TwoAt H) vs ps → DpAll K H vs (ps.map dTwo)
  | _, _, .nil => .nil
  | _, _, .cons ⟨_, e, h⟩ t => .cons (e ▸ .tup (SqT.of h) (.cons (.int _) (.cons (.int _) .nil))) (dpTwos t)
theorem dp_fo {K : PySem.W.Frag} {H : Hp} {v : V} {q : Fo} (h : FoAt H v q) : Dp K H v (dFo q) := by
  obtain ⟨a, vs, rfl, h1, h2⟩ := h
  exact .tup (SqT.of h1) (dpTwos h2)
theorem dpFos {K : PySem.W.Frag} {H : Hp} : ∀ {vs : List V} {L : List Fo}, Paired (FoAt H) vs L → DpAll K H vs (L.map dFo)
  | _, _, .nil => .nil
  | _, _, .cons h t => .cons (dp_fo h) (dpFos t)
theorem dep_twos : ∀ q : List (Int × Int), PyData.depthAll (q.map dTwo) ≤ 1
  | [] => by simp [PyData.depthAll]
  | y :: r => by
    rw [List.map_cons, PyData.depthAll]
    have := dep_twos r
    have h1 : (dTwo y).depth = 1 := by simp [dTwo, PyData.depth, PyData.depthAll]
    rw [h1]
    omega
theorem dep_fo (q : Fo) : (dFo q).depth ≤ 2 := by
  unfold dFo
  rw [PyData.depth]
  have := dep_twos q
  omega
theorem alike_twos : ∀ q s : List (Int × Int), PySem.W.alikeAll (q.map dTwo) (s.map dTwo) = true
  | [], _ => by simp [PySem.W.alikeAll]
  | _ :: _, [] => by simp [PySem.W.alikeAll]
  | y :: q, z :: s => by
    rw [List.map_cons, List.map_cons, PySem.W.alikeAll, alike_twos q s]
    simp [dTwo, PySem.W.alike, PySem.W.alikeAll]
def SF (L : List Fo) : List Fo := L.mergeSort (PySem.W.dataLe false dFo)
theorem sort_fos {K : PySem.W.Frag} {H : Hp} {l : Addr} {us : List V} {L : List Fo} {t : List Fo} {Q : VK} (hL : H l = some (.lst us)) (hP : Paired (FoAt H) us L) (h0 : L = [] :: t) (q : ∀ (p : Addr) (ws : List V) (H' : Hp), H p = none → H' p = some (.lst ws) → Paired (FoAt H') ws (SF L) → Ext H H' → Q (.ref p) H') : rSortE K [.ref l] H Q := by
  have hz := paired_len hP
  have e1 : (us.zip L).map (·.1) = us := List.map_fst_zip (by omega)
  have e2 : (us.zip L).map (·.2) = L := List.map_snd_zip (by omega)
  have hall : ∀ b ∈ us.zip L, FoAt H b.1 b.2 := by
    clear e1 e2 hz h0 q hL
    induction hP with
    | nil => intro b hb; cases hb
    | cons r _ ih =>
      intro b hb
      rw [List.zip_cons_cons] at hb
      rcases List.mem_cons.mp hb with rfl | hb
      · exact r
      · exact ih b hb
  have ed : (us.zip L).map (fun b => dFo b.2) = L.map dFo := by
    have := congrArg (List.map dFo) e2
    rw [List.map_map] at this
    exact this
  refine ⟨V × Fo, fun b => b.1, fun b => dFo b.2, l, us.zip L, t.map dFo, rfl, SqL.of (by rw [e1]; exact hL), fun b hb => ⟨dp_fo (hall b hb), Nat.le_trans (dep_fo _) (by decide)⟩, ?_, ?_, ?_, fun p hp => ?_⟩
  · intro d1 h1 d2 h2
    obtain ⟨b1, _, rfl⟩ := List.mem_map.mp h1
    obtain ⟨b2, _, rfl⟩ := List.mem_map.mp h2
    show PySem.W.alike (.tuple _) (.tuple _) = true
    rw [PySem.W.alike]
    exact alike_twos _ _
  · rw [ed, h0]
    rfl
  · intro e he
    obtain ⟨b1, _, rfl⟩ := List.mem_map.mp he
    exact ⟨_, rfl⟩
  · have x1 := Ext.new (o := .lst (((us.zip L).mergeSort (PySem.W.dataLe false fun b => dFo b.2)).map fun b => b.1)) hp
    refine q p _ _ hp upd_same ?_ x1
    have es : ((us.zip L).mergeSort (PySem.W.dataLe false fun b => dFo b.2)).map (·.2) = SF L := by
      have hm := List.map_mergeSort (r := PySem.W.dataLe false fun b : V × Fo => dFo b.2) (s := PySem.W.dataLe false dFo) (f := fun b : V × Fo => b.2) (l := us.zip L) (fun a _ b _ => rfl)
      rw [e2] at hm
      exact hm
    rw [← es]
    have hm : ∀ b ∈ (us.zip L).mergeSort (PySem.W.dataLe false fun b => dFo b.2), FoAt H b.1 b.2 := fun b hb => hall b ((List.mergeSort_perm _ _).mem_iff.mp hb)
    generalize (us.zip L).mergeSort (PySem.W.dataLe false fun b => dFo b.2) = S at hm x1
    have : ∀ {T : List (V × Fo)} {H2 : Hp}, (∀ b ∈ T, FoAt H b.1 b.2) → Ext H H2 → Paired (FoAt H2) (T.map (·.1)) (T.map (·.2)) := by
      intro T H2 hT hx
      induction T with
      | nil => exact .nil
      | cons b T ih => exact .cons (FoAt.mono _ _ _ _ (TupK.ext hx) (hT b (List.mem_cons_self ..))) (ih fun c hc => hT c (List.mem_cons_of_mem _ hc))
    exact this hm x1
end
end Pf


namespace Pf
open PySem PySem.Spec PyProof.Rows L2
/-! ### loops: what is asked -/
def swI : List (Str × Str × Int) → Str → Str → Int
  | [], _, _ => 0
  | (t, u, x) :: r, o, n => if t = o ∧ u = n then x else swI r o n
theorem swI_at {stk : List (Str × Str × Int)} {i : Nat} {t u : Str} {x : Int} (h : stk[i]? = some (t, u, x)) (o n : Str) : swI (stk.drop i) o n = if t = o ∧ u = n then x else swI (stk.drop (i + 1)) o n := by
  obtain ⟨hi, e⟩ := List.getElem?_eq_some_iff.mp h
  rw [List.drop_eq_getElem_cons hi, e, swI]
theorem swI_end {stk : List (Str × Str × Int)} {i : Nat} (h : stk.length ≤ i) (o n : Str) : swI (stk.drop i) o n = 0 := by
  rw [List.drop_eq_nil_of_le h, swI]
theorem swI_bound {stk : List (Str × Str × Int)} (h : ∀ y ∈ stk, -99 ≤ y.2.2 ∧ y.2.2 ≤ 99) (o n : Str) : -99 ≤ swI stk o n ∧ swI stk o n ≤ 99 := by
  induction stk with
  | nil => exact ⟨by show -99 ≤ (0 : Int); decide, by show (0 : Int) ≤ 99; decide⟩
  | cons y r ih =>
    rw [swI]
    by_cases e : y.1 = o ∧ y.2.1 = n
    · rw [if_pos e]
      exact h y (List.mem_cons_self ..)
    · rw [if_neg e]
      exact ih fun z hz => h z (List.mem_cons_of_mem _ hz)
inductive Sep2 : Int → Int → List (Int × Int) → Prop
  | nil {lo hi : Int} : lo ≤ hi → Sep2 lo hi []
  | cons {lo hi p q : Int} {ks : List (Int × Int)} : lo ≤ p → p ≤ q → Sep2 (q + 1) hi ks → Sep2 lo hi ((p, q) :: ks)
def wid (ks : List (Int × Int)) : Int := (ks.map fun y => y.2 - y.1 + 1).sum
theorem Sep2.wid {lo hi : Int} {ks : List (Int × Int)} (h : Sep2 lo hi ks) : 0 ≤ wid ks ∧ wid ks ≤ hi - lo := by
  induction h with
  | nil h => exact ⟨Int.le_refl _, by show (0 : Int) ≤ _; omega⟩
  | @cons lo hi p q ks h1 h2 _ ih =>
    have e : Pf.wid ((p, q) :: ks) = (q - p + 1) + Pf.wid ks := by
      unfold Pf.wid
      rw [List.map_cons, List.sum_cons]
    rw [e]
    omega
def freeI (one : Int × Int) (ks : List (Int × Int)) : Int := one.2 - one.1 - 1 - wid ks
theorem free_sep {one : Int × Int} {ks : List (Int × Int)} (h : Sep2 (one.1 + 1) one.2 ks) : 0 ≤ freeI one ks ∧ freeI one ks ≤ one.2 - one.1 - 1 := by
  have := h.wid
  unfold freeI
  omega
def lo (r : Rl) (i : Nat) : Int := r.loops.getD i 0
def kindN (free : Int) (n : Nat) : Str := if n = 0 then "lone" else if 1 < n then "forked" else if 0 < free then "inner" else "stacked"
def lpW (r : Rl) (x : Str) (one : Int × Int) (ks : List (Int × Int)) : Int :=
  if ks.length = 0 then lo r 6 + freeI one ks * lo r 7 else if 1 < ks.length then lo r 3 + (ks.length * lo r 4 + freeI one ks * lo r 5) else if 0 < freeI one ks then lo r 1 + freeI one ks * lo r 2 else lo r 0 + swI r.stk (tx2 x one) (tx2 x (ks.headD (0, 0)))
def LN : List Str := ["stacked", "inner", "inner free", "forked", "branch", "fork free", "lone", "lone free", "open"]
theorem LN_nd : LN.Nodup := by decide +kernel
def dLo (cs : List Int) : List (Key × V) := (LN.zip cs).map fun x => (.inr x.1, .int x.2)
theorem val_zip : ∀ {ns : List Str} {cs : List Int} {i : Nat} {n : Str} {c : Int}, ns.Nodup → ns[i]? = some n → cs[i]? = some c → valV ((ns.zip cs).map fun x => ((.inr x.1 : Key), V.int x.2)) (.inr n) = some (.int c)
  | [], _, i, _, _, _, h, _ => by simp at h
  | _ :: _, [], i, _, _, _, _, h => by simp at h
  | a :: ns, b :: cs, 0, n, c, _, h, h2 => by
    rw [List.getElem?_cons_zero] at h h2
    cases h
    cases h2
    rw [List.zip_cons_cons, List.map_cons, valV_pos rfl]
  | a :: ns, b :: cs, i + 1, n, c, hn, h, h2 => by
    rw [List.getElem?_cons_succ] at h h2
    have hne : ¬ (Sum.inr a : Key) = Sum.inr n := fun z => by
      have z := Sum.inr.inj z
      rw [z] at hn
      exact (List.nodup_cons.mp hn).1 (List.mem_of_getElem? h)
    rw [List.zip_cons_cons, List.map_cons, valV_neg hne]
    exact val_zip (List.nodup_cons.mp hn).2 h h2
theorem dLo_keys : ∀ {ns : List Str} {cs : List Int}, ns.length = cs.length → ((ns.zip cs).map fun x => ((.inr x.1 : Key), V.int x.2)).map (·.1) = ns.map Sum.inr
  | [], _, _ => rfl
  | _ :: _, [], h => by cases h
  | a :: ns, b :: cs, h => by
    rw [List.zip_cons_cons, List.map_cons, List.map_cons, List.map_cons, dLo_keys (Nat.succ.inj h)]
theorem dLo_merge {cs : List Int} (h : cs.length = 9) : mergeK [] (dLo cs) = dLo cs := by
  rw [merge_nd, List.nil_append]
  rw [List.nil_append]
  unfold dLo
  rw [dLo_keys (by rw [h]; rfl)]
  show (LN.map (Sum.inr : Str → Key)).Nodup
  decide +kernel
theorem get_lo {H : Hp} {d : Addr} {cs : List Int} (h : H d = some (.dK (dLo cs))) (hc : cs.length = 9) {i : Nat} {n : Str} (hn : LN[i]? = some n) : DGet H d (.str n) (some (.int (cs.getD i 0))) := by
  have hi : i < 9 := (List.getElem?_eq_some_iff.mp hn).1
  have e : cs[i]? = some (cs.getD i 0) := by
    rw [List.getD_eq_getElem?_getD, List.getElem?_eq_getElem (by omega)]
    rfl
  have := val_zip (cs := cs) LN_nd hn e
  exact this ▸ DGet.k (k := .inr n) h
theorem dLo_vals : ∀ {ns : List Str} {cs : List Int}, ns.length = cs.length → ((ns.zip cs).map fun x => ((.inr x.1 : Key), V.int x.2)).map (·.2) = cs.map V.int
  | [], [], _ => rfl
  | [], _ :: _, h => by cases h
  | _ :: _, [], h => by cases h
  | a :: ns, b :: cs, h => by
    rw [List.zip_cons_cons, List.map_cons, List.map_cons, List.map_cons, dLo_vals (Nat.succ.inj h)]
theorem dLo_kV : ∀ {ns : List Str} {cs : List Int}, ns.length = cs.length → (((ns.zip cs).map fun x => ((.inr x.1 : Key), V.int x.2)).map fun x => kV x.1) = ns.map V.str
  | [], _, _ => rfl
  | _ :: _, [], h => by cases h
  | a :: ns, b :: cs, h => by
    rw [List.zip_cons_cons, List.map_cons, List.map_cons, List.map_cons, dLo_kV (Nat.succ.inj h)]
    rfl
theorem ints_of {H : Hp} : ∀ {vs : List V} {ns : List Int}, Paired (IntAt H) vs ns → vs = ns.map V.int
  | _, _, .nil => rfl
  | _, _, .cons h t => by
    have h : _ = V.int _ := h
    rw [List.map_cons, ← ints_of t, h]
theorem lo_bound {r : Rl} (ok : RlOk r) {i : Nat} (hi : i < 9) : -99 ≤ lo r i ∧ lo r i ≤ 99 := by
  have h : i < r.loops.length := by
    rw [ok.lo9]
    exact hi
  have e : lo r i = r.loops[i] := by
    unfold lo
    rw [List.getD_eq_getElem?_getD, List.getElem?_eq_getElem h]
    rfl
  rw [e]
  exact ok.lo _ (List.getElem_mem h)
section
variable {P : Program} {w : World} {K : PySem.W.Frag} {mg : Str → Option Value} {base : Heap}
theorem sumI (K : PySem.W.Frag) {X : Cx} (hc : X.calm = true := by rfl) (h : X.K = K := by rfl) : CallR X (.builtin "sum") (rSum K) := h ▸ cr_sum hc
end
def InX (x : Str) (qs : List (Int × Int)) : Prop := ∀ y ∈ qs, 0 ≤ y.1 ∧ y.1 < x.length ∧ 0 ≤ y.2 ∧ y.2 < x.length
theorem dget_ne {H H' : Hp} {d : Addr} {cs : List Int} (k : Ext H H') (h : H d = some (.dK (dLo cs))) : H' d = some (.dK (dLo cs)) := k _ _ h
theorem k_ne {a b : Str} (h : (a == b) = false) : (decide ((V.str a : V) = V.str b)) = false := decide_eq_false fun z => by
  have z := V.str.inj z
  rw [z] at h
  simp at h
section
variable {P : Program} {w : World} {K : PySem.W.Frag} {mg : Str → Option Value} {base : Heap}
end
end Pf


namespace Pf
open PySem PySem.Spec PyProof.Rows L2
/-! ### defs with arguments by name alone, and what stands in their place -/
structure CaN (P : Program) (w : World) (K : PySem.W.Frag) (mg : Str → Option Value) (base : Heap) (k : Nat) (x : Str) (ps : List Str) (n : Nat) (ks : List Str) (gV : List V → List V → List V) (sp : Sp) : Prop where
  ex : ∃ f fd g, FnOk P w K mg base CX0 k f fd ps sp ∧ mg x = some (.ref f) ∧ PySem.W.keepIn K (.ref f) = true ∧ KBn K fd ps n ks g gV
structure CaE (P : Program) (w : World) (K : PySem.W.Frag) (mg : Str → Option Value) (base : Heap) (k : Nat) (x : Str) (ps : List Str) (dvs : List V) (sp : Sp) : Prop where
  ex : ∃ f fd ds, FnOk P w K mg base CX0 k f fd ps sp ∧ mg x = some (.ref f) ∧ PySem.W.keepIn K (.ref f) = true ∧ Vals dvs ds ∧ Binds K fd ps ds
section
variable {X : Cx} {k n : Nat} {x : Str} {ps ks : List Str} {sp : Sp} {p pos : Pos} {e : Expr} {es : List Expr} {kws : List Keyword} {t tk : TA} {gV : List V → List V → List V} {dvs : List V}
theorem pe_caN (c : CaN X.prog X.w X.K X.mg X.base k x ps n ks gV sp) (hr : Room k X.A) (hg : Gl X x) (ha : PA X (e :: es) t) (hkw : PK X kws tk)
    (hall : (backToKw pos (keywordEach kws X.env)).all (·.1.isSome) = true := by rfl) (hks : (backToKw pos (keywordEach kws X.env)).filterMap (·.1) = ks := by rfl)
    (hdb : (x == ("__debug__" : Str)) = false := by decide) (he : starEach (e :: es) X.env = (false, eval e X.env) :: starEach es X.env := by rfl)
    (hpl : ((backTo pos (starEach (e :: es) X.env)).any (·.1) || (backToKw pos (keywordEach kws X.env)).any (·.1.isNone)) = false := by rfl) :
    PE X (.Call (.Name x p) (e :: es) kws pos) (tCallN n ks.length sp gV E0 t tk) := by
  obtain ⟨f, fd, g, F, hm, hk, hb⟩ := c.ex
  exact pe_callN F hr hg hm hk hb pass0 ha hkw hall hks hdb he hpl
theorem pe_caE (c : CaE X.prog X.w X.K X.mg X.base k x ps dvs sp) (hr : Room k X.A) (hg : Gl X x) (ha : PA X (e :: es) t) (hdb : (x == ("__debug__" : Str)) = false := by decide)
    (he : starEach (e :: es) X.env = (false, eval e X.env) :: starEach es X.env := by rfl) (hpl : (backTo pos (starEach es X.env)).any (·.1) = false := by rfl) :
    PE X (.Call (.Name x p) (e :: es) [] pos) (tCall sp dvs E0 t) := by
  obtain ⟨f, fd, ds, F, hm, hk, hv, hb⟩ := c.ex
  exact pe_call F hr hg hm hk hb hv pass0 ha hdb he hpl
end
def permA {α : Type} (js : List Nat) (l : List α) : List α := js.filterMap fun j => l[j]?
def permW (js : List Nat) (ms : List V) : List V → List V → List V := fun vs zs => permA js (vs ++ zs ++ ms)
theorem vals_at : ∀ {zs : List V} {ws : List Value} (j : Nat), Vals zs ws → (∃ z u, zs[j]? = some z ∧ ws[j]? = some u ∧ RelV z u) ∨ (zs[j]? = none ∧ ws[j]? = none)
  | _, _, _, .nil => .inr ⟨rfl, rfl⟩
  | _, _, 0, .cons r _ => .inl ⟨_, _, rfl, rfl, r⟩
  | _, _, j + 1, .cons _ t => by
    rw [List.getElem?_cons_succ, List.getElem?_cons_succ]
    exact vals_at j t
theorem permA_rel {zs : List V} {ws : List Value} (r : Vals zs ws) : ∀ js : List Nat, Vals (permA js zs) (permA js ws)
  | [] => .nil
  | j :: js => by
    unfold permA
    rcases vals_at j r with ⟨z, u, e1, e2, e3⟩ | ⟨e1, e2⟩
    · rw [List.filterMap_cons_some e1, List.filterMap_cons_some e2]
      exact .cons e3 (permA_rel r js)
    · rw [List.filterMap_cons_none e1, List.filterMap_cons_none e2]
      exact permA_rel r js
theorem kbn_kw {K : PySem.W.Frag} {x qual : Str} {params : Arguments} {body : List Stmt} {scope : Scope} {kws : List (Str × V)} {f : Addr} {fd : FuncData} {ps : List Str} (F : FunD K x qual params body scope [] kws f fd) (n : Nat) (ks : List Str) (ms : List (Str × V)) (js : List Nat) (hk : kws ≠ []) (hms : ∀ q ∈ ms, q ∈ kws)
    (h : ∀ (D : Addr) (doc pm : Value) (an : Option Addr) (cdv ct : Value) (us mv ws : List Value), us.length = n → mv.length = ms.length → ws.length = ks.length →
      KwChain D ((ms.map (·.1)).zip mv) (bindArgs (PySem.W.fnOf x qual params body scope .none (.ref D) doc pm an cdv ct) ⟨us, ks.zip ws⟩) (ps.zip (permA js (us ++ ws ++ mv)))) : ∃ g, KBn K fd ps n ks g (permW js (ms.map (·.2))) := by
  obtain ⟨mv, hb⟩ := F.kbinds0 (ps := ps) n ks ms (fun {α} vs mz zs => permA js (vs ++ zs ++ mz)) hk hms (fun r1 r2 r3 => permA_rel ((r1.append r3).append r2) js) h
  exact ⟨_, hb⟩
end Pf


namespace Pf
open PySem PySem.Spec PyProof.Rows L2
/-! ### dict(list of pairs) by tuples -/
abbrev TKV : Type := List Key × Addr × V
def TkR (kv : TKV) (x : List Key × Addr × Value) : Prop := kv.1 = x.1 ∧ kv.2.1 = x.2.1 ∧ RelV kv.2.2 x.2.2
def TkP (K : PySem.W.Frag) (H : Hp) (p : Addr) (kv : TKV) : Prop := SqT K H p [.ref kv.2.1, kv.2.2] ∧ H kv.2.1 = some (.tup (kv.1.map kV))
theorem tkeys_of {X : Cx} {pins : List (Addr × Obj)} {σ : L2.St} {H : Hp} {s : Shared} (I : Inv X pins σ H s) : ∀ {ps : List Addr} {kvs : List TKV}, Paired (TkP X.K H) ps kvs →
    ∃ xs : List (List Key × Addr × Value), Paired TkR kvs xs ∧ xs.length = ps.length ∧ ∀ (j : Nat) (x : List Key × Addr × Value), xs[j]? = some x → H x.2.1 = some (.tup (x.1.map kV)) ∧ ∃ b, ps[j]? = some b ∧ IsTup s.heap b #[.ref x.2.1, x.2.2]
  | _, _, .nil => ⟨[], .nil, rfl, fun j q e => by simp at e⟩
  | _, _, .cons (a := p) (b := kv) h t => by
    obtain ⟨xs, r, hl, hp⟩ := tkeys_of I t
    obtain ⟨its, rv, ht, _⟩ := I.tuple h.1
    obtain ⟨u, y, ei, ru, ry⟩ := vals2 rv
    subst ei
    obtain rfl : u = Value.ref kv.2.1 := ru
    refine ⟨(kv.1, kv.2.1, y) :: xs, .cons ⟨rfl, rfl, ry⟩ r, by rw [List.length_cons, List.length_cons, hl], fun j q e => ?_⟩
    cases j with
    | zero =>
      have e' : (kv.1, kv.2.1, y) = q := Option.some.inj e
      subst e'
      exact ⟨h.2, p, rfl, ht⟩
    | succ j =>
      obtain ⟨e0, b, e1, e2⟩ := hp j q (by simpa using e)
      exact ⟨e0, b, by simpa using e1, e2⟩
def mergeT (acc : List (List Key × V)) (kvs : List TKV) : List (List Key × V) := kvs.foldl (fun acc x => putK acc x.1 x.2.2) acc
theorem mergeT_len : ∀ (kvs : List TKV) (acc : List (List Key × V)), (mergeT acc kvs).length ≤ acc.length + kvs.length
  | [], acc => Nat.le_refl _
  | x :: kvs, acc => by
    have h1 := mergeT_len kvs (putK acc x.1 x.2.2)
    have h2 := length_putK acc x.1 x.2.2
    rw [List.length_cons]
    show (mergeT (putK acc x.1 x.2.2) kvs).length ≤ _
    omega
theorem kt_merge {H : Hp} : ∀ {kvs : List TKV} {xs : List (List Key × Addr × Value)} {acc : List (List Key × V)} {ys : List (List Key × Addr × Value)}, Paired TkR kvs xs → (∀ x ∈ xs, H x.2.1 = some (.tup (x.1.map kV))) → KT H acc ys → KT H (mergeT acc kvs) (storedAllH ys xs)
  | _, _, _, _, .nil, _, r => r
  | _, _, acc, ys, .cons (a := kv) (b := x) h t, hH, r => by
    have hb := hH x (List.mem_cons_self ..)
    have r1 := r.put x.1 hb h.2.2
    have := kt_merge t (fun z hz => hH z (List.mem_cons_of_mem _ hz)) r1
    rw [← h.1] at this
    show KT H (mergeT (putK acc kv.1 kv.2.2) _) (storedAllH (storedH ys x.1 x.2.1 x.2.2) _)
    rw [← h.1]
    exact this
def rDictLT (K : PySem.W.Frag) : List V → Hp → VK → Prop := fun xs H Q => ∃ (a : Addr) (ps : List Addr) (kvs : List TKV), xs = [.ref a] ∧ SqL K H a (ps.map V.ref) ∧ Paired (TkP K H) ps kvs ∧ ∀ p, H p = none → Q (.ref p) (upd H p (.dT (mergeT [] kvs)))
theorem dictLT (K : PySem.W.Frag) {X : Cx} (hu : X.A.units + 64 < cLine) (calm : X.calm = true := by rfl) (hK : X.K = K := by rfl) : CallR X (.type "dict") (rDictLT K) := by
  subst hK
  intro pins s σ H xs us Q I r q
  obtain ⟨a, ps, kvs, ex, hq, hp, q⟩ := q
  subst ex
  obtain ⟨u, eu, rx⟩ := vals1 r
  subst eu
  cases rx
  obtain ⟨its, rv, pl, hz⟩ := I.list hq
  have ei := refs_at rv
  subst ei
  rw [List.length_map] at hz
  obtain ⟨xs, rel, hl, hpr⟩ := tkeys_of I hp
  obtain ⟨o, n, ho, hc, hd, hdat⟩ := pl
  have hH : ∀ x ∈ xs, H x.2.1 = some (.tup (x.1.map kV)) := fun x hx => by
    obtain ⟨j, hj⟩ := List.mem_iff_getElem?.mp hx
    exact (hpr j x hj).1
  have lkv : kvs.length = ps.length := (Paired.length rel).trans hl
  refine call_dict_pairsH (knd := tupleKind (mixKind X.prog X.w)) (ps := xs) (PairArg.list a (ps.map Value.ref).toArray (fun j => ps.getD j 0) (xs.map fun x => (Value.ref x.2.1, x.2.2))) (I.ok.hd calm) (show X.A.units + 2 < cLine by omega) ⟨⟨o, n, ho, hc, hd, hdat⟩, by simp [hl], fun j k v e => ?_⟩ ⟨by simp, fun i key v e => ?_⟩ (fun h' hk x hx => ?_) (by rw [List.length_map, hl]; exact hz) (fun h' tk hd' hk => ?_)
  · rw [List.getElem?_map] at e
    cases ex : xs[j]? with
    | none => rw [ex] at e; cases e
    | some x =>
      rw [ex] at e
      cases e
      obtain ⟨_, b, e1, e2⟩ := hpr j x ex
      refine ⟨by simp [e1], .inl ?_⟩
      have : ps.getD j 0 = b := by
        rw [List.getD_eq_getElem?_getD, e1]
        rfl
      show s.heap.IsTuple (ps.getD j 0) _
      rw [this]
      exact e2
  · rw [show PairRel (xs.map fun x => (Value.ref x.2.1, x.2.2)) i key v ↔ _ from Iff.rfl] at e
    have e : (xs.map fun x => (Value.ref x.2.1, x.2.2))[i]? = some (key, v) := e
    rw [List.getElem?_map] at e
    cases ex : xs[i]? with
    | none => rw [ex] at e; cases e
    | some x =>
      rw [ex] at e
      cases e
      exact ⟨x.1, x.2.1, rfl, rfl⟩
  · obtain ⟨o1, its1, n1, h1, h2, h3, h4⟩ := key_of I.hok (hH x hx)
    exact ⟨o1, its1, n1, hk _ _ (Nat.ne_of_lt (Heap.lt_size h1)) (by simp) h1, h2, h3, h4⟩
  · have hm : (s.heap.objs.size == sysModules) = false := beq_eq_false_iff_ne.mpr (Nat.ne_of_gt I.big)
    have fresh := I.hok.fresh (Nat.le_refl s.heap.objs.size)
    have hlen : (mergeT [] kvs).length ≤ sizeLine := by
      refine Nat.le_trans (mergeT_len kvs []) ?_
      rw [List.length_nil, Nat.zero_add, lkv]
      exact hz
    have kt : KT H (mergeT [] kvs) (storedAllH [] xs) := kt_merge rel hH .nil
    obtain ⟨ob, es, ep, e1, e2, e3, e4, _, e5⟩ := hd'
    exact ⟨.ref s.heap.objs.size, upd H s.heap.objs.size (.dT (mergeT [] kvs)), I.laid (t' := tk) (fun b o e => hk b o (by simp) e) (Nat.le_refl _) (show ObjOk X.prog X.w _ _ _ (.dT (mergeT [] kvs)) from ⟨hlen, hm, _, kt.keeps fun b ys e => by rw [upd_ne (ne_of_none e fresh)]; exact e, ob, es, ep, e1, e2, e3, e4, e5⟩), rfl, q _ fresh⟩
end Pf


namespace Pf
open PySem PySem.Spec PyProof.Rows L2
def pwI : List (Str × Int) → Str → Int
  | [], _ => 0
  | (t, x) :: r, b => if t = b then x else pwI r b
theorem pwV_int : ∀ {prs : List (Str × Int)} {b : Str}, b ∈ prs.map (·.1) → pwV prs b = .int (pwI prs b)
  | [], _, h => by cases h
  | (t, x) :: r, b, h => by
    rw [pwV, pwI]
    by_cases e : t = b
    · rw [if_pos e, if_pos e]
    · rw [if_neg e, if_neg e]
      rcases List.mem_cons.mp h with z | z
      · exact absurd z.symm e
      · exact pwV_int z
def stF (stk : List (Str × Str × Int)) (o n : Str) : List Int := (stk.filter fun z => decide (z.1 = o ∧ z.2.1 = n)).map (·.2.2)
theorem stF_no : ∀ {stk : List (Str × Str × Int)} {o n : Str}, (o, n) ∉ stk.map (fun z => (z.1, z.2.1)) → stF stk o n = []
  | [], _, _, _ => rfl
  | z :: r, o, n, h => by
    rw [List.map_cons, List.mem_cons, not_or] at h
    unfold stF
    rw [List.filter_cons_of_neg (p := fun z : Str × Str × Int => decide (z.1 = o ∧ z.2.1 = n)) (by
      intro e
      have e := of_decide_eq_true e
      exact h.1 (by rw [← e.1, ← e.2]))]
    exact stF_no h.2
theorem stF_sum : ∀ {stk : List (Str × Str × Int)} {o n : Str}, (stk.map fun z => (z.1, z.2.1)).Nodup → (stF stk o n).sum = swI stk o n
  | [], _, _, _ => rfl
  | (t, u, x) :: r, o, n, h => by
    rw [List.map_cons, List.nodup_cons] at h
    unfold swI
    by_cases c : t = o ∧ u = n
    · rw [if_pos c]
      unfold stF
      rw [List.filter_cons_of_pos (p := fun z : Str × Str × Int => decide (z.1 = o ∧ z.2.1 = n)) (decide_eq_true c), List.map_cons, List.sum_cons]
      have := stF_no (stk := r) (o := o) (n := n) (by rw [← c.1, ← c.2]; exact h.1)
      unfold stF at this
      rw [this]
      simp
    · rw [if_neg c, ← stF_sum h.2]
      unfold stF
      rw [List.filter_cons_of_neg (p := fun z : Str × Str × Int => decide (z.1 = o ∧ z.2.1 = n)) (by simpa using c)]
theorem eqv_two (a b c d : Str) : PyData.eqv (.tuple [.str a, .str b]) (.tuple [.str c, .str d]) = decide (a = c ∧ b = d) := by
  simp [PyData.eqv, PyData.eqvAll]
  by_cases h1 : a = c <;> by_cases h2 : b = d <;> simp [h1, h2]
theorem sm_two {a b : Str} (ha : Two a) (hb : Two b) : SeqAt.shaped (.tuple [.str a, .str b]) = true := by
  refine (Sm.tup (n := 2) (m := 2) (k := 0) (M := 1000000) (ds := [.str a, .str b]) (Nat.le_refl 2) (fun d hd => ?_) (by decide)).shaped (by decide)
  rcases List.mem_cons.mp hd with rfl | hd
  · exact Sm.str ha.2.ok (Nat.le_of_eq ha.1)
  · rw [List.mem_singleton.mp hd]
    exact Sm.str hb.2.ok (Nat.le_of_eq hb.1)
theorem getD_in {x : Str} {i : Int} (h0 : 0 ≤ i) (h1 : i < x.length) : x.cps.toList.getD i.toNat 0 ∈ x.cps.toList := by
  have h2 : i.toNat < x.cps.toList.length := by
    rw [Array.length_toList]
    have : i < (x.cps.size : Int) := h1
    omega
  rw [List.getD_eq_getElem?_getD, List.getElem?_eq_getElem h2]
  exact List.getElem_mem _
theorem two_tx {x : Str} {p : Int × Int} (h : Small x) (i0 : 0 ≤ p.1) (i1 : p.1 < x.length) (j0 : 0 ≤ p.2) (j1 : p.2 < x.length) : Two (tx2 x p) := ⟨rfl, (Small.one (h _ (getD_in i0 i1))).app (Small.one (h _ (getD_in j0 j1)))⟩
theorem sum_take {l : List Int} {c : Nat} {y : Int} (h : l[c]? = some y) : (l.take (c + 1)).sum = (l.take c).sum + y := by
  rw [List.take_add_one, h, List.sum_append]
  simp
theorem may_pr {r : Rl} {x : Str} {i j : Int} (h : mayC r x i j = true) : tx2 x (i, j) ∈ r.prs.map (·.1) := by
  unfold mayC at h
  rw [Bool.and_eq_true] at h
  exact of_decide_eq_true h.2
theorem val_prs : ∀ (prs : List (Str × Int)) (b : Str), b ∈ prs.map (·.1) → valV (prs.map encP) (.inr b) = some (.int (pwI prs b))
  | [], _, h => by cases h
  | (t, x) :: r, b, h => by
    rw [List.map_cons, pwI]
    by_cases e : t = b
    · rw [valV_pos (show (encP (t, x)).1 = .inr b by rw [e]; rfl), if_pos e]
      rfl
    · rw [valV_neg (show ¬ (encP (t, x)).1 = .inr b from fun z => e (Sum.inr.inj z)), if_neg e]
      refine val_prs r b ?_
      rcases List.mem_cons.mp h with h | h
      · exact absurd h.symm e
      · exact h
/-! ### stretches: a first place, a last one, a size -/
abbrev St3 := Int × Int × Int
def Tri (H : Hp) (v : V) (y : St3) : Prop := ∃ a, v = .ref a ∧ H a = some (.tup [.int y.1, .int y.2.1, .int y.2.2])
theorem Tri.mono : Mono Tri := fun H H' v x k ⟨a, e, h⟩ => ⟨a, e, k _ _ h⟩
def prsOf (y : St3) : List (Int × Int) := (List.range y.2.2.toNat).map fun k : Nat => (y.1 + (k : Int), y.2.1 - (k : Int))
theorem prs_len (y : St3) : (prsOf y).length = y.2.2.toNat := by
  unfold prsOf
  rw [List.length_map, List.length_range]
theorem prs_get {y : St3} {k : Nat} (h : k < y.2.2.toNat) : (prsOf y)[k]? = some (y.1 + (k : Int), y.2.1 - (k : Int)) := by
  unfold prsOf
  rw [List.getElem?_map, List.getElem?_range h]
  rfl
/-- a stretch of the string -/
def StOk (r : Rl) (x : Str) (y : St3) : Prop := 0 ≤ y.2.2 ∧ y.2.2 ≤ 12 ∧ ∀ p ∈ prsOf y, 0 ≤ p.1 ∧ p.1 < x.length ∧ 0 ≤ p.2 ∧ p.2 < x.length ∧ mayC r x p.1 p.2 = true
def stp (r : Rl) (acc : Int × Option Str) (t : Str) : Int × Option Str := (acc.1 + pwI r.prs t + (match acc.2 with
  | none => 0
  | some b => lo r 0 + swI r.stk b t), some t)
def txs (x : Str) (y : St3) : List Str := (prsOf y).map (tx2 x)
def wS (r : Rl) (x : Str) (y : St3) : Int := ((txs x y).foldl (stp r) (0, none)).1
def oV1 (o : Option Str) : V := match o with
  | none => .non
  | some b => .str b
theorem fold_takeS {α β : Type} {f : β → α → β} {b : β} {xs : List α} {i : Nat} {x : α} (h : xs[i]? = some x) : (xs.take (i + 1)).foldl f b = f ((xs.take i).foldl f b) x := by
  rw [List.take_add_one, h, List.foldl_append]
  rfl
/-- by pairs and by neighbours -/
def nbs (r : Rl) (T : List Str) : List Int := (T.zip T.tail).map fun z => lo r 0 + swI r.stk z.1 z.2
theorem stp_some (r : Rl) : ∀ (T : List Str) (a : Int) (b : Str), (T.foldl (stp r) (a, some b)).1 = a + (T.map (pwI r.prs)).sum + (nbs r (b :: T)).sum
  | [], a, b => by
    show a = a + 0 + (nbs r [b]).sum
    simp [nbs]
  | t :: T, a, b => by
    rw [List.foldl_cons]
    show (T.foldl (stp r) (a + pwI r.prs t + (lo r 0 + swI r.stk b t), some t)).1 = _
    rw [stp_some r T, List.map_cons, List.sum_cons]
    have e : nbs r (b :: t :: T) = (lo r 0 + swI r.stk b t) :: nbs r (t :: T) := rfl
    rw [e, List.sum_cons]
    omega
theorem wS_eq (r : Rl) (x : Str) (y : St3) : ((txs x y).map (pwI r.prs)).sum + (nbs r (txs x y)).sum = wS r x y := by
  unfold wS
  cases txs x y with
  | nil => rfl
  | cons t T =>
    rw [List.foldl_cons]
    show _ = (T.foldl (stp r) (0 + pwI r.prs t + 0, some t)).1
    rw [stp_some r T, List.map_cons, List.sum_cons]
    omega
section
variable {P : Program} {w : World} {K : PySem.W.Frag} {mg : Str → Option Value} {base : Heap}
abbrev s_law_pairs_of : Stmt := topS 20
theorem sc_law_pairs_of : FnScope ["_law_stretch", "_law_k"] ["_law_stretch"] (defScope s_law_pairs_of) :=
  ⟨rfl, rfl, rfl, by decide +kernel, rfl, by decide +kernel, by decide +kernel⟩
def spPrs : Sp := fun vs H Q _ => ∃ (v : V) (y : St3), vs = [v] ∧ Tri H v y ∧ 0 ≤ y.2.2 ∧ y.2.2 ≤ 100 ∧ ∀ (l : Addr) (us : List V) (H' : Hp), H l = none → H' l = some (.lst us) → Paired (TwoAt H') us (prsOf y) → Ext H H' → Q (.ref l) H'
theorem ok_prsL {f : Addr} {fd : FuncData} {k : Nat} (F : Fun K "_law_pairs_of" "_law_pairs_of" s_law_pairs_of f fd) (mrange : mg "range" = none) : FnOk P w K mg base CX0 (k + 1) f fd ["_law_stretch"] spPrs := by
  refine F.ok sc_law_pairs_of (fun vs H Q E h => ?_) (fun cdv A outer s H vs Q E hr h => ?_)
  · obtain ⟨v, y, rfl, _⟩ := h
    rfl
  · obtain ⟨v, y, rfl, ⟨a, rfl, ha⟩, y0, y1, q⟩ := h
    refine ⟨_, (pss_one (ps_ret (pe_lc (own := [("_law_k", 1)]) (g := gName 1) (by rfl) sc_law_pairs_of.nd (pi_range1 (by rfl) mrange (pa_cons (pe_ix (ixT K) (pv 0) pe_int (fun _ _ => rfl)) pa_nil)) (blkOk_by (own := [("_law_k", 1)]) (N := ["_law_stretch", "_law_k"]) (sc := defScope s_law_pairs_of) (by decide +kernel)) (fun _ _ _ _ _ => (pg_name (i := 1) sc_law_pairs_of.nd rfl (.inl rfl))) (fun _ _ _ _ _ => pts_nil) (fun _ _ _ _ _ => (pe_tup (pa_cons (pe_op op_add (pe_ix (ixT K) (pv 0) pe_int (fun _ _ => rfl)) (pv 1)) (pa_cons (pe_op op_sub (pe_ix (ixT K) (pv 0) pe_int (fun _ _ => rfl)) (pv 1)) pa_nil))))))), ?_⟩
    refine ⟨_, rfl, a, _, 2, _, rfl, rfl, SqT.of ha, rfl, y.2.2, rfl, by omega, by omega, fun G hG => lc_range (n := y.2.2.toNat) (GenP TwoAt G H (prsOf y)) (gen_new hG) (fun i H2 hi hv => ?_) (fun H2 hv => ?_)⟩
    · have k2 := hv.ext
      refine ⟨rfl, _, rfl, a, _, 0, _, rfl, rfl, SqT.of (k2 _ _ ha), rfl, _, rfl, _, _, rfl, rfl, _, rfl, a, _, 1, _, rfl, rfl, SqT.of (k2 _ _ ha), rfl, _, rfl, _, _, rfl, rfl, szL (show 2 ≤ 1000000 by decide), fun t ht => ?_⟩
      rw [Int.zero_add]
      exact gen_step TwoAt.mono hG hv (Ext.new ht) (b := (y.1 + (i : Int), y.2.1 - (i : Int))) ⟨t, rfl, upd_same⟩ (prs_get hi) (by rw [prs_len]; omega)
    obtain ⟨vs2, hL2, hP2, k2⟩ := gen_end hv (by rw [prs_len]; exact Nat.le_refl _)
    exact q G vs2 H2 hG hL2 hP2 k2
abbrev CPrsL (P : Program) (w : World) (K : PySem.W.Frag) (mg : Str → Option Value) (base : Heap) : Prop := Ca P w K mg base 1 "_law_pairs_of" ["_law_stretch"] spPrs
abbrev s_stretch_pairs : Stmt := topS 8
theorem sc_stretch_pairs : FnScope ["stretch", "i", "j", "size", "at"] ["stretch"] (defScope s_stretch_pairs) :=
  ⟨rfl, rfl, rfl, by decide +kernel, rfl, by decide +kernel, by decide +kernel⟩
theorem ok_prs {f : Addr} {fd : FuncData} {k : Nat} (F : Fun K "stretch_pairs" "stretch_pairs" s_stretch_pairs f fd) (mrange : mg "range" = none) : FnOk P w K mg base CX0 (k + 1) f fd ["stretch"] spPrs := by
  refine F.ok sc_stretch_pairs (fun vs H Q E h => ?_) (fun cdv A outer s H vs Q E hr h => ?_)
  · obtain ⟨v, y, rfl, _⟩ := h
    rfl
  · obtain ⟨v, y, rfl, ⟨a, rfl, ha⟩, y0, y1, q⟩ := h
    refine ⟨_, (pss_cons (ps_asg (pv 0) (pg_tup rfl (pgs_cons (pg_name (i := 1) sc_stretch_pairs.nd rfl (.inr rfl)) (pgs_cons (pg_name (i := 2) sc_stretch_pairs.nd rfl (.inr rfl)) (pgs_cons (pg_name (i := 3) sc_stretch_pairs.nd rfl (.inl rfl)) pgs_nil)))))
      (pss_one (ps_ret (pe_lc (own := [("at", 4)]) (g := gName 4) (by rfl) sc_stretch_pairs.nd (pi_range1 (by rfl) mrange (pa_cons (pv 3) pa_nil)) (blkOk_by (own := [("at", 4)]) (N := ["stretch", "i", "j", "size", "at"]) (sc := defScope s_stretch_pairs) (by decide +kernel)) (fun _ _ _ _ _ => (pg_name (i := 4) sc_stretch_pairs.nd rfl (.inl rfl))) (fun _ _ _ _ _ => pts_nil) (fun _ _ _ _ _ => (pe_tup (pa_cons (pe_op op_add (pv 1) (pv 4)) (pa_cons (pe_op op_sub (pv 2) (pv 4)) pa_nil)))))))), ?_⟩
    refine ⟨_, rfl, a, _, rfl, SqT.of ha, rfl, _, _, rfl, _, _, rfl, _, _, rfl, rfl, ?_⟩
    refine ⟨_, rfl, y.2.2, rfl, by omega, by omega, fun G hG => lc_range (n := y.2.2.toNat) (GenP TwoAt G H (prsOf y)) (gen_new hG) (fun i H2 hi hv => ?_) (fun H2 hv => ?_)⟩
    · have k2 := hv.ext
      refine ⟨rfl, _, rfl, _, rfl, _, _, rfl, rfl, _, rfl, _, rfl, _, _, rfl, rfl, szL (show 2 ≤ 1000000 by decide), fun t ht => ?_⟩
      rw [Int.zero_add]
      exact gen_step TwoAt.mono hG hv (Ext.new ht) (b := (y.1 + (i : Int), y.2.1 - (i : Int))) ⟨t, rfl, upd_same⟩ (prs_get hi) (by rw [prs_len]; omega)
    obtain ⟨vs2, hL2, hP2, k2⟩ := gen_end hv (by rw [prs_len]; exact Nat.le_refl _)
    exact q G vs2 H2 hG hL2 hP2 k2
abbrev CPrs (P : Program) (w : World) (K : PySem.W.Frag) (mg : Str → Option Value) (base : Heap) : Prop := Ca P w K mg base 1 "stretch_pairs" ["stretch"] spPrs
end
end Pf


namespace Pf
open PySem PySem.Spec PyProof.Rows L2
section
variable {P : Program} {w : World} {K : PySem.W.Frag} {mg : Str → Option Value} {base : Heap}
abbrev s_law_stretch_worth : Stmt := topS 23
theorem sc_law_stretch_worth : FnScope ["_law_code_here", "_law_page_here", "_law_stretch", "_law_found", "_law_before", "_law_i", "_law_j", "_law_both", "_law_row"] ["_law_code_here", "_law_page_here", "_law_stretch"] (defScope s_law_stretch_worth) :=
  ⟨rfl, rfl, rfl, by decide +kernel, rfl, by decide +kernel, by decide +kernel⟩
def spSWL : Sp := fun vs H Q _ => ∃ (v vy : V) (r : Rl) (x : Str) (y : St3), vs = [v, .str x, vy] ∧ RulesAt H v r ∧ RlOk r ∧ x.length ≤ 12 ∧ Of r.letters x ∧ Tri H vy y ∧ StOk r x y ∧ ∀ H', Ext H H' → Q (.int (wS r x y)) H'
theorem ok_swL {f : Addr} {fd : FuncData} (F : Fun K "_law_stretch_worth" "_law_stretch_worth" s_law_stretch_worth f fd) (c_law_pairs_of : CPrsL P w K mg base) (mdict : mg "dict" = none) (msum : mg "sum" = none) : FnOk P w K mg base CX0 2 f fd ["_law_code_here", "_law_page_here", "_law_stretch"] spSWL := by
  refine F.ok sc_law_stretch_worth (fun vs H Q E h => ?_) (fun cdv A outer s H vs Q E hr h => ?_)
  · obtain ⟨v, vy, r, x, y, rfl, _⟩ := h
    rfl
  · obtain ⟨v, vy, r, x, y, rfl, hR, ok, hx, hO, hT, hS, q⟩ := h
    refine ⟨_, (pss_cons (ps_set (i := 3) sc_law_stretch_worth.nd rfl (.inl rfl) pe_int)
      (pss_cons (ps_set (i := 4) sc_law_stretch_worth.nd rfl (.inr rfl) pe_non)
      (pss_cons (ps_for PassesOwn.never rfl (pi_list (pe_ca c_law_pairs_of (hr.mono (by decide)) (by rfl) (pa_cons (pv 2) pa_nil))) (pg_tup rfl (pgs_cons (pg_name (i := 5) sc_law_stretch_worth.nd rfl (.inl rfl)) (pgs_cons (pg_name (i := 6) sc_law_stretch_worth.nd rfl (.inl rfl)) pgs_nil))) (pss_cons (ps_set (i := 7) sc_law_stretch_worth.nd rfl (.inr rfl) (pe_op op_add_str (pe_ix ix_str (pv 1) (pv 5) (fun _ _ => rfl)) (pe_ix ix_str (pv 1) (pv 6) (fun _ _ => rfl))))
      (pss_cons (ps_set (i := 3) sc_law_stretch_worth.nd rfl (.inl rfl) (pe_op op_add (pv 3) (pe_dget (hu_of hr) (pe_callTy (dictT K) (by rfl) mdict (by decide +kernel) (pa_cons (pe_ix (ixT K) (pv 0) pe_int (fun _ _ => rfl)) pa_nil)) (pv 7) (fun _ _ => rfl))))
      (pss_cons (ps_if (pt_cmpR op_notN (pv 4) pe_non (nomark _)) (pss_one (ps_set (i := 3) sc_law_stretch_worth.nd rfl (.inl rfl) (pe_op op_add (pe_op op_add (pv 3) (pe_ix (ixT K) (pe_ix (ixT K) (pv 0) pe_int (fun _ _ => rfl)) pe_int (fun _ _ => rfl))) (pe_callB (sumI K) (by rfl) msum (by decide +kernel) (pa_cons (pe_lc (own := [("_law_row", 8)]) (g := gName 8) (by rfl) sc_law_stretch_worth.nd (pi_tup (pe_ix (ixT K) (pv 0) pe_int (fun _ _ => rfl))) (blkOk_by (own := [("_law_row", 8)]) (N := ["_law_code_here", "_law_page_here", "_law_stretch", "_law_found", "_law_before", "_law_i", "_law_j", "_law_both", "_law_row"]) (sc := defScope s_law_stretch_worth) (by decide +kernel)) (fun _ _ _ _ _ => (pg_name (i := 8) sc_law_stretch_worth.nd rfl (.inl rfl))) (fun _ _ _ _ _ => (pts_one (pt_cmpR (eqD K hr.units) (pe_slice (slE K) (pv 8) po_none (po_some pe_int)) (pe_tup (pa_cons (pv 4) (pa_cons (pv 7) pa_nil))) (nomark _)))) (fun _ _ _ _ _ => (pe_ix (ixT K) (pv 8) pe_int (fun _ _ => rfl)))) pa_nil))))) pss_nil)
      (pss_one (ps_set (i := 4) sc_law_stretch_worth.nd rfl (.inr rfl) (pv 7)))))))
      (pss_one (ps_ret (pv 3)))))), ?_⟩
    obtain ⟨a, vp, vl, vst, rfl, hA, ⟨ap, oz, pus, rfl, hp, hoz, hRp⟩, ⟨al, lsl, rfl, hl9, hLo⟩, ⟨as, ss, rfl, hs9, hSt⟩⟩ := id hR
    have ils := ints_of hLo
    subst ils
    have h9 := ok.lo9
    have hst := ok.stk
    have hsl := paired_len hSt
    have hsx := hO.small ok.small
    have at0 : atI (r.loops.map V.int) 0 = some (.int (lo r 0)) := by
      rw [atI_get (by omega) (by rw [List.length_map]; omega)]
      have e : lo r 0 = r.loops[0]'(by omega) := by
        unfold lo
        rw [List.getD_eq_getElem?_getD, List.getElem?_eq_getElem (by omega)]
        rfl
      rw [e]
      simp
    obtain ⟨pas, hpas, hpp⟩ : ∃ pas : List Addr, pus = pas.map V.ref ∧ Paired (fun p kv => H p = some (.tup [kV kv.1, kv.2])) pas (r.prs.map encP) := by
      have aux : ∀ {us : List V} {ps : List (Str × Int)}, Paired (PairAt H) us ps → ∃ pas : List Addr, us = pas.map V.ref ∧ Paired (fun p kv => H p = some (.tup [kV kv.1, kv.2])) pas (ps.map encP) := by
        intro us ps h
        induction h with
        | nil => exact ⟨[], rfl, .nil⟩
        | cons h t ih =>
          obtain ⟨pas, e, hpp⟩ := ih
          obtain ⟨a1, e1, h1⟩ := h
          exact ⟨a1 :: pas, by rw [e1, e]; rfl, .cons h1 hpp⟩
      exact aux hRp
    refine ⟨_, rfl, vy, y, rfl, hT, hS.1, by have := hS.2.1; omega, fun l us H1 hl hL hP k1 => ?_⟩
    have hul := paired_len hP
    refine ⟨l, rfl, ⟨_, SqL.of hL⟩, for_list (K := K) (xs := us) (fun c σ H2 => ∃ (y5 y6 y7 : Option V), σ = [some (.ref a), some (.str x), some vy, some (.int (((txs x y).take c).foldl (stp r) (0, none)).1), some (oV1 (((txs x y).take c).foldl (stp r) (0, none)).2), y5, y6, y7, none] ∧ Ext H1 H2 ∧ ∀ b, (((txs x y).take c).foldl (stp r) (0, none)).2 = some b → Two b)
      ⟨none, none, none, rfl, Ext.refl, fun b e => by cases e⟩ (fun c σ H2 _ h => by obtain ⟨_, _, _, _, k, _⟩ := h; exact SqL.of (k _ _ hL)) (fun c u σ H2 hc hv => ?_) (fun σ H2 hv => ?_)⟩
    · obtain ⟨y5, y6, y7, rfl, k2, hb2⟩ := hv
      obtain ⟨p, hpq, a1, rfl, ha1⟩ := paired_get hP hc
      have hin := hS.2.2 p (List.mem_of_getElem? hpq)
      have htx : (txs x y)[c]? = some (tx2 x p) := by
        unfold txs
        rw [List.getElem?_map, hpq]
        rfl
      rw [fold_takeS htx]
      generalize ((txs x y).take c).foldl (stp r) (0, none) = acc at hb2
      have hm := may_pr hin.2.2.2.2
      have k02 := k1.trans k2
      refine ⟨a1, _, rfl, SqT.of (k2 _ _ ha1), rfl, _, _, rfl, _, _, rfl, rfl, ?_⟩
      refine ⟨_, rfl, _, rfl, x, p.1, _, rfl, rfl, szL (by omega), sgn_at hin.1 hin.2.1, _, rfl, _, rfl, x, p.2, _, rfl, rfl, szL (by omega), sgn_at hin.2.2.1 hin.2.2.2.1, _, _, rfl, rfl, szL (show 1 + 1 ≤ 1000000 by decide), ?_⟩
      refine ⟨_, rfl, _, rfl, a, _, 1, _, rfl, rfl, SqT.of (k02 _ _ hA), rfl, ap, oz, pas, r.prs.map encP, rfl, by rw [← hpas]; exact k02 _ _ hp, hoz, paired_imp (fun _ _ h => SqT.of (k02 _ _ h)) hpp, fun d hd => ?_⟩
      rw [merge_prs ok.pn]
      have x3 := Ext.new (o := .dK (r.prs.map encP)) hd
      refine ⟨_, rfl, d, _, rfl, val_prs r.prs (tx2 x p) hm ▸ DGet.k (k := .inr (tx2 x p)) upd_same, _, _, rfl, rfl, ?_⟩
      have k3 := k02.trans x3
      have k13 := k2.trans x3
      have two2 : Two (tx2 x p) := two_tx hsx hin.1 hin.2.1 hin.2.2.1 hin.2.2.2.1
      cases hacc : acc.2 with
      | none =>
        refine ⟨_, rfl, rfl, _, rfl, iteF ?_⟩
        refine ⟨_, rfl, some (.int p.1), some (.int p.2), some (.str (tx2 x p)), ?_, k13, fun b e => ?_⟩
        · unfold stp
          rw [hacc]
          dsimp only
          rw [Int.add_zero]
          rfl
        · unfold stp at e
          cases e
          exact two2
      | some b0 =>
        have tb0 := hb2 b0 hacc
        refine ⟨_, rfl, rfl, _, rfl, iteT ?_⟩
        refine ⟨_, rfl, _, rfl, a, _, 3, _, rfl, rfl, SqT.of (k3 _ _ hA), rfl, al, _, 0, _, rfl, rfl, SqT.of (k3 _ _ hl9), at0, _, _, rfl, rfl, ?_⟩
        generalize upd H2 d (.dK (r.prs.map encP)) = H3 at x3 k3 k13
        have hs93 := k3 _ _ hs9
        have hSt3 := paired_imp (fun _ _ => StackAt.mono _ _ _ _ (TupK.ext k3)) hSt
        refine ⟨_, rfl, a, _, 4, _, rfl, rfl, SqT.of (k3 _ _ hA), rfl, as, rfl, ⟨_, SqT.of hs93⟩, fun E5 hE5 => ?_⟩
        refine lc_tup (K := K) (xs := ss) (fun c H5 => H5 E5 = some (.lst ((stF (r.stk.take c) b0 (tx2 x p)).map V.int)) ∧ Ext H3 H5)
          ⟨upd_same, Ext.new hE5⟩ (fun c H5 _ ⟨_, k⟩ => SqT.of (k _ _ hs93)) (fun c u H5 hc hv => ?_) (fun H5 hv => ?_)
        · obtain ⟨hE, k5⟩ := hv
          obtain ⟨z, hz, b1, rfl, hb1⟩ := paired_get hSt3 hc
          have hb5 := k5 _ _ hb1
          have cl : c < ss.length := (List.getElem?_eq_some_iff.mp hc).1
          have hzo := ok.st z (List.mem_of_getElem? hz)
          have hle : (stF (r.stk.take c) b0 (tx2 x p)).length ≤ 12 := by
            unfold stF
            rw [List.length_map]
            refine Nat.le_trans (List.length_filter_le _ _) ?_
            rw [List.length_take]
            omega
          refine ⟨rfl, _, rfl, 2, rfl, b1, _, rfl, hb5, fun p6 H6 k6 hp6 => ?_⟩
          have hp6 : H6 p6 = some (.tup [.str z.1, .str z.2.1]) := hp6
          refine ⟨_, rfl, _, rfl, szL (show 2 ≤ 1000000 by decide), fun t8 ht8 => ?_⟩
          have x8 := Ext.new (o := .tup [.str b0, .str (tx2 x p)]) ht8
          have k58 := k6.trans x8
          refine ⟨.tuple [.str z.1, .str z.2.1], .tuple [.str b0, .str (tx2 x p)], .tup (SqT.of (x8 _ _ hp6)) (.cons (.str _) (.cons (.str _) .nil)), .tup (SqT.of upd_same) (.cons (.str _) (.cons (.str _) .nil)), sm_two hzo.1 hzo.2.1, sm_two tb0 two2, _, rfl, ?_⟩
          rw [eqv_two]
          refine ite2 (fun e => ?_) (fun e => ?_)
          · refine ⟨_, rfl, b1, _, 2, _, rfl, rfl, SqT.of (k58 _ _ hb5), rfl, _, k58 _ _ hE, szLt (by rw [List.length_map]; omega), ?_, (k5.trans k58).put hE5⟩
            rw [upd_same, List.take_add_one, hz]
            unfold stF
            rw [List.filter_append, show (some z).toList = [z] from rfl, List.filter_cons_of_pos (p := fun z : Str × Str × Int => decide (z.1 = b0 ∧ z.2.1 = tx2 x p)) e, List.map_append, List.map_append]
            rfl
          · refine ⟨?_, k5.trans k58⟩
            rw [List.take_add_one, hz]
            unfold stF
            rw [List.filter_append, show (some z).toList = [z] from rfl, List.filter_cons_of_neg (p := fun z : Str × Str × Int => decide (z.1 = b0 ∧ z.2.1 = tx2 x p)) e, List.filter_nil, List.append_nil]
            exact k58 _ _ hE
        · obtain ⟨hE, k5⟩ := hv
          rw [List.take_of_length_le (by omega)] at hE
          refine ⟨E5, _, rfl, SqL.of hE, _, _, rfl, rfl, ?_⟩
          refine ⟨_, rfl, some (.int p.1), some (.int p.2), some (.str (tx2 x p)), ?_, k13.trans k5, fun b e => ?_⟩
          · unfold stp
            rw [hacc, stF_sum ok.nd]
            dsimp only
            rw [← Int.add_assoc]
            rfl
          · unfold stp at e
            cases e
            exact two2
    · obtain ⟨y5, y6, y7, rfl, k2, _⟩ := hv
      have et : us.length = (txs x y).length := by
        unfold txs
        rw [List.length_map]
        exact hul
      rw [et, List.take_length]
      exact ⟨_, rfl, q _ (k1.trans k2)⟩
abbrev CSWL (P : Program) (w : World) (K : PySem.W.Frag) (mg : Str → Option Value) (base : Heap) : Prop := Ca P w K mg base 2 "_law_stretch_worth" ["_law_code_here", "_law_page_here", "_law_stretch"] spSWL
end
end Pf


namespace Pf
open PySem PySem.Spec PyProof.Rows L2
theorem nbs_len (r : Rl) (T : List Str) : (nbs r T).length = min T.length (T.length - 1) := by
  unfold nbs
  rw [List.length_map, List.length_zip, List.length_tail]
theorem nbs_get {r : Rl} {T : List Str} {e : Nat} {a b : Str} (h1 : T[e]? = some a) (h2 : (T.drop 1)[e]? = some b) : (nbs r T)[e]? = some (lo r 0 + swI r.stk a b) := by
  unfold nbs
  rw [List.getElem?_map, List.getElem?_zip_eq_some (z := (a, b)).mpr ⟨h1, by rw [← List.drop_one]; exact h2⟩]
  rfl
section
variable {P : Program} {w : World} {K : PySem.W.Frag} {mg : Str → Option Value} {base : Heap}
end
end Pf


namespace Pf
open PySem PySem.Spec PyProof.Rows L2
/-! ### all stretches -/
def okk (r : Rl) (x : Str) (i j : Int) (k : Nat) : Bool := decide (i + (k : Int) < j - (k : Int)) && mayC r x (i + (k : Int)) (j - (k : Int))
def runF (r : Rl) (x : Str) (i j : Int) : Nat → Nat → Nat
  | 0, k => k
  | f + 1, k => if okk r x i j k = true then runF r x i j f (k + 1) else k
theorem runF_is {r : Rl} {x : Str} {i j : Int} {c : Nat} : ∀ (f k : Nat), (∀ m, k ≤ m → m < c → okk r x i j m = true) → okk r x i j c = false → c ≤ k + f → k ≤ c → runF r x i j f k = c
  | 0, k, _, _, h1, h2 => by
    unfold runF
    omega
  | f + 1, k, h, hc, h1, h2 => by
    unfold runF
    by_cases e : k = c
    · subst e
      rw [hc, if_neg Bool.false_ne_true]
    · rw [if_pos (h k (Nat.le_refl _) (by omega))]
      exact runF_is f (k + 1) (fun m a b => h m (by omega) b) hc (by omega) (by omega)
theorem runF_ok {r : Rl} {x : Str} {i j : Int} {m : Nat} : ∀ (f k : Nat), k ≤ m → m < runF r x i j f k → okk r x i j m = true
  | 0, k, h1, h2 => by
    unfold runF at h2
    omega
  | f + 1, k, h1, h2 => by
    unfold runF at h2
    by_cases e : okk r x i j k = true
    · rw [if_pos e] at h2
      by_cases e2 : k = m
      · rw [← e2]
        exact e
      · exact runF_ok f (k + 1) (by omega) h2
    · rw [if_neg e] at h2
      omega
def stAt (r : Rl) (x : Str) (i j : Int) : List St3 := (List.range (runF r x i j 7 0)).map fun k : Nat => (i, j, (k : Int) + 1)
def stI (r : Rl) (x : Str) (i : Int) : List St3 := (List.range ((x.length : Int) - (i + 1)).toNat).flatMap fun t : Nat => stAt r x i (i + 1 + (t : Int))
def stL (r : Rl) (x : Str) : List St3 := (List.range x.length).flatMap fun i : Nat => stI r x (0 + (i : Int))
theorem flat_succ {β : Type} (f : Nat → List β) (t : Nat) : (List.range (t + 1)).flatMap f = (List.range t).flatMap f ++ f t := by
  rw [List.range_succ, List.flatMap_append]
  simp
theorem runF_le {r : Rl} {x : Str} {i j : Int} : ∀ (f k : Nat), runF r x i j f k ≤ k + f
  | 0, k => by
    unfold runF
    omega
  | f + 1, k => by
    unfold runF
    split
    · have := runF_le (r := r) (x := x) (i := i) (j := j) f (k + 1)
      omega
    · omega
theorem stAt_ok {r : Rl} {x : Str} {i j : Int} (i0 : 0 ≤ i) (j1 : j < x.length) (hx : x.length ≤ 12) {y : St3} (h : y ∈ stAt r x i j) : StOk r x y ∧ y.1 = i ∧ y.2.1 = j ∧ 1 ≤ y.2.2 ∧ y.1 + y.2.2 ≤ y.2.1 - y.2.2 + 1 := by
  obtain ⟨k, hk, rfl⟩ := List.mem_map.mp h
  have hk := List.mem_range.mp hk
  have hkb := runF_le (r := r) (x := x) (i := i) (j := j) 7 0
  have hok : ∀ m, m ≤ k → okk r x i j m = true := fun m hm => runF_ok 7 0 (Nat.zero_le _) (by omega)
  have hkk := hok k (Nat.le_refl _)
  unfold okk at hkk
  rw [Bool.and_eq_true] at hkk
  have hlt : i + (k : Int) < j - (k : Int) := of_decide_eq_true hkk.1
  refine ⟨⟨by show 0 ≤ (k : Int) + 1; omega, by show (k : Int) + 1 ≤ 12; omega, fun p hp => ?_⟩, rfl, rfl, by show 1 ≤ (k : Int) + 1; omega, by show i + ((k : Int) + 1) ≤ j - ((k : Int) + 1) + 1; omega⟩
  unfold prsOf at hp
  obtain ⟨m, hm, rfl⟩ := List.mem_map.mp hp
  have hm := List.mem_range.mp hm
  have hm : m < ((k : Int) + 1).toNat := hm
  have hmk := hok m (by omega)
  unfold okk at hmk
  rw [Bool.and_eq_true] at hmk
  have hml : i + (m : Int) < j - (m : Int) := of_decide_eq_true hmk.1
  refine ⟨?_, ?_, ?_, ?_, hmk.2⟩
  · show 0 ≤ i + (m : Int)
    omega
  · show i + (m : Int) < x.length
    omega
  · show 0 ≤ j - (m : Int)
    omega
  · show j - (m : Int) < x.length
    omega
theorem stL_ok {r : Rl} {x : Str} (hx : x.length ≤ 12) {y : St3} (h : y ∈ stL r x) : StOk r x y ∧ 0 ≤ y.1 ∧ y.1 < y.2.1 ∧ y.2.1 < x.length ∧ 1 ≤ y.2.2 ∧ y.2.2 ≤ 6 := by
  obtain ⟨i, hi, h⟩ := List.mem_flatMap.mp h
  have hi := List.mem_range.mp hi
  obtain ⟨t, ht, h⟩ := List.mem_flatMap.mp h
  have ht := List.mem_range.mp ht
  have := stAt_ok (r := r) (x := x) (i := 0 + (i : Int)) (j := 0 + (i : Int) + 1 + (t : Int)) (by omega) (by omega) hx h
  exact ⟨this.1, by omega, by omega, by omega, by omega, by omega⟩
theorem stL_len (r : Rl) {x : Str} (hx : x.length ≤ 12) : (stL r x).length ≤ 462 := by
  have h1 : ∀ i : Nat, (stI r x (0 + (i : Int))).length ≤ 7 * (11 - i) := fun i => by
    unfold stI
    have : ∀ n : Nat, ((List.range n).flatMap fun t : Nat => stAt r x (0 + (i : Int)) (0 + (i : Int) + 1 + (t : Int))).length ≤ 7 * n := by
      intro n
      induction n with
      | zero => exact Nat.zero_le _
      | succ n ih =>
        rw [flat_succ, List.length_append]
        have : (stAt r x (0 + (i : Int)) (0 + (i : Int) + 1 + (n : Int))).length ≤ 7 := by
          unfold stAt
          rw [List.length_map, List.length_range]
          exact runF_le 7 0
        omega
    have := this ((x.length : Int) - (0 + (i : Int) + 1)).toNat
    omega
  unfold stL
  have h2 : ∀ n : Nat, ((List.range n).flatMap fun i : Nat => stI r x (0 + (i : Int))).length ≤ 7 * ((List.range n).map fun i => 11 - i).sum := by
    intro n
    induction n with
    | zero => exact Nat.zero_le _
    | succ n ih =>
      rw [flat_succ, List.length_append, List.range_succ, List.map_append, List.sum_append]
      have := h1 n
      simp only [List.map_cons, List.map_nil, List.sum_cons, List.sum_nil]
      omega
  have h3 : ∀ n : Nat, n < 13 → ((List.range n).map fun i => 11 - i).sum ≤ 66 := by decide
  have := h2 x.length
  have := h3 x.length (by omega)
  omega
section
variable {P : Program} {w : World} {K : PySem.W.Frag} {mg : Str → Option Value} {base : Heap}
abbrev s_law_stretches : Stmt := topS 21
theorem sc_law_stretches : FnScope ["_law_code_here", "_law_page_here", "_law_found", "_law_i", "_law_j", "_law_size"] ["_law_code_here", "_law_page_here"] (defScope s_law_stretches) :=
  ⟨rfl, rfl, rfl, by decide +kernel, rfl, by decide +kernel, by decide +kernel⟩
def spStL : Sp := fun vs H Q _ => ∃ (v : V) (r : Rl) (x : Str), vs = [v, .str x] ∧ RulesAt H v r ∧ RlOk r ∧ x.length ≤ 12 ∧ ∀ (l : Addr) (us : List V) (H' : Hp), H l = none → H' l = some (.lst us) → Paired (Tri H') us (stL r x) → Ext H H' → Q (.ref l) H'
theorem ok_stL {f : Addr} {fd : FuncData} (F : Fun K "_law_stretches" "_law_stretches" s_law_stretches f fd) (c_law_may : CMay P w K mg base) (mrange : mg "range" = none) (mlen : mg "len" = none) : FnOk P w K mg base CX0 2 f fd ["_law_code_here", "_law_page_here"] spStL := by
  refine F.ok sc_law_stretches (fun vs H Q E h => ?_) (fun cdv A outer s H vs Q E hr h => ?_)
  · obtain ⟨v, r, x, rfl, _⟩ := h
    rfl
  · obtain ⟨v, r, x, rfl, hR, ok, hx, q⟩ := h
    refine ⟨_, (pss_cons (ps_set (i := 2) sc_law_stretches.nd rfl (.inl rfl) (pe_lst pa_nil))
      (pss_cons (ps_for PassesOwn.never rfl (pi_range1 (by rfl) mrange (pa_cons (pe_callB call_len_str (by rfl) mlen (by decide +kernel) (pa_cons (pv 1) pa_nil)) pa_nil)) (pg_name (i := 3) sc_law_stretches.nd rfl (.inl rfl)) (pss_one (ps_for PassesOwn.never rfl (pi_range2 (by rfl) mrange (pa_cons (pe_op op_add (pv 3) pe_int) (pa_cons (pe_callB call_len_str (by rfl) mlen (by decide +kernel) (pa_cons (pv 1) pa_nil)) pa_nil))) (pg_name (i := 4) sc_law_stretches.nd rfl (.inl rfl)) (pss_cons (ps_set (i := 5) sc_law_stretches.nd rfl (.inl rfl) pe_int)
      (pss_one (ps_while PassesOwn.never (PW.pt (pw_and (pt_cmpR op_lt (pe_op op_add (pv 3) (pv 5)) (pe_op op_sub (pv 4) (pv 5)) (nomark _)) (pw_and1 (pt_val (pe_ca c_law_may (hr.mono (by decide)) (by rfl) (pa_cons (pv 0) (pa_cons (pv 1) (pa_cons (pe_op op_add (pv 3) (pv 5)) (pa_cons (pe_op op_sub (pv 4) (pv 5)) pa_nil))))))))) (pss_cons (ps_set (i := 5) sc_law_stretches.nd rfl (.inl rfl) (pe_op op_add (pv 5) pe_int))
      (pss_one (ps_expr (pe_bm PySem.F.plainAttrs_list PySem.F.slot_list_append PySem.F.type_list_append mt_append (pv 2) (pa_cons (pe_tup (pa_cons (pv 3) (pa_cons (pv 4) (pa_cons (pv 5) pa_nil)))) pa_nil)))))))))))
      (pss_one (ps_ret (pv 2))))), ?_⟩
    refine ⟨Nat.zero_le _, fun ls hls => ?_⟩
    refine ⟨_, rfl, x, rfl, szL (by omega), (x.length : Int), rfl, by omega, by omega, for_range (n := (x.length : Int).toNat) (fun i σ H2 => ∃ (y3 y4 y5 : Option V), σ = [some v, some (.str x), some (.ref ls), y3, y4, y5] ∧ GenL Tri ls H ((List.range i).flatMap fun i : Nat => stI r x (0 + (i : Int))) H2 ∧ ((List.range i).flatMap fun i : Nat => stI r x (0 + (i : Int))).length ≤ 84 * i)
      ⟨none, none, none, rfl, genl_new hls, Nat.zero_le _⟩ (fun i σ H2 hi hv => ?_) (fun σ H2 hv => ?_)⟩
    · obtain ⟨y3, y4, y5, rfl, hg, hb⟩ := hv
      have hi : i < x.length := hi
      rw [flat_succ]
      generalize (List.range i).flatMap (fun i : Nat => stI r x (0 + (i : Int))) = pre at hg hb
      obtain ⟨I, hI⟩ : ∃ I : Int, I = 0 + (i : Int) := ⟨_, rfl⟩
      rw [← hI]
      refine ⟨_, rfl, _, _, rfl, rfl, _, rfl, x, rfl, szL (by omega), I + 1, (x.length : Int), rfl, ⟨by omega, by omega, by omega, by omega⟩, for_range (lo := I + 1) (n := ((x.length : Int) - (I + 1)).toNat) (fun t σ H3 => ∃ (y4 y5 : Option V), σ = [some v, some (.str x), some (.ref ls), some (.int I), y4, y5] ∧ GenL Tri ls H (pre ++ (List.range t).flatMap fun t : Nat => stAt r x I (I + 1 + (t : Int))) H3 ∧ (pre ++ (List.range t).flatMap fun t : Nat => stAt r x I (I + 1 + (t : Int))).length ≤ 84 * i + 7 * t)
        ⟨_, _, rfl, by rw [List.range_zero, List.flatMap_nil, List.append_nil]; exact hg, by rw [List.range_zero, List.flatMap_nil, List.append_nil]; omega⟩ (fun t σ H3 ht hv => ?_) (fun σ H3 hv => ?_)⟩
      · obtain ⟨y4, y5, rfl, hg3, hb3⟩ := hv
        rw [flat_succ, ← List.append_assoc]
        generalize pre ++ (List.range t).flatMap (fun t : Nat => stAt r x I (I + 1 + (t : Int))) = pre2 at hg3 hb3
        obtain ⟨J, hJ⟩ : ∃ J : Int, J = I + 1 + (t : Int) := ⟨_, rfl⟩
        rw [← hJ]
        refine ⟨fun mm σ H5 => ∃ c : Nat, σ = [some v, some (.str x), some (.ref ls), some (.int I), some (.int J), some (.int c)] ∧ mm = 20 - c ∧ c ≤ 6 ∧ (∀ k, k < c → okk r x I J k = true) ∧ GenL Tri ls H (pre2 ++ (List.range c).map fun k : Nat => (I, J, (k : Int) + 1)) H5,
          ⟨_, 0, rfl, rfl, by decide, fun k hk => by omega, by rw [List.range_zero, List.map_nil, List.append_nil]; exact hg3⟩, fun mm σ H5 hv => ?_⟩
        obtain ⟨c, rfl, rfl, hc6, hall, hg5⟩ := hv
        have hend : okk r x I J c = false → ∀ H6, Ext H5 H6 → ∃ (y4 y5 : Option V), [some v, some (.str x), some (.ref ls), some (.int I), some (.int J), some (.int c)] = [some v, some (.str x), some (.ref ls), some (.int I), y4, y5] ∧ GenL Tri ls H (pre2 ++ stAt r x I J) H6 ∧ (pre2 ++ stAt r x I J).length ≤ 84 * i + 7 * (t + 1) := fun hne H6 k6 => by
          have hrun : runF r x I J 7 0 = c := runF_is 7 0 (fun m _ hm => hall m hm) hne (by omega) (Nat.zero_le _)
          have es : stAt r x I J = (List.range c).map fun k : Nat => (I, J, (k : Int) + 1) := by
            unfold stAt
            rw [hrun]
          rw [es]
          exact ⟨_, _, rfl, hg5.keep Tri.mono k6, by rw [List.length_append, List.length_map, List.length_range]; omega⟩
        refine ⟨_, rfl, _, rfl, _, _, rfl, rfl, _, rfl, _, rfl, _, _, rfl, rfl, _, _, rfl, rfl, _, rfl, ite2 (fun e => ?_) (fun e => ?_)⟩
        · have e : I + (c : Int) < J - (c : Int) := of_decide_eq_true e
          refine ⟨_, rfl, _, rfl, _, rfl, _, rfl, _, _, rfl, rfl, _, rfl, _, rfl, _, _, rfl, rfl, v, r, x, I + (c : Int), J - (c : Int), rfl, RulesAt.mono _ _ _ _ (TupK.ext hg5.ext) hR, ok, by omega, by omega, by omega, by omega, by omega, fun H6 k6 => ⟨_, rfl, ite2 (fun em => ?_) (fun em => ?_)⟩⟩
          · have hokc : okk r x I J c = true := by
              unfold okk
              rw [decide_eq_true e, em]
              rfl
            refine ⟨_, fun σ' H' h => h, ?_⟩
            refine ⟨_, rfl, _, 1, rfl, rfl, ?_⟩
            obtain ⟨vs6, hL6, _, _⟩ := hg5.keep Tri.mono k6
            refine ⟨_, rfl, .inl ⟨rfl, _, SqL.of hL6⟩, _, rfl, _, rfl, _, rfl, szL (show 3 ≤ 1000000 by decide), fun t7 ht7 => ?_⟩
            have x7 := Ext.new (o := .tup [.int I, .int J, .int ((c : Int) + 1)]) ht7
            delta tNil
            refine app_ok Tri.mono hls hg5 (k6.trans x7) (b := (I, J, (c : Int) + 1)) ⟨t7, rfl, upd_same⟩ (by rw [List.length_append, List.length_map, List.length_range]; omega) fun H8 hg8 => ?_
            refine ⟨_, ?_, c + 1, rfl, rfl, by omega, fun k hk => ?_, ?_⟩
            · omega
            · by_cases ek : k = c
              · rw [ek]
                exact hokc
              · exact hall k (by omega)
            · rw [List.range_succ, List.map_append, ← List.append_assoc]
              exact hg8
          · refine hend ?_ H6 k6
            unfold okk
            rw [show mayC r x (I + (c : Int)) (J - (c : Int)) = false from Bool.eq_false_iff.mpr em, Bool.and_false]
        · refine iteF (hend ?_ H5 Ext.refl)
          unfold okk
          rw [show decide (I + (c : Int) < J - (c : Int)) = false from Bool.eq_false_iff.mpr e, Bool.false_and]
      · obtain ⟨y4, y5, rfl, hg3, hb3⟩ := hv
        exact ⟨_, _, _, rfl, hg3, by have : (pre ++ stI r x I).length ≤ 84 * i + 7 * ((x.length : Int) - (I + 1)).toNat := hb3; omega⟩
    · obtain ⟨y3, y4, y5, rfl, hg, hb⟩ := hv
      obtain ⟨us, hL, hP, k⟩ := hg
      exact ⟨_, rfl, q ls us H2 hls hL hP k⟩
abbrev CStL (P : Program) (w : World) (K : PySem.W.Frag) (mg : Str → Option Value) (base : Heap) : Prop := Ca P w K mg base 2 "_law_stretches" ["_law_code_here", "_law_page_here"] spStL
end
end Pf


/-! min(xs, default=d) of a list of whole numbers, which may be empty -/
namespace Pf
open PySem PySem.Spec PyProof.Rows L2
theorem minD_args (a v : Value) : argsOk "min" ⟨[a], [(Str.ofString "default", v)]⟩ := by unfold argsOk; kernel_rfl
section
variable {prog : Program} {w : World} {A : Around} {R : Result → Shared → Prop} {I S : Addr} {fp wr : List Addr} {n : Nat} {P : Nat → Value → Prop} {St : Nat → Heap → Prop} {d : Value} {bt : Nat → Nat → Bool}
abbrev mlName : (toString "min" ++ toString ".loop" : String) = "min.loop" := by decide
/-- what the loop holds behind j of them: the best so far, twice -/
def Hold (h : Heap) (S : Addr) (l : List Value) : Prop := ∃ c, h.get? S = some { cls := .type "list", dict := none, data := .seq l.toArray c, slots := #[] }
theorem minD_loop (W : Walks prog w A.in1 I fp wr n P St) (hcmp : CmpOf prog w A.in1 .Lt P bt) (hSf : S ∉ fp) : ∀ (k j : Nat) (s : Shared) (vb : Value), n = j + 1 + k → St (j + 1) s.heap → P (argBest bt j) vb → Hold s.heap S [vb, vb] →
    (∀ v h' tk, P (argBest bt (n - 1)) v → (∀ b o, b ∉ wr → b ≠ S → s.heap.get? b = some o → h'.get? b = some o) → R (.ok (.ret v)) { s with heap := h', toks := tk }) →
    codeAny (model prog w) A (.builtin "min.loop" ⟨[.ref I, .none, .ref S], [(Str.ofString "default", d)]⟩) R s := by
  have hSw : S ∉ wr := fun h => hSf (W.sub _ h)
  intro k
  induction k with
  | zero =>
    intro j s vb hn hst hb ⟨c, hS⟩ hR
    refine codeAny_builtin PySem.F.entry_min_loop ?_
    rw [Around.under_plainId PySem.F.plain_min_loop _]
    show wpAny _ A.in1 (seqItems? (.ref S) >>= _) _ _ s
    refine wpAny_bind (wpAny_seqItems hS rfl ?_)
    show wpAny _ A.in1 (tryCatch (pyNext (.ref I)) _ >>= _) _ _ s
    refine wpAny_bind (wpAny_tryCatch (W.done s _ _ ((show j + 1 = n by omega) ▸ hst) fun h' tk hk => ?_))
    show wpAny _ A.in1 (updateSeq S (fun _ => #[]) >>= _) _ _ _
    refine wpAny_bind (wpAny_updateSeq (hk S _ hSw hS) rfl (wpAny_bind (wpAny_letGo (wpAny_pure ?_))))
    exact hR vb _ tk ((show j = n - 1 by omega) ▸ hb) fun b o h1 h2 e => (Heap.get?_update_other _ _ (Ne.symm h2)).trans (hk b o h1 e)
  | succ k ih =>
    intro j s vb hn hst hb ⟨c, hS⟩ hR
    refine codeAny_builtin PySem.F.entry_min_loop ?_
    rw [Around.under_plainId PySem.F.plain_min_loop _]
    show wpAny _ A.in1 (seqItems? (.ref S) >>= _) _ _ s
    refine wpAny_bind (wpAny_seqItems hS rfl ?_)
    show wpAny _ A.in1 (tryCatch (pyNext (.ref I)) _ >>= _) _ _ s
    refine wpAny_bind (wpAny_tryCatch (W.item (j + 1) s _ _ (by omega) hst fun v h' tk hv hst' hk => ?_))
    have hS' := hk S _ hSw hS
    show wpAny _ A.in1 (tryCatch (holding [v, v] (richCompare .Lt v vb >>= _)) _ >>= _) _ _ _
    refine wpAny_bind (wpAny_tryCatch (wpAny_holding (wpAny_bind (hcmp (j + 1) (argBest bt j) v vb _ _ _ hv hb ?_))))
    refine wpAny_bind (wpAny_holding (wpAny_truthy_bool ?_))
    refine wpAny_bind (wpAny_letGo (wpAny_pure ?_))
    by_cases e : bt (j + 1) (argBest bt j) = true
    · rw [if_pos e]
      refine wpAny_bind (wpAny_updateSeq hS' rfl (wpAny_bind (wpAny_letGo ?_)))
      rw [mlName]
      refine wpAny_pure ⟨plainId_quiet PySem.F.plain_min_loop _, ih (j + 1) _ v (by omega) (W.frame _ _ _ hst' fun b hbf o e1 => ?_) ?_ ⟨_, Heap.get?_update_self _ hS' rfl⟩ fun v' h2 tk2 hv2 hk2 => ?_⟩
      · exact (Heap.get?_update_other _ _ (fun h : S = b => hSf (by rw [h]; exact hbf))).trans e1
      · unfold argBest
        rw [if_pos e]
        exact hv
      · exact hR v' h2 tk2 hv2 fun b o h1 h3 e1 => hk2 b o h1 h3 ((Heap.get?_update_other _ _ (Ne.symm h3)).trans (hk b o h1 e1))
    · rw [if_neg e]
      refine wpAny_bind (wpAny_letGo ?_)
      rw [mlName]
      refine wpAny_pure ⟨plainId_quiet PySem.F.plain_min_loop _, ih (j + 1) _ vb (by omega) hst' ?_ ⟨c, hS'⟩ fun v' h2 tk2 hv2 hk2 => ?_⟩
      · unfold argBest
        rw [if_neg e]
        exact hb
      · exact hR v' h2 tk2 hv2 fun b o h1 h3 e1 => hk2 b o h1 h3 (hk b o h1 e1)
/-- the first turn: the default where there is none -/
theorem minD_first (W : Walks prog w A.in1 I fp wr n P St) (hcmp : CmpOf prog w A.in1 .Lt P bt) (hSf : S ∉ fp) {s : Shared} (hst : St 0 s.heap) (hS : Hold s.heap S [])
    (h0 : n = 0 → ∀ h' tk, (∀ b o, b ∉ wr → b ≠ S → s.heap.get? b = some o → h'.get? b = some o) → R (.ok (.ret d)) { s with heap := h', toks := tk })
    (hR : 0 < n → ∀ v h' tk, P (argBest bt (n - 1)) v → (∀ b o, b ∉ wr → b ≠ S → s.heap.get? b = some o → h'.get? b = some o) → R (.ok (.ret v)) { s with heap := h', toks := tk }) :
    codeAny (model prog w) A (.builtin "min.loop" ⟨[.ref I, .none, .ref S], [(Str.ofString "default", d)]⟩) R s := by
  have hSw : S ∉ wr := fun h => hSf (W.sub _ h)
  obtain ⟨c, hS⟩ := hS
  refine codeAny_builtin PySem.F.entry_min_loop ?_
  rw [Around.under_plainId PySem.F.plain_min_loop _]
  show wpAny _ A.in1 (seqItems? (.ref S) >>= _) _ _ s
  refine wpAny_bind (wpAny_seqItems hS rfl ?_)
  show wpAny _ A.in1 (tryCatch (pyNext (.ref I)) _ >>= _) _ _ s
  by_cases hn : n = 0
  · refine wpAny_bind (wpAny_tryCatch (W.done s _ _ (hn ▸ hst) fun h' tk hk => ?_))
    show wpAny _ A.in1 (rule _ >>= _) _ _ _
    refine wpAny_bind (wpAny_rule ?_)
    exact wpAny_pure (h0 hn _ _ fun b o h1 _ e => hk b o h1 e)
  · refine wpAny_bind (wpAny_tryCatch (W.item 0 s _ _ (by omega) hst fun v h' tk hv hst' hk => ?_))
    have hS' := hk S _ hSw hS
    show wpAny _ A.in1 (updateSeq S (fun _ => #[v, v]) >>= _) _ _ _
    refine wpAny_bind (wpAny_updateSeq hS' rfl ?_)
    rw [mlName]
    refine wpAny_pure ⟨plainId_quiet PySem.F.plain_min_loop _, minD_loop W hcmp hSf (n - 1) 0 _ v (by omega) (W.frame _ _ _ hst' fun b hbf o e1 => ?_) hv ⟨_, Heap.get?_update_self _ hS' rfl⟩ fun v' h2 tk2 hv2 hk2 => ?_⟩
    · exact (Heap.get?_update_other _ _ (fun h : S = b => hSf (by rw [h]; exact hbf))).trans e1
    · exact hR (by omega) v' h2 tk2 hv2 fun b o h1 h3 e1 => hk2 b o h1 h3 ((Heap.get?_update_other _ _ (Ne.symm h3)).trans (hk b o h1 e1))
end
section
variable {prog : Program} {w : World} {A : Around} {E : Value → Shared → Prop} {s : Shared} {l : Addr} {its : List Value} {ns : List Int} {d : Value} {Q : Value → Shared → Prop}
theorem minD_raw (hh : A.handled = none) (hl : s.heap.IsList l its.toArray) (hi : IntsAre its ns)
    (h0 : ns = [] → ∀ h' tk, (∀ b o, s.heap.get? b = some o → h'.get? b = some o) → Q d { s with heap := h', toks := tk })
    (h : ∀ h' tk M t', (∀ b o, s.heap.get? b = some o → h'.get? b = some o) → M ∈ ns → (∀ a, a ∈ ns → M ≤ a) → Q (.int M t') { s with heap := h', toks := tk }) :
    wpAny (model prog w) A (call (.builtin "min") [.ref l] [(Str.ofString "default", d)]) Q E s := by
  obtain ⟨xs, e⟩ := hi.allInts.items
  have hn : numsOf (intItems xs).toList = ns := by rw [← e]; exact hi.numsOf
  rw [nums_intItems] at hn
  subst hn
  rw [e] at hl
  have hlen : (xs.toList.map (·.1)).length = xs.size := by rw [List.length_map, Array.length_toList]
  refine kmk_tree PySem.F.kind_min PySem.F.plain_min PySem.F.entry_min (minD_args _ _) ?_
  show wpAny _ A.in1 (Builtin.Builtins.bindParams "min" ["key", "default"] 0 ⟨[], [(Str.ofString "default", d)]⟩ >>= _) _ _ s
  refine wpAny_bind (wpAny_of_eq (show Builtin.Builtins.bindParams "min" ["key", "default"] 0 ⟨[], [(Str.ofString "default", d)]⟩ = pure [none, some d] from rfl) ?_)
  refine wpAny_bind (wpAny_pure ?_)
  refine wpAny_bind (iter_intList hl fun s₂ e2 st hfp hlI => ?_)
  subst e2
  refine wpAny_bind (wpAny_newObj_type ?_)
  rw [mlName]
  have hsz : (intItems xs).size = xs.size := by simp [intItems]
  refine wpAny_pure ⟨plainId_quiet PySem.F.plain_min_loop _, minD_first (bt := fun i j => decide (numAt xs i < numAt xs j)) (Walks.list (A := A.in1) hh _ l hlI (intItems xs)) (CmpOf.ints_lt (numAt xs) (fun _ _ => intItems_at)) (fun hm => Nat.lt_irrefl _ (hfp _ hm)) ?_ ⟨_, Heap.get?_push_size _ rfl⟩ (fun hn h' tk hk => ?_) (fun hn v h' tk hv hk => ?_)⟩
  · exact (Walks.list (prog := prog) (w := w) (A := A.in1) hh _ l hlI (intItems xs)).frame _ _ _ st fun b _ o e => Heap.get?_push_of_some _ e
  · refine h0 ?_ h' tk (old_kept fun b o hb e1 => hk b o hb (Nat.ne_of_lt (Heap.lt_size e1)) (Heap.get?_push_of_some _ e1))
    rw [hsz] at hn
    exact List.eq_nil_of_length_eq_zero (by rw [hlen]; exact hn)
  · obtain ⟨t, rfl⟩ := intItems_at hv
    rw [hsz] at hn
    obtain ⟨h1, h2⟩ := argBest_lt (numAt xs) ((intItems xs).size - 1)
    rw [hsz] at h1 h2 ⊢
    refine h h' tk _ t (old_kept fun b o hb e1 => hk b o hb (Nat.ne_of_lt (Heap.lt_size e1)) (Heap.get?_push_of_some _ e1)) ?_ fun a ha => ?_
    · rw [numAt_eq]
      exact PySem.getD_mem (by rw [hlen]; omega)
    · obtain ⟨j, hj, rfl⟩ := mem_getD ha
      rw [hlen] at hj
      rw [← numAt_eq]
      exact h2 j (by omega)
end
/-- min(xs, default=d) -/
def rMinD (K : PySem.W.Frag) : List V → List V → Hp → VK → Prop := fun vs zs H Q => ∃ (a : Addr) (ns : List Int) (z : V), vs = [V.ref a] ∧ zs = [z] ∧ SqL K H a (ns.map V.int) ∧ (ns = [] → Q z H) ∧ ∀ m, m ∈ ns → (∀ y, y ∈ ns → m ≤ y) → Q (.int m) H
theorem cr_minD {X : Cx} (hc : X.calm = true) : CallRK X (.builtin "min") [Str.ofString "default"] (rMinD X.K) := by
  intro pins s σ H xs zs us ws Q I r rz h
  obtain ⟨a, ns, z, rfl, rfl, hs, q0, q⟩ := h
  obtain ⟨its, rv, hl, _⟩ := I.list hs
  rw [Vals.ref1 r]
  obtain ⟨u, rfl, ru⟩ : ∃ u, ws = [u] ∧ RelV z u := by
    cases rz with
    | cons h t => cases t with
      | nil => exact ⟨_, rfl, h⟩
  exact minD_raw (I.ok.hd hc) hl.isList rv.ints (fun e h' tk hk => ⟨z, H, I.kept hk, ru, q0 e⟩) fun h' tk m t' hk h1 h2 => ⟨.int _, H, I.kept hk, ⟨_, rfl⟩, q m h1 h2⟩
theorem minL (K : PySem.W.Frag) {X : Cx} (hc : X.calm = true) (h : X.K = K := by rfl) : CallR X (.builtin "min") (rMin K) := h ▸ cr_min hc
theorem minD (K : PySem.W.Frag) {X : Cx} (hc : X.calm = true) (h : X.K = K := by rfl) : CallRK X (.builtin "min") [Str.ofString "default"] (rMinD K) := h ▸ cr_minD hc
end Pf


namespace Pf
open PySem PySem.Spec PyProof.Rows L2
abbrev scCr : Scope := { kind := .function, names := [(".0", .local), ("_law_some", .local), ("_law_pairs_of", .globalImplicit)], isGenerator := false, isCoroutine := false }
theorem maxL (K : PySem.W.Frag) {X : Cx} (hc : X.calm = true) (h : X.K = K := by rfl) : CallR X (.builtin "max") (rMax K) := h ▸ cr_max hc
theorem ne_old0 {p l : Addr} {H : Hp} {o : HO} (h : H p = some o) (hl : H l = none) : l ≠ p := fun z => by
  rw [z, h] at hl
  cases hl
/-! ### whether two stretches cross -/
def crB (y z : St3) : Bool := decide (y.1 + y.2.2 - 1 < z.1) && decide (z.1 + z.2.2 - 1 < y.2.1 - y.2.2 + 1) && decide (y.2.1 < z.2.1 - z.2.2 + 1)
/-- a list of numbers elsewhere than at G -/
def NsAt (g : Int × Int → Int) (G : Addr) (H : Hp) (v : V) (y : St3) : Prop := ∃ l, v = .ref l ∧ l ≠ G ∧ H l = some (.lst (((prsOf y).map g).map V.int))
theorem NsAt.put {g : Int × Int → Int} {G : Addr} {H H' : Hp} {v : V} {y : St3} {o : HO} (h : NsAt g G H v y) (k : Ext H H') : NsAt g G (upd H' G o) v y := by
  obtain ⟨l, e, n, h1⟩ := h
  exact ⟨l, e, n, by rw [upd_ne n]; exact k _ _ h1⟩
theorem NsAt.ext {g : Int × Int → Int} {G : Addr} {H H' : Hp} {v : V} {y : St3} (h : NsAt g G H v y) (k : Ext H H') : NsAt g G H' v y := by
  obtain ⟨l, e, n, h1⟩ := h
  exact ⟨l, e, n, k _ _ h1⟩
theorem prs_mem {y : St3} {k : Nat} (h : k < y.2.2.toNat) : (y.1 + (k : Int), y.2.1 - (k : Int)) ∈ prsOf y := List.mem_of_getElem? (prs_get h)
theorem prs_in {y : St3} {p : Int × Int} (h : p ∈ prsOf y) : y.1 ≤ p.1 ∧ p.1 ≤ y.1 + y.2.2 - 1 ∧ y.2.1 - y.2.2 + 1 ≤ p.2 ∧ p.2 ≤ y.2.1 := by
  unfold prsOf at h
  obtain ⟨k, hk, rfl⟩ := List.mem_map.mp h
  have hk := List.mem_range.mp hk
  refine ⟨?_, ?_, ?_, ?_⟩
  · show y.1 ≤ y.1 + (k : Int)
    omega
  · show y.1 + (k : Int) ≤ _
    omega
  · show _ ≤ y.2.1 - (k : Int)
    omega
  · show y.2.1 - (k : Int) ≤ _
    omega
theorem max_f {y : St3} (h1 : 1 ≤ y.2.2) {m : Int} (hm : m ∈ (prsOf y).map (·.1)) (hx : ∀ w ∈ (prsOf y).map (·.1), w ≤ m) : m = y.1 + y.2.2 - 1 := by
  obtain ⟨p, hp, rfl⟩ := List.mem_map.mp hm
  have a := prs_in hp
  have b := hx _ (List.mem_map.mpr ⟨_, prs_mem (y := y) (k := y.2.2.toNat - 1) (by omega), rfl⟩)
  have b : y.1 + ((y.2.2.toNat - 1 : Nat) : Int) ≤ p.1 := b
  omega
theorem min_f {y : St3} (h1 : 1 ≤ y.2.2) {m : Int} (hm : m ∈ (prsOf y).map (·.1)) (hx : ∀ w ∈ (prsOf y).map (·.1), m ≤ w) : m = y.1 := by
  obtain ⟨p, hp, rfl⟩ := List.mem_map.mp hm
  have a := prs_in hp
  have b := hx _ (List.mem_map.mpr ⟨_, prs_mem (y := y) (k := 0) (by omega), rfl⟩)
  have b : p.1 ≤ y.1 + ((0 : Nat) : Int) := b
  omega
theorem max_l {y : St3} (h1 : 1 ≤ y.2.2) {m : Int} (hm : m ∈ (prsOf y).map (·.2)) (hx : ∀ w ∈ (prsOf y).map (·.2), w ≤ m) : m = y.2.1 := by
  obtain ⟨p, hp, rfl⟩ := List.mem_map.mp hm
  have a := prs_in hp
  have b := hx _ (List.mem_map.mpr ⟨_, prs_mem (y := y) (k := 0) (by omega), rfl⟩)
  have b : y.2.1 - ((0 : Nat) : Int) ≤ p.2 := b
  omega
theorem min_l {y : St3} (h1 : 1 ≤ y.2.2) {m : Int} (hm : m ∈ (prsOf y).map (·.2)) (hx : ∀ w ∈ (prsOf y).map (·.2), m ≤ w) : m = y.2.1 - y.2.2 + 1 := by
  obtain ⟨p, hp, rfl⟩ := List.mem_map.mp hm
  have a := prs_in hp
  have b := hx _ (List.mem_map.mpr ⟨_, prs_mem (y := y) (k := y.2.2.toNat - 1) (by omega), rfl⟩)
  have b : p.2 ≤ y.2.1 - ((y.2.2.toNat - 1 : Nat) : Int) := b
  omega
section
variable {P : Program} {w : World} {K : PySem.W.Frag} {mg : Str → Option Value} {base : Heap}
abbrev s_law_crossing : Stmt := topS 22
theorem sc_law_crossing : FnScope ["_law_one", "_law_other", "_law_firsts", "_law_lasts", "_law_some", "_law_pair"] ["_law_one", "_law_other"] (defScope s_law_crossing) :=
  ⟨rfl, rfl, rfl, by decide +kernel, rfl, by decide +kernel, by decide +kernel⟩
def spCrs : Sp := fun vs H Q _ => ∃ (v1 v2 : V) (y z : St3), vs = [v1, v2] ∧ Tri H v1 y ∧ Tri H v2 z ∧ (1 ≤ y.2.2 ∧ y.2.2 ≤ 12) ∧ (1 ≤ z.2.2 ∧ z.2.2 ≤ 12) ∧ ∀ H', Ext H H' → Q (.bl (crB y z)) H'
theorem ok_crs {f : Addr} {fd : FuncData} (F : Fun K "_law_crossing" "_law_crossing" s_law_crossing f fd) (c_law_pairs_of : CPrsL P w K mg base) (mmax : mg "max" = none) (mmin : mg "min" = none) : FnOk P w K mg base CX0 2 f fd ["_law_one", "_law_other"] spCrs := by
  refine F.ok sc_law_crossing (fun vs H Q E h => ?_) (fun cdv A outer s H vs Q E hr h => ?_)
  · obtain ⟨v1, v2, y, z, rfl, _⟩ := h
    rfl
  · obtain ⟨v1, v2, y, z, rfl, h1, h2, s1, s2, q⟩ := h
    refine ⟨_, (pss_cons (ps_setLc (i := 2) (own := [("_law_some", 4)]) (g := gName 4) (by rfl) sc_law_crossing.nd rfl rfl (sw_true rfl rfl rfl (by decide +kernel)) (pi_tup (pe_tup (pa_cons (pv 0) (pa_cons (pv 1) pa_nil)))) (blkOk_by (own := [("_law_some", 4)]) (N := ["_law_one", "_law_other", "_law_firsts", "_law_lasts", "_law_some", "_law_pair"]) (sc := defScope s_law_crossing) (by decide +kernel)) (fun _ _ _ _ _ => (pg_name (i := 4) sc_law_crossing.nd rfl (.inl rfl))) (fun _ _ _ _ _ => pts_nil) (fun _ _ _ _ _ => (pe_lc (own := [("_law_pair", 5)]) (g := gName 5) (by rfl) sc_law_crossing.nd (piL K (pe_ca c_law_pairs_of (hr.mono (by decide)) (by rfl) (pa_cons (pv 4) pa_nil))) (blkOk_by (own := [("_law_pair", 5)]) (N := ["_law_one", "_law_other", "_law_firsts", "_law_lasts", "_law_some", "_law_pair"]) (sc := scCr) (by decide +kernel)) (fun _ _ _ _ _ => (pg_name (i := 5) sc_law_crossing.nd rfl (.inl rfl))) (fun _ _ _ _ _ => pts_nil) (fun _ _ _ _ _ => (pe_ix (ixT K) (pv 5) pe_int (fun _ _ => rfl))))))
      (pss_cons (ps_setLc (i := 3) (own := [("_law_some", 4)]) (g := gName 4) (by rfl) sc_law_crossing.nd rfl rfl (sw_true rfl rfl rfl (by decide +kernel)) (pi_tup (pe_tup (pa_cons (pv 0) (pa_cons (pv 1) pa_nil)))) (blkOk_by (own := [("_law_some", 4)]) (N := ["_law_one", "_law_other", "_law_firsts", "_law_lasts", "_law_some", "_law_pair"]) (sc := defScope s_law_crossing) (by decide +kernel)) (fun _ _ _ _ _ => (pg_name (i := 4) sc_law_crossing.nd rfl (.inl rfl))) (fun _ _ _ _ _ => pts_nil) (fun _ _ _ _ _ => (pe_lc (own := [("_law_pair", 5)]) (g := gName 5) (by rfl) sc_law_crossing.nd (piL K (pe_ca c_law_pairs_of (hr.mono (by decide)) (by rfl) (pa_cons (pv 4) pa_nil))) (blkOk_by (own := [("_law_pair", 5)]) (N := ["_law_one", "_law_other", "_law_firsts", "_law_lasts", "_law_some", "_law_pair"]) (sc := scCr) (by decide +kernel)) (fun _ _ _ _ _ => (pg_name (i := 5) sc_law_crossing.nd rfl (.inl rfl))) (fun _ _ _ _ _ => pts_nil) (fun _ _ _ _ _ => (pe_ix (ixT K) (pv 5) pe_int (fun _ _ => rfl))))))
      (pss_cons (ps_if (PW.pt (pw_or (pt_cmpR op_ge (pe_callB (maxL K rfl) (by rfl) mmax (by decide +kernel) (pa_cons (pe_ix (ixL K) (pv 2) pe_int (fun _ _ => rfl)) pa_nil)) (pe_callB (minL K rfl) (by rfl) mmin (by decide +kernel) (pa_cons (pe_ix (ixL K) (pv 2) pe_int (fun _ _ => rfl)) pa_nil)) (nomark _)) (pw_or1 (pt_cmpR op_ge (pe_callB (maxL K rfl) (by rfl) mmax (by decide +kernel) (pa_cons (pe_ix (ixL K) (pv 2) pe_int (fun _ _ => rfl)) pa_nil)) (pe_callB (minL K rfl) (by rfl) mmin (by decide +kernel) (pa_cons (pe_ix (ixL K) (pv 3) pe_int (fun _ _ => rfl)) pa_nil)) (nomark _))))) (pss_one (ps_ret pe_bl)) pss_nil)
      (pss_one (ps_ret (pe_cmpR op_lt (pe_callB (maxL K rfl) (by rfl) mmax (by decide +kernel) (pa_cons (pe_ix (ixL K) (pv 3) pe_int (fun _ _ => rfl)) pa_nil)) (pe_callB (minL K rfl) (by rfl) mmin (by decide +kernel) (pa_cons (pe_ix (ixL K) (pv 3) pe_int (fun _ _ => rfl)) pa_nil)) (nomark _))))))), ?_⟩
    refine ⟨_, rfl, _, rfl, szL (show 2 ≤ 1000000 by decide), fun t0 ht0 => ?_⟩
    have x0 := Ext.new (o := .tup [v1, v2]) ht0
    have hT0 : upd H t0 (.tup [v1, v2]) t0 = some (.tup [v1, v2]) := upd_same
    generalize upd H t0 (.tup [v1, v2]) = H0 at x0 hT0
    refine ⟨t0, rfl, ⟨_, SqT.of hT0⟩, fun G hG => ?_⟩
    have nG0 : True := trivial
    refine lc_tup (K := K) (xs := [v1, v2]) (fun c H2 => ∃ us, H2 G = some (.lst us) ∧ Paired (NsAt (·.1) G H2) us (([y, z] : List St3).take c) ∧ Ext H0 H2)
      ⟨[], upd_same, .nil, Ext.new hG⟩ (fun c H2 _ h => by obtain ⟨_, _, _, k⟩ := h; exact SqT.of (k _ _ hT0)) (fun i u H2 hi hv => ?_) (fun H2 hv => ?_)
    · obtain ⟨us2, hG2, hP2, k2⟩ := hv
      have il : i < 2 := (List.getElem?_eq_some_iff.mp hi).1
      obtain ⟨yy, hyy, hT, hS1, hS2⟩ : ∃ yy : St3, ([y, z] : List St3)[i]? = some yy ∧ Tri H u yy ∧ 1 ≤ yy.2.2 ∧ yy.2.2 ≤ 12 := by
        match i, il, hi with
        | 0, _, hi => cases hi; exact ⟨y, rfl, h1, s1⟩
        | 1, _, hi => cases hi; exact ⟨z, rfl, h2, s2⟩
      have hul2 := paired_len hP2
      rw [List.length_take] at hul2
      have hul2 : us2.length ≤ 2 := by
        have : ([y, z] : List St3).length = 2 := rfl
        omega
      refine ⟨rfl, _, rfl, u, yy, rfl, Tri.mono _ _ _ _ (TupK.ext (x0.trans k2)) hT, by omega, by omega, fun l us3 H3 hl hL3 hP3 k3 => ?_⟩
      have hpl := paired_len hP3
      rw [prs_len] at hpl
      refine ⟨l, rfl, ⟨_, SqL.of hL3⟩, fun G2 hG22 => lc_list (K := K) (xs := us3) (fun c H4 => H4 G2 = some (.lst ((((prsOf yy).map (·.1)).take c).map V.int)) ∧ Ext H3 H4)
        ⟨upd_same, Ext.new hG22⟩ (fun c H4 _ h => SqL.of (h.2 _ _ hL3)) (fun c u4 H4 hc hv4 => ?_) (fun H4 hv4 => ?_)⟩
      · obtain ⟨hG4, k4⟩ := hv4
        obtain ⟨p, hpq, a1, rfl, ha1⟩ := paired_get hP3 hc
        refine ⟨rfl, _, rfl, a1, _, 0, _, rfl, rfl, SqT.of (k4 _ _ ha1), rfl, _, hG4, szLt (by rw [List.length_map, List.length_take, List.length_map, prs_len]; omega), ?_, k4.put hG22⟩
        rw [List.take_add_one, List.getElem?_map, hpq, List.map_append]
        exact upd_same
      obtain ⟨hG4, k4⟩ := hv4
      rw [List.take_of_length_le (by rw [List.length_map, prs_len]; omega)] at hG4
      have k24 := k3.trans k4
      have hG24 := k24 _ _ hG2
      have nG : G2 ≠ G := ne_old0 (k3 _ _ hG2) hG22
      refine ⟨_, hG24, szLt (by omega), us2 ++ [.ref G2], upd_same, ?_, (k2.trans k24).put hG⟩
      rw [List.take_add_one, hyy]
      refine paired_app (paired_imp (fun _ _ h => h.put k24) hP2) (.cons ⟨G2, rfl, nG, by rw [upd_ne nG]; exact hG4⟩ .nil)
    · obtain ⟨fus, hF, hFP, k2⟩ := hv
      have hFP : Paired (NsAt (·.1) G H2) fus [y, z] := hFP
      refine ⟨_, rfl, _, rfl, szL (show 2 ≤ 1000000 by decide), fun t3 ht3 => ?_⟩
      have x3 := Ext.new (o := .tup [v1, v2]) ht3
      have hT3 : upd H2 t3 (.tup [v1, v2]) t3 = some (.tup [v1, v2]) := upd_same
      have hF3 := x3 _ _ hF
      have hFP3 := paired_imp (fun _ _ h => NsAt.ext h x3) hFP
      have k03 := x0.trans (k2.trans x3)
      generalize upd H2 t3 (.tup [v1, v2]) = H3' at x3 hT3 hF3 hFP3 k03
      obtain ⟨F, hFdef⟩ : ∃ F, F = G := ⟨_, rfl⟩
      rw [← hFdef] at hF3 hFP3 ⊢
      clear hFP hF hG nG0 hFdef
      refine ⟨t3, rfl, ⟨_, SqT.of hT3⟩, fun G hG => ?_⟩
      refine lc_tup (K := K) (xs := [v1, v2]) (fun c H2 => ∃ us, H2 G = some (.lst us) ∧ Paired (NsAt (·.2) G H2) us (([y, z] : List St3).take c) ∧ Ext H3' H2)
        ⟨[], upd_same, .nil, Ext.new hG⟩ (fun c H2 _ h => by obtain ⟨_, _, _, k⟩ := h; exact SqT.of (k _ _ hT3)) (fun i u H2 hi hv => ?_) (fun H2 hv => ?_)
      · obtain ⟨us2, hG2, hP2, k2⟩ := hv
        have il : i < 2 := (List.getElem?_eq_some_iff.mp hi).1
        obtain ⟨yy, hyy, hT, hS1, hS2⟩ : ∃ yy : St3, ([y, z] : List St3)[i]? = some yy ∧ Tri H u yy ∧ 1 ≤ yy.2.2 ∧ yy.2.2 ≤ 12 := by
          match i, il, hi with
          | 0, _, hi => cases hi; exact ⟨y, rfl, h1, s1⟩
          | 1, _, hi => cases hi; exact ⟨z, rfl, h2, s2⟩
        have hul2 := paired_len hP2
        rw [List.length_take] at hul2
        have hul2 : us2.length ≤ 2 := by
          have : ([y, z] : List St3).length = 2 := rfl
          omega
        refine ⟨rfl, _, rfl, u, yy, rfl, Tri.mono _ _ _ _ (TupK.ext (k03.trans k2)) hT, by omega, by omega, fun l us3 H3 hl hL3 hP3 k3 => ?_⟩
        have hpl := paired_len hP3
        rw [prs_len] at hpl
        refine ⟨l, rfl, ⟨_, SqL.of hL3⟩, fun G2 hG22 => lc_list (K := K) (xs := us3) (fun c H4 => H4 G2 = some (.lst ((((prsOf yy).map (·.2)).take c).map V.int)) ∧ Ext H3 H4)
          ⟨upd_same, Ext.new hG22⟩ (fun c H4 _ h => SqL.of (h.2 _ _ hL3)) (fun c u4 H4 hc hv4 => ?_) (fun H4 hv4 => ?_)⟩
        · obtain ⟨hG4, k4⟩ := hv4
          obtain ⟨p, hpq, a1, rfl, ha1⟩ := paired_get hP3 hc
          refine ⟨rfl, _, rfl, a1, _, 1, _, rfl, rfl, SqT.of (k4 _ _ ha1), rfl, _, hG4, szLt (by rw [List.length_map, List.length_take, List.length_map, prs_len]; omega), ?_, k4.put hG22⟩
          rw [List.take_add_one, List.getElem?_map, hpq, List.map_append]
          exact upd_same
        obtain ⟨hG4, k4⟩ := hv4
        rw [List.take_of_length_le (by rw [List.length_map, prs_len]; omega)] at hG4
        have k24 := k3.trans k4
        have hG24 := k24 _ _ hG2
        have nG : G2 ≠ G := ne_old0 (k3 _ _ hG2) hG22
        refine ⟨_, hG24, szLt (by omega), us2 ++ [.ref G2], upd_same, ?_, (k2.trans k24).put hG⟩
        rw [List.take_add_one, hyy]
        refine paired_app (paired_imp (fun _ _ h => h.put k24) hP2) (.cons ⟨G2, rfl, nG, by rw [upd_ne nG]; exact hG4⟩ .nil)
      · obtain ⟨lus, hL, hLP, k4⟩ := hv
        have hLP : Paired (NsAt (·.2) G H2) lus [y, z] := hLP
        have hF4 := k4 _ _ hF3
        have hFP4 := paired_imp (fun _ _ h => NsAt.ext h k4) hFP3
        cases hFP4 with
        | cons f1 hFP4 =>
          cases hFP4 with
          | cons f2 hFP4 =>
            cases hFP4
            cases hLP with
            | cons g1 hLP =>
              cases hLP with
              | cons g2 hLP =>
                cases hLP
                obtain ⟨lf1, rfl, _, hf1⟩ := f1
                obtain ⟨lf2, rfl, _, hf2⟩ := f2
                obtain ⟨lg1, rfl, _, hg1⟩ := g1
                obtain ⟨lg2, rfl, _, hg2⟩ := g2
                have ly : 0 < ((prsOf y).map (·.1)).length ∧ 0 < ((prsOf y).map (·.2)).length := by
                  rw [List.length_map, List.length_map, prs_len]
                  omega
                have lz : 0 < ((prsOf z).map (·.1)).length ∧ 0 < ((prsOf z).map (·.2)).length := by
                  rw [List.length_map, List.length_map, prs_len]
                  omega
                have qf := q H2 (k03.trans k4)
                refine ⟨_, rfl, F, _, 0, _, rfl, rfl, SqL.of hF4, rfl, lf1, _, rfl, SqL.of hf1, ly.1, fun m1 hm1 hx1 => ?_⟩
                have e1 := max_f s1.1 hm1 hx1
                refine ⟨_, rfl, F, _, 1, _, rfl, rfl, SqL.of hF4, rfl, lf2, _, rfl, SqL.of hf2, lz.1, fun m2 hm2 hx2 => ?_⟩
                have e2 := min_f s2.1 hm2 hx2
                refine ⟨_, _, rfl, rfl, _, rfl, ite2 (fun c1 => ?_) (fun c1 => ?_)⟩
                · have c1 : m2 ≤ m1 := of_decide_eq_true c1
                  have eb : crB y z = false := by
                    unfold crB
                    rw [show decide (y.1 + y.2.2 - 1 < z.1) = false from decide_eq_false (by omega), Bool.false_and, Bool.false_and]
                  rw [eb] at qf
                  exact iteT qf
                · have c1 : ¬ m2 ≤ m1 := fun z => c1 (decide_eq_true z)
                  refine ⟨_, rfl, F, _, 1, _, rfl, rfl, SqL.of hF4, rfl, lf2, _, rfl, SqL.of hf2, lz.1, fun m3 hm3 hx3 => ?_⟩
                  have e3 := max_f s2.1 hm3 hx3
                  refine ⟨_, rfl, G, _, 0, _, rfl, rfl, SqL.of hL, rfl, lg1, _, rfl, SqL.of hg1, ly.2, fun m4 hm4 hx4 => ?_⟩
                  have e4 := min_l s1.1 hm4 hx4
                  refine ⟨_, _, rfl, rfl, _, rfl, ite2 (fun c2 => ?_) (fun c2 => ?_)⟩
                  · have c2 : m4 ≤ m3 := of_decide_eq_true c2
                    have eb : crB y z = false := by
                      unfold crB
                      rw [show decide (z.1 + z.2.2 - 1 < y.2.1 - y.2.2 + 1) = false from decide_eq_false (by omega), Bool.and_false, Bool.false_and]
                    rw [eb] at qf
                    exact qf
                  · have c2 : ¬ m4 ≤ m3 := fun z => c2 (decide_eq_true z)
                    refine ⟨_, rfl, G, _, 0, _, rfl, rfl, SqL.of hL, rfl, lg1, _, rfl, SqL.of hg1, ly.2, fun m5 hm5 hx5 => ?_⟩
                    have e5 := max_l s1.1 hm5 hx5
                    refine ⟨_, rfl, G, _, 1, _, rfl, rfl, SqL.of hL, rfl, lg2, _, rfl, SqL.of hg2, lz.2, fun m6 hm6 hx6 => ?_⟩
                    have e6 := min_l s2.1 hm6 hx6
                    have eb : crB y z = decide (m5 < m6) := by
                      unfold crB
                      rw [show decide (y.1 + y.2.2 - 1 < z.1) = true from decide_eq_true (by omega), show decide (z.1 + z.2.2 - 1 < y.2.1 - y.2.2 + 1) = true from decide_eq_true (by omega), Bool.true_and, Bool.true_and, e5, e6]
                    rw [eb] at qf
                    exact ⟨_, _, rfl, rfl, qf⟩
abbrev CCrs (P : Program) (w : World) (K : PySem.W.Frag) (mg : Str → Option Value) (base : Heap) : Prop := Ca P w K mg base 2 "_law_crossing" ["_law_one", "_law_other"] spCrs
end
end Pf


namespace Pf
open PySem PySem.Spec PyProof.Rows L2
/-! ### sorted of things told by data -/
def SG {β : Type} (d : β → PyData) (L : List β) : List β := L.mergeSort (PySem.W.dataLe false d)
theorem SG_perm {β : Type} (d : β → PyData) (L : List β) : (SG d L).Perm L := List.mergeSort_perm _ _
theorem sort_g {K : PySem.W.Frag} {β : Type} {R : Hp → V → β → Prop} {d : β → PyData} (m : Mono R) {H : Hp} {l : Addr} {us : List V} {L : List β} {Q : VK} (dp : ∀ v b, R H v b → Dp K H v (d b)) (dep : ∀ b, (d b).depth ≤ 50) (al : ∀ a b, PySem.W.alike (d a) (d b) = true) (tu : ∀ b, ∃ y r, d b = .tuple (y :: r)) (hL : H l = some (.lst us)) (hP : Paired (R H) us L) (q : ∀ (p : Addr) (ws : List V) (H' : Hp), H p = none → H' p = some (.lst ws) → Paired (R H') ws (SG d L) → Ext H H' → Q (.ref p) H') : rSortD K [.ref l] H Q := by
  have hz := paired_len hP
  have e1 : (us.zip L).map (·.1) = us := List.map_fst_zip (by omega)
  have e2 : (us.zip L).map (·.2) = L := List.map_snd_zip (by omega)
  have hall : ∀ b ∈ us.zip L, R H b.1 b.2 := by
    clear e1 e2 hz q hL
    induction hP with
    | nil => intro b hb; cases hb
    | cons r _ ih =>
      intro b hb
      rw [List.zip_cons_cons] at hb
      rcases List.mem_cons.mp hb with rfl | hb
      · exact r
      · exact ih b hb
  refine ⟨V × β, fun b => b.1, fun b => d b.2, l, us.zip L, rfl, SqL.of (by rw [e1]; exact hL), fun b hb => ⟨dp _ _ (hall b hb), dep _⟩, ?_, ?_, fun p hp => ?_⟩
  · intro d1 h1 d2 h2
    obtain ⟨b1, _, rfl⟩ := List.mem_map.mp h1
    obtain ⟨b2, _, rfl⟩ := List.mem_map.mp h2
    exact al _ _
  · refine .inl fun e he => ?_
    obtain ⟨b1, _, rfl⟩ := List.mem_map.mp he
    exact tu _
  · have x1 := Ext.new (o := .lst (((us.zip L).mergeSort (PySem.W.dataLe false fun b => d b.2)).map fun b => b.1)) hp
    refine q p _ _ hp upd_same ?_ x1
    have es : ((us.zip L).mergeSort (PySem.W.dataLe false fun b => d b.2)).map (·.2) = SG d L := by
      have hm := List.map_mergeSort (r := PySem.W.dataLe false fun b : V × β => d b.2) (s := PySem.W.dataLe false d) (f := fun b : V × β => b.2) (l := us.zip L) (fun a _ b _ => rfl)
      rw [e2] at hm
      exact hm
    rw [← es]
    have hm : ∀ b ∈ (us.zip L).mergeSort (PySem.W.dataLe false fun b => d b.2), R H b.1 b.2 := fun b hb => hall b ((List.mergeSort_perm _ _).mem_iff.mp hb)
    generalize (us.zip L).mergeSort (PySem.W.dataLe false fun b => d b.2) = S at hm x1
    have : ∀ {T : List (V × β)} {H2 : Hp}, (∀ b ∈ T, R H b.1 b.2) → Ext H H2 → Paired (R H2) (T.map (·.1)) (T.map (·.2)) := by
      intro T H2 hT hx
      induction T with
      | nil => exact .nil
      | cons b T ih => exact .cons (m _ _ _ _ (TupK.ext hx) (hT b (List.mem_cons_self ..))) (ih fun c hc => hT c (List.mem_cons_of_mem _ hc))
    exact this hm x1
/-! ### crossed foldings with their worths -/
abbrev Cr := Int × St3 × St3
def dTri (y : St3) : PyData := .tuple [.int y.1, .int y.2.1, .int y.2.2]
def dCr (c : Cr) : PyData := .tuple [.int c.1, .tuple [dTri c.2.1, dTri c.2.2]]
def CfAt (H : Hp) (v : V) (c : St3 × St3) : Prop := ∃ (b : Addr) (v1 v2 : V), v = .ref b ∧ H b = some (.tup [v1, v2]) ∧ Tri H v1 c.1 ∧ Tri H v2 c.2
theorem CfAt.mono : Mono CfAt := fun H H' v x k ⟨b, v1, v2, e, h1, h2, h3⟩ => ⟨b, v1, v2, e, k.1 _ _ h1, Tri.mono _ _ _ _ k h2, Tri.mono _ _ _ _ k h3⟩
def CrAt (H : Hp) (v : V) (c : Cr) : Prop := ∃ (a : Addr) (u : V), v = .ref a ∧ H a = some (.tup [.int c.1, u]) ∧ CfAt H u c.2
theorem CrAt.mono : Mono CrAt := fun H H' v x k ⟨a, u, e, h1, h2⟩ => ⟨a, u, e, k.1 _ _ h1, CfAt.mono _ _ _ _ k h2⟩
theorem dp_tri {K : PySem.W.Frag} {H : Hp} {v : V} {y : St3} (h : Tri H v y) : Dp K H v (dTri y) := by
  obtain ⟨a, rfl, h⟩ := h
  exact .tup (SqT.of h) (.cons (.int _) (.cons (.int _) (.cons (.int _) .nil)))
theorem dp_cf {K : PySem.W.Frag} {H : Hp} {v : V} {c : St3 × St3} (h : CfAt H v c) : Dp K H v (.tuple [dTri c.1, dTri c.2]) := by
  obtain ⟨b, v1, v2, rfl, h1, h2, h3⟩ := h
  exact .tup (SqT.of h1) (.cons (dp_tri h2) (.cons (dp_tri h3) .nil))
theorem dp_cr {K : PySem.W.Frag} {H : Hp} {v : V} {c : Cr} (h : CrAt H v c) : Dp K H v (dCr c) := by
  obtain ⟨a, u, rfl, h1, h2⟩ := h
  exact .tup (SqT.of h1) (.cons (.int _) (.cons (dp_cf h2) .nil))
theorem dpCrs {K : PySem.W.Frag} {H : Hp} : ∀ {vs : List V} {L : List Cr}, Paired (CrAt H) vs L → DpAll K H vs (L.map dCr)
  | _, _, .nil => .nil
  | _, _, .cons h t => .cons (dp_cr h) (dpCrs t)
theorem dep_cr (c : Cr) : (dCr c).depth ≤ 50 := by
  simp [dCr, dTri, PyData.depth, PyData.depthAll]
theorem alike_cr (a b : Cr) : PySem.W.alike (dCr a) (dCr b) = true := by
  simp [dCr, dTri, PySem.W.alike, PySem.W.alikeAll]
def mkC (r : Rl) (x : Str) (by' : Int) (y z : St3) : Cr := (by' + wS r x y + wS r x z, y, z)
def crI (r : Rl) (x : Str) (by' : Int) (S : List St3) (y : St3) : List Cr := (S.filter (crB y)).map (mkC r x by' y)
def crL (r : Rl) (x : Str) (by' : Int) : List Cr := (stL r x).flatMap (crI r x by' (stL r x))
def SwAt (H : Hp) (v : V) (c : St3 × Int) : Prop := ∃ (a : Addr) (v1 : V), v = .ref a ∧ H a = some (.tup [v1, .int c.2]) ∧ Tri H v1 c.1
theorem SwAt.mono : Mono SwAt := fun H H' v x k ⟨a, u, e, h1, h2⟩ => ⟨a, u, e, k.1 _ _ h1, Tri.mono _ _ _ _ k h2⟩
theorem filt_take3 {w : List St3} {c : Nat} {y : St3} {p : St3 → Bool} (h : w[c]? = some y) : (w.take (c + 1)).filter p = (w.take c).filter p ++ (if p y = true then [y] else []) := by
  rw [List.take_add_one, h, List.filter_append]
  congr 1
  by_cases e : p y = true
  · rw [if_pos e]
    exact List.filter_cons_of_pos e
  · rw [if_neg e]
    exact List.filter_cons_of_neg e
theorem cr_first {y z : St3} (hy : 1 ≤ y.2.2) (hz : 1 ≤ z.2.2) (h : crB y z = true) : y.1 < z.1 ∧ z.1 < y.2.1 ∧ y.2.1 < z.2.1 := by
  unfold crB at h
  rw [Bool.and_eq_true, Bool.and_eq_true] at h
  have h1 := of_decide_eq_true h.1.1
  have h2 := of_decide_eq_true h.1.2
  have h3 := of_decide_eq_true h.2
  omega
theorem crI_len (r : Rl) (x : Str) (by' : Int) (S : List St3) (y : St3) : (crI r x by' S y).length ≤ S.length := by
  unfold crI
  rw [List.length_map]
  exact List.length_filter_le _ _
section
variable {P : Program} {w : World} {K : PySem.W.Frag} {mg : Str → Option Value} {base : Heap}
abbrev s_law_crossed : Stmt := topS 24
theorem sc_law_crossed : FnScope ["_law_code_here", "_law_page_here", "_law_by", "_law_one", "_law_some", "_law_found", "_law_first", "_law_other", "_law_second"] ["_law_code_here", "_law_page_here", "_law_by"] (defScope s_law_crossed) :=
  ⟨rfl, rfl, rfl, by decide +kernel, rfl, by decide +kernel, by decide +kernel⟩
def spCrd : Sp := fun vs H Q _ => ∃ (v : V) (r : Rl) (x : Str) (by' : Int), vs = [v, .str x, .int by'] ∧ RulesAt H v r ∧ RlOk r ∧ x.length ≤ 12 ∧ Of r.letters x ∧ ∀ (l : Addr) (us : List V) (H' : Hp), H l = none → H' l = some (.lst us) → Paired (CrAt H') us (SG dCr (crL r x by')) → Ext H H' → Q (.ref l) H'
theorem ok_crd {f : Addr} {fd : FuncData} (F : Fun K "_law_crossed" "_law_crossed" s_law_crossed f fd) (c_law_stretches : CStL P w K mg base) (c_law_stretch_worth : CSWL P w K mg base) (c_law_crossing : CCrs P w K mg base) (msorted : mg "sorted" = none) : FnOk P w K mg base CX0 3 f fd ["_law_code_here", "_law_page_here", "_law_by"] spCrd := by
  refine F.ok sc_law_crossed (fun vs H Q E h => ?_) (fun cdv A outer s H vs Q E hr h => ?_)
  · obtain ⟨v, r, x, by', rfl, _⟩ := h
    rfl
  · obtain ⟨v, r, x, by', rfl, hR, ok, hx, hO, q⟩ := h
    refine ⟨_, (pss_cons (ps_setLc (i := 4) (own := [("_law_one", 3)]) (g := gName 3) (by rfl) sc_law_crossed.nd rfl rfl (sw_true rfl rfl rfl (by decide +kernel)) (pi_list (pe_ca c_law_stretches (hr.mono (by decide)) (by rfl) (pa_cons (pv 0) (pa_cons (pv 1) pa_nil)))) (blkOk_by (own := [("_law_one", 3)]) (N := ["_law_code_here", "_law_page_here", "_law_by", "_law_one", "_law_some", "_law_found", "_law_first", "_law_other", "_law_second"]) (sc := defScope s_law_crossed) (by decide +kernel)) (fun _ _ _ _ _ => (pg_name (i := 3) sc_law_crossed.nd rfl (.inl rfl))) (fun _ _ _ _ _ => pts_nil) (fun _ _ _ _ _ => (pe_tup (pa_cons (pv 3) (pa_cons (pe_ca c_law_stretch_worth (hr.mono (by decide)) (by rfl) (pa_cons (pv 0) (pa_cons (pv 1) (pa_cons (pv 3) pa_nil)))) pa_nil)))))
      (pss_cons (ps_set (i := 5) sc_law_crossed.nd rfl (.inl rfl) (pe_lst pa_nil))
      (pss_cons (ps_for PassesOwn.never rfl (pi_list (pv 4)) (pg_tup rfl (pgs_cons (pg_name (i := 3) sc_law_crossed.nd rfl (.inl rfl)) (pgs_cons (pg_name (i := 6) sc_law_crossed.nd rfl (.inl rfl)) pgs_nil))) (pss_one (ps_for PassesOwn.never rfl (pi_list (pv 4)) (pg_tup rfl (pgs_cons (pg_name (i := 7) sc_law_crossed.nd rfl (.inl rfl)) (pgs_cons (pg_name (i := 8) sc_law_crossed.nd rfl (.inl rfl)) pgs_nil))) (pss_one (ps_if (PW.pt (pw_and (pt_chain3 op_lt op_lt op_lt (pe_ix (ixT K) (pv 3) pe_int (fun _ _ => rfl)) (pe_ix (ixT K) (pv 7) pe_int (fun _ _ => rfl)) (pe_ix (ixT K) (pv 3) pe_int (fun _ _ => rfl)) (pe_ix (ixT K) (pv 7) pe_int (fun _ _ => rfl))) (pw_and1 (pt_val (pe_ca c_law_crossing (hr.mono (by decide)) (by rfl) (pa_cons (pv 3) (pa_cons (pv 7) pa_nil))))))) (pss_one (ps_expr (pe_bm PySem.F.plainAttrs_list PySem.F.slot_list_append PySem.F.type_list_append mt_append (pv 5) (pa_cons (pe_tup (pa_cons (pe_op op_add (pe_op op_add (pv 2) (pv 6)) (pv 8)) (pa_cons (pe_tup (pa_cons (pv 3) (pa_cons (pv 7) pa_nil))) pa_nil))) pa_nil)))) pss_nil)))))
      (pss_one (ps_ret (pe_callB (cr_sortD K hr.units) (by rfl) msorted (by decide +kernel) (pa_cons (pv 5) pa_nil))))))), ?_⟩
    have hsl := stL_len r hx
    have hok : ∀ y ∈ stL r x, StOk r x y ∧ 1 ≤ y.2.2 ∧ y.2.2 ≤ 12 := fun y hy => by
      have := stL_ok hx hy
      exact ⟨this.1, by omega, by omega⟩
    obtain ⟨S, hS⟩ : ∃ S, S = stL r x := ⟨_, rfl⟩
    have hcl : crL r x by' = S.flatMap (crI r x by' S) := by
      rw [hS]
      rfl
    rw [hcl] at q
    refine ⟨_, rfl, _, rfl, v, r, x, rfl, hR, ok, hx, fun l us H1 hl hL hP k1 => ?_⟩
    rw [← hS] at hP hsl hok
    clear hS hcl
    have hul := paired_len hP
    refine ⟨l, rfl, ⟨_, SqL.of hL⟩, fun G hG => lc_list (K := K) (xs := us) (GenP SwAt G H1 (S.map fun y => (y, wS r x y))) (gen_new hG) (fun i H2 _ h => SqL.of (h.ext _ _ hL)) (fun i u H2 hi hv => ?_) (fun H2 hv => ?_)⟩
    · obtain ⟨y, hy, hT⟩ := paired_get hP hi
      have k2 := hv.ext
      have hT2 := Tri.mono _ _ _ _ (TupK.ext k2) hT
      refine ⟨rfl, _, rfl, _, rfl, _, rfl, _, rfl, v, u, r, x, y, rfl, RulesAt.mono _ _ _ _ (TupK.ext (k1.trans k2)) hR, ok, hx, hO, hT2, (hok y (List.mem_of_getElem? hy)).1, fun H3 k3 => ?_⟩
      refine ⟨szL (show 2 ≤ 1000000 by decide), fun t ht => ?_⟩
      have x4 := Ext.new (o := .tup [u, .int (wS r x y)]) ht
      refine gen_step SwAt.mono hG hv (k3.trans x4) (b := (y, wS r x y)) ⟨t, u, rfl, upd_same, Tri.mono _ _ _ _ (TupK.ext (k3.trans x4)) hT2⟩ ?_ ?_
      · rw [List.getElem?_map, hy]
        rfl
      · rw [List.length_map]
        omega
    obtain ⟨sws, hG2, hP2, k2⟩ := gen_end hv (by rw [List.length_map]; omega)
    have hswl := paired_len hP2
    rw [List.length_map] at hswl
    have k02 := k1.trans k2
    refine ⟨Nat.zero_le _, fun lf hlf => ?_⟩
    refine ⟨_, rfl, G, rfl, ⟨_, SqL.of (Ext.new hlf _ _ hG2)⟩, for_list (K := K) (xs := sws) (fun c σ H3 => ∃ (y6 y7 y8 : Option V) (y3 : Option V), σ = [some v, some (.str x), some (.int by'), y3, some (.ref G), some (.ref lf), y6, y7, y8] ∧ GenL CrAt lf H2 ((S.take c).flatMap (crI r x by' S)) H3 ∧ ((S.take c).flatMap (crI r x by' S)).length ≤ 462 * c)
      ⟨_, _, _, _, rfl, genl_new hlf, Nat.zero_le _⟩ (fun c σ H3 _ h => by obtain ⟨_, _, _, _, _, g, _⟩ := h; exact SqL.of (g.ext _ _ hG2)) (fun c u σ H3 hc hv => ?_) (fun σ H3 hv => ?_)⟩
    · obtain ⟨y6, y7, y8, y3, rfl, hg3, hb3⟩ := hv
      have hcl : c < S.length := by
        have := (List.getElem?_eq_some_iff.mp hc).1
        omega
      obtain ⟨yw, hyw, hW⟩ := paired_get hP2 hc
      rw [List.getElem?_map] at hyw
      obtain ⟨y, hy, rfl⟩ := Option.map_eq_some_iff.mp hyw
      obtain ⟨a1, u1, rfl, ha1, hT1⟩ := hW
      have hoy := hok y (List.mem_of_getElem? hy)
      have k3 := hg3.ext
      have efl : (S.take (c + 1)).flatMap (crI r x by' S) = (S.take c).flatMap (crI r x by' S) ++ crI r x by' S y := by
        rw [List.take_add_one, hy, List.flatMap_append]
        simp
      rw [efl]
      generalize (S.take c).flatMap (crI r x by' S) = pre at hg3 hb3
      refine ⟨a1, _, rfl, SqT.of (k3 _ _ ha1), rfl, _, _, rfl, _, _, rfl, rfl, ?_⟩
      refine ⟨_, rfl, G, rfl, ⟨_, SqL.of (k3 _ _ hG2)⟩, for_list (K := K) (xs := sws) (fun e σ H4 => ∃ (y7 y8 : Option V), σ = [some v, some (.str x), some (.int by'), some u1, some (.ref G), some (.ref lf), some (.int (wS r x y)), y7, y8] ∧ GenL CrAt lf H2 (pre ++ crI r x by' (S.take e) y) H4)
        ⟨_, _, rfl, by rw [List.take_zero]; show GenL CrAt lf H2 (pre ++ []) H3; rw [List.append_nil]; exact hg3⟩ (fun e σ H4 _ h => by obtain ⟨_, _, _, g⟩ := h; exact SqL.of (g.ext _ _ hG2)) (fun e u σ H4 he hv => ?_) (fun σ H4 hv => ?_)⟩
      · obtain ⟨y7, y8, rfl, hg4⟩ := hv
        have hel : e < S.length := by
          have := (List.getElem?_eq_some_iff.mp he).1
          omega
        obtain ⟨zw, hzw, hW⟩ := paired_get hP2 he
        rw [List.getElem?_map] at hzw
        obtain ⟨z, hz, rfl⟩ := Option.map_eq_some_iff.mp hzw
        obtain ⟨a2, u2, rfl, ha2, hT2⟩ := hW
        have hoz := hok z (List.mem_of_getElem? hz)
        have k4 := hg4.ext
        have hT14 := Tri.mono _ _ _ _ (TupK.ext k4) hT1
        have hT24 := Tri.mono _ _ _ _ (TupK.ext k4) hT2
        have hin : ∀ H5, GenL CrAt lf H2 (pre ++ crI r x by' (S.take (e + 1)) y) H5 → ∃ (y7 y8 : Option V), [some v, some (.str x), some (.int by'), some u1, some (.ref G), some (.ref lf), some (.int (wS r x y)), some u2, some (.int (wS r x z))] = [some v, some (.str x), some (.int by'), some u1, some (.ref G), some (.ref lf), some (.int (wS r x y)), y7, y8] ∧ GenL CrAt lf H2 (pre ++ crI r x by' (S.take (e + 1)) y) H5 := fun H5 g => ⟨_, _, rfl, g⟩
        have hnot : crB y z = false → crI r x by' (S.take (e + 1)) y = crI r x by' (S.take e) y := fun h => by
          unfold crI
          rw [filt_take3 hz, h, if_neg Bool.false_ne_true, List.append_nil]
        refine ⟨a2, _, rfl, SqT.of (k4 _ _ ha2), rfl, _, _, rfl, _, _, rfl, rfl, ?_⟩
        obtain ⟨b1, hu1, hb1⟩ := id hT14
        obtain ⟨b2, hu2, hb2⟩ := id hT24
        refine if_by (fun H' => Ext H4 H' ∧ crB y z = true) (fun H' => Ext H4 H' ∧ crB y z = false) (fun Q hTr hFa => ?_) (fun H5 h5 => ?_) (fun H5 h5 => ?_)
        · subst hu1
          subst hu2
          have nf : ∀ H5, Ext H4 H5 → ¬ (y.1 < z.1 ∧ z.1 < y.2.1 ∧ y.2.1 < z.2.1) → Q false H5 := fun H5 k hn => hFa H5 ⟨k, by
            cases h : crB y z with
            | false => rfl
            | true => exact absurd (cr_first hoy.2.1 hoz.2.1 h) hn⟩
          refine ⟨_, rfl, b1, _, 0, _, rfl, rfl, SqT.of hb1, rfl, _, rfl, b2, _, 0, _, rfl, rfl, SqT.of hb2, rfl, _, _, rfl, rfl, _, rfl, ite2 (fun e1 => ?_) (fun e1 => ?_)⟩
          · have e1 : y.1 < z.1 := of_decide_eq_true e1
            refine ⟨_, rfl, b1, _, 1, _, rfl, rfl, SqT.of hb1, rfl, _, _, rfl, rfl, _, rfl, ite2 (fun e2 => ?_) (fun e2 => ?_)⟩
            · have e2 : z.1 < y.2.1 := of_decide_eq_true e2
              refine ⟨_, rfl, b2, _, 1, _, rfl, rfl, SqT.of hb2, rfl, _, _, rfl, rfl, _, rfl, ite2 (fun e3 => ?_) (fun e3 => ?_)⟩
              · refine ⟨_, rfl, _, rfl, .ref b1, .ref b2, y, z, rfl, hT14, hT24, hoy.2, hoz.2, fun H5 k5 => ⟨_, rfl, ?_⟩⟩
                cases hcr : crB y z with
                | true => exact hTr H5 ⟨k5, hcr⟩
                | false => exact hFa H5 ⟨k5, hcr⟩
              · exact nf H4 Ext.refl fun h => e3 (decide_eq_true h.2.2)
            · exact ⟨_, rfl, iteF (nf H4 Ext.refl fun h => e2 (decide_eq_true h.2.1))⟩
          · exact ⟨_, rfl, iteF (nf H4 Ext.refl fun h => e1 (decide_eq_true h.1))⟩
        · obtain ⟨k5, hcr⟩ := h5
          obtain ⟨vs5, hL5, _, _⟩ := hg4.keep CrAt.mono k5
          refine ⟨_, rfl, .inl ⟨rfl, _, SqL.of hL5⟩, _, rfl, _, rfl, _, _, rfl, rfl, _, rfl, _, _, rfl, rfl, _, rfl, _, rfl, szL (show 2 ≤ 1000000 by decide), fun tb htb => ⟨szL (show 2 ≤ 1000000 by decide), fun ta hta => ?_⟩⟩
          have x6 := Ext.new (o := .tup [u1, u2]) htb
          have x7 := Ext.new (o := .tup [.int (by' + wS r x y + wS r x z), .ref tb]) hta
          have x67 := x6.trans x7
          delta tNil
          refine app_ok CrAt.mono hlf hg4 (k5.trans x67) (b := mkC r x by' y z) ⟨ta, .ref tb, rfl, upd_same, tb, u1, u2, rfl, x7 _ _ upd_same, Tri.mono _ _ _ _ (TupK.ext (k5.trans x67)) hT14, Tri.mono _ _ _ _ (TupK.ext (k5.trans x67)) hT24⟩ ?_ fun H8 hg8 => ?_
          · rw [List.length_append]
            have h1 := crI_len r x by' (S.take e) y
            rw [List.length_take] at h1
            have : 462 * c ≤ 462 * 462 := Nat.mul_le_mul_left _ (by omega)
            omega
          · have es : crI r x by' (S.take (e + 1)) y = crI r x by' (S.take e) y ++ [mkC r x by' y z] := by
              unfold crI
              rw [filt_take3 hz, if_pos hcr, List.map_append]
              rfl
            refine hin H8 ?_
            rw [es, ← List.append_assoc]
            exact hg8
        · have := hin H5 (by rw [hnot h5.2]; exact hg4.keep CrAt.mono h5.1)
          exact this
      · obtain ⟨y7, y8, rfl, hg4⟩ := hv
        rw [List.take_of_length_le (by omega)] at hg4
        exact ⟨_, _, _, _, rfl, hg4, by rw [List.length_append]; have := crI_len r x by' S y; omega⟩
    · obtain ⟨y6, y7, y8, y3, rfl, hg3, hb3⟩ := hv
      rw [List.take_of_length_le (by omega)] at hg3
      obtain ⟨vs3, hL3, hP3, k3⟩ := hg3
      refine ⟨_, rfl, ?_⟩
      delta tNil
      have k03 := k02.trans k3
      exact sort_g CrAt.mono (fun _ _ h => dp_cr h) dep_cr alike_cr (fun b => ⟨_, _, rfl⟩) hL3 hP3 fun p ws H4 hp hp2 hP4 k4 => q p ws H4 (k03.none hp) hp2 hP4 (k03.trans k4)
abbrev CCrd (P : Program) (w : World) (K : PySem.W.Frag) (mg : Str → Option Value) (base : Heap) : Prop := Ca P w K mg base 3 "_law_crossed" ["_law_code_here", "_law_page_here", "_law_by"] spCrd
end
end Pf


namespace Pf
open PySem PySem.Spec PyProof.Rows L2
theorem cut_head_le (x : Str) {m : Int} (m0 : 0 ≤ m) : ((cutS x none (some m)).length : Int) ≤ m := by
  obtain ⟨z, rfl⟩ : ∃ z : Nat, m = (z : Int) := ⟨m.toNat, by omega⟩
  have e1 : HT.sIx x.length x.length (some (z : Int)) = min z x.length := HT.sIx_nat _ _ _
  have e2 : (cutS x none (some (z : Int))).length ≤ z := by
    show (((x.cps.toList.drop (HT.sIx x.length 0 none)).take (HT.sIx x.length x.length (some (z : Int)) - HT.sIx x.length 0 none)).toArray).size ≤ z
    rw [List.size_toArray, List.length_take, e1]
    omega
  omega
section
variable {P : Program} {w : World} {K : PySem.W.Frag} {mg : Str → Option Value} {base : Heap}
abbrev s_law_crossing_page : Stmt := topS 25
theorem sc_law_crossing_page : FnScope ["_law_pen_here", "_law_code_here", "_law_upto", "_law_one", "_law_other", "_law_sizes", "_law_parts", "_law_found", "_law_part", "_law_spot", "_law_k"] ["_law_pen_here", "_law_code_here", "_law_upto"] (defScope s_law_crossing_page) :=
  ⟨rfl, rfl, rfl, by decide +kernel, rfl, by decide +kernel, by decide +kernel⟩
def spCPg : Sp := fun vs H Q _ => ∃ (p c : Addr) (v : V) (r : Rl) (m : Int) (n : Nat), vs = [.ref p, v, .int m] ∧ RulesAt H v r ∧ RlOk r ∧ OfP r ∧ 0 ≤ m ∧ m ≤ 12 ∧ Pen H p c n ∧ n + 100 < 1000000 ∧
  ∀ (x : Str) H', (x.length : Int) ≤ m → Of r.letters x → Kp p H H' → Pen H' p c (n + 100) → Q (.str x) H'
theorem ok_cpg {f : Addr} {fd : FuncData} (F : Fun K "_law_crossing_page" "_law_crossing_page" s_law_crossing_page f fd) (c_law_pick : CDraw P w K mg base) (c_law_page : CLetters P w K mg base) (mrange : mg "range" = none) (mlen : mg "len" = none) : FnOk P w K mg base CX0 3 f fd ["_law_pen_here", "_law_code_here", "_law_upto"] spCPg := by
  refine F.ok sc_law_crossing_page (fun vs H Q E h => ?_) (fun cdv A outer s H vs Q E hr h => ?_)
  · obtain ⟨p, c, v, r, m, n, rfl, _⟩ := h
    rfl
  · obtain ⟨p, c, v, r, m, n, rfl, hR, ok, ofp, m0, m12, hP, hn, q⟩ := h
    obtain ⟨a, vp, vl, vs, rfl, hA, ⟨ap, oz, pus, rfl, hp, hoz, hRp⟩, hvl, hvs⟩ := id hR
    refine ⟨_, (pss_cons (ps_if (PW.pt (pw_or (pt_cmpR (eqD K hr.units) (pe_ix (ixT K) (pv 1) pe_int (fun _ _ => rfl)) (pe_tup pa_nil) (nomark _)) (pw_or1 (pt_cmpR op_eq (pe_ca c_law_pick (hr.mono (by decide)) (by rfl) (pa_cons (pv 0) (pa_cons pe_int pa_nil))) pe_int (nomark _))))) (pss_one (ps_ret (pe_ca c_law_page (hr.mono (by decide)) (by rfl) (pa_cons (pv 0) (pa_cons (pv 1) (pa_cons (pv 2) pa_nil)))))) pss_nil)
      (pss_cons (ps_asg (pe_lc (own := [("_law_k", 10)]) (g := gName 10) (by rfl) sc_law_crossing_page.nd (pi_range1 (by rfl) mrange (pa_cons pe_int pa_nil)) (blkOk_by (own := [("_law_k", 10)]) (N := ["_law_pen_here", "_law_code_here", "_law_upto", "_law_one", "_law_other", "_law_sizes", "_law_parts", "_law_found", "_law_part", "_law_spot", "_law_k"]) (sc := defScope s_law_crossing_page) (by decide +kernel)) (fun _ _ _ _ _ => (pg_name (i := 10) sc_law_crossing_page.nd rfl (.inl rfl))) (fun _ _ _ _ _ => pts_nil) (fun _ _ _ _ _ => (pe_ix (ixT K) (pe_ix (ixT K) (pe_ix (ixT K) (pv 1) pe_int (fun _ _ => rfl)) (pe_ca c_law_pick (hr.mono (by decide)) (by rfl) (pa_cons (pv 0) (pa_cons (pe_callB (lenQ K) (by rfl) mlen (by decide +kernel) (pa_cons (pe_ix (ixT K) (pv 1) pe_int (fun _ _ => rfl)) pa_nil)) pa_nil))) (fun _ _ => rfl)) pe_int (fun _ _ => rfl)))) (pg_lst rfl (pgs_cons (pg_name (i := 3) sc_law_crossing_page.nd rfl (.inl rfl)) (pgs_cons (pg_name (i := 4) sc_law_crossing_page.nd rfl (.inl rfl)) pgs_nil))))
      (pss_cons (ps_set (i := 5) sc_law_crossing_page.nd rfl (.inl rfl) (pe_lst (pa_cons (pe_op op_add pe_int (pe_ca c_law_pick (hr.mono (by decide)) (by rfl) (pa_cons (pv 0) (pa_cons pe_int pa_nil)))) (pa_cons (pe_op op_add pe_int (pe_ca c_law_pick (hr.mono (by decide)) (by rfl) (pa_cons (pv 0) (pa_cons pe_int pa_nil)))) pa_nil))))
      (pss_cons (ps_set (i := 6) sc_law_crossing_page.nd rfl (.inl rfl) (pe_lst (pa_cons (pe_op op_repS (pe_ix ix_str (pv 3) pe_int (fun _ _ => rfl)) (pe_ix (ixL K) (pv 5) pe_int (fun _ _ => rfl))) (pa_cons (pe_op op_repS (pe_ix ix_str (pv 4) pe_int (fun _ _ => rfl)) (pe_ix (ixL K) (pv 5) pe_int (fun _ _ => rfl))) (pa_cons (pe_op op_repS (pe_ix ix_str (pv 3) pe_int (fun _ _ => rfl)) (pe_ix (ixL K) (pv 5) pe_int (fun _ _ => rfl))) (pa_cons (pe_op op_repS (pe_ix ix_str (pv 4) pe_int (fun _ _ => rfl)) (pe_ix (ixL K) (pv 5) pe_int (fun _ _ => rfl))) pa_nil))))))
      (pss_cons (ps_set (i := 7) sc_law_crossing_page.nd rfl (.inl rfl) pe_str)
      (pss_cons (ps_for PassesOwn.never rfl (pi_list (pv 6)) (pg_name (i := 8) sc_law_crossing_page.nd rfl (.inl rfl)) (pss_one (ps_set (i := 7) sc_law_crossing_page.nd rfl (.inl rfl) (pe_op op_add_str (pe_op op_add_str (pv 7) (pv 8)) (pe_op op_repS (pe_ix ix_str (pe_ix (ixT K) (pv 1) pe_int (fun _ _ => rfl)) (pe_ca c_law_pick (hr.mono (by decide)) (by rfl) (pa_cons (pv 0) (pa_cons (pe_callB call_len_str (by rfl) mlen (by decide +kernel) (pa_cons (pe_ix (ixT K) (pv 1) pe_int (fun _ _ => rfl)) pa_nil)) pa_nil))) (fun _ _ => rfl)) (pe_ix (ixL K) (pe_lst (pa_cons pe_int (pa_cons pe_int (pa_cons pe_int (pa_cons pe_int pa_nil))))) (pe_ca c_law_pick (hr.mono (by decide)) (by rfl) (pa_cons (pv 0) (pa_cons pe_int pa_nil))) (fun _ _ => rfl)))))))
      (pss_cons (ps_set (i := 9) sc_law_crossing_page.nd rfl (.inl rfl) (pe_ca c_law_pick (hr.mono (by decide)) (by rfl) (pa_cons (pv 0) (pa_cons (pe_op op_add (pe_callB call_len_str (by rfl) mlen (by decide +kernel) (pa_cons (pv 7) pa_nil)) pe_int) pa_nil))))
      (pss_cons (ps_if (pt_cmpR op_eq (pe_ca c_law_pick (hr.mono (by decide)) (by rfl) (pa_cons (pv 0) (pa_cons pe_int pa_nil))) pe_int (nomark _)) (pss_one (ps_set (i := 7) sc_law_crossing_page.nd rfl (.inl rfl) (pe_op op_add_str (pe_slice sl_str (pv 7) (po_some (pv 9)) po_none) (pe_slice sl_str (pv 7) po_none (po_some (pv 9)))))) pss_nil)
      (pss_one (ps_ret (pe_slice sl_str (pv 7) po_none (po_some (pv 2))))))))))))), ?_⟩
    have hl6 := ok.let6
    have hl1 := ok.let1
    have hpl := paired_len hRp
    have hp12 := ok.prs
    have na : a ≠ p := hP.tup hA
    have hF : FrzOf PairAt H (.ref ap) r.prs := ⟨ap, oz, pus, rfl, hp, hoz, hRp⟩
    refine if_byS (fun H5 => Kp p H H5 ∧ Pen H5 p c (n + 1)) (fun H5 => Kp p H H5 ∧ Pen H5 p c (n + 1) ∧ r.prs ≠ []) (fun Q q1 q2 => ?_) (fun H5 h5 => ?_) (fun H5 h5 => ?_)
    · refine ⟨_, rfl, a, _, 1, _, rfl, rfl, SqT.of hA, rfl, Nat.zero_le _, fun t4 ht4 => ?_⟩
      have x4 := Ext.new (o := .tup []) ht4
      have dp4 : Dp K (upd H t4 (.tup [])) (.ref ap) (.tuple (r.prs.map dPr)) := by
        obtain ⟨tp', oz', tus', e', htp', _, hTr'⟩ := FrzOf.mono PairAt.mono _ _ _ _ (TupK.ext x4) hF
        cases e'
        exact .tup (SqT.fz htp') (dpPairs hTr')
      refine ⟨.tuple (r.prs.map dPr), .tuple [], dp4, .tup (SqT.of upd_same) .nil, (sm_prs ok.prs ok.pr).shaped (by decide), by decide, _, rfl, ?_⟩
      have ee : PyData.eqv (.tuple (r.prs.map dPr)) (.tuple []) = r.prs.isEmpty := by
        cases r.prs with
        | nil => simp [PyData.eqv, PyData.eqvAll]
        | cons y l => simp [PyData.eqv, PyData.eqvAll]
      rw [ee]
      refine ite2 (fun e => ?_) (fun e => ?_)
      · exact q1 _ ⟨Kp.ext x4, (hP.ext x4).mono (by omega)⟩
      · have hne : r.prs ≠ [] := fun z => e (by rw [z]; rfl)
        refine ⟨_, rfl, p, c, 4, _, rfl, hP.ext x4, by omega, by decide, by decide, fun s3 H5 se sf k5 hP5 => ⟨rfl, _, rfl, ?_⟩⟩
        cases hb : decide (V.int s3 = V.int 0) with
        | true => exact q1 _ ⟨(Kp.ext x4).trans k5, hP5⟩
        | false => exact q2 _ ⟨(Kp.ext x4).trans k5, hP5, hne⟩
    · obtain ⟨k5, hP5⟩ := h5
      exact ⟨_, rfl, _, rfl, _, rfl, p, c, .ref a, r, m, _, rfl, RulesAt.mono _ _ _ _ (TupK.of k5 hP) hR, ok, ofp, m0, m12, hP5, by omega, fun x H6 hx hO k6 hP6 => q x H6 hx hO (k5.trans k6) (hP6.mono (by omega))⟩
    · obtain ⟨k5, hP5, hne⟩ := h5
      have hp0 : 0 < r.prs.length := List.length_pos_iff.mpr hne
      have pick : ∀ {H' : Hp} {d : Int}, Kp p H H' → 0 ≤ d → d < r.prs.length → ∃ (us : List V) (oz : Obj) (a1 : Addr) (t1 : Str × Int), H' ap = some (.frz oz (.tup us)) ∧ us.length = r.prs.length ∧ atI us d = some (.ref a1) ∧ H' a1 = some (.tup [.str t1.1, .int t1.2]) ∧ t1 ∈ r.prs := fun {H' d} k d0 d1 => by
        obtain ⟨tp', oz', us', e', h1, h2, h3⟩ := FrzOf.mono PairAt.mono _ _ _ _ (TupK.of k hP) hF
        cases e'
        have hl := paired_len h3
        obtain ⟨u, hu⟩ : ∃ u, us'[d.toNat]? = some u := ⟨_, List.getElem?_eq_getElem (by omega)⟩
        obtain ⟨t1, ht1, a1, rfl, ha1⟩ := paired_get h3 hu
        refine ⟨us', oz', a1, t1, h1, hl, ?_, ha1, List.mem_of_getElem? ht1⟩
        rw [atI_get d0 (by omega), ← hu, List.getElem?_eq_getElem]
      -- two pairs
      refine ⟨2, rfl, by decide, by decide, fun D hD => lc_range (lo := 0) (n := 2) (fun i H4 => ∃ ys : List Str, ys.length = i ∧ (∀ y ∈ ys, y.length = 2 ∧ Of r.letters y) ∧ H4 D = some (.lst (ys.map V.str)) ∧ Kp p H H4 ∧ Pen H4 p c (n + 1 + i)) ⟨[], rfl, (fun y h => by cases h), upd_same, k5.trans (Kp.new hD), (hP5.new hD).mono (by omega)⟩ (fun i H4 hi hv => ?_) (fun H4 hv => ?_)⟩
      · obtain ⟨ys, hyl, hyo, hL4, k4, hP4⟩ := hv
        have hA4 := k4 _ _ na hA
        obtain ⟨us0, oz0, _, _, hf0, hl0, _⟩ := pick (d := 0) k4 (Int.le_refl _) (by omega)
        refine ⟨rfl, _, rfl, a, _, 1, _, rfl, rfl, SqT.of hA4, rfl, _, rfl, _, rfl, a, _, 1, _, rfl, rfl, SqT.of hA4, rfl, ap, _, rfl, .inr (SqT.fz hf0), p, c, _, _, rfl, hP4, by omega, by omega, by omega, fun d1 H6 da db k6 hP6 => ?_⟩
        obtain ⟨us1, oz1, b1, t1, hf1, hl1', hat1, hb1, ht1⟩ := pick (d := d1) (k4.trans k6) da (by omega)
        have nD : D ≠ p := (hP5.ne hD).1
        have nDc : D ≠ c := (hP5.ne hD).2
        refine ⟨ap, _, d1, _, rfl, rfl, SqT.fz hf1, hat1, b1, _, 0, _, rfl, rfl, SqT.of hb1, rfl, _, k6 _ _ nD hL4, szLt (by rw [List.length_map]; omega), ys ++ [t1.1], by rw [List.length_append, List.length_singleton, hyl], fun y hy => ?_, ?_, ?_, hP6.put nD nDc⟩
        · rcases List.mem_append.mp hy with hy | hy
          · exact hyo y hy
          · rw [List.mem_singleton.mp hy]
            exact ⟨(ok.pr t1 ht1).1.1, ofp.1 t1 ht1⟩
        · rw [upd_same, List.map_append]
          rfl
        · refine fun b o n e => ?_
          have hb : b ≠ D := fun z => by
            have hD0 : H D = none := none_of k5 nD hD
            rw [z, hD0] at e
            cases e
          rw [upd_ne hb]
          exact (k4.trans k6) b o n e
      obtain ⟨ys, hyl, hyo, hL4, k4, hP4⟩ := hv
      obtain ⟨s1, s2, rfl⟩ : ∃ s1 s2, ys = [s1, s2] := by
        match ys, hyl with
        | [s1, s2], _ => exact ⟨s1, s2, rfl⟩
      have h1 := hyo s1 (List.mem_cons_self ..)
      have h2 := hyo s2 (List.mem_cons_of_mem _ (List.mem_cons_self ..))
      refine ⟨D, _, rfl, SqL.of hL4, rfl, _, _, rfl, _, _, rfl, rfl, ?_⟩
      clear hL4
      -- sizes
      refine ⟨_, rfl, p, c, 3, _, rfl, hP4, by omega, by decide, by decide, fun z1 H6 z1a z1b k6 hP6 => ⟨1, z1, rfl, rfl, _, rfl, p, c, 3, _, rfl, hP6, by omega, by decide, by decide, fun z2 H7 z2a z2b k7 hP7 => ⟨1, z2, rfl, rfl, szL (show 2 ≤ 1000000 by decide), fun ls hls => ?_⟩⟩⟩
      have x8 := Ext.new (o := .lst [.int (1 + z1), .int (1 + z2)]) hls
      have hls8 : upd H7 ls (.lst [.int (1 + z1), .int (1 + z2)]) ls = some (.lst [.int (1 + z1), .int (1 + z2)]) := upd_same
      have k8 : Kp p H (upd H7 ls (.lst [.int (1 + z1), .int (1 + z2)])) := ((k4.trans k6).trans k7).trans (Kp.ext x8)
      have hP8 := hP7.ext x8
      generalize upd H7 ls (.lst [.int (1 + z1), .int (1 + z2)]) = H8 at hls8 k8 hP8
      -- parts
      have sa := sgn_at (x := s1) (i := 0) (by decide) (by omega)
      have sb := sgn_at (x := s2) (i := 0) (by decide) (by omega)
      have sc := sgn_at (x := s1) (i := 1) (by decide) (by omega)
      have sd := sgn_at (x := s2) (i := 1) (by decide) (by omega)
      have fa := sgn_of h1.2 (i := 0) (by decide) (by omega)
      have fb := sgn_of h2.2 (i := 0) (by decide) (by omega)
      have fc := sgn_of h1.2 (i := 1) (by decide) (by omega)
      have fd' := sgn_of h2.2 (i := 1) (by decide) (by omega)
      have sm : ∀ {x : Str} {i : Int} {u : Str} {z : Int}, 0 ≤ z → z < 3 → u.length ≤ (sgn x i).length * (1 + z).toNat → u.length ≤ 3 := fun {x i u z} h0 h3 hu => by
        have : (sgn x i).length = 1 := rfl
        rw [this] at hu
        omega
      refine ⟨_, rfl, s1, 0, _, rfl, rfl, szL (by omega), sa, _, rfl, ls, _, 0, _, rfl, rfl, SqL.of hls8, rfl, _, _, rfl, rfl, by omega, by omega, by show (1 : Nat) ≤ 1000; decide, fun w1 hw1 ho1 => ?_⟩
      refine ⟨_, rfl, s2, 0, _, rfl, rfl, szL (by omega), sb, _, rfl, ls, _, 1, _, rfl, rfl, SqL.of hls8, rfl, _, _, rfl, rfl, by omega, by omega, by show (1 : Nat) ≤ 1000; decide, fun w2 hw2 ho2 => ?_⟩
      refine ⟨_, rfl, s1, 1, _, rfl, rfl, szL (by omega), sc, _, rfl, ls, _, 0, _, rfl, rfl, SqL.of hls8, rfl, _, _, rfl, rfl, by omega, by omega, by show (1 : Nat) ≤ 1000; decide, fun w3 hw3 ho3 => ?_⟩
      refine ⟨_, rfl, s2, 1, _, rfl, rfl, szL (by omega), sd, _, rfl, ls, _, 1, _, rfl, rfl, SqL.of hls8, rfl, _, _, rfl, rfl, by omega, by omega, by show (1 : Nat) ≤ 1000; decide, fun w4 hw4 ho4 => ?_⟩
      refine ⟨szL (show 4 ≤ 1000000 by decide), fun lp hlp => ?_⟩
      have hws : ∀ y ∈ [w1, w2, w3, w4], y.length ≤ 3 ∧ Of r.letters y := fun y hy => by
        simp only [List.mem_cons, List.not_mem_nil, or_false] at hy
        rcases hy with rfl | rfl | rfl | rfl
        · exact ⟨sm (x := s1) (i := 0) z1a z1b hw1, fun ch hc => fa ch (ho1 ch hc)⟩
        · exact ⟨sm (x := s2) (i := 0) z2a z2b hw2, fun ch hc => fb ch (ho2 ch hc)⟩
        · exact ⟨sm (x := s1) (i := 1) z1a z1b hw3, fun ch hc => fc ch (ho3 ch hc)⟩
        · exact ⟨sm (x := s2) (i := 1) z2a z2b hw4, fun ch hc => fd' ch (ho4 ch hc)⟩
      have x9 := Ext.new (o := .lst (([w1, w2, w3, w4] : List Str).map V.str)) hlp
      have hlp9 : upd H8 lp (.lst (([w1, w2, w3, w4] : List Str).map V.str)) lp = some (.lst (([w1, w2, w3, w4] : List Str).map V.str)) := upd_same
      have k9 : Kp p H (upd H8 lp (.lst (([w1, w2, w3, w4] : List Str).map V.str))) := k8.trans (Kp.ext x9)
      have hP9 := hP8.ext x9
      have nlp : lp ≠ p := (hP8.ne hlp).1
      have h4l : ([w1, w2, w3, w4] : List Str).length = 4 := rfl
      refine ⟨_, rfl, lp, rfl, ⟨_, SqL.of hlp9⟩, for_list (K := K) (xs := ([w1, w2, w3, w4] : List Str).map V.str) (fun j σ H10 => ∃ (y8 : Option V) (x : Str), σ = [some (.ref p), some (.ref a), some (.int m), some (.str s1), some (.str s2), some (.ref ls), some (.ref lp), some (.str x), y8, none, none] ∧ x.length ≤ 5 * j ∧ Of r.letters x ∧ Kp p (upd H8 lp (.lst (([w1, w2, w3, w4] : List Str).map V.str))) H10 ∧ Pen H10 p c (n + 5 + 2 * j))
        ⟨none, "", rfl, Nat.zero_le _, of_nil _, Kp.refl, hP9.mono (by omega)⟩ (fun j σ H10 _ h => by obtain ⟨_, _, _, _, _, k, _⟩ := h; exact SqL.of (k _ _ nlp hlp9)) (fun j u σ H10 hj hv => ?_) (fun σ H10 hv => ?_)⟩
      · obtain ⟨y8, x, rfl, hxl, hxo, k10, hP10⟩ := hv
        have hjl := (List.getElem?_eq_some_iff.mp hj).1
        rw [List.length_map, h4l] at hjl
        rw [List.getElem?_map] at hj
        obtain ⟨y, hy, rfl⟩ := Option.map_eq_some_iff.mp hj
        have hyw := hws y (List.mem_of_getElem? hy)
        have k010 := k9.trans k10
        have hA10 := k010 _ _ na hA
        refine ⟨_, rfl, _, rfl, _, _, rfl, rfl, szL (by omega), ?_⟩
        refine ⟨_, rfl, a, _, 0, _, rfl, rfl, SqT.of hA10, rfl, _, rfl, _, rfl, a, _, 0, _, rfl, rfl, SqT.of hA10, rfl, r.letters, rfl, szL (by omega), p, c, _, _, rfl, hP10, by omega, by omega, by omega, fun gl H11 g0 g1 k11 hP11 => ?_⟩
        refine ⟨r.letters, gl, _, rfl, rfl, szL (by omega), sgn_at g0 g1, szL (show 4 ≤ 1000000 by decide), fun l9 hl9 => ?_⟩
        have x12 := Ext.new (o := .lst (([0, 0, 1, 2] : List Int).map V.int)) hl9
        refine ⟨_, rfl, p, c, 4, _, rfl, hP11.ext x12, by omega, by decide, by decide, fun wy H13 wa wb k13 hP13 => ?_⟩
        obtain ⟨kk, hkk, hat⟩ := atI_ints (ns := [0, 0, 1, 2]) (i := wy) wa wb
        have hkb : 0 ≤ kk ∧ kk ≤ 2 := by
          simp only [List.mem_cons, List.not_mem_nil, or_false] at hkk
          omega
        refine ⟨l9, _, wy, _, rfl, rfl, SqL.of (k13 _ _ (hP11.ne hl9).1 upd_same), hat, _, _, rfl, rfl, hkb.1, by omega, by show (1 : Nat) ≤ 1000; decide, fun w5 hw5 ho5 => ?_⟩
        have hw5l : w5.length ≤ 2 := by
          have : w5.length ≤ 1 * kk.toNat := hw5
          omega
        have e1 : (x ++ y).length = x.length + y.length := app_len _ _
        refine ⟨_, _, rfl, rfl, szL (by omega), ?_⟩
        refine ⟨_, x ++ y ++ w5, rfl, ?_, (hxo.app hyw.2).app fun ch hc => sgn_of (of_self r.letters) g0 g1 ch (ho5 ch hc), ((k10.trans k11).trans (Kp.ext x12)).trans k13, hP13.mono (by omega)⟩
        rw [app_len, e1]
        omega
      · obtain ⟨y8, x, rfl, hxl, hxo, k10, hP10⟩ := hv
        rw [List.length_map, h4l] at hxl hP10
        have k010 := k9.trans k10
        refine ⟨_, rfl, _, rfl, x, rfl, szL (by omega), _, 1, rfl, rfl, p, c, _, _, rfl, hP10, by omega, by omega, by omega, fun sp H11 spa spb k11 hP11 => ?_⟩
        refine go_name ?_
        dsimp only
        refine if_byS (fun H5 => Kp p H11 H5 ∧ Pen H5 p c (n + 20)) (fun H5 => Kp p H11 H5 ∧ Pen H5 p c (n + 20)) (fun Q q1 q2 => ?_) (fun H12 h12 => ?_) (fun H12 h12 => ?_)
        · refine ⟨_, rfl, p, c, 3, _, rfl, hP11, by omega, by decide, by decide, fun s3 H12 _ _ k12 hP12 => ⟨rfl, _, rfl, ?_⟩⟩
          cases hb : decide (V.int s3 = V.int 0) with
          | true => exact q1 _ ⟨k12, hP12.mono (by omega)⟩
          | false => exact q2 _ ⟨k12, hP12.mono (by omega)⟩
        · have l1 := cut_len x (some sp) none
          have l2 := cut_len x none (some sp)
          have l3 : (cutS x (some sp) none ++ cutS x none (some sp)).length = (cutS x (some sp) none).length + (cutS x none (some sp)).length := app_len _ _
          refine ⟨_, rfl, _, rfl, _, rfl, x, rfl, szL (by omega), _, rfl, _, rfl, _, rfl, x, rfl, szL (by omega), _, _, rfl, rfl, szL (by omega), ?_⟩
          exact ⟨_, rfl, _, rfl, _, rfl, _, rfl, szL (by omega), q _ _ (cut_head_le _ m0) (cutS_of ((cutS_of hxo _ _).app (cutS_of hxo _ _)) _ _) ((k010.trans k11).trans h12.1) (h12.2.mono (by omega))⟩
        · exact ⟨_, rfl, _, rfl, _, rfl, x, rfl, szL (by omega), q _ _ (cut_head_le _ m0) (cutS_of hxo _ _) ((k010.trans k11).trans h12.1) (h12.2.mono (by omega))⟩
abbrev CCPg (P : Program) (w : World) (K : PySem.W.Frag) (mg : Str → Option Value) (base : Heap) : Prop := Ca P w K mg base 3 "_law_crossing_page" ["_law_pen_here", "_law_code_here", "_law_upto"] spCPg
end
end Pf


namespace Pf
open PySem PySem.Spec PyProof.Rows L2
theorem crI_in {r : Rl} {x : Str} {b : Int} {S : List St3} {y : St3} {c : Cr} (h : c ∈ crI r x b S y) : ∃ z ∈ S, crB y z = true ∧ c = mkC r x b y z := by
  unfold crI at h
  obtain ⟨z, hz, rfl⟩ := List.mem_map.mp h
  have := List.mem_filter.mp hz
  exact ⟨z, this.1, this.2, rfl⟩
theorem crL_in {r : Rl} {x : Str} {b : Int} {c : Cr} (h : c ∈ crL r x b) : ∃ y ∈ stL r x, ∃ z ∈ stL r x, crB y z = true ∧ c = mkC r x b y z := by
  unfold crL at h
  obtain ⟨y, hy, h⟩ := List.mem_flatMap.mp h
  obtain ⟨z, hz, h⟩ := crI_in h
  exact ⟨y, hy, z, hz, h⟩
theorem flat_leR {α β : Type} {f : α → List β} {n : Nat} : ∀ {l : List α}, (∀ y ∈ l, (f y).length ≤ n) → (l.flatMap f).length ≤ l.length * n
  | [], _ => Nat.zero_le _
  | y :: l, h => by
    rw [List.flatMap_cons, List.length_append, List.length_cons, Nat.succ_mul]
    have h1 := h y (List.mem_cons_self ..)
    have h2 := flat_leR (l := l) fun z hz => h z (List.mem_cons_of_mem _ hz)
    omega
theorem crL_len (r : Rl) {x : Str} (hx : x.length ≤ 12) (b : Int) : (crL r x b).length ≤ 213444 := by
  have h1 := stL_len r hx
  have h2 : (crL r x b).length ≤ (stL r x).length * (stL r x).length := flat_leR fun y _ => crI_len r x b (stL r x) y
  have h3 : (stL r x).length * (stL r x).length ≤ 462 * 462 := Nat.mul_le_mul h1 h1
  omega
theorem SG_len {β : Type} (d : β → PyData) (L : List β) : (SG d L).length = L.length := (SG_perm d L).length_eq
theorem cutV_mem {xs : List V} {lo hi : Option Int} {u : V} (h : u ∈ cutV xs lo hi) : u ∈ xs := by
  unfold cutV at h
  exact List.mem_of_mem_drop (List.mem_of_mem_take h)
theorem cutV_le (xs : List V) (lo hi : Option Int) : (cutV xs lo hi).length ≤ xs.length := by
  unfold cutV
  rw [List.length_take, List.length_drop]
  omega
theorem sm_tri {y : St3} {r : Rl} {x : Str} (hx : x.length ≤ 12) (h : y ∈ stL r x) : Sm 195 1 (dTri y) := by
  obtain ⟨_, h1, h2, h3, h4, h5⟩ := stL_ok hx h
  refine Sm.tup (n := 3) (m := 64) (k := 0) (Nat.le_refl 3) (fun d hd => ?_) (by decide)
  simp only [List.mem_cons, List.not_mem_nil, or_false] at hd
  rcases hd with rfl | rfl | rfl
  · exact Sm.int (by omega) (by omega)
  · exact Sm.int (by omega) (by omega)
  · exact Sm.int (by omega) (by omega)
theorem sm_cf {y z : St3} {r : Rl} {x : Str} (hx : x.length ≤ 12) (h1 : y ∈ stL r x) (h2 : z ∈ stL r x) : Sm 392 2 (.tuple [dTri y, dTri z]) := by
  refine Sm.tup (n := 2) (m := 195) (k := 1) (Nat.le_refl 2) (fun d hd => ?_) (by decide)
  simp only [List.mem_cons, List.not_mem_nil, or_false] at hd
  rcases hd with rfl | rfl
  · exact sm_tri hx h1
  · exact sm_tri hx h2
theorem Pen.some0 {H : Hp} {p c : Addr} {n : Nat} (h : Pen H p c n) : ∃ o, H p = Option.some o := by
  obtain ⟨cells, a, r, h1, _⟩ := h
  exact ⟨_, h1⟩
section
variable {P : Program} {w : World} {K : PySem.W.Frag} {mg : Str → Option Value} {base : Heap}
end
end Pf


namespace Pf
open PySem PySem.Spec PyProof.Rows L2
/-! ### comprehensions clause by clause -/
/-- the code of a clause's turn: the next item, its store, its tests, then `body` -/
def ClTurn (e : Expr) (d : Nat) (tg src : Expr) (ifs : List Expr) (acc : Value) (env : Env) (body : Sem Fin → Sem Fin) : Prop := ∀ it : Value, compTurn e d it acc env = (do
  standAt src.pos
  match ← pyNext it with
  | none => pure (.done .next)
  | some u =>
    letOwnedTupleGo tg it u
    assign tg env u
    let mut go := true
    for z in ifs do
      if go then go ← isTrue z env (eval z env)
    if go then body (again (.compLoop e d it acc env)) else again (.compLoop e d it acc env))
/-- the code that goes through a clause further in -/
def ClNext (e : Expr) (d : Nat) (src : Expr) (acc : Value) (env : Env) (k : Sem Fin) : Sem Fin := do
  let y ← eval src env
  standAt src.pos
  let y ← foldedSetIterable src env y
  let _ ← runOwn (.compStart e d (← holding [y] (pyIter y)) acc env) env
  k
/-- the code that puts an item behind the list -/
def ClPut (elt : Expr) (acc : Value) (env : Env) (k : Sem Fin) : Sem Fin := do
  (do let _ ← call (.builtin "list.append") [acc, ← eval elt env])
  k
section
variable {prog : Program} {w : World} {A : Around} {R : Result → Shared → Prop} {s : Shared} {elt tg src : Expr} {gens : List Comprehension} {scope : Scope} {pos : Pos} {d : Nat} {ifs : List Expr} {acc it : Value} {env : Env} {body : Sem Fin → Sem Fin}
abbrev Nt (prog : Program) (w : World) (A : Around) (env : Env) (R : Result → Shared → Prop) : Value → Shared → Prop := notedBy (model prog w) A env fun x t => R (.error x) t
abbrev tstS (ifs : List Expr) (env : Env) : Sem Bool := forIn ifs true fun z r => if r = true then do let k ← isTrue z env (eval z env); pure (ForInStep.yield k) else pure (ForInStep.yield r)
theorem clause_loop (hT : ClTurn (.ListComp elt gens scope pos) d tg src ifs acc env body) (I : Nat → Shared → Prop)
    (turn : ∀ n t, I n t → wpAny (model prog w) A (pyNext it) (fun r t1 => match r with
      | none => R (.ok .next) t1
      | some u => wpAny (model prog w) A (letOwnedTupleGo tg it u) (fun _ t2 => wpAny (model prog w) A (assign tg env u) (fun _ t3 => wpAny (model prog w) A (tstS ifs env) (fun k t4 =>
          if k = true then ∀ z Qz, (∀ t5, (∃ m, m < n ∧ I m t5) → wpAny (model prog w) A z Qz (Nt prog w A env R) t5) → wpAny (model prog w) A (body z) Qz (Nt prog w A env R) t4 else ∃ m, m < n ∧ I m t4) (Nt prog w A env R) t3) (Nt prog w A env R) t2) (Nt prog w A env R) t1) (Nt prog w A env R) t)
    (n : Nat) (h : I n s) : codeAny (model prog w) A (.compLoop (.ListComp elt gens scope pos) d it acc env) R s := by
  refine codeAny_loop rfl I (fun n t hI => ?_) n h
  show wpAny _ A ((compTurn (.ListComp elt gens scope pos) d it acc env).onRaise (fun x => do noteFrame x env; theTreesLotGoes x)) _ _ t
  refine wpAny_noted ?_
  rw [hT it]
  refine wpAny_bind (wpAny_standAt (wpAny_bind (wpAny_mono (turn n t hI) (fun r t1 h1 => ?_) fun _ _ z => z)))
  cases r with
  | none => exact wpAny_pure h1
  | some u =>
    refine wpAny_bind (wpAny_mono h1 (fun _ t2 h2 => ?_) fun _ _ z => z)
    refine wpAny_bind (wpAny_mono h2 (fun _ t3 h3 => wpAny_bind (wpAny_mono h3 (fun k t4 h4 => ?_) fun _ _ z => z)) fun _ _ z => z)
    cases k with
    | false => exact wpAny_pure ⟨rfl, h4⟩
    | true => exact h4 _ _ fun t5 h5 => wpAny_pure ⟨rfl, h5⟩
theorem clause_start (hcl : (clausesOf (.ListComp elt gens scope pos))[d]? = some ⟨tg, src, ifs, 0⟩) (h0 : codeAny (model prog w) A (.compLoop (.ListComp elt gens scope pos) d it acc env) R s)
    (h : wpAny (model prog w) A (pyIter it) (fun it' t => codeAny (model prog w) A (.compLoop (.ListComp elt gens scope pos) d it' acc env) R t) (Nt prog w A env R) s) : codeAny (model prog w) A (.compStart (.ListComp elt gens scope pos) d it acc env) R s := by
  refine codeAny_of_tree ?_
  show wpAny _ _ ((compStart (.ListComp elt gens scope pos) d it acc env).onRaise (fun x => do noteFrame x env; standAt theWindowsPlace)) _ _ s
  refine wpAny_notedAt ?_
  unfold compStart
  rw [hcl]
  show wpAny _ _ (ask >>= _) _ _ s
  refine wpAny_bind (wpAny_askSetting (wpAny_ite ?_))
  split
  · first
      | exact wpAny_bind (wpAny_pure (wpAny_pure (And.intro rfl h0)))
      | exact wpAny_pure (And.intro rfl h0)
  · refine wpAny_bind (wpAny_rule ?_)
    show wpAny _ _ (standAt src.pos >>= _) _ _ s
    exact wpAny_bind (wpAny_standAt (wpAny_bind (wpAny_mono h (fun it' t z => wpAny_pure (And.intro rfl z)) fun _ _ z => z)))
end
/-- what a clause's body asks and gives: vs are the slots that it may store -/
structure ClBody (Y : Cx) (body : Sem Fin → Sem Fin) (vs : List Nat) (tb : L2.St → Hp → (Hp → Prop) → Prop) : Prop where
  run : ∀ (pins : List (Addr × Obj)) (s : Shared) (σ : L2.St) (H : Hp) (Nx : Hp → Prop) (z : Sem Fin) (Qz : Fin → Shared → Prop) (E : Value → Shared → Prop), Inv Y pins σ H s → tb σ H Nx → (∀ t H', Inv Y pins (wipe σ vs) H' t → Nx H' → wpAny (model Y.prog Y.w) Y.A z Qz E t) →
    wpAny (model Y.prog Y.w) Y.A (body z) Qz E s
def tPut (D : Addr) (te : TE) : L2.St → Hp → (Hp → Prop) → Prop := fun σ H Nx => te σ H fun y H1 => ∃ ys, H1 D = some (.lst ys) ∧ ys.length < sizeLine ∧ Nx (upd H1 D (.lst (ys ++ [y])))
theorem put_body {Y : Cx} {elt : Expr} {te : TE} {D : Addr} (hx : Y.xe = fun _ _ => False) (he : PE Y elt te) : ClBody Y (ClPut elt (.ref D) Y.env) [] (tPut D te) := ⟨by
  intro pins s σ H Nx z Qz E I h hk
  have h1 := he.run pins s σ H _ I h
  rw [hx] at h1
  unfold ClPut
  refine wpAny_bind (wpAny_bind (wpAny_mono h1 (fun v t q => ?_) fun _ _ q => q.elim))
  obtain ⟨yv, H1, I1, r1, ys, hD, hz, nx⟩ := q
  refine wpAny_bind (wpAny_mono (L2.app_ok (X := Y) (E := E) (Q := fun _ t => wpAny (model Y.prog Y.w) Y.A z Qz E t) I1 hD hz r1 fun t1 I2 => hk t1 _ I2 nx) (fun _ t1 q => wpAny_pure q) fun _ _ q => q)⟩
def tCl (wi : TI) (g : TG) (tt : TT) (tb : L2.St → Hp → (Hp → Prop) → Prop) (vs : List Nat) : L2.St → Hp → (Hp → Prop) → Prop := fun σ H Nx => wi σ H fun J H1 => ∃ W : Nat → Nat → Hp → Prop, (∃ m, W 0 m H1) ∧ ∀ j k H2, W j k H2 →
  (J.stop j H2 ∧ Nx H2) ∨ (J.go j H2 ∧ ∃ Ny : Hp → Prop, (∀ H', Ny H' → ∃ m, m < k ∧ W (j + 1) m H') ∧ ∀ x H', J.yld j H2 x H' → g x (wipe σ vs) H' fun σ3 H3 => wipe σ3 vs = wipe σ vs ∧ tt σ3 H3 fun b H4 => if b = true then tb σ3 H4 Ny else Ny H4)
theorem clause_body {Y : Cx} {elt tg src : Expr} {gens : List Comprehension} {scope : Scope} {pos : Pos} {d : Nat} {ifs : List Expr} {acc : Value} {body : Sem Fin → Sem Fin} {vs vs' : List Nat} {wi : TI} {g : TG} {tt : TT} {tb : L2.St → Hp → (Hp → Prop) → Prop} (hc : Y.calm = true) (hx : Y.xe = fun _ _ => False)
    (hi : PI Y tg src wi) (hg : PG Y tg g) (ht : PTs Y ifs tt) (hb : ClBody Y body vs' tb) (hT : ClTurn (.ListComp elt gens scope pos) d tg src ifs acc Y.env body) (hcl : (clausesOf (.ListComp elt gens scope pos))[d]? = some ⟨tg, src, ifs, 0⟩) (hs : ∀ x, foldedSetIterable src Y.env x = pure x) (hv : ∀ i ∈ vs', i ∈ vs) :
    ClBody Y (ClNext (.ListComp elt gens scope pos) d src acc Y.env) vs (tCl wi g tt tb vs) := ⟨by
  intro pins s σ H Nx z0 Qz E I h hk
  have h1 := hi.run pins s σ H _ I h
  rw [hx] at h1
  unfold ClNext
  refine wpAny_bind (wpAny_mono h1 (fun xv s1 q1 => ?_) fun _ _ q => q.elim)
  refine wpAny_bind (wpAny_standAt (wpAny_bind (wpAny_of_eq (hs xv) (wpAny_bind (wpAny_holding (wpAny_mono q1 (fun itv s2 q2 => ?_) fun _ _ q => q.elim))))))
  obtain ⟨it, fp, tn, J, H1, eit, I1, T, st1, f1, W, ⟨m0, w0⟩, turn⟩ := q2
  subst eit
  refine wpAny_bind (wpAny_runOwn ?_)
  rw [Around.mark_none]
  have stat : ∀ {H' : Hp}, (∀ b ∈ fp, H' b = none) → ∀ b ∈ fp, FpOk Y pins H' b := fun hn b hb => ⟨hn b hb, (f1 b hb).2⟩
  have loop : codeAny (model Y.prog Y.w) Y.A (.compLoop (.ListComp elt gens scope pos) d (.ref it) acc Y.env) (fun r t => match r with | .ok _ => wpAny (model Y.prog Y.w) Y.A z0 Qz E t | .error _ => False) s2 := by
    refine clause_loop hT (fun k t => ∃ j H', Inv Y pins (wipe σ vs) H' t ∧ tn j t.heap ∧ (∀ b ∈ fp, H' b = none) ∧ W j k H') ?_ m0 ⟨0, H1, I1.weak (wipe_length _ _) (fun j v q => (wipe_some q).1), st1, fun b hb => (f1 b hb).1, w0⟩
    rintro k t ⟨j, H2, I2, st2, n2, w2⟩
    rcases turn j k H2 w2 with ⟨stop, nx⟩ | ⟨go, Ny, hNy, step⟩
    · refine thnF (T.done Y rfl rfl rfl hc j _ t (wipe σ vs) H2 (fun _ _ => False) I2 (stat n2) st2 stop) fun r t1 q => ?_
      obtain ⟨hr, I3⟩ := q
      subst hr
      exact hk t1 H2 I3 nx
    · refine thnF (T.item Y rfl rfl rfl hc j _ t (wipe σ vs) H2 (fun _ _ => False) I2 (stat n2) st2 go) fun r t1 q => ?_
      obtain ⟨u, hr, h3⟩ := q
      subst hr
      refine thnF h3 fun _ t2 q => ?_
      obtain ⟨x, H3, I3, r3, y3, st3, n3⟩ := q
      have I3' := I3.pinned (stat n3) (T.obj _ _ st3)
      have hgr := hg.run _ t2 (wipe σ vs) H3 x u _ I3' r3 (step x H3 y3)
      rw [hx] at hgr
      refine thnF hgr fun _ t3 q => ?_
      obtain ⟨σ4, H4, I4, hw4, q4⟩ := q
      have htr := ht.run _ t3 σ4 H4 _ I4 q4
      rw [hx] at htr
      refine thnF htr fun b t4 q => ?_
      obtain ⟨H5, I5, q5⟩ := q
      have hl4 : (wipe σ vs).length = σ4.length := by rw [← hw4, wipe_length]
      have fin : ∀ {σ5 : L2.St} {t' : Shared} {H' : Hp}, Inv Y (pins ++ pinsAt fp t2.heap) σ5 H' t' → (wipe σ vs).length = σ5.length → (∀ (i : Nat) v, (wipe σ vs)[i]? = some (some v) → σ5[i]? = some (some v)) → Ny H' → ∃ m, m < k ∧ ∃ j H', Inv Y pins (wipe σ vs) H' t' ∧ tn j t'.heap ∧ (∀ b ∈ fp, H' b = none) ∧ W j m H' := fun {σ5 t' H'} I' hl hkn ny => by
        obtain ⟨m', hm, w'⟩ := hNy H' ny
        have pin' : ∀ b ∈ fp, ∀ o, t2.heap.get? b = some o → t'.heap.get? b = some o ∧ H' b = none := fun b hb o q =>
          let z := I'.pin (b, o) (List.mem_append_right _ (List.mem_append_right _ (mem_pinsAt hb q)))
          ⟨z.1, z.2.1⟩
        refine ⟨m', hm, j + 1, H', I'.unpinned.weak hl hkn, T.keep _ _ _ st3 fun b hb o q => (pin' b hb o q).1, fun b hb => ?_, w'⟩
        obtain ⟨o, q, _⟩ := T.obj _ _ st3 b hb
        exact (pin' b hb o q).2
      have kn4 : ∀ (i : Nat) v, (wipe σ vs)[i]? = some (some v) → σ4[i]? = some (some v) := fun i v q => by
        rw [← hw4] at q
        exact (wipe_some q).1
      cases b with
      | false =>
        simp only [Bool.false_eq_true, if_false] at q5 ⊢
        exact fin I5 hl4 kn4 q5
      | true =>
        simp only [if_true] at q5 ⊢
        intro z1 Qz1 hz1
        refine hb.run _ t4 σ4 H5 Ny _ _ _ I5 q5 fun t5 H6 I6 ny => hz1 _ <| fin I6 (hl4.trans (wipe_length _ _).symm) (fun i v q => ?_) ny
        have q' := q
        rw [← hw4] at q'
        rw [wipe_out fun z => (wipe_some q').2 (hv i z)]
        exact (wipe_some q').1
  refine codeAny_mono (clause_start hcl loop (T.self Y.A 0 _ _ _ st1 loop)) fun r t hr => ?_
  cases r with
  | ok f => first
      | exact hr
      | exact wpAny_bind (wpAny_pure hr)
      | exact wpAny_pure hr
  | error q => exact hr.elim⟩
/-- a clause over what is gone through n times -/
theorem cl_it {J : It} {n : Nat} {G : Hp → Prop} {Y : Nat → Hp → V → Hp → Prop} (w : Walk J n G Y) {g : TG} {tt : TT} {tb : L2.St → Hp → (Hp → Prop) → Prop} {vs : List Nat} {σ : L2.St} {H0 : Hp} {Qd : Hp → Prop} (Pv : Nat → Hp → Prop) (h0 : Pv 0 H0) (hG : ∀ i H, i ≤ n → Pv i H → G H)
    (hs : ∀ i x H H', i < n → Pv i H → Y i H x H' → g x (wipe σ vs) H' fun σ2 H2 => wipe σ2 vs = wipe σ vs ∧ tt σ2 H2 fun b H3 => if b = true then tb σ2 H3 (Pv (i + 1)) else Pv (i + 1) H3) (hd : ∀ H, Pv n H → Qd H) :
    ∃ W : Nat → Nat → Hp → Prop, (∃ m, W 0 m H0) ∧ ∀ j k H2, W j k H2 → (J.stop j H2 ∧ Qd H2) ∨ (J.go j H2 ∧ ∃ Ny : Hp → Prop, (∀ H', Ny H' → ∃ m, m < k ∧ W (j + 1) m H') ∧ ∀ x H', J.yld j H2 x H' → g x (wipe σ vs) H' fun σ3 H3 => wipe σ3 vs = wipe σ vs ∧ tt σ3 H3 fun b H4 => if b = true then tb σ3 H4 Ny else Ny H4) := by
  refine ⟨fun i m H => m = n - i ∧ i ≤ n ∧ Pv i H, ⟨n, rfl, Nat.zero_le _, h0⟩, ?_⟩
  rintro i m H ⟨rfl, hi, pv⟩
  have hq := hG i H hi pv
  by_cases hlt : i < n
  · exact .inr ⟨w.goes i H hlt hq, Pv (i + 1), fun H' p' => ⟨n - (i + 1), by omega, rfl, hlt, p'⟩, fun x H' y => hs i x H H' hlt pv (w.yields i H x H' hlt hq y)⟩
  · obtain rfl : i = n := by omega
    exact .inl ⟨w.stops H hq, hd H pv⟩
/-- a list comprehension whose first clause's body is `body` -/
def tLcG (wi : TI) (g : TG) (tt : TT) (tb : Addr → L2.St → Hp → (Hp → Prop) → Prop) (vs : List Nat) : TE := fun σ H Q => wi σ H fun J H1 => ∀ D, H1 D = none → ∃ W : Nat → Nat → Hp → Prop, (∃ m, W 0 m (upd H1 D (.lst []))) ∧ ∀ j k H2, W j k H2 →
  (J.stop j H2 ∧ Q (.ref D) H2) ∨ (J.go j H2 ∧ ∃ Ny : Hp → Prop, (∀ H', Ny H' → ∃ m, m < k ∧ W (j + 1) m H') ∧ ∀ x H', J.yld j H2 x H' → g x (wipe σ vs) H' fun σ3 H3 => wipe σ3 vs = wipe σ vs ∧ tt σ3 H3 fun b H4 => if b = true then tb D σ3 H4 Ny else Ny H4)
theorem lcG {X : Cx} {pins : List (Addr × Obj)} {s : Shared} {σ : L2.St} {H : Hp} {Q : VK} {elt tg src : Expr} {ifs : List Expr} {gens : List Comprehension} {scope : Scope} {own : List (Str × Nat)} {vs' : List Nat} {pos pos' : Pos} {wi : TI} {g : TG} {tt : TT} {tb : Addr → L2.St → Hp → (Hp → Prop) → Prop} {body : Addr → Env → Sem Fin → Sem Fin} {use : Option (Value → Sem Unit)} {Qf : Value → Shared → Prop}
    (hc : X.calm = true) (hN : X.N.Nodup) (I : Inv X pins σ H s) (hi : PI X tg src wi) (ok : BlkOk X.N X.env.scope scope own) (hv : ∀ i ∈ vs', i ∈ own.map (·.2))
    (hg : ∀ (t : Shared) (H : Hp) (C : Addr) (cl : List (Str × Addr)) (fp : List Addr), PG (X.blk t H scope (compEnvC scope cl C X.env) fp) tg g) (ht : ∀ (t : Shared) (H : Hp) (C : Addr) (cl : List (Str × Addr)) (fp : List Addr), PTs (X.blk t H scope (compEnvC scope cl C X.env) fp) ifs tt)
    (hb : ∀ (D : Addr) (t : Shared) (H : Hp) (C : Addr) (cl : List (Str × Addr)) (fp : List Addr), ClBody (X.blk t H scope (compEnvC scope cl C X.env) fp) (body D (compEnvC scope cl C X.env)) vs' (tb D))
    (hT : ∀ (D : Addr) (env : Env), ClTurn (.ListComp elt (⟨tg, src, ifs, 0⟩ :: gens) scope pos) 0 tg src ifs (.ref D) env (body D env)) (hs : ∀ x, foldedSetIterable src X.env x = pure x)
    (h : tLcG wi g tt tb (own.map (·.2)) σ H Q)
    (hR : ∀ D C t m H', Inv X pins σ H' t → Q (.ref D) H' → t.heap.Ns C m → FpOk X pins H' C → compPost (model X.prog X.w) X.A X.xe use Qf (.ref D) C (.ok .next) t) :
    wpAny (model X.prog X.w) X.A (comprehension (.ListComp elt (⟨tg, src, ifs, 0⟩ :: gens) scope pos) scope X.env pos' (newList []) false (eval src X.env) use) Qf X.xe s := by
  have free : ∀ y ∈ scope.names, y.2 = .free → ∃ c, X.env.cells.lookup y.1 = some c := fun y hy q => (ok.free y hy q).elim (fun k => I.ok.has _ (.inl k)) fun k => I.ok.has _ (.inr k)
  refine wpAny_comprehension_free (use := use) rfl hs (closure_ok free) ok.kind (fun y hy q => by rw [ok.uniq y hy, q]) (thn (hi.run pins s σ H _ I h) fun xv t1 hx => thn hx fun itv t2 h2 => ?_)
  obtain ⟨it, fp, tn, J, H2, eit, I2, T, st2, f2, q⟩ := h2
  subst eit
  refine wpAny_newObj_type (newEnv_comp ?_) (by show 0 ≤ sizeLine; decide)
  obtain ⟨D, eD⟩ : ∃ D, t2.heap.objs.size = D := ⟨_, rfl⟩
  rw [eD]
  obtain ⟨W, ⟨m0, w0⟩, turn⟩ := q D (I2.hok.fresh (Nat.le_of_eq eD))
  obtain ⟨t3, et3⟩ : ∃ t3 : Shared, ({ t2 with heap := t2.heap.push { cls := .type "list", data := .seq ([] : List Value).toArray } } : Shared) = t3 := ⟨_, rfl⟩
  rw [et3]
  have e3 : t3.heap = t2.heap.push { cls := .type "list", data := .seq ([] : List Value).toArray } := by rw [← et3]
  have I3 : Inv X pins σ (upd H2 D (.lst [])) t3 := by
    rw [← et3]
    refine I2.laid (t' := t2.toks) (fun b o z => Heap.get?_push_of_some _ z) (Nat.le_of_eq eD) ⟨Nat.zero_le _, [], 0, .nil, ?_⟩
    rw [← eD]
    exact Heap.get?_push_size _ rfl
  have lt2 : ∀ b ∈ fp, b < t2.heap.objs.size := fun b hb => by
    obtain ⟨o, z, _⟩ := T.obj _ _ st2 b hb
    exact Heap.lt_size z
  have f3 : ∀ b ∈ fp, FpOk X pins (upd H2 D (.lst [])) b ∧ b < t3.heap.objs.size := fun b hb => by
    have l2 := lt2 b hb
    refine ⟨⟨?_, (f2 b hb).2⟩, by rw [e3, Heap.size_push]; exact Nat.lt_succ_of_lt l2⟩
    rw [upd_ne (by rw [← eD]; exact Nat.ne_of_lt l2)]
    exact (f2 b hb).1
  have st3 : tn 0 t3.heap := T.keep _ _ _ st2 fun b _ o z => by rw [e3]; exact Heap.get?_push_of_some _ z
  have I4 := block_start I3 ok hN f3
  have pg := hg t3 (upd H2 D (.lst [])) t3.heap.objs.size (cellsFrom (t3.heap.objs.size + 1) scope.names (cloFrom X.env.cells scope.names [])) fp
  have pt := ht t3 (upd H2 D (.lst [])) t3.heap.objs.size (cellsFrom (t3.heap.objs.size + 1) scope.names (cloFrom X.env.cells scope.names [])) fp
  have pb := hb D t3 (upd H2 D (.lst [])) t3.heap.objs.size (cellsFrom (t3.heap.objs.size + 1) scope.names (cloFrom X.env.cells scope.names [])) fp
  show codeAny _ _ (.compStart (.ListComp elt (⟨tg, src, ifs, 0⟩ :: gens) scope pos) 0 (.ref it) (.ref D) (compEnvC scope (cellsFrom (t3.heap.objs.size + 1) scope.names (cloFrom X.env.cells scope.names [])) t3.heap.objs.size X.env)) (compPost (model X.prog X.w) X.A X.xe use Qf (.ref D) t3.heap.objs.size) { t3 with heap := pushCells (t3.heap.push { cls := .type "dict", data := .dict #[] }) scope.names }
  have none3 : ∀ b ∈ fp, (upd H2 D (.lst [])) b = none := fun b hb => (f3 b hb).1.1
  generalize ece : compEnvC scope (cellsFrom (t3.heap.objs.size + 1) scope.names (cloFrom X.env.cells scope.names [])) t3.heap.objs.size X.env = ce at I4 pg pt pb ⊢
  have eL : ce.locals = t3.heap.objs.size := by subst ece; rfl
  generalize eH3 : upd H2 D (.lst []) = H3 at I3 I4 pg pt pb w0 none3 f3
  generalize et4 : ({ t3 with heap := pushCells (t3.heap.push { cls := .type "dict", data := .dict #[] }) scope.names } : Shared) = t4 at I4 ⊢
  have st4 : tn 0 t4.heap := T.keep _ _ _ st3 fun b _ o z => by rw [← et4]; exact pushCells_keeps _ _ _ _ (Heap.get?_push_of_some _ z)
  have stat : ∀ {σ' : L2.St} {H' : Hp} {t' : Shared}, Inv (X.blk t3 H3 scope ce fp) [] σ' H' t' → (∀ b ∈ fp, H' b = none) → ∀ b ∈ fp, FpOk (X.blk t3 H3 scope ce fp) [] H' b := fun {σ' H' t'} I' hn b hb =>
    ⟨hn b hb, (I'.ok.exf b hb).1, I'.ok.exfs b hb, .inl hb, fun x c z => (I'.ok.exf b hb).2 x c z, fun p hp => absurd (show p ∈ ([] : List (Addr × Obj)) ++ [] from hp) (by simp)⟩
  have loop : codeAny (model X.prog X.w) X.A (.compLoop (.ListComp elt (⟨tg, src, ifs, 0⟩ :: gens) scope pos) 0 (.ref it) (.ref D) ce) (compPost (model X.prog X.w) X.A X.xe use Qf (.ref D) t3.heap.objs.size) t4 := by
    refine clause_loop (hT D ce) (fun n t => ∃ i H', Inv (X.blk t3 H3 scope ce fp) [] (wipe σ (own.map (·.2))) H' t ∧ tn i t.heap ∧ (∀ b ∈ fp, H' b = none) ∧ W i n H') ?_ m0 ⟨0, H3, I4, st4, none3, w0⟩
    rintro n t5 ⟨i, H5, I5, st5, n5, w5⟩
    rcases turn i n H5 w5 with ⟨stop, qq⟩ | ⟨go, Ny, hNy, step⟩
    · refine thnF (T.done (X.blk t3 H3 scope ce fp) rfl rfl rfl hc i [] t5 _ H5 (fun _ _ => False) I5 (stat I5 n5) st5 stop) fun r t6 z => ?_
      obtain ⟨hr, I6⟩ := z
      subst hr
      have I7 : Inv X pins σ H5 t6 := I3.call' (ch := fp) I6.os I6.base I6.hok I6.bare fun b hb => let z := (f3 b hb).1.2; ⟨z.2.2.1, z.1, z.2.2.2.1, z.2.2.2.2⟩
      have nC : H5 t3.heap.objs.size = none := by
        have z : H5 ce.locals = none := I6.free
        rwa [eL] at z
      obtain ⟨m, hn, _⟩ := I6.loc
      have hn : t6.heap.Ns ce.locals m := hn
      rw [eL] at hn
      exact hR D t3.heap.objs.size t6 m H5 I7 qq hn (I3.fpOk (Nat.le_refl _) nC)
    · refine thnF (T.item (X.blk t3 H3 scope ce fp) rfl rfl rfl hc i [] t5 _ H5 (fun _ _ => False) I5 (stat I5 n5) st5 go) fun r t6 z => ?_
      obtain ⟨u, hr, h6⟩ := z
      subst hr
      refine thnF h6 fun _ t7 z => ?_
      obtain ⟨x, H7, I7, r7, y7, st7, n7⟩ := z
      have I7' := I7.pinned (stat I7 n7) (T.obj _ _ st7)
      refine thnF (pg.run _ t7 _ H7 x u _ I7' r7 (step x H7 y7)) fun _ t8 z => ?_
      obtain ⟨σ8, H8, I8, hw8, q8⟩ := z
      refine thnF (pt.run _ t8 σ8 H8 _ I8 q8) fun b t9 z => ?_
      obtain ⟨H9, I9, q9⟩ := z
      have fin : ∀ {σ9 : L2.St} {t' : Shared} {H' : Hp}, Inv (X.blk t3 H3 scope ce fp) ([] ++ pinsAt fp t7.heap) σ9 H' t' → (wipe σ (own.map (·.2))).length = σ9.length → (∀ (j : Nat) v, (wipe σ (own.map (·.2)))[j]? = some (some v) → σ9[j]? = some (some v)) → Ny H' →
          ∃ m, m < n ∧ ∃ i H', Inv (X.blk t3 H3 scope ce fp) [] (wipe σ (own.map (·.2))) H' t' ∧ tn i t'.heap ∧ (∀ b ∈ fp, H' b = none) ∧ W i m H' := fun {σ9 t' H'} I' hl hk ny => by
        obtain ⟨m', hm, w'⟩ := hNy H' ny
        have pin' : ∀ b ∈ fp, ∀ o, t7.heap.get? b = some o → t'.heap.get? b = some o ∧ H' b = none := fun b hb o q =>
          let z := I'.pin (b, o) (List.mem_append_right _ (List.mem_append_right _ (mem_pinsAt hb q)))
          ⟨z.1, z.2.1⟩
        refine ⟨m', hm, i + 1, H', (I'.unpinned (pins := [])).weak hl hk, T.keep _ _ _ st7 fun b hb o q => (pin' b hb o q).1, fun b hb => ?_, w'⟩
        obtain ⟨o, q, _⟩ := T.obj _ _ st7 b hb
        exact (pin' b hb o q).2
      cases b with
      | false =>
        simp only [Bool.false_eq_true, if_false] at q9 ⊢
        exact fin I9 (by rw [← hw8, wipe_length]) (fun j v q => by rw [← hw8] at q; exact (wipe_some q).1) q9
      | true =>
        simp only [if_true] at q9 ⊢
        intro z1 Qz1 hz1
        refine pb.run _ t9 σ8 H9 Ny _ _ _ I9 q9 fun t10 H10 I10 ny => hz1 _ <| fin I10 (by rw [← hw8, wipe_length, wipe_length]) (fun j v q => ?_) ny
        rw [← hw8] at q
        rw [wipe_out fun z => (wipe_some q).2 (hv j z)]
        exact (wipe_some q).1
  exact codeAny_compStart_list loop (T.self X.A 0 _ _ _ st4 loop)
/-- three clauses -/
def tLc3 (wi : TI) (g : TG) (tt : TT) (wi1 : TI) (g1 : TG) (tt1 : TT) (wi2 : TI) (g2 : TG) (tt2 : TT) (te : TE) (vs vs1 vs2 : List Nat) : TE := tLcG wi g tt (fun D => tCl wi1 g1 tt1 (tCl wi2 g2 tt2 (tPut D te) vs2) vs1) vs
theorem pe_lc3 {X : Cx} {elt tg src tg1 src1 tg2 src2 : Expr} {ifs ifs1 ifs2 : List Expr} {scope : Scope} {own : List (Str × Nat)} {vs1 vs2 : List Nat} {pos : Pos} {wi wi1 wi2 : TI} {g g1 g2 : TG} {tt tt1 tt2 : TT} {te : TE} (hc : X.calm = true) (hN : X.N.Nodup) (hi : PI X tg src wi) (ok : BlkOk X.N X.env.scope scope own) (hv1 : ∀ i ∈ vs1, i ∈ own.map (·.2)) (hv2 : ∀ i ∈ vs2, i ∈ vs1)
    (hg : ∀ (t : Shared) (H : Hp) (C : Addr) (cl : List (Str × Addr)) (fp : List Addr), PG (X.blk t H scope (compEnvC scope cl C X.env) fp) tg g) (ht : ∀ (t : Shared) (H : Hp) (C : Addr) (cl : List (Str × Addr)) (fp : List Addr), PTs (X.blk t H scope (compEnvC scope cl C X.env) fp) ifs tt)
    (hi1 : ∀ (t : Shared) (H : Hp) (C : Addr) (cl : List (Str × Addr)) (fp : List Addr), PI (X.blk t H scope (compEnvC scope cl C X.env) fp) tg1 src1 wi1)
    (hg1 : ∀ (t : Shared) (H : Hp) (C : Addr) (cl : List (Str × Addr)) (fp : List Addr), PG (X.blk t H scope (compEnvC scope cl C X.env) fp) tg1 g1) (ht1 : ∀ (t : Shared) (H : Hp) (C : Addr) (cl : List (Str × Addr)) (fp : List Addr), PTs (X.blk t H scope (compEnvC scope cl C X.env) fp) ifs1 tt1)
    (hi2 : ∀ (t : Shared) (H : Hp) (C : Addr) (cl : List (Str × Addr)) (fp : List Addr), PI (X.blk t H scope (compEnvC scope cl C X.env) fp) tg2 src2 wi2)
    (hg2 : ∀ (t : Shared) (H : Hp) (C : Addr) (cl : List (Str × Addr)) (fp : List Addr), PG (X.blk t H scope (compEnvC scope cl C X.env) fp) tg2 g2) (ht2 : ∀ (t : Shared) (H : Hp) (C : Addr) (cl : List (Str × Addr)) (fp : List Addr), PTs (X.blk t H scope (compEnvC scope cl C X.env) fp) ifs2 tt2)
    (he : ∀ (t : Shared) (H : Hp) (C : Addr) (cl : List (Str × Addr)) (fp : List Addr), PE (X.blk t H scope (compEnvC scope cl C X.env) fp) elt te) (hs : ∀ x, foldedSetIterable src X.env x = pure x := by intro _; rfl) (hs1 : ∀ env x, foldedSetIterable src1 env x = pure x := by intro _ _; rfl) (hs2 : ∀ env x, foldedSetIterable src2 env x = pure x := by intro _ _; rfl) :
    PE X (.ListComp elt [⟨tg, src, ifs, 0⟩, ⟨tg1, src1, ifs1, 0⟩, ⟨tg2, src2, ifs2, 0⟩] scope pos) (tLc3 wi g tt wi1 g1 tt1 wi2 g2 tt2 te (own.map (·.2)) vs1 vs2) := by
  refine ⟨fun pins s σ H Q I h => ?_⟩
  rw [eval_ListComp]
  refine lcG (body := fun D env => ClNext (.ListComp elt [⟨tg, src, ifs, 0⟩, ⟨tg1, src1, ifs1, 0⟩, ⟨tg2, src2, ifs2, 0⟩] scope pos) 1 src1 (.ref D) env) hc hN I hi ok hv1 hg ht (fun D t H' C cl fp => ?_) (fun D env it => by rfl) hs h fun D C t m H' I' q hn f => ⟨m, hn, fun h'' sb => ?_⟩
  · refine clause_body (body := ClNext (.ListComp elt [⟨tg, src, ifs, 0⟩, ⟨tg1, src1, ifs1, 0⟩, ⟨tg2, src2, ifs2, 0⟩] scope pos) 2 src2 (.ref D) (compEnvC scope cl C X.env)) hc rfl (hi1 t H' C cl fp) (hg1 t H' C cl fp) (ht1 t H' C cl fp) ?_ (fun it => by rfl) rfl (hs1 _) hv2
    refine clause_body (vs' := []) (body := ClPut elt (.ref D) (compEnvC scope cl C X.env)) hc rfl (hi2 t H' C cl fp) (hg2 t H' C cl fp) (ht2 t H' C cl fp) ?_ (fun it => by rfl) rfl (hs2 _) (fun i z => by cases z)
    exact put_body rfl (he t H' C cl fp)
  · obtain ⟨f0, f1, f2, f3, f4, f5⟩ := f
    exact ⟨.ref D, H', I'.turned (t' := t.toks) (fun b o hb z => (sb.2 b hb).trans z) f0 f1 f3 f4 f5, rfl, q⟩
/-- a def with defaults that lets nothing out -/
theorem fd_ok {P : Program} {w : World} {K : PySem.W.Frag} {mg : Str → Option Value} {base : Heap} {x qual : Str} {params : Arguments} {body : List Stmt} {scope : Scope} {dvs : List V} {kws : List (Str × V)} {f : Addr} {fd : FuncData} {N ps : List Str} {k : Nat} {sp : Sp} (F : FunD K x qual params body scope dvs kws f fd) (S : FnScope N ps scope) (len : ∀ vs H Q E, sp vs H Q E → vs.length = ps.length)
    (hbody : ∀ (cdv : Value) (A : Around) (outer : List Env) (s : Shared) (H : Hp) (vs : List V) (Q : VK) (E : XK), Room k (A.deeper (envOfC qual scope s.heap.objs.size f cdv)) → sp vs H Q E →
      ∃ t, PSs (cxOf CX0 P w K mg base N qual scope f cdv A outer s H E).nox body t ∧ t { nx := fun _ H' => Q .non H', rt := Q } (L2.start N vs) H) : FnOk P w K mg base CX0 (k + 1) f fd ps sp :=
  F.ok S len fun cdv A outer s H vs Q E hr hsp => by
    obtain ⟨t, h, q⟩ := hbody cdv A outer s H vs Q E hr hsp
    exact ⟨t, h.nox, q⟩
end Pf


namespace Pf
open PySem PySem.Spec PyProof.Rows L2
def mpB (r : Rl) (x : Str) (p q : Int) : Bool := decide (0 ≤ p ∧ p < q ∧ q < x.length) && mayC r x p q
theorem mp_okk {r : Rl} {x : Str} {i j : Int} (i0 : 0 ≤ i) (j1 : j < x.length) (c : Nat) : mpB r x (i + (c : Int)) (j - (c : Int)) = okk r x i j c := by
  unfold mpB okk
  congr 1
  exact decide_eq_decide.mpr ⟨fun h => h.2.1, fun h => ⟨by omega, h, by omega⟩⟩
def pS (r : Rl) (x : Str) (i : Int) : List St3 := (List.range x.length).flatMap fun j : Nat => stAt r x i (0 + (j : Int))
def pL (r : Rl) (x : Str) : List St3 := (List.range x.length).flatMap fun i : Nat => pS r x (0 + (i : Int))
theorem stAt_no {r : Rl} {x : Str} {i j : Int} (h : j ≤ i) : stAt r x i j = [] := by
  unfold stAt
  have : runF r x i j 7 0 = 0 := by
    refine runF_is 7 0 (fun m h1 h2 => by omega) ?_ (by omega) (Nat.le_refl _)
    unfold okk
    rw [decide_eq_false (by omega), Bool.false_and]
  rw [this]
  rfl
theorem flat_from {β : Type} (g : Nat → List β) (a : Nat) (h : ∀ j, j < a → g j = []) : ∀ n : Nat, (List.range n).flatMap g = (List.range (n - a)).flatMap fun t => g (a + t)
  | 0 => by
    rw [Nat.zero_sub]
    rfl
  | n + 1 => by
    rw [flat_succ, flat_from g a h n]
    by_cases e : n < a
    · rw [h n e, List.append_nil, show n + 1 - a = 0 by omega, show n - a = 0 by omega]
    · rw [show n + 1 - a = (n - a) + 1 by omega, flat_succ, show a + (n - a) = n by omega]
theorem pS_eq (r : Rl) (x : Str) (i : Nat) : pS r x (0 + (i : Int)) = stI r x (0 + (i : Int)) := by
  unfold pS stI
  rw [flat_from (fun j : Nat => stAt r x (0 + (i : Int)) (0 + (j : Int))) (i + 1) (fun j h => stAt_no (by omega)) x.length]
  rw [show ((x.length : Int) - (0 + (i : Int) + 1)).toNat = x.length - (i + 1) by omega]
  congr 1
  funext t
  congr 1
  omega
theorem pL_eq (r : Rl) (x : Str) : pL r x = stL r x := by
  unfold pL stL
  congr 1
  funext i
  exact pS_eq r x i
theorem stAt_len (r : Rl) (x : Str) (i j : Int) : (stAt r x i j).length ≤ 7 := by
  unfold stAt
  rw [List.length_map, List.length_range]
  exact runF_le 7 0
def skey (y : St3) : List Key := [.inl y.1, .inl y.2.1, .inl y.2.2]
theorem skey_inj {y z : St3} (h : skey y = skey z) : y = z := by
  obtain ⟨a, b, c⟩ := y
  obtain ⟨d, e, f⟩ := z
  unfold skey at h
  simp only [List.cons.injEq, Sum.inl.injEq, and_true] at h
  obtain ⟨rfl, rfl, rfl⟩ := h
  rfl
section
variable {P : Program} {w : World} {K : PySem.W.Frag} {mg : Str → Option Value} {base : Heap}
def spMPX : Sp := fun vs H Q _ => ∃ (v : V) (r : Rl) (x : Str) (i j : Int), vs = [v, .str x, .int i, .int j] ∧ RulesW H v r ∧ x.length ≤ 1000 ∧ ∀ H', Ext H H' → Q (.bl (mpB r x i j)) H'
theorem ok_mpx {f : Addr} {fd : FuncData} (F : Fun K "may_pair" "may_pair" s_may_pair f fd) (ctext_of : CTx P w K mg base) (cpair_worth : CPW P w K mg base) (mlen : mg "len" = none) : FnOk P w K mg base CX0 2 f fd ["rules", "string", "i", "j"] spMPX := by
  refine F.ok sc_may_pair (fun vs H Q E h => ?_) (fun cdv A outer s H vs Q E hr h => ?_)
  · obtain ⟨v, r, x, i, j, rfl, _⟩ := h
    rfl
  · obtain ⟨v, r, x, i, j, rfl, hR, hx, q⟩ := h
    obtain ⟨a, vp, vl, vs, rfl, hA, hp, hl, hs⟩ := id hR
    have no : ¬ (0 ≤ i ∧ i < j ∧ j < x.length) → Q (.bl false) H := fun h => by
      have := q H Ext.refl
      unfold mpB at this
      rw [decide_eq_false h, Bool.false_and] at this
      exact this
    refine ⟨_, (pss_cons (ps_if (pt_not (pt_chain3 op_le op_lt op_lt pe_int (pv 2) (pv 3) (pe_callB call_len_str (by rfl) mlen (by decide +kernel) (pa_cons (pv 1) pa_nil)))) (pss_one (ps_ret pe_bl)) pss_nil)
      (pss_cons (ps_if (pt_cmpR op_lt (pe_op op_sub (pe_op op_sub (pv 3) (pv 2)) pe_int) (pe_ix (ixT K) (pv 0) pe_int (fun _ _ => rfl)) (nomark _)) (pss_one (ps_ret pe_bl)) pss_nil)
      (pss_one (ps_ret (pe_cmpR op_notN (pe_ca cpair_worth (hr.mono (by decide)) (by rfl) (pa_cons (pv 0) (pa_cons (pe_ca ctext_of (hr.mono (by decide)) (by rfl) (pa_cons (pv 1) (pa_cons (pe_tup (pa_cons (pv 2) (pa_cons (pv 3) pa_nil))) pa_nil))) pa_nil))) pe_non (nomark _)))))), ?_⟩
    refine ⟨_, rfl, 0, i, rfl, rfl, _, rfl, ?_⟩
    by_cases e1 : 0 ≤ i
    · rw [decide_eq_true e1]
      refine iteT ⟨_, rfl, i, j, rfl, rfl, _, rfl, ?_⟩
      by_cases e2 : i < j
      · rw [decide_eq_true e2]
        refine iteT ⟨_, rfl, x, rfl, szL (by omega), _, _, rfl, rfl, _, rfl, ?_⟩
        by_cases e3 : j < x.length
        · rw [decide_eq_true e3]
          have ex : mpB r x i j = mayC r x i j := by
            unfold mpB
            rw [decide_eq_true ⟨e1, e2, e3⟩, Bool.true_and]
          rw [ex] at q
          refine iteF ⟨_, rfl, _, rfl, _, _, rfl, rfl, _, 1, rfl, rfl, _, rfl, a, _, 2, _, rfl, rfl, SqT.of hA, rfl, _, _, rfl, rfl, _, rfl, ite2 (fun e4 => ?_) (fun e4 => ?_)⟩
          · have e4 : j - i - 1 < r.span := of_decide_eq_true e4
            have e : mayC r x i j = false := by
              unfold mayC
              rw [decide_eq_false (show ¬ r.span < j - i by omega), Bool.false_and]
            have := q H Ext.refl
            rw [e] at this
            exact this
          · have e4 : ¬ j - i - 1 < r.span := fun z => e4 (decide_eq_true z)
            refine ⟨_, rfl, _, rfl, _, rfl, _, rfl, szL (show 2 ≤ 1000000 by decide), fun t ht => ?_⟩
            refine ⟨x, t, (i, j), rfl, upd_same, hx, e1, (show i < x.length by omega), (show 0 ≤ j by omega), e3, ?_⟩
            refine ⟨_, r, _, rfl, RulesW.mono _ _ _ _ (TupK.new ht) hR, rfl, ?_⟩
            have e : mayC r x i j = !decide (pwV r.prs (tx2 x (i, j)) = .non) := by
              unfold mayC
              rw [decide_eq_true (show r.span < j - i by omega), Bool.true_and, pwV_is]
            have := q _ (Ext.new (o := .tup [.int i, .int j]) ht)
            rw [e] at this
            exact this
        · rw [decide_eq_false e3]
          exact iteT (no fun h => e3 h.2.2)
      · rw [decide_eq_false e2]
        exact iteF ⟨_, rfl, iteT (no fun h => e2 h.2.1)⟩
    · rw [decide_eq_false e1]
      exact iteF ⟨_, rfl, iteT (no fun h => e1 h.1)⟩
abbrev CMPX (P : Program) (w : World) (K : PySem.W.Frag) (mg : Str → Option Value) (base : Heap) : Prop := Ca P w K mg base 2 "may_pair" ["rules", "string", "i", "j"] spMPX
abbrev s_do_cross : Stmt := topS 10
theorem sc_do_cross : FnScope ["stretch", "other", "i", "j", "size", "p", "q", "many"] ["stretch", "other"] (defScope s_do_cross) :=
  ⟨rfl, rfl, rfl, by decide +kernel, rfl, by decide +kernel, by decide +kernel⟩
def spDC : Sp := fun vs H Q _ => ∃ (v1 v2 : V) (y z : St3), vs = [v1, v2] ∧ Tri H v1 y ∧ Tri H v2 z ∧ Q (.bl (crB y z)) H
theorem ok_dc {f : Addr} {fd : FuncData} {k : Nat} (F : Fun K "do_cross" "do_cross" s_do_cross f fd) : FnOk P w K mg base CX0 (k + 1) f fd ["stretch", "other"] spDC := by
  refine F.ok sc_do_cross (fun vs H Q E h => ?_) (fun cdv A outer s H vs Q E hr h => ?_)
  · obtain ⟨v1, v2, y, z, rfl, _⟩ := h
    rfl
  · obtain ⟨v1, v2, y, z, rfl, ⟨a, rfl, ha⟩, ⟨b, rfl, hb⟩, q⟩ := h
    refine ⟨_, (pss_cons (ps_asg (pv 0) (pg_tup rfl (pgs_cons (pg_name (i := 2) sc_do_cross.nd rfl (.inl rfl)) (pgs_cons (pg_name (i := 3) sc_do_cross.nd rfl (.inl rfl)) (pgs_cons (pg_name (i := 4) sc_do_cross.nd rfl (.inl rfl)) pgs_nil)))))
      (pss_cons (ps_asg (pv 1) (pg_tup rfl (pgs_cons (pg_name (i := 5) sc_do_cross.nd rfl (.inl rfl)) (pgs_cons (pg_name (i := 6) sc_do_cross.nd rfl (.inl rfl)) (pgs_cons (pg_name (i := 7) sc_do_cross.nd rfl (.inl rfl)) pgs_nil)))))
      (pss_one (ps_ret (pe_and (pe_cmpR op_lt (pe_op op_sub (pe_op op_add (pv 2) (pv 4)) pe_int) (pv 5) (nomark _)) (pe_and (pe_cmpR op_lt (pe_op op_sub (pe_op op_add (pv 5) (pv 7)) pe_int) (pe_op op_add (pe_op op_sub (pv 3) (pv 4)) pe_int) (nomark _)) (pe_one (pe_cmpR op_lt (pv 3) (pe_op op_add (pe_op op_sub (pv 6) (pv 7)) pe_int) (nomark _))))))))), ?_⟩
    unfold crB at q
    refine ⟨_, rfl, a, _, rfl, SqT.of ha, rfl, _, _, rfl, _, _, rfl, _, _, rfl, rfl, ?_⟩
    refine ⟨_, rfl, b, _, rfl, SqT.of hb, rfl, _, _, rfl, _, _, rfl, _, _, rfl, rfl, ?_⟩
    refine ⟨_, rfl, _, rfl, _, _, rfl, rfl, _, _, rfl, rfl, _, rfl, _, _, rfl, rfl, _, rfl, ite2 (fun e1 => ?_) (fun e1 => ?_)⟩
    · have e1 : y.1 + y.2.2 - 1 < z.1 := of_decide_eq_true e1
      rw [decide_eq_true e1, Bool.true_and] at q
      refine ⟨_, rfl, _, rfl, _, _, rfl, rfl, _, _, rfl, rfl, _, rfl, _, rfl, _, _, rfl, rfl, _, _, rfl, rfl, _, _, rfl, rfl, _, rfl, ite2 (fun e2 => ?_) (fun e2 => ?_)⟩
      · have e2 : z.1 + z.2.2 - 1 < y.2.1 - y.2.2 + 1 := of_decide_eq_true e2
        rw [decide_eq_true e2, Bool.true_and] at q
        exact ⟨_, rfl, _, rfl, _, rfl, _, _, rfl, rfl, _, _, rfl, rfl, _, _, rfl, rfl, q⟩
      · have e2 : ¬ z.1 + z.2.2 - 1 < y.2.1 - y.2.2 + 1 := fun w => e2 (decide_eq_true w)
        rw [decide_eq_false e2, Bool.false_and] at q
        exact q
    · have e1 : ¬ y.1 + y.2.2 - 1 < z.1 := fun w => e1 (decide_eq_true w)
      rw [decide_eq_false e1, Bool.false_and, Bool.false_and] at q
      exact q
abbrev CDC (P : Program) (w : World) (K : PySem.W.Frag) (mg : Str → Option Value) (base : Heap) : Prop := Ca P w K mg base 1 "do_cross" ["stretch", "other"] spDC
end
end Pf


namespace Pf
open PySem PySem.Spec PyProof.Rows L2
/-! ### a def that is called while nothing is being shown -/
structure FnOg (P : Program) (w : World) (K : PySem.W.Frag) (mg : Str → Option Value) (base : Heap) (k : Nat) (f : Addr) (fd : FuncData) (ps : List Str) (sp : Sp) : Prop where
  len : ∀ vs H Q E, sp vs H Q E → vs.length = ps.length
  run : ∀ (A : Around) (outer : List Env) (s : Shared) (H : Hp) (args : Args) (us : List Value) (vs : List V) (Q : VK) (E : XK), A.guards = some [] → Room k A → Env0 P w K mg base A outer s H → BindsTo s fd args (ps.zip us) → Vals vs us → sp vs H Q E →
    codeAny (model P w) A (.call (.ref f) args) (CR CX0 outer P w H s Q E) s
theorem FnOg.of {P : Program} {w : World} {K : PySem.W.Frag} {mg : Str → Option Value} {base : Heap} {k : Nat} {f : Addr} {fd : FuncData} {x qual : Str} {st : Stmt} {N ps : List Str} {sp : Sp} (F : Fun K x qual st f fd) (S : FnScope N ps (defScope st))
    (len : ∀ vs H Q E, sp vs H Q E → vs.length = ps.length)
    (body : ∀ (cdv : Value) (A : Around) (outer : List Env) (s : Shared) (H : Hp) (vs : List V) (Q : VK) (E : XK), Room k (A.deeper (envOfC qual (defScope st) s.heap.objs.size f cdv)) → (A.deeper (envOfC qual (defScope st) s.heap.objs.size f cdv)).guards = some [] → sp vs H Q E →
      ∃ t, PSs (cxOf CX0 P w K mg base N qual (defScope st) f cdv A outer s H E).nox (defBody st) t ∧ t { nx := fun _ H' => Q .non H', rt := Q } (start N vs) H) : FnOg P w K mg base (k + 1) f fd ps sp := by
  obtain ⟨oc, od, kV, doc, pm, an, cdv, ct, osl, rfl, lk, hcd⟩ := F.ex
  refine ⟨len, fun A outer s H args us vs Q E hG room env0 bnd rel hsp => ?_⟩
  have inS : K.In s.heap := env0.mod.kin.keeps fun b o e => (env0.bs b o e).1
  have limS : s.heap.NoLimit := env0.mod.nolimit.keeps fun b o e => (env0.bs b o e).1
  have kinds : ∀ y ∈ ps.zip us, (defScope st).names.lookup y.1 = some .local ∨ ((defScope st).names.lookup y.1 = some .cell ∧ ((cellsFrom (s.heap.objs.size + 1) (defScope st).names []).lookup y.1).isSome = true) := by
    rintro ⟨n, v⟩ hy
    cases S.par n (List.of_mem_zip hy).1 with
    | inl q => exact .inl q
    | inr q => exact .inr ⟨q, PySem.W.cellsFrom_some _ _ _ (.inl q)⟩
  refine codeAny_call_function room.depth (inS _ _ lk) rfl S.co S.gen rfl (PySem.W.codeRec_of inS hcd) (bnd _ _ _ _ ?_)
  refine wpAny_newFunctionEnv_cells S.kind kinds fun env0' he s1 inC => ?_
  subst he
  refine ⟨limS.keeps inC.toInCall.keep, codeAny_func ?_⟩
  obtain ⟨t, ht, hq⟩ := body cdv A outer s H vs Q E (room.deeper _) hG hsp
  have I0 : Inv (cxOf CX0 P w K mg base N qual (defScope st) f cdv A outer s H E) [] (start N vs) H s1 := inv_start S room.hd env0 (len _ _ _ _ hsp) rel inC
  refine wpAny_mono (ht.nox.run [] s1 (start N vs) H _ I0 hq) (fun fl s' hs => ?_) fun _ _ z => z
  cases fl with
  | ret u =>
    obtain ⟨v, σ', H', J, rv, q⟩ := hs
    exact ⟨v, H', J.os, J.bare, J.base, J.hok, rv, q⟩
  | next =>
    obtain ⟨σ', H', J, q⟩ := hs
    exact ⟨.non, H', J.os, J.bare, J.base, J.hok, rfl, q⟩
  | brk => exact False.elim (by obtain ⟨_, _, _, q⟩ := hs; exact q)
  | cont => exact False.elim (by obtain ⟨_, _, _, q⟩ := hs; exact q)
structure CaG (P : Program) (w : World) (K : PySem.W.Frag) (mg : Str → Option Value) (base : Heap) (k : Nat) (x : Str) (ps : List Str) (sp : Sp) : Prop where
  ex : ∃ f fd, FnOg P w K mg base k f fd ps sp ∧ mg x = some (.ref f) ∧ PySem.W.keepIn K (.ref f) = true ∧ Binds K fd ps []
/-- a def whose last arguments are left out -/
structure CaD (P : Program) (w : World) (K : PySem.W.Frag) (mg : Str → Option Value) (base : Heap) (k : Nat) (x : Str) (ps : List Str) (dvs : List V) (sp : Sp) : Prop where
  ex : ∃ f fd ds, FnOk P w K mg base CX0 k f fd ps sp ∧ mg x = some (.ref f) ∧ PySem.W.keepIn K (.ref f) = true ∧ Vals dvs ds ∧ Binds K fd ps ds
section
variable {X : Cx} {k : Nat} {x : Str} {ps ks : List Str} {sp : Sp} {p pos : Pos} {e : Expr} {es : List Expr} {kws : List Keyword} {t tk : TA} {gV : List V → List V → List V} {dvs : List V}
theorem run_fnG {f : Addr} {fd : FuncData} {pins : List (Addr × Obj)} {σ : L2.St} {H : Hp} {s : Shared} {Q : VK} {us : List Value} {vs : List V} (F : FnOg X.prog X.w X.K X.mg X.base k f fd ps sp) (hG : X.A.guards = some []) (hr : Room k X.A) (hb : Binds X.K fd ps [])
    (I : Inv X pins σ H s) (r : Vals vs us) (h : sp (vs ++ []) H Q E0) : wpAny (model X.prog X.w) X.A (call (.ref f) us) (EP X pins σ Q) X.xe s := by
  have r2 : Vals (vs ++ []) (us ++ []) := r.append .nil
  have hl : (us ++ []).length = ps.length := by rw [← r2.length]; exact F.len _ _ _ _ h
  refine wpAny_call (codeAny_mono (F.run X.A X.stack s H ⟨us, []⟩ (us ++ []) (vs ++ []) Q E0 hG hr I.env0 (hb s us I.kIn hl) r2 h) fun r s' hq => ?_)
  cases r with
  | error e => exact False.elim hq
  | ok fl =>
    cases fl with
    | ret u => exact I.after hq
    | next => exact False.elim hq
    | brk => exact False.elim hq
    | cont => exact False.elim hq
theorem pe_caG (c : CaG X.prog X.w X.K X.mg X.base k x ps sp) (hG : X.A.guards = some []) (hr : Room k X.A) (hg : Gl X x) (ha : PA X (e :: es) t) (hdb : (x == ("__debug__" : Str)) = false := by decide)
    (he : starEach (e :: es) X.env = (false, eval e X.env) :: starEach es X.env := by rfl) (hpl : (backTo pos (starEach es X.env)).any (·.1) = false := by rfl) :
    PE X (.Call (.Name x p) (e :: es) [] pos) (tCall sp [] E0 t) := by
  obtain ⟨f, fd, F, hm, hk, hb⟩ := c.ex
  refine ⟨fun pins s σ H Q I h => ?_⟩
  refine wpAny_Call_Name_kw (ld_glob I hg hm ?_ hdb)
  refine PySem.W.callWith_K (h₀ := X.base) I.ok.mod.kin hk (thn (ha.run pos pins s σ H _ I h) fun us s1 ⟨vs, H1, I1, r, q⟩ => ⟨I1.kIn, ?_⟩) he hpl
  exact run_fnG F hG hr hb I1 r q
theorem pe_caD (c : CaD X.prog X.w X.K X.mg X.base k x ps dvs sp) (hr : Room k X.A) (hg : Gl X x) (ha : PA X (e :: es) t) (hdb : (x == ("__debug__" : Str)) = false := by decide)
    (he : starEach (e :: es) X.env = (false, eval e X.env) :: starEach es X.env := by rfl) (hpl : (backTo pos (starEach es X.env)).any (·.1) = false := by rfl) :
    PE X (.Call (.Name x p) (e :: es) [] pos) (tCall sp dvs E0 t) := by
  obtain ⟨f, fd, ds, F, hm, hk, hv, hb⟩ := c.ex
  exact pe_call F hr hg hm hk hb hv pass0 ha hdb he hpl
end
/-- nobody calls it -/
theorem fn_false {P : Program} {w : World} {K : PySem.W.Frag} {mg : Str → Option Value} {base : Heap} {f : Addr} {fd : FuncData} {ps : List Str} : FnOk P w K mg base CX0 0 f fd ps (fun _ _ _ _ => False) :=
  ⟨fun _ _ _ _ h => h.elim, fun _ _ _ _ _ _ _ _ _ _ _ _ _ h => h.elim⟩
/-- by names alone, of a def with defaults -/
theorem kb_D {K : PySem.W.Frag} {x qual : Str} {params : Arguments} {body : List Stmt} {scope : Scope} {dvs : List V} {f : Addr} {fd : FuncData} {ps ks : List Str} (F : FunD K x qual params body scope dvs [] f fd) (js : List Nat) (hd : dvs ≠ [])
    (h : ∀ (T : Addr) (kV doc pm : Value) (an : Option Addr) (cdv ct : Value) (ws its : List Value), ws.length = ks.length → its.length = dvs.length →
      ∃ k, bindArgs (PySem.W.fnOf x qual params body scope (.ref T) kV doc pm an cdv ct) ⟨[], ks.zip ws⟩ = seqItems? (.ref T) >>= k ∧ k (some its.toArray) = pure (ps.zip (js.map fun j => ws.getD j .none))) : KBn K fd ps 0 ks (permU js) (permV js) := by
  obtain ⟨oc, od, dV, kV, doc, pm, an, cdv, ct, osl, rfl, lk, hcd, hD, hK⟩ := F.ex
  rcases hD with ⟨e, _⟩ | ⟨_, T, o, its, m, rfl, lT, oT, rT⟩
  · exact absurd e hd
  · refine ⟨fun s us ws X hu hw => ?_, fun _ r => perm_rel r js⟩
    obtain rfl := List.length_eq_zero_iff.mp hu
    obtain ⟨k, e1, e2⟩ := h T kV doc pm an cdv ct ws its hw rT.length.symm
    refine BindsTo.of_looks fun M => ?_
    rw [e1]
    exact looks_items X lT oT (.of_pure e2)
/-! ### // by a great divisor of either sign -/
def CDivNW (_ j : Int) : Prop := j ≠ 0 ∧ j.natAbs.log2 < 9000
theorem op_fdivNW {X : Cx} : OpR X (binaryOp .FloorDiv) (rI CDivNW fun i j => .int (i.fdiv j)) := opI fun i j _ _ _ _ _ hc q => floordiv_int hc.1 q (.inl (PyProof.noPylong_of_log2 hc.2))
/-! ### repr of data with great numbers -/
structure Bg (B m k : Nat) (d : PyData) : Prop where
  lay : d.canLay0 = true
  sho : d.showable = true
  ish : d.leavesShort B = true
  wt : d.weight ≤ m
  dep : d.depth ≤ k
theorem Bg.int {i : Int} {B : Nat} (hB : 1 < B) (h9 : B ≤ 1900) (h : i.natAbs < 2 ^ B) : Bg (B + 1) B 0 (.int i) := by
  have hl : i.natAbs.log2 < B := PySem.Flt.log2_lt_of (by omega) h
  have h10 : (2 : Nat) ^ B ≤ 10 ^ B := Nat.pow_le_pow_left (by decide) B
  refine ⟨by simp [PyData.canLay0], ?_, ?_, ?_, by simp [PyData.depth]⟩
  · simp only [PyData.showable]
    exact decide_eq_true (by omega)
  · simp only [PyData.leavesShort, PyData.shown]
    refine decide_eq_true ?_
    have hc : ((10 ^ B : Nat) : Int) = (10 : Int) ^ B := by simp
    have hh : (i.natAbs : Int) < (10 : Int) ^ B := by
      rw [← hc]
      exact Int.ofNat_lt.mpr (Nat.lt_of_lt_of_le h h10)
    by_cases hn : i < 0
    · rw [len_text_neg hn]
      have := toString_length_le (v := 0 - i) (k := B) (by omega) (by omega) (by omega)
      omega
    · have := toString_length_le (v := i) (k := B) (by omega) (by omega) (by omega)
      omega
  · simp only [PyData.weight]
    split <;> omega
theorem Bg.le {B m k m' k' : Nat} {d : PyData} (h : Bg B m k d) (hm : m ≤ m') (hk : k ≤ k') : Bg B m' k' d := ⟨h.lay, h.sho, h.ish, Nat.le_trans h.wt hm, Nat.le_trans h.dep hk⟩
structure BgA (B m k : Nat) (ds : List PyData) : Prop where
  lay : PyData.canLayAll0 ds = true
  sho : PyData.showableAll ds = true
  ish : PyData.leavesShortAll B ds = true
  wt : PyData.weightAll ds ≤ ds.length * (m + 1)
  dep : PyData.depthAll ds ≤ k
theorem BgA.of {B m k : Nat} : ∀ {ds : List PyData}, (∀ d ∈ ds, Bg B m k d) → BgA B m k ds
  | [], _ => ⟨by simp [PyData.canLayAll0], by simp [PyData.showableAll], by simp [PyData.leavesShortAll], by simp [PyData.weightAll], by simp [PyData.depthAll]⟩
  | d :: ds, h => by
    have h1 := h d (List.mem_cons_self ..)
    have h2 := BgA.of (ds := ds) fun x hx => h x (List.mem_cons_of_mem _ hx)
    refine ⟨by simp [PyData.canLayAll0, h1.lay, h2.lay], by simp [PyData.showableAll, h1.sho, h2.sho], by simp [PyData.leavesShortAll, h1.ish, h2.ish], ?_, ?_⟩
    · have e1 := h1.wt
      have e2 := h2.wt
      simp only [PyData.weightAll, List.length_cons, Nat.succ_mul]
      omega
    · simp only [PyData.depthAll]
      exact Nat.max_le.mpr ⟨h1.dep, h2.dep⟩
theorem Bg.lst {B n m k M : Nat} {ds : List PyData} (hn : ds.length ≤ n) (h : ∀ d ∈ ds, Bg B m k d) (hM : n * (m + 1) ≤ M) : Bg B M (k + 1) (.list ds) := by
  have a := BgA.of h
  have hw : ds.length * (m + 1) ≤ n * (m + 1) := Nat.mul_le_mul_right _ hn
  exact ⟨by simpa only [PyData.canLay0] using a.lay, by simpa only [PyData.showable] using a.sho, by simpa only [PyData.leavesShort] using a.ish, by simp only [PyData.weight]; exact Nat.le_trans a.wt (Nat.le_trans hw hM), by simp only [PyData.depth]; exact Nat.succ_le_succ a.dep⟩
theorem Bg.tup {B n m k M : Nat} {ds : List PyData} (hn : ds.length ≤ n) (h : ∀ d ∈ ds, Bg B m k d) (hM : n * (m + 1) ≤ M) : Bg B M (k + 1) (.tuple ds) := by
  have a := BgA.of h
  have hw : ds.length * (m + 1) ≤ n * (m + 1) := Nat.mul_le_mul_right _ hn
  exact ⟨by simpa only [PyData.canLay0] using a.lay, by simpa only [PyData.showable] using a.sho, by simpa only [PyData.leavesShort] using a.ish, by simp only [PyData.weight]; exact Nat.le_trans a.wt (Nat.le_trans hw hM), by simp only [PyData.depth]; exact Nat.succ_le_succ a.dep⟩
theorem Bg.short {B m k : Nat} {d : PyData} (h : Bg B m k d) (hB : 8 ≤ B) (hm : (B + 2) * m + B ≤ 15000000) : d.shown.length ≤ sizeLine := by
  have h1 := PyData.shown_le B hB d h.ish
  have h2 : (B + 2) * d.weight ≤ (B + 2) * m := Nat.mul_le_mul_left _ h.wt
  rw [sizeLine_eq]
  omega
def rShowB (K : PySem.W.Frag) : List V → Hp → VK → Prop := fun xs H Q => ∃ v d B m k, xs = [v] ∧ Dp K H v d ∧ Bg B m k d ∧ 8 ≤ B ∧ (B + 2) * m + B ≤ 15000000 ∧ k ≤ 50 ∧ Q (.str d.shown) H
theorem call_showB (K : PySem.W.Frag) {X : Cx} (hg : X.A.guards = some []) (hu : X.A.units + 64 < cLine) (hK : X.K = K := by rfl) : CallR X (.builtin "repr") (rShowB K) := by
  subst hK
  intro pins s σ H xs us Q I r h
  obtain ⟨v, d, B, m, k, rfl, hd, sh, hB, hm, hk, q⟩ := h
  have hdep := sh.dep
  have hz := sh.short hB hm
  cases hd with
  | non =>
    obtain ⟨u, rfl, rfl⟩ := vals1 r
    exact PySem.P.repr_of_none ⟨.str _, H, I.tok _, ⟨_, rfl⟩, by simpa only [PyData.shown] using q⟩
  | bl b =>
    obtain ⟨u, rfl, rfl⟩ := vals1 r
    refine PySem.P.repr_of_bool ⟨.str _, H, I.tok _, ⟨_, rfl⟩, ?_⟩
    simp only [PyData.shown] at q
    cases b <;> exact q
  | int i =>
    obtain ⟨u, rfl, t, rfl⟩ := vals1 r
    have hi : i.natAbs.log2 < 1920 := by simpa [PyData.showable] using sh.sho
    exact PySem.P.repr_of_int hi ⟨.str _, H, I.tok _, ⟨_, rfl⟩, by simpa only [PyData.shown] using q⟩
  | str x =>
    obtain ⟨u, rfl, t, rfl⟩ := vals1 r
    simp only [PyData.shown] at q hz
    exact PySem.P.repr_of_str ⟨.str _, H, I.tok _, ⟨_, rfl⟩, q⟩ hz
  | @lst a ys ds hs hds =>
    obtain ⟨u, rfl, rfl⟩ := vals1 r
    obtain ⟨as, rd⟩ := Dp.reads I _ _ _ (Dp.lst hs hds) (show RelV (.ref a) (.ref a) from rfl)
    exact PySem.repr_of_reads' rd sh.sho (PyData.noDict_hsm (PyData.hasDict_of_canLay _ sh.lay)) hg (by omega) (fun _ _ e => e) (fun h' u tk keep => ⟨.str _, H, I.kept keep, ⟨_, rfl⟩, q⟩) hz
  | @tup a ys ds hs hds =>
    obtain ⟨u, rfl, rfl⟩ := vals1 r
    obtain ⟨as, rd⟩ := Dp.reads I _ _ _ (Dp.tup hs hds) (show RelV (.ref a) (.ref a) from rfl)
    exact PySem.repr_of_reads' rd sh.sho (PyData.noDict_hsm (PyData.hasDict_of_canLay _ sh.lay)) hg (by omega) (fun _ _ e => e) (fun h' u tk keep => ⟨.str _, H, I.kept keep, ⟨_, rfl⟩, q⟩) hz
end Pf


namespace Pf
open PySem PySem.Spec PyProof.Rows L2
/-! ### a tuple's items, gathered -/
section
variable {prog : Program} {w : World} {A : Around} {E : Value → Shared → Prop} {s : Shared}
theorem gather_tup {a : Addr} {us : List Value} {Q : List Value → Shared → Prop} (ht : s.heap.IsTuple a us.toArray) (hz : us.length ≤ sizeLine)
    (q : Q us { s with heap := (s.heap.push (seqObj "list" #[] 0)).update s.heap.objs.size (Obj.mapSeq (· ++ us.toArray)) }) : wpAny (model prog w) A (collect (.ref a)) Q E s := by
  obtain ⟨ob, hob, hcl, n, hda⟩ := id ht
  have hob1 : (s.heap.push (seqObj "list" #[] 0)).get? a = some ob := Heap.get?_push_of_some _ hob
  have hnew : (s.heap.push (seqObj "list" #[] 0)).get? s.heap.objs.size = some (seqObj "list" #[] 0) := Heap.get?_push_size _ rfl
  unfold collect
  refine wpAny_bind (wpAny_runValue ?_)
  refine codeAny_builtin entry_proto_collect' ?_
  show wpAny _ _ (do again (.builtin "list.__iadd__" ⟨[← newList [], .ref a], []⟩)) _ _ s
  refine wpAny_bind (wpAny_newList (wpAny_pure ⟨Code.quiet_builtin _ (by decide +kernel), ?_⟩))
  refine codeAny_builtin entry_list_iadd' ?_
  show wpAny _ _ (Builtin.List.listExtendWith (.ref s.heap.objs.size) (.ref a) _) _ _ { s with heap := s.heap.push (seqObj "list" #[] 0) }
  unfold Builtin.List.listExtendWith
  refine wpAny_bind (wpAny_typeOf (T := "tuple") ⟨ob, hob1, hcl⟩ ?_)
  rw [if_pos (by rw [show (Value.type "tuple" == Value.type "tuple") = true from rfl, Bool.or_true])]
  refine wpAny_bind (listItems_at hob1 hda ?_)
  refine wpAny_bind (listItems_at (xs := #[]) (n := 0) hnew rfl ?_)
  rw [if_neg (by simp)]
  have hsz : ((#[] : Array Value) ++ us.toArray).size ≤ sizeLine + 1 := by
    rw [Array.size_append, List.size_toArray]
    show 0 + us.length ≤ _
    omega
  refine wpAny_bind (listUpdate_at (xs := #[]) (n := 0) hnew rfl ?_ (Nat.zero_le _) hsz)
  refine wpAny_pure ?_
  refine wpAny_bind (wpAny_load (get?_update_seq hnew _) ?_)
  have e : ((#[] : Array Value) ++ us.toArray).toList = us := by simp
  show wpAny _ _ (pure ((#[] : Array Value) ++ us.toArray).toList) Q E _
  rw [e]
  exact wpAny_pure q
theorem sorted_tup {β : Type} {R : Value → β → Prop} {enc : β → PyData} {a : Addr} {us : List Value} {bs : List β} {Q : Value → Shared → Prop} (ht : s.heap.IsTuple a us.toArray) (e : PySem.W.EachIs R us bs) (er : PySem.W.EachIs (fun v b => ∃ as, Reads s.heap v (enc b) as) us bs) (al : PySem.W.AllAlike (bs.map enc)) (so : PySem.W.Sortable (bs.map enc))
    (hz : bs.length ≤ sizeLine) (hu : ∀ b, b ∈ bs → A.units + 2 + (enc b).depth < cLine) (q : ∀ out, out.length = bs.length → PySem.W.EachIs R out (bs.mergeSort (PySem.W.dataLe false enc)) → Q (.ref (s.heap.objs.size + 1)) { s with heap := sortedAll s.heap us out.toArray }) :
    wpAny (model prog w) A (call (.builtin "sorted") [.ref a]) Q E s := by
  have hul : us.length ≤ sizeLine := by
    rw [e.length]
    exact hz
  refine Calls.call_function_entry kind_sorted plain_sorted
    entry_sorted (args_sorted1 _) ?_
  unfold Builtin.«sorted»
  refine wpAny_bind (m := checkCount "sorted" 1 1 _) (wpAny_pure ?_)
  refine wpAny_bind (gather_tup ht hul ?_)
  refine wpAny_bind (wpAny_newList ?_ hul)
  have hsz : ((s.heap.push (seqObj "list" #[] 0)).update s.heap.objs.size (Obj.mapSeq (· ++ us.toArray))).objs.size = s.heap.objs.size + 1 := by
    rw [Heap.size_update, size_push']
  have er2 : PySem.W.EachIs (fun v b => ∃ as, Reads (PySem.W.copyHeap s.heap us) v (enc b) as ∧ s.heap.objs.size + 1 ∉ as) us bs := er.mono fun v b ⟨as, r⟩ => by
    refine ⟨as, PyProof.Rows.Reads.keeps (fun _ _ h => PySem.W.copyHeap_old h) r, fun hm => ?_⟩
    obtain ⟨o, ho⟩ := PyProof.On.reads_mem_get r _ hm
    exact absurd (Nat.lt_of_succ_lt (Heap.lt_size ho)) (Nat.lt_irrefl _)
  show wpAny _ _ _ _ _ { s with heap := PySem.W.copyHeap s.heap us }
  rw [hsz]
  refine wpAny_bind (wpAny_holding (PySem.W.list_sort_data (s := { s with heap := PySem.W.copyHeap s.heap us }) (PySem.W.copyHeap_at s.heap us) e er2 al so hz (fun b hb => ?_) fun out h1 h2 => ?_))
  · have := hu b hb
    have e1 : A.in1.units = A.units + 1 := rfl
    rw [e1]
    exact this
  · exact wpAny_pure ⟨_, rfl, q out h1 h2⟩
end
def rSortTD (K : PySem.W.Frag) : List V → Hp → VK → Prop := fun vs H Q => ∃ (β : Type) (v : β → V) (d : β → PyData) (a : Addr) (bs : List β), vs = [.ref a] ∧ SqT K H a (bs.map v) ∧ (∀ b ∈ bs, Dp K H (v b) (d b) ∧ (d b).depth ≤ 50) ∧
  PySem.W.AllAlike (bs.map d) ∧ PySem.W.Sortable (bs.map d) ∧ ∀ p, H p = none → Q (.ref p) (upd H p (.lst ((bs.mergeSort (PySem.W.dataLe false d)).map v)))
/-- sorted(xs), xs a tuple of data -/
theorem cr_sortTD (K : PySem.W.Frag) {X : Cx} (hu : X.A.units + 64 < cLine) (hK : X.K = K := by rfl) : CallR X (.builtin "sorted") (rSortTD K) := by
  subst hK
  intro pins s σ H vs us Q I r h
  obtain ⟨β, v, d, a, bs, rfl, hs, hd, al, so, q⟩ := h
  obtain ⟨u, rfl, rfl⟩ := vals1 r
  obtain ⟨its, rv, ht, hz⟩ := I.tuple hs
  rw [List.length_map] at hz
  refine sorted_tup (enc := d) (R := fun (u : Value) (b : β) => RelV (v b) u) (show s.heap.IsTuple a its.toArray from ht) (each_vals rv) (each_reads I rv fun b hb => (hd b hb).1) al so hz (fun b hb => by have := (hd b hb).2; omega) fun out hlen he => ?_
  obtain ⟨ep, he'⟩ := PyProof.Rows.sortedAll_at s.heap its out.toArray
  have hlen2 : ((bs.mergeSort (PySem.W.dataLe false d)).map v).length ≤ sizeLine := by
    rw [List.length_map, List.length_mergeSort]
    exact hz
  exact ⟨.ref _, upd H (s.heap.objs.size + 1) (.lst ((bs.mergeSort (PySem.W.dataLe false d)).map v)), I.laid (t' := s.toks) (fun _ _ => PyProof.Rows.sortedAll_old) (Nat.le_succ _) ⟨hlen2, out, ep, vals_each he, by simpa using he'⟩, rfl, q _ (I.hok.fresh (Nat.le_succ _))⟩
def rSortLT (K : PySem.W.Frag) : List V → Hp → VK → Prop := fun vs H Q => rSortD K vs H Q ∨ rSortTD K vs H Q
/-- sorted(xs), xs a list or a tuple of data -/
theorem cr_sortLT (K : PySem.W.Frag) {X : Cx} (hu : X.A.units + 64 < cLine) (hK : X.K = K := by rfl) : CallR X (.builtin "sorted") (rSortLT K) := fun pins s σ H vs us Q I r h => h.elim (cr_sortD K hu hK pins s σ H vs us Q I r) (cr_sortTD K hu hK pins s σ H vs us Q I r)
/-! ### going through a list or a tuple -/
def iSeq (K : PySem.W.Frag) (tl : TE) : TI := fun σ H R => tl σ H fun x H1 => ∃ a, x = .ref a ∧ (((∃ xs, SqL K H1 a xs) ∧ R (Itl K a) H1) ∨ ((∃ xs, SqT K H1 a xs) ∧ R (Itt K a) H1))
theorem pi_seq {X : Cx} {tg l : Expr} {tl : TE} (K : PySem.W.Frag) (hl : PE X l tl) (hK : X.K = K := by rfl) : PI X tg l (iSeq K tl) := by
  subst hK
  refine ⟨fun pins s σ H R I h => ?_⟩
  have h1 := hl.run pins s σ H _ I h
  refine thn h1 fun v s1 ⟨x, H1, I1, r1, q1⟩ => ?_
  obtain ⟨a, rfl, ⟨hq, q⟩ | ⟨hq, q⟩⟩ := q1
  · obtain ⟨xs, hq⟩ := hq
    cases r1
    obtain ⟨its, rv, hp, hz⟩ := I1.list hq
    refine wpAny_pyIter_list hp.isList ?_
    have kk := I1.kept (h' := s1.heap.push { cls := .type "list_iterator", data := .fields #[.ref a, .int 0 0] }) (t' := s1.toks) fun b o e => Heap.get?_push_of_some _ e
    exact ⟨s1.heap.objs.size, [s1.heap.objs.size], _, _, H1, rfl, kk, turn_list a _, ⟨_, Heap.get?_push_size _ rfl, rfl, rfl⟩, fun b hb => by
      rw [show b = s1.heap.objs.size by simpa using hb]
      exact I1.fpOk (Nat.le_refl s1.heap.objs.size) (I1.hok.fresh (Nat.le_refl _)), q⟩
  · obtain ⟨xs, hq⟩ := hq
    cases r1
    obtain ⟨its, rv, hp, hz⟩ := I1.tuple hq
    refine wpAny_pyIter_tuple (show s1.heap.IsTuple a its.toArray from hp) ?_
    exact ⟨s1.heap.objs.size, [s1.heap.objs.size], _, _, H1, rfl, I1.kept (t' := s1.toks) (fun b o e => Heap.get?_push_of_some _ e), turn_tuple a _, ⟨_, Heap.get?_push_size _ rfl, rfl, rfl⟩, fun b hb => by
      rw [show b = s1.heap.objs.size by simpa using hb]
      exact I1.fpOk (Nat.le_refl s1.heap.objs.size) (I1.hok.fresh (Nat.le_refl _)), q⟩
/-- a list (true) or a tuple -/
def bo (b : Bool) (us : List V) : HO := match b with
  | true => .lst us
  | false => .tup us
def Sq2 (K : PySem.W.Frag) (H : Hp) (a : Addr) (xs : List V) (b : Bool) : Prop := match b with
  | true => SqL K H a xs
  | false => SqT K H a xs
theorem Sq2.of {K : PySem.W.Frag} {H : Hp} {a : Addr} {xs : List V} {b : Bool} (h : H a = some (bo b xs)) : Sq2 K H a xs b := by
  cases b with
  | true => exact SqL.of h
  | false => exact SqT.of h
theorem for_seq {K : PySem.W.Frag} {a : Addr} {xs : List V} {b : Bool} {g : TG} {tb : TS} {D : Ends} {σ : L2.St} {H : Hp} (e : Sq2 K H a xs b) (Pv : Nat → L2.St → Hp → Prop) (h0 : Pv 0 σ H) (hl : ∀ i σ H, i ≤ xs.length → Pv i σ H → Sq2 K H a xs b)
    (hs : ∀ i x σ H, xs[i]? = some x → Pv i σ H → g x σ H fun σ2 H2 => tb { D with nx := Pv (i + 1), ct := Pv (i + 1), bk := D.nx } σ2 H2) (hd : ∀ σ H, Pv xs.length σ H → D.nx σ H) :
    ((∃ xs, SqL K H a xs) ∧ ∃ W : Nat → Nat → L2.St → Hp → Prop, (∃ m, W 0 m σ H) ∧ ∀ i m σ H, W i m σ H →
      ((Itl K a).stop i H ∧ D.nx σ H) ∨ ((Itl K a).go i H ∧ ∃ N : L2.St → Hp → Prop, (∀ σ' H', N σ' H' → ∃ m', m' < m ∧ W (i + 1) m' σ' H') ∧ ∀ x H', (Itl K a).yld i H x H' → g x σ H' fun σ2 H2 => tb { D with nx := N, ct := N, bk := D.nx } σ2 H2)) ∨
    ((∃ xs, SqT K H a xs) ∧ ∃ W : Nat → Nat → L2.St → Hp → Prop, (∃ m, W 0 m σ H) ∧ ∀ i m σ H, W i m σ H →
      ((Itt K a).stop i H ∧ D.nx σ H) ∨ ((Itt K a).go i H ∧ ∃ N : L2.St → Hp → Prop, (∀ σ' H', N σ' H' → ∃ m', m' < m ∧ W (i + 1) m' σ' H') ∧ ∀ x H', (Itt K a).yld i H x H' → g x σ H' fun σ2 H2 => tb { D with nx := N, ct := N, bk := D.nx } σ2 H2)) := by
  cases b with
  | true => exact .inl ⟨⟨xs, e⟩, for_list Pv h0 hl hs hd⟩
  | false => exact .inr ⟨⟨xs, e⟩, for_tup Pv h0 hl hs hd⟩
theorem sort_lt {K : PySem.W.Frag} {β : Type} {v : β → V} {d : β → PyData} {a : Addr} {bs : List β} {b : Bool} {H : Hp} {Q : VK} (h : Sq2 K H a (bs.map v) b) (hd : ∀ y ∈ bs, Dp K H (v y) (d y) ∧ (d y).depth ≤ 50) (al : PySem.W.AllAlike (bs.map d)) (so : PySem.W.Sortable (bs.map d)) (q : ∀ p, H p = none → Q (.ref p) (upd H p (.lst ((bs.mergeSort (PySem.W.dataLe false d)).map v)))) : rSortLT K [.ref a] H Q := by
  cases b with
  | true => exact .inl ⟨β, v, d, a, bs, rfl, h, hd, al, so, q⟩
  | false => exact .inr ⟨β, v, d, a, bs, rfl, h, hd, al, so, q⟩
/-! ### set(xs), xs a tuple of tuples of ints -/
section
variable {P : Program} {w : World} {A : Around} {E : Value → Shared → Prop} {s : Shared}
abbrev newS (w : World) : Obj := { cls := .type "set", dict := none, data := .set #[] 0 (.fresh 0 0 (!w.params.followText "set-order")) }
theorem set_of_tup {a : Addr} {items : Array Value} (ks : List (Addr × List Int)) {Q : Value → Shared → Prop} (hh : A.handled = none) (ht : s.heap.IsTuple a items) (hit : items.toList = ks.map fun p => Value.ref p.1)
    (hk : ∀ p ∈ ks, IsT P w s.heap p.2 p.1) (hfew : ks.length < 64) (hu : A.units + 3 < cLine)
    (q : ∀ (h' : Heap) (tk : Nat) L es ep t, SetTR P w h' s.heap.objs.size L es ep t → Got ks ks.length L → (∀ b o, s.heap.get? b = some o → h'.get? b = some o) → Q (.ref s.heap.objs.size) { s with heap := h', toks := tk }) :
    wpAny (model P w) A (call (.type "set") [.ref a]) Q E s := by
  have hsz : items.size = ks.length := by
    have z := congrArg List.length hit
    rwa [Array.length_toList, List.length_map] at z
  obtain ⟨c, tl, hmro⟩ := F.called_set.mro
  have hmade := F.called_set.made
  have hsub := F.called_set.sub
  have h1 := F.called_set.notType
  have h2 := F.called_set.canCreate
  have hct := F.typeCall_set_1 (.ref a)
  refine wpAny_call (codeAny_of_tree ?_)
  show wpAny _ _ (callAny (.type "set") _) _ _ _
  refine wpAny_pure ⟨Code.quiet_builtin _ (by decide +kernel), ?_⟩
  refine codeAny_builtin F.entry_type_call ?_
  rw [Around.under_plain (weight_type_call_type "set" [.ref a] []) rfl]
  repeat (any_goals (first
    | assumption
    | wp_step))
  refine codeAny_mono (code_set_led1 (.ref a) (E := E) (Q₁ := fun obj s₁ => obj = .ref s.heap.objs.size ∧ s₁ = { s with heap := s.heap.push (newS w) }) ⟨rfl, rfl⟩) fun r s₁ hr => ?_
  cases r with
  | error e => exact hr
  | ok fl =>
    cases fl with
    | ret obj =>
      obtain ⟨rfl, rfl⟩ := hr
      have hS : (s.heap.push (newS w)).get? s.heap.objs.size = some (newS w) := Heap.get?_push_size _ rfl
      have hT : Shared.TypeIs { s with heap := s.heap.push (newS w) } (.ref s.heap.objs.size) "set" := ⟨_, hS, rfl⟩
      have hli := F.called_set.init.lookup
      have hbi := F.called_set.init.bind (.ref s.heap.objs.size)
      repeat (any_goals (first
        | assumption
        | wp_step))
      refine codeAny_mono (codeAny_call_builtin (R := wants (fun r s₂ => r = .none ∧ ∃ h' tk L es ep t, s₂ = { s with heap := h', toks := tk } ∧ SetTR P w h' s.heap.objs.size L es ep t ∧ Got ks ks.length L ∧ (∀ b o, s.heap.get? b = some o → h'.get? b = some o)) E)
        F.called_set.init.plain F.entry_set_init (check_set_init_1 hT ?_)) fun r₂ s₂ hr₂ => ?_
      · have ht1 : (s.heap.push (newS w)).IsTuple a items := ht.push _
        obtain ⟨ob, hob, hcl, nl, hda⟩ := id ht1
        obtain ⟨ocls, odict, odata, oslots⟩ := ob
        simp only at hcl hda
        subst hcl; subst hda
        have hsls := PySem.F.sub_tuple_set
        have hslf := PySem.F.sub_tuple_frozenset
        have hne : (Value.type "tuple" == Value.type "dict") = false := by decide
        unfold Builtin.«set.__init__» noKeywords Builtin.Frozenset.updateFrom
        generalize hPI : pyIter = PI
        wp_walk
        subst hPI
        refine wpAny_pyIter_tuple ht1 ?_
        refine wpAny_bind (wpAny_runValue ?_)
        obtain ⟨ob0, hob0, _⟩ := ht
        have hlt : a < s.heap.objs.size := Heap.lt_size hob0
        have hin : A.in1.in1.in1.handled = none := by simp [hh]
        have hz1 : (s.heap.push (newS w)).objs.size = s.heap.objs.size + 1 := Heap.size_push ..
        have hneI : a ≠ (s.heap.push (newS w)).objs.size := by
          rw [hz1]
          exact Nat.ne_of_lt (Nat.lt_succ_of_lt hlt)
        have hSf : s.heap.objs.size ∉ [(s.heap.push (newS w)).objs.size, a] := fun hm => by
          rw [hz1] at hm
          rcases List.mem_cons.mp hm with e | hm
          · exact absurd e (Nat.ne_of_lt (Nat.lt_succ_self _))
          · exact absurd (List.mem_singleton.mp hm) (Nat.ne_of_gt hlt)
        have hval : ∀ (i : Nat) (v : Value), items[i]? = some v → ∃ p, ks[i]? = some p ∧ v = .ref p.1 := fun i v hv => by
          rw [← Array.getElem?_toList, hit, List.getElem?_map] at hv
          obtain ⟨p, hp, e⟩ := Option.map_eq_some_iff.mp hv
          exact ⟨p, hp, e.symm⟩
        have gone : ∀ b, s.heap.objs.size ≤ b → s.heap.get? b = none := fun b hb => by
          cases z : s.heap.get? b with
          | none => rfl
          | some o => exact absurd (Nat.lt_of_lt_of_le (Heap.lt_size z) hb) (Nat.lt_irrefl _)
        have hgone : ∀ b ∈ [(s.heap.push (newS w)).objs.size], s.heap.get? b = none := fun b hb => gone b (by
          rw [List.mem_singleton.mp hb, hz1]
          exact Nat.le_succ _)
        refine set_update_tups ((Walks.tuple hin _ a hneI items).toS) s.heap.objs.size hSf ks hsz hfew hval s.heap hk (gone _ (Nat.le_refl _)) hgone hu (items.size - 0) 0 _ (by omega) (Nat.zero_le _)
          ⟨⟨_, Heap.get?_push_size _ rfl, rfl, rfl⟩, ht1.push _⟩ (fun b o e => Heap.get?_push_of_some _ (Heap.get?_push_of_some _ e)) ⟨[], #[], 0, _, setTR_fresh (Heap.get?_push_of_some _ hS), Got.zero ks⟩ fun s' L es ep t hm hS' g' hkp => ?_
        obtain ⟨h', g2, d', tk', os'⟩ := s'
        have eg : g2 = s.gens := hm.gens
        have ed : d' = s.drawn := hm.drawn
        have eo : os' = s.os := hm.os
        subst eg ed eo
        rw [hsz] at g'
        show wpAny _ _ _ _ _ _
        refine wpAny_pure ?_
        show wpAny _ _ (ret Value.none) _ _ _
        exact wpAny_pure ⟨rfl, h', tk', L, es, ep, t, rfl, hS', g', hkp⟩
      · cases r₂ with
        | error e => exact hr₂
        | ok fl₂ =>
          cases fl₂ with
          | ret r =>
            obtain ⟨rfl, h', tk, L, es, ep, t, rfl, hS', g', hk'⟩ := hr₂
            repeat (any_goals (first
              | assumption
              | wp_step))
            exact q _ _ _ _ _ _ hS' g' hk'
          | _ => exact hr₂.elim
    | _ => exact hr.elim
end
def rSetT (K : PySem.W.Frag) (P : Program) (w : World) : List V → Hp → VK → Prop := fun xs H Q => ∃ (l : Addr) (ks : List (Addr × List Int)), xs = [V.ref l] ∧ SqT K H l (ks.map fun p => V.ref p.1) ∧ (∀ p ∈ ks, SqT K H p.1 (p.2.map V.int)) ∧ ks.length < 64 ∧
  ∀ a L, H a = none → (∀ p ∈ L, p ∈ ks) → (∀ p ∈ ks, p.2 ∈ L.map (·.2)) → Q (.ref a) (upd H a (SetTO P w a L))
/-- set(xs), xs a tuple of fewer than 64 tuples of ints -/
theorem cr_setT {X : Cx} (hc : X.calm = true) (hu : X.A.units + 64 < cLine) : CallR X (.type "set") (rSetT X.K X.prog X.w) := by
  intro pins s σ H xs us Q I r h
  obtain ⟨l, ks, rfl, hl, hk, hf, q⟩ := h
  rw [Vals.ref1 r]
  obtain ⟨its, rv, ht, hz⟩ := I.tuple hl
  refine set_of_tup (P := X.prog) (w := X.w) ks (I.ok.hd hc) (show s.heap.IsTuple l its.toArray from ht) (by simpa using refs_of_vals rv) (fun p hp => I.isT (hk p hp)) hf (by omega) fun h' tk L es ep t R g k => ?_
  have hn : H s.heap.objs.size = none := I.hok.fresh (Nat.le_refl _)
  exact ⟨.ref s.heap.objs.size, upd H s.heap.objs.size (SetTO X.prog X.w s.heap.objs.size L), I.laid (t' := tk) k (Nat.le_refl _) (setTO_new R.t0), rfl, q _ L hn (fun p hp => List.mem_of_mem_take (g.sub p hp)) fun p hp => g.all p (by rw [List.take_length]; exact hp)⟩
theorem setT {X : Cx} {P : Program} {w : World} (K : PySem.W.Frag) (hc : X.calm = true) (hu : X.A.units + 64 < cLine) (h1 : X.K = K := by rfl) (h2 : X.prog = P := by rfl) (h3 : X.w = w := by rfl) : CallR X (.type "set") (rSetT K P w) := by
  subst h1 h2 h3
  exact cr_setT hc hu
theorem sortedT {X : Cx} {P : Program} {w : World} (K : PySem.W.Frag) (hc : X.calm = true) (h1 : X.K = K := by rfl) (h2 : X.prog = P := by rfl) (h3 : X.w = w := by rfl) : CallR X (.builtin "sorted") (rSortedT K P w) := by
  subst h1 h2 h3
  exact cr_sortedT hc
end Pf


namespace Pf
open PySem PySem.Spec PyProof.Rows L2
/-! ### things of any kind -/
inductive Dq (K : PySem.W.Frag) (H : Hp) : V → PyData → Prop
  | dp {v : V} {d : PyData} : Dp K H v d → Dq K H v d
  | emp {a : Addr} : H a = some (.dK []) → Dq K H (.ref a) (.dict [])
def tyD : PyData → String
  | .none => "NoneType"
  | .bool _ => "bool"
  | .int _ => "int"
  | .str _ => "str"
  | .list _ => "list"
  | .tuple _ => "tuple"
  | .dict _ => "dict"
theorem sqT_ty {K : PySem.W.Frag} {H : Hp} {a : Addr} {xs : List V} (h : SqT K H a xs) : TyX K H (.ref a) (.type "tuple") := by
  rcases h with (h | ⟨o, h⟩) | ⟨o, _, _, h, c, _⟩
  · exact .base (.tup h)
  · exact .fTuple h
  · exact .kTuple h c
theorem sqL_ty {K : PySem.W.Frag} {H : Hp} {a : Addr} {xs : List V} (h : SqL K H a xs) : TyX K H (.ref a) (.type "list") := by
  rcases h with (h | ⟨o, h⟩) | ⟨o, _, _, h, c, _⟩
  · exact .base (.lst h)
  · exact .base (.frz h)
  · exact .kList h c
theorem Dq.ty {K : PySem.W.Frag} {H : Hp} {v : V} {d : PyData} (h : Dq K H v d) : TyX K H v (.type (tyD d)) := by
  cases h with
  | emp h => exact .base (.dK h)
  | dp h =>
    cases h with
    | non => exact .base .non
    | bl b => exact .base (.bl b)
    | int i => exact .base (.int i)
    | str x => exact .base (.str x)
    | lst h _ => exact sqL_ty h
    | tup h _ => exact sqT_ty h
def isTup : PyData → Bool
  | .tuple _ => true
  | _ => false
def isIntB : PyData → Bool
  | .int _ => true
  | .bool _ => true
  | _ => false
def isBl : PyData → Bool
  | .bool _ => true
  | _ => false
def isLst : PyData → Bool
  | .list _ => true
  | _ => false
def isStr : PyData → Bool
  | .str _ => true
  | _ => false
theorem kit_tup {K : PySem.W.Frag} (d : PyData) : PySem.W.kitOne K (.type (tyD d)) (.type "tuple") = some (isTup d) := by
  cases d <;> (simp only [tyD, isTup]; exact kit_ty (by decide +kernel))
theorem kit_lst {K : PySem.W.Frag} (d : PyData) : PySem.W.kitOne K (.type (tyD d)) (.type "list") = some (isLst d) := by
  cases d <;> (simp only [tyD, isLst]; exact kit_ty (by decide +kernel))
theorem kit_int {K : PySem.W.Frag} (d : PyData) : PySem.W.kitOne K (.type (tyD d)) (.type "int") = some (isIntB d) := by
  cases d <;> (simp only [tyD, isIntB]; exact kit_ty (by decide +kernel))
theorem kit_bool {K : PySem.W.Frag} (d : PyData) : PySem.W.kitOne K (.type (tyD d)) (.type "bool") = some (isBl d) := by
  cases d <;> (simp only [tyD, isBl]; exact kit_ty (by decide +kernel))
theorem kit_str {K : PySem.W.Frag} (d : PyData) : PySem.W.kitOne K (.type (tyD d)) (.type "str") = some (isStr d) := by
  cases d <;> (simp only [tyD, isStr]; exact kit_ty (by decide +kernel))
theorem dpAll_len {K : PySem.W.Frag} {H : Hp} : ∀ {vs : List V} {ds : List PyData}, DpAll K H vs ds → vs.length = ds.length
  | _, _, .nil => rfl
  | _, _, .cons _ t => by rw [List.length_cons, List.length_cons, dpAll_len t]
theorem dpAll_get {K : PySem.W.Frag} {H : Hp} : ∀ {vs : List V} {ds : List PyData} {i : Nat} {v : V}, DpAll K H vs ds → vs[i]? = some v → ∃ d, ds[i]? = some d ∧ Dp K H v d
  | _, _, _, _, .nil, e => by simp at e
  | _, _, 0, _, .cons r _, e => by
    simp at e
    subst e
    exact ⟨_, rfl, r⟩
  | _, _, i + 1, v, .cons _ t, e => by
    obtain ⟨d, h1, h2⟩ := dpAll_get (i := i) (v := v) t (by simpa using e)
    exact ⟨d, by simpa using h1, h2⟩
theorem sqT_ext {K : PySem.W.Frag} {H H' : Hp} {a : Addr} {xs : List V} (k : Ext H H') (h : SqT K H a xs) : SqT K H' a xs := by
  rcases h with (h | ⟨o, h⟩) | h
  · exact .inl (.inl (k _ _ h))
  · exact .inl (.inr ⟨o, k _ _ h⟩)
  · exact .inr h
theorem sqL_ext {K : PySem.W.Frag} {H H' : Hp} {a : Addr} {xs : List V} (k : Ext H H') (h : SqL K H a xs) : SqL K H' a xs := by
  rcases h with (h | ⟨o, h⟩) | h
  · exact .inl (.inl (k _ _ h))
  · exact .inl (.inr ⟨o, k _ _ h⟩)
  · exact .inr h
mutual
theorem dp_ext {K : PySem.W.Frag} {H H' : Hp} (k : Ext H H') : ∀ {v : V} {d : PyData}, Dp K H v d → Dp K H' v d
  | _, _, .non => .non
  | _, _, .bl b => .bl b
  | _, _, .int i => .int i
  | _, _, .str x => .str x
  | _, _, .lst h r => .lst (sqL_ext k h) (dpAll_ext k r)
  | _, _, .tup h r => .tup (sqT_ext k h) (dpAll_ext k r)
theorem dpAll_ext {K : PySem.W.Frag} {H H' : Hp} (k : Ext H H') : ∀ {vs : List V} {ds : List PyData}, DpAll K H vs ds → DpAll K H' vs ds
  | _, _, .nil => .nil
  | _, _, .cons r t => .cons (dp_ext k r) (dpAll_ext k t)
end
theorem Dq.ext {K : PySem.W.Frag} {H H' : Hp} {v : V} {d : PyData} (h : Dq K H v d) (k : Ext H H') : Dq K H' v d := by
  cases h with
  | dp h => exact .dp (dp_ext k h)
  | emp h => exact .emp (k _ _ h)
/-! ### two numbers in a tuple of any make -/
def TwoS (K : PySem.W.Frag) (H : Hp) (v : V) (y : Int × Int) : Prop := ∃ a, v = .ref a ∧ SqT K H a [.int y.1, .int y.2]
theorem TwoS.ext {K : PySem.W.Frag} {H H' : Hp} (k : Ext H H') {v : V} {y : Int × Int} (h : TwoS K H v y) : TwoS K H' v y := by
  obtain ⟨a, e, h⟩ := h
  exact ⟨a, e, sqT_ext k h⟩
theorem TwoS.of {K : PySem.W.Frag} {H : Hp} {v : V} {y : Int × Int} (h : TwoAt H v y) : TwoS K H v y := by
  obtain ⟨a, e, h⟩ := h
  exact ⟨a, e, SqT.of h⟩
/-- the two numbers of a thing, if it is such a tuple -/
def twoD : PyData → Option (Int × Int)
  | .tuple [.int i, .int j] => some (i, j)
  | _ => none
theorem twoD_some {d : PyData} {y : Int × Int} (h : twoD d = some y) : d = .tuple [.int y.1, .int y.2] := by
  unfold twoD at h
  split at h
  · cases h
    rfl
  · cases h
theorem two_dp {K : PySem.W.Frag} {H : Hp} {v : V} {d : PyData} {y : Int × Int} (h : Dp K H v d) (e : twoD d = some y) : TwoS K H v y := by
  have e := twoD_some e
  subst e
  cases h with
  | tup h r =>
    cases r with
    | cons r1 r =>
      cases r with
      | cons r2 r =>
        cases r
        cases r1
        cases r2
        exact ⟨_, rfl, h⟩
theorem paired_two {K : PySem.W.Frag} {H : Hp} : ∀ {vs : List V} {ds : List PyData} {qs : List (Int × Int)}, DpAll K H vs ds → ds.mapM twoD = some qs → Paired (TwoS K H) vs qs
  | _, [], qs, .nil, e => by
    rw [List.mapM_nil] at e
    cases e
    exact .nil
  | _, d :: ds, qs, .cons h t, e => by
    rw [List.mapM_cons] at e
    cases h1 : twoD d with
    | none =>
      rw [h1] at e
      cases e
    | some y =>
      rw [h1] at e
      cases h2 : ds.mapM twoD with
      | none =>
        rw [h2] at e
        cases e
      | some ys =>
        rw [h2] at e
        cases e
        exact .cons (two_dp h h1) (paired_two t h2)
def dTw (y : Int × Int) : PyData := .tuple [.int y.1, .int y.2]
theorem dp_twos {K : PySem.W.Frag} {H : Hp} : ∀ {vs : List V} {qs : List (Int × Int)}, Paired (TwoS K H) vs qs → DpAll K H vs (qs.map dTw)
  | _, _, .nil => .nil
  | _, _, .cons ⟨_, e, h⟩ t => .cons (e ▸ .tup h (.cons (.int _) (.cons (.int _) .nil))) (dp_twos t)
theorem mapM_len {α β : Type} {f : α → Option β} : ∀ {xs : List α} {ys : List β}, xs.mapM f = some ys → ys.length = xs.length
  | [], ys, e => by
    rw [List.mapM_nil] at e
    cases e
    rfl
  | x :: xs, ys, e => by
    rw [List.mapM_cons] at e
    cases h1 : f x with
    | none =>
      rw [h1] at e
      cases e
    | some y =>
      rw [h1] at e
      cases h2 : xs.mapM f with
      | none =>
        rw [h2] at e
        cases e
      | some zs =>
        rw [h2] at e
        cases e
        rw [List.length_cons, List.length_cons, mapM_len h2]
theorem mapM_snoc {α β : Type} {f : α → Option β} : ∀ {xs : List α} {ys : List β} {x : α} {y : β}, xs.mapM f = some ys → f x = some y → (xs ++ [x]).mapM f = some (ys ++ [y])
  | xs, ys, x, y, e, e2 => by
    rw [List.mapM_append, e]
    show (do let z ← [x].mapM f; pure (ys ++ z)) = _
    rw [List.mapM_cons, e2, List.mapM_nil]
    rfl
theorem mapM_get {α β : Type} {f : α → Option β} : ∀ {xs : List α} {ys : List β} {i : Nat} {x : α}, xs.mapM f = some ys → xs[i]? = some x → ∃ y, f x = some y ∧ ys[i]? = some y
  | [], _, _, _, _, e2 => by simp at e2
  | x :: xs, ys, i, z, e, e2 => by
    rw [List.mapM_cons] at e
    cases h1 : f x with
    | none =>
      rw [h1] at e
      cases e
    | some y =>
      rw [h1] at e
      cases h2 : xs.mapM f with
      | none =>
        rw [h2] at e
        cases e
      | some zs =>
        rw [h2] at e
        cases e
        cases i with
        | zero =>
          simp at e2
          subst e2
          exact ⟨y, h1, rfl⟩
        | succ i =>
          obtain ⟨y2, q1, q2⟩ := mapM_get (i := i) h2 (by simpa using e2)
          exact ⟨y2, q1, by simpa using q2⟩
theorem mapM_none {α β : Type} {f : α → Option β} : ∀ {xs : List α} {x : α}, x ∈ xs → f x = none → xs.mapM f = none
  | y :: xs, x, h, e => by
    rw [List.mapM_cons]
    rcases List.mem_cons.mp h with rfl | h
    · rw [e]
      rfl
    · cases h1 : f y with
      | none => rfl
      | some z =>
        show (do let zs ← xs.mapM f; pure (z :: zs)) = none
        rw [mapM_none h e]
        rfl
/-! ### repr of a tuple of two, the second anything -/
mutual
def plainD : PyData → Bool
  | .none => true
  | .bool _ => true
  | .int _ => true
  | .str _ => true
  | .list _ => false
  | .tuple ds => plainDs ds
  | .dict _ => false
def plainDs : List PyData → Bool
  | [] => true
  | d :: r => plainD d && plainDs r
end
theorem plainDs_all {ds : List PyData} (h : ∀ d ∈ ds, plainD d = true) : plainDs ds = true := by
  induction ds with
  | nil => rfl
  | cons d r ih =>
    rw [plainDs, h d (List.mem_cons_self ..), ih fun x hx => h x (List.mem_cons_of_mem _ hx)]
    rfl
mutual
theorem reads_plain {h : Heap} : ∀ (d : PyData) (u : Value) (as : List Addr), plainD d = true → Reads h u d as → as = []
  | .none, _, _, _, r => by cases r; rfl
  | .bool _, _, _, _, r => by cases r; rfl
  | .int _, _, _, _, r => by cases r; rfl
  | .str _, _, _, _, r => by cases r; rfl
  | .list _, _, _, e, _ => by simp [plainD] at e
  | .tuple ds, _, _, e, r => by
    cases r with
    | tuple _ _ _ r => exact reads_plains ds _ _ (by simpa [plainD] using e) r
  | .dict _, _, _, e, _ => by simp [plainD] at e
theorem reads_plains {h : Heap} : ∀ (ds : List PyData) (us : List Value) (as : List Addr), plainDs ds = true → ReadsAll h us ds as → as = []
  | [], _, _, _, r => by cases r; rfl
  | d :: ds, _, _, e, r => by
    rw [plainDs, Bool.and_eq_true] at e
    cases r with
    | cons r1 r2 => rw [reads_plain d _ _ e.1 r1, reads_plains ds _ _ e.2 r2]; rfl
end
end Pf


namespace Pf
open PySem PySem.Spec PyProof.Rows L2
theorem tt_len (r x : Str) : (tupleText [r, x]).length = r.length + x.length + 4 := by
  have e1 : ("(" : Str).length = 1 := by decide +kernel
  have e2 : (", " : Str).length = 2 := by decide +kernel
  have e3 : ((")" : String) : Str).length = 1 := by decide +kernel
  show (("(" : Str) ++ (r ++ ", " ++ x) ++ ((")" : String) : Str)).length = _
  rw [Str.length_append, Str.length_append, Str.length_append, Str.length_append, e1, e2, e3]
  omega
theorem len_emp (d : PyData) : (PyData.tuple [d, .dict []]).shown.length = (PyData.tuple [d, .tuple []]).shown.length := by
  have e1 : (dictText []).length = 2 := by decide +kernel
  have e2 : (tupleText []).length = 2 := by decide +kernel
  simp only [PyData.shown, PyData.shownAll, PyData.shownKv]
  rw [tt_len, tt_len, e1, e2]
def rShow2 (K : PySem.W.Frag) : List V → Hp → VK → Prop := fun xs H Q => ∃ (t : Addr) (x y : V) (dx dy : PyData) (m k : Nat), xs = [.ref t] ∧ SqT K H t [x, y] ∧ Dp K H x dx ∧ plainD dx = true ∧ Dq K H y dy ∧ Sm m k dx ∧ (Sm m k dy ∨ dy = .dict []) ∧ m ≤ 200000 ∧ k ≤ 40 ∧ Q (.str (PyData.tuple [dx, dy]).shown) H
theorem sm_two' {m k : Nat} {a b : PyData} (ha : Sm m k a) (hb : Sm m k b) (hm : m ≤ 200000) : Sm 1000000 (k + 1) (.tuple [a, b]) :=
  Sm.tup (n := 2) (m := m) (k := k) (Nat.le_refl _) (fun d hd => by
    simp only [List.mem_cons, List.not_mem_nil, or_false] at hd
    rcases hd with rfl | rfl
    · exact ha
    · exact hb) (by omega)
theorem call_show2 (K : PySem.W.Frag) {X : Cx} (hg : X.A.guards = some []) (hu : X.A.units + 64 < cLine) (hK : X.K = K := by rfl) : CallR X (.builtin "repr") (rShow2 K) := by
  subst hK
  intro pins s σ H xs us Q I r h
  obtain ⟨t, x, y, dx, dy, m, k, rfl, hT, hx, px, hy, sx, sy, hm, hk, q⟩ := h
  cases hy with
  | dp hy =>
    have sy : Sm m k dy := sy.elim id fun e => by
      subst e
      cases hy
    exact call_show X.K hg hu rfl pins s σ H _ us Q I r ⟨.ref t, _, _, _, rfl, .tup hT (.cons hx (.cons hy .nil)), sm_two' sx sy hm, Nat.le_refl _, by omega, q⟩
  | @emp a hA =>
    obtain ⟨u, rfl, rfl⟩ := vals1 r
    obtain ⟨its, rv, ⟨o, ho, hc, n, hd⟩, hz⟩ := I.tuple hT
    obtain ⟨_, hsys, vs, rel, od, es, ep, h1, h2, h3, _, h5, _⟩ := dk_of I.hok hA
    cases rel
    have hes : es.toList = [] := List.length_eq_zero_iff.mp h5.length
    cases rv with
    | cons r1 r2 =>
      cases r2 with
      | cons r3 r4 =>
        cases r4
        cases r3
        obtain ⟨as, ra⟩ := Dp.reads I _ _ _ hx r1
        have ea := reads_plain _ _ _ px ra
        subst ea
        have rb : Reads s.heap (.ref a) (.dict []) (a :: [] ++ []) := Reads.dict h1 h2.1 h3 (by rw [hes]; exact .nil) (by rw [hes]; exact .nil)
        have rt : Reads s.heap (.ref t) (.tuple [dx, .dict []]) ([] ++ ((a :: [] ++ []) ++ [])) := Reads.tuple ho hc hd (.cons ra (.cons rb .nil))
        have s0 : Sm m (k + 1) (.tuple []) := (Sm.tup (n := 0) (m := 0) (k := k) (M := 0) (ds := []) (Nat.le_refl _) (fun d hd => by cases hd) (Nat.le_refl _)).le (Nat.zero_le _) (Nat.le_refl _)
        have s2 := sm_two' (sx.le (Nat.le_refl _) (Nat.le_succ k)) s0 hm
        refine PySem.repr_of_reads' rt ?_ (fun _ z => ?_) hg ?_ (fun _ _ e => e) (fun h' u tk keep => ⟨.str _, H, I.kept keep, ⟨_, rfl⟩, q⟩) ?_
        · have := sx.sho
          simp [PyData.showable, PyData.showableAll, PyData.showableKv, this]
        · have e : sysModules = a := by simpa using z
          rw [← e] at hsys
          cases hsys
        · have := sx.dep
          simp only [PyData.depth, PyData.depthAll, PyData.depthKv]
          omega
        · rw [len_emp]
          exact s2.short (Nat.le_refl _) (by omega)
/-! ### how many unlike ones -/
theorem dd_len : ∀ (ns acc : List Int), acc.Nodup → ((ns.foldl step_dedup acc).length = acc.length + ns.length ↔ (acc ++ ns).Nodup)
  | [], acc, h => by simp [h]
  | x :: r, acc, h => by
    rw [List.foldl_cons]
    unfold step_dedup
    by_cases c : acc.any (· == x) = true
    · rw [if_pos c]
      have hx : x ∈ acc := by
        obtain ⟨y, hy, e⟩ := List.any_eq_true.mp c
        rw [← eq_of_beq e]
        exact hy
      have hle := foldl_step_dedup_length_le acc r
      constructor
      · intro e
        rw [List.length_cons] at e
        unfold step_dedup at hle
        omega
      · intro e
        have := (List.nodup_append.mp e).2.2 x hx x (List.mem_cons_self ..)
        exact absurd rfl this
    · rw [if_neg c]
      have hx : x ∉ acc := fun z => c (List.any_eq_true.mpr ⟨x, z, beq_self_eq_true x⟩)
      have hn : (acc ++ [x]).Nodup := List.nodup_append.mpr ⟨h, by simp, fun a ha b hb e => by
        rw [List.mem_singleton] at hb
        subst hb
        subst e
        exact hx ha⟩
      have ih := dd_len r (acc ++ [x]) hn
      rw [List.length_append, List.length_singleton, List.append_assoc, List.singleton_append] at ih
      rw [List.length_cons]
      unfold step_dedup at ih
      constructor
      · intro e
        exact ih.mp (by omega)
      · intro e
        have := ih.mpr e
        omega
theorem range_getD (ns : List Int) : (List.range ns.length).map (fun i => ns.getD i 0) = ns := by
  refine List.ext_getElem? fun i => ?_
  rw [List.getElem?_map]
  by_cases h : i < ns.length
  · rw [List.getElem?_range h, List.getElem?_eq_getElem h]
    simp [h]
  · rw [List.getElem?_eq_none (by rw [List.length_range]; omega), List.getElem?_eq_none (by omega)]
    rfl
theorem met_lt (ns : List Int) : (firstMet (fun i => ns.getD i 0) ns.length).length < ns.length ↔ ¬ ns.Nodup := by
  unfold firstMet
  rw [range_getD]
  have h1 := dd_len ns [] List.nodup_nil
  have h2 := foldl_step_dedup_nil_length_le ns
  rw [List.nil_append, List.length_nil, Nat.zero_add] at h1
  constructor
  · intro e h
    have := h1.mpr h
    omega
  · intro e
    by_cases c : (ns.foldl step_dedup []).length = ns.length
    · exact absurd (h1.mp c) e
    · omega
section
variable {X : Cx}
def tLenSetM (K : PySem.W.Frag) (ta : TE) : TE := fun σ H Q => ta σ H fun x H1 => ∃ (l : Addr) (ns : List Int), x = V.ref l ∧ SqL K H1 l (ns.map V.int) ∧ ns.length < 1000 ∧ ∀ n : Nat, (n < ns.length ↔ ¬ ns.Nodup) → n ≤ ns.length → Q (.int n) H1
theorem pe_lenSetM {a : Expr} {ta : TE} {p p2 q pos : Pos} (hc : X.calm = true) (hg : Gl X "len") (hm : X.mg "len" = none) (hg2 : Gl X "set") (hm2 : X.mg "set" = none) (ha : PE X a ta)
    (na : starEach [a] X.env = (false, eval a X.env) :: starEach [] X.env := by rfl) : PE X (.Call (.Name "len" p) [.Call (.Name "set" p2) [a] [] q] [] pos) (tLenSetM X.K ta) := by
  refine ⟨fun pins s σ H Q I h => ?_⟩
  refine Call_ (ld_blt I hg hm PySem.boot_len (PyProof.Rows.callWith_builtin1 (PyProof.Rows.args_cons ?_ rfl) rfl rfl))
  refine Call_ (ld_blt I hg2 hm2 PyProof.Rows.boot_set ?_)
  refine PyProof.Rows.callWith_type1 (PyProof.Rows.args_cons (thn (ha.run pins s σ H _ I h) fun v s1 ⟨x, H1, I1, r1, q1⟩ => PyProof.Rows.args_nil ?_) na) na rfl
  obtain ⟨l, ns, ex, hL, hn, q2⟩ := q1
  subst ex
  cases r1
  obtain ⟨its, r, pl, hz⟩ := I1.list hL
  have el : its.length = ns.length := by
    have := r.length
    rw [List.length_map] at this
    exact this.symm
  have hmet : (firstMet (fun i => ns.getD i 0) ns.length).length ≤ ns.length := firstMet_length_le _ _
  refine call_set_list (I1.ok.hd hc) pl.isList (ns := ns) (intsAre_of r) (by rw [List.size_toArray, el]; unfold scanBound; omega) fun h' tk hS hk => ?_
  have el2 : its.toArray.size = ns.length := by rw [List.size_toArray, el]
  rw [el2] at hS
  obtain ⟨o, es, ep, t, ho, hex, hd, _, _, _, hf, hsz⟩ := hS
  have I2 : Inv X pins σ H1 { s1 with heap := h', toks := tk } := I1.kept fun b u e => hk b u (Heap.lt_size e) e
  refine PyProof.Rows.args_nil ?_
  exact call_len_set ho hex hd hf (by omega) ⟨.int (firstMet (fun i => ns.getD i 0) ns.length).length, H1, I2.tok _, ⟨_, by rw [hsz]⟩, q2 _ (met_lt ns) hmet⟩
end
/-! ### a tuple backwards -/
theorem sl_back {pg : Program} {ww : World} {AA : Around} {EE : Value → Shared → Prop} {st : Shared} {sa : Addr} {vl vu vs : Value} {n : Nat} {Q : Int × Int × Nat → Shared → Prop} (hS : st.heap.IsSliceOf sa vl vu vs) (pl : IsPart vl none) (pu : IsPart vu none) (ps : IsPart vs (some (-1)))
    (q : Q ((n : Int) - 1, -1, n) st) : wpAny (model pg ww) AA (Builtin.Slice.sliceApplied (.ref sa) (pure (n : Int))) Q EE st := by
  obtain ⟨o1, ho1, _, hd1⟩ := id hS
  unfold Builtin.Slice.sliceApplied Builtin.Slice.sliceFields
  refine wpAny_bind (wpAny_bind (wpAny_field ho1 hd1 (x := vl) rfl (wpAny_bind (wpAny_field ho1 hd1 (x := vu) rfl (wpAny_bind (wpAny_field ho1 hd1 (x := vs) rfl (wpAny_pure (wpAny_bind (HT.slicePart_ ps ?_)))))))))
  show wpAny _ _ (if ((-1 : Int) == 0) = true then _ else _) _ _ st
  rw [if_neg (by decide)]
  refine wpAny_bind (HT.slicePart_ pl (wpAny_bind (HT.slicePart_ pu (wpAny_bind (wpAny_pure ?_)))))
  have e1 : Builtin.Slice.sliceAdjust none none (-1) (n : Int) = ((n : Int) - 1, -1) := rfl
  have e2 : Builtin.Slice.slicePlaces ((n : Int) - 1) (-1) (-1) = n := by
    unfold Builtin.Slice.slicePlaces
    rw [if_neg (by decide)]
    simp only [Int.reduceNeg, Int.neg_neg, Int.ediv_one]
    split <;> omega
  show wpAny _ _ (match Builtin.Slice.sliceAdjust none none (-1) (n : Int) with | (a, b) => pure (a, (-1 : Int), Builtin.Slice.slicePlaces a b (-1))) _ _ st
  rw [e1]
  show wpAny _ _ (pure ((n : Int) - 1, (-1 : Int), Builtin.Slice.slicePlaces ((n : Int) - 1) (-1) (-1))) _ _ st
  rw [e2]
  exact wpAny_pure q
theorem pick_back (xs : Array Value) : ((List.range xs.size).filterMap fun (m : Nat) => xs[(((xs.size : Int) - 1) + (m : Int) * -1).toNat]?).toArray = xs.toList.reverse.toArray := by
  congr 1
  have e : ∀ m ∈ List.range xs.size, xs[(((xs.size : Int) - 1) + (m : Int) * -1).toNat]? = some (xs.toList.reverse.getD m .none) := fun m hm => by
    have hm := List.mem_range.mp hm
    rw [show (((xs.size : Int) - 1) + (m : Int) * -1).toNat = xs.size - 1 - m by omega, List.getD_eq_getElem?_getD, List.getElem?_reverse (by rw [Array.length_toList]; exact hm), Array.length_toList, Array.getElem?_toList, Array.getElem?_eq_getElem (by omega)]
    rfl
  have e2 : ∀ l : List Nat, (∀ m ∈ l, xs[(((xs.size : Int) - 1) + (m : Int) * -1).toNat]? = some (xs.toList.reverse.getD m .none)) → (l.filterMap fun (m : Nat) => xs[(((xs.size : Int) - 1) + (m : Int) * -1).toNat]?) = l.map fun m => xs.toList.reverse.getD m .none := by
    intro l
    induction l with
    | nil => intro _; rfl
    | cons m r ih =>
      intro h
      rw [List.filterMap_cons, h m (List.mem_cons_self ..), List.map_cons, ih fun z hz => h z (List.mem_cons_of_mem _ hz)]
  rw [e2 _ e]
  refine List.ext_getElem? fun i => ?_
  rw [List.getElem?_map]
  by_cases h : i < xs.size
  · rw [List.getElem?_range h]
    show some (xs.toList.reverse.getD i .none) = _
    rw [List.getD_eq_getElem?_getD, List.getElem?_eq_getElem (by rw [List.length_reverse, Array.length_toList]; exact h)]
    rfl
  · rw [List.getElem?_eq_none (by rw [List.length_range]; omega), List.getElem?_eq_none (by rw [List.length_reverse, Array.length_toList]; omega)]
    rfl
theorem getItem_tuple_back {pg : Program} {ww : World} {AA : Around} {EE : Value → Shared → Prop} {st : Shared} {tp sa : Addr} {items : Array Value} {vl vu vs : Value} {Q : Value → Shared → Prop} (hT : IsTup st.heap tp items) (hS : st.heap.IsSliceOf sa vl vu vs) (pl : IsPart vl none) (pu : IsPart vu none) (ps : IsPart vs (some (-1)))
    (q : Q (.ref st.heap.objs.size) { st with heap := st.heap.push { cls := .type "tuple", data := .seq items.toList.reverse.toArray } }) (hz : items.size ≤ sizeLine) : wpAny (model pg ww) AA (getItem (.ref tp) (.ref sa)) Q EE st := by
  have hfit : sizeOk (.seq items.toList.reverse.toArray) := by
    show items.toList.reverse.toArray.size ≤ sizeLine
    rw [List.size_toArray, List.length_reverse, Array.length_toList]
    exact hz
  have hSl : st.TypeIs (.ref sa) "slice" := let ⟨o, h1, h2, _⟩ := hS; ⟨o, h1, h2⟩
  unfold getItem; try with_reducible refine wpAny_holding ?_
  first | refine wpAny_bind (wpAny_pure ?_) | skip
  refine wpAny_bind (wpAny_sequenceKey hT.typeIs (by decide) (wpAny_bind (wpAny_callSpecial?_slot (name := Str.ofString "__getitem__") hT.typeIs slot_tuple_getitem (wpAny_call_entry slot_tuple_getitem hT.typeIs entry_tuple_getitem ?_ (args_tuple_getitem _ _)))))
  show wpAny _ _ (Builtin.Tuple.tupleItemsOf (.ref tp) >>= _) _ _ st
  refine wpAny_bind (tupleItemsOf_ hT (wpAny_bind (wpAny_typeOf hSl ?_)))
  rw [if_pos (by decide)]
  refine wpAny_bind (sl_back hS pl pu ps ?_)
  have no : ¬ (((((items.size : Int) - 1) == 0 && (-1 : Int) == 1 && items.size == items.size)) = true) := fun z => by
    rw [Bool.and_eq_true, Bool.and_eq_true] at z
    exact absurd z.1.2 (by decide)
  show wpAny _ _ (if ((((items.size : Int) - 1) == 0 && (-1 : Int) == 1 && items.size == items.size)) = true then _ else _) _ _ st
  rw [if_neg no, pick_back]
  first
    | exact wpAny_bind (m := Builtin.Tuple.tupleExact _) (wpAny_newObj_type (wpAny_pure ⟨_, rfl, wpAny_pure q⟩) hfit)
    | exact wpAny_bind (m := Builtin.Tuple.tupleExact _) (wpAny_newObj_type (wpAny_bind (wpAny_pure (wpAny_pure ⟨_, rfl, wpAny_pure q⟩))) hfit)
    | exact wpAny_bind (wpAny_bind (m := Builtin.Tuple.tupleExact _) (wpAny_newObj_type (wpAny_pure (wpAny_pure ⟨_, rfl, wpAny_pure q⟩)) hfit))
    | exact wpAny_bind (wpAny_bind (m := Builtin.Tuple.tupleExact _) (wpAny_newObj_type (wpAny_pure ⟨_, rfl, wpAny_pure q⟩) hfit))
def tRevT (K : PySem.W.Frag) (te : TE) : TE := fun σ H Q => te σ H fun x H1 => ∃ a xs, x = .ref a ∧ SqT K H1 a xs ∧ ∀ p, H1 p = none → Q (.ref p) (upd H1 p (.tup xs.reverse))
theorem pe_revT {X : Cx} {e : Expr} {te : TE} {k : Nat} {p1 p2 p3 pos : Pos} (he : PE X e te) : PE X (.Subscript e (.Slice none none (some (.UnaryOp .USub (.Constant (.int 1) k p1) p2)) p3) pos) (tRevT X.K te) := by
  refine ⟨fun pins s σ H Q I h => ?_⟩
  refine Subscript_ (thn (he.run pins s σ H _ I h) fun v s1 ⟨x, H1, I1, r1, a, xs, ex, hx, q⟩ => ?_)
  subst ex
  cases r1
  have hst : PO X (some (.UnaryOp .USub (.Constant (.int 1) k p1) p2)) (tPart (tUn (rU fun i => .int (-i)) (tC (.int 1)))) := po_some (pe_un un_neg pe_int)
  refine wpAny_Slice (thn (po_none.run pins s1 σ H1 (fun o H2 => o = none ∧ H2 = H1) I1 ⟨rfl, rfl⟩) fun vl s2 ⟨l, H2, I2, pl, el, e2⟩ => ?_)
  subst el e2
  refine thn (po_none.run pins s2 σ H2 (fun o H3 => o = none ∧ H3 = H2) I2 ⟨rfl, rfl⟩) fun vu s3 ⟨u, H3, I3, pu, eu, e3⟩ => ?_
  subst eu e3
  refine thn (hst.run pins s3 σ H3 (fun o H4 => o = some (-1) ∧ H4 = H3) I3 ⟨1, rfl, -1, rfl, rfl, rfl⟩) fun vs s4 ⟨o, H4, I4, ps, eo, e4⟩ => ?_
  subst eo e4
  have I5 : Inv X pins σ H4 { s4 with heap := s4.heap.push { cls := .type "slice", data := .fields #[vl, vu, vs] } } := I4.kept (t' := s4.toks) fun b ob z => Heap.get?_push_of_some _ z
  obtain ⟨its, r, ht, hz⟩ := I5.tuple hx
  have hlen : its.toArray.size = xs.length := by rw [List.size_toArray]; exact r.length.symm
  refine tail_any (ops := [.ref a, .ref s4.heap.objs.size]) ht.typeIs PyProof.Rows.slot_tuple_getitem.lookup ?_ (by with_unfolding_all rfl)
  refine getItem_tuple_back ht (Heap.IsSliceOf.new _ vl vu vs) pl pu ps ?_ (by rw [hlen]; exact hz)
  refine ⟨.ref _, _, I5.laid (t' := s4.toks) (o := .tup xs.reverse) (fun b ob z => Heap.get?_push_of_some _ z) (Nat.le_refl _) ?_, rfl, q _ (I5.hok.fresh (Nat.le_refl _))⟩
  exact ⟨by rw [List.length_reverse]; exact hz, _, r.reverse, IsTup.new _ _⟩
/-- a part of a tuple of any make; two put together -/
def rSlS (K : PySem.W.Frag) : V → Option Int → Option Int → Hp → VK → Prop := fun x lo hi H Q => ∃ a xs, x = .ref a ∧ SqT K H a xs ∧ ∀ p H', Ext H H' → SqT K H' p (cutV xs lo hi) → Q (.ref p) H'
theorem slS (K : PySem.W.Frag) {X : Cx} (h : X.K = K := by rfl) : SlR X (rSlS K) := fun pins s σ H x v vl vu lo hi sl Q I rx hs pl pu ⟨a, xs, ex, ha, q⟩ => by
  refine slA K h pins s σ H x v vl vu lo hi sl Q I rx hs pl pu ⟨a, xs, ex, ha, fun z => q a H Ext.refl ?_, fun _ p hp => q p _ (Ext.new hp) (SqT.of upd_same)⟩
  have e : cutV xs lo hi = xs := by
    unfold cutV
    rw [z.1, z.2, List.drop_zero, Nat.sub_zero, List.take_length]
  rw [e]
  exact ha
def rCatS (K : PySem.W.Frag) : R2 := fun x y H Q => ∃ a b xs ys, x = .ref a ∧ y = .ref b ∧ SqT K H a xs ∧ SqT K H b ys ∧ xs.length + ys.length ≤ sizeLine ∧ ∀ p H', Ext H H' → SqT K H' p (xs ++ ys) → Q (.ref p) H'
theorem catS (K : PySem.W.Frag) {X : Cx} (h : X.K = K := by rfl) : OpR X (binaryOp .Add) (rCatS K) := fun pins s σ H x y v u Q I rx ry ⟨a, b, xs, ys, ex, ey, ha, hb, hz, q⟩ => by
  refine catA K h pins s σ H x y v u Q I rx ry ⟨a, b, xs, ys, ex, ey, ha, hb, hz, fun z => q b H Ext.refl (by rw [z]; exact hb), fun _ z => q a H Ext.refl (by rw [z, List.append_nil]; exact ha), fun _ _ p hp => q p _ (Ext.new hp) (SqT.of upd_same)⟩
/-- sum of a list of lists and a list -/
def rSumS (K : PySem.W.Frag) : List V → Hp → VK → Prop := fun vs H Q => ∃ (a b : Addr) (ls : List (Addr × List V)) (xs : List V), vs = [.ref a, .ref b] ∧ SqL K H a (ls.map fun x => .ref x.1) ∧ (∀ x ∈ ls, H x.1 = some (.lst x.2)) ∧ H b = some (.lst xs) ∧ xs.length + (ls.map (·.2)).flatten.length ≤ sizeLine ∧
  ∀ p H', Ext H H' → SqL K H' p (xs ++ (ls.map (·.2)).flatten) → Q (.ref p) H'
theorem sumS (K : PySem.W.Frag) {X : Cx} (hcalm : X.calm = true) (hK : X.K = K := by rfl) : CallR X (.builtin "sum") (rSumS K) := fun pins s σ H vs us Q I r ⟨a, b, ls, xs, e, h1, h2, h3, h4, q⟩ =>
  cr_sumL K hcalm hK pins s σ H vs us Q I r ⟨a, b, ls, xs, e, h1, h2, h3, h4, fun z => q b H Ext.refl (by rw [z]; show SqL K H b (xs ++ []); rw [List.append_nil]; exact SqL.of h3), fun _ p hp => q p _ (Ext.new hp) (SqL.of upd_same)⟩
end Pf


namespace Pf
open PySem PySem.Spec PyProof.Rows L2
/-! ### data in plain tuples and lists; a heap with two places hidden -/
mutual
inductive Ds (H : Hp) : V → PyData → Prop
  | non : Ds H .non .none
  | bl (b : Bool) : Ds H (.bl b) (.bool b)
  | int (i : Int) : Ds H (.int i) (.int i)
  | str (x : Str) : Ds H (.str x) (.str x)
  | lst {a : Addr} {xs : List V} {ds : List PyData} : H a = some (.lst xs) → DsAll H xs ds → Ds H (.ref a) (.list ds)
  | tup {a : Addr} {xs : List V} {ds : List PyData} : H a = some (.tup xs) → DsAll H xs ds → Ds H (.ref a) (.tuple ds)
inductive DsAll (H : Hp) : List V → List PyData → Prop
  | nil : DsAll H [] []
  | cons {v : V} {vs : List V} {d : PyData} {ds : List PyData} : Ds H v d → DsAll H vs ds → DsAll H (v :: vs) (d :: ds)
end
mutual
theorem ds_ext {H H' : Hp} (k : Ext H H') : ∀ {v : V} {d : PyData}, Ds H v d → Ds H' v d
  | _, _, .non => .non
  | _, _, .bl b => .bl b
  | _, _, .int i => .int i
  | _, _, .str x => .str x
  | _, _, .lst h r => .lst (k _ _ h) (dsAll_ext k r)
  | _, _, .tup h r => .tup (k _ _ h) (dsAll_ext k r)
theorem dsAll_ext {H H' : Hp} (k : Ext H H') : ∀ {vs : List V} {ds : List PyData}, DsAll H vs ds → DsAll H' vs ds
  | _, _, .nil => .nil
  | _, _, .cons r t => .cons (ds_ext k r) (dsAll_ext k t)
end
mutual
theorem Ds.dp {K : PySem.W.Frag} {H : Hp} : ∀ {v : V} {d : PyData}, Ds H v d → Dp K H v d
  | _, _, .non => .non
  | _, _, .bl b => .bl b
  | _, _, .int i => .int i
  | _, _, .str x => .str x
  | _, _, .lst h r => .lst (SqL.of h) (DsAll.dp r)
  | _, _, .tup h r => .tup (SqT.of h) (DsAll.dp r)
theorem DsAll.dp {K : PySem.W.Frag} {H : Hp} : ∀ {vs : List V} {ds : List PyData}, DsAll H vs ds → DpAll K H vs ds
  | _, _, .nil => .nil
  | _, _, .cons r t => .cons (Ds.dp r) (DsAll.dp t)
end
theorem dsAll_len {H : Hp} : ∀ {vs : List V} {ds : List PyData}, DsAll H vs ds → vs.length = ds.length
  | _, _, .nil => rfl
  | _, _, .cons _ t => by rw [List.length_cons, List.length_cons, dsAll_len t]
theorem dsAll_get {H : Hp} : ∀ {vs : List V} {ds : List PyData} {i : Nat} {v : V}, DsAll H vs ds → vs[i]? = some v → ∃ d, ds[i]? = some d ∧ Ds H v d
  | _, _, _, _, .nil, e => by simp at e
  | _, _, 0, _, .cons r _, e => by
    simp at e
    subst e
    exact ⟨_, rfl, r⟩
  | _, _, i + 1, v, .cons _ t, e => by
    obtain ⟨d, h1, h2⟩ := dsAll_get (i := i) (v := v) t (by simpa using e)
    exact ⟨d, by simpa using h1, h2⟩
theorem dsAll_snoc {H : Hp} : ∀ {vs : List V} {ds : List PyData} {v : V} {d : PyData}, DsAll H vs ds → Ds H v d → DsAll H (vs ++ [v]) (ds ++ [d])
  | _, _, _, _, .nil, h => .cons h .nil
  | _, _, _, _, .cons r t, h => .cons r (dsAll_snoc t h)
/-- anything: data, or an empty dict -/
def Dz (H : Hp) (v : V) (d : PyData) : Prop := Ds H v d ∨ ∃ a, v = .ref a ∧ H a = some (.dK []) ∧ d = .dict []
theorem Dz.ext {H H' : Hp} {v : V} {d : PyData} (h : Dz H v d) (k : Ext H H') : Dz H' v d := by
  rcases h with h | ⟨a, e, h, e2⟩
  · exact .inl (ds_ext k h)
  · exact .inr ⟨a, e, k _ _ h, e2⟩
theorem Dz.dq {K : PySem.W.Frag} {H : Hp} {v : V} {d : PyData} (h : Dz H v d) : Dq K H v d := by
  rcases h with h | ⟨a, rfl, h, rfl⟩
  · exact .dp h.dp
  · exact .emp h
theorem Bg.non {B : Nat} : Bg B 0 0 .none := ⟨by simp [PyData.canLay0], by simp [PyData.showable], by simp [PyData.leavesShort], by simp [PyData.weight], by simp [PyData.depth]⟩
theorem Bg.bl {B : Nat} (b : Bool) : Bg B 0 0 (.bool b) := ⟨by simp [PyData.canLay0], by simp [PyData.showable], by simp [PyData.leavesShort], by simp [PyData.weight], by simp [PyData.depth]⟩
theorem Bg.str {B : Nat} {x : Str} {n : Nat} (h : PyData.strOk x = true) (h2 : (x.cps.toList.all fun c => decide (c < 16 ^ 8)) = true) (hn : x.length ≤ n) : Bg B n 0 (.str x) :=
  ⟨by simpa only [PyData.canLay0] using h, by simp [PyData.showable], by simp only [PyData.leavesShort]; exact h2, by simp only [PyData.weight]; exact hn, by simp [PyData.depth]⟩
theorem Bg.shaped {B m k : Nat} {d : PyData} (h : Bg B m k d) (hk : k ≤ 50) : SeqAt.shaped d = true := by
  show (d.canLay0 && decide (d.depth ≤ 64)) = true
  rw [h.lay, decide_eq_true (show d.depth ≤ 64 from Nat.le_trans h.dep (by omega))]
  rfl
/-- data of so much weight and depth -/
def Dk (m k : Nat) (H : Hp) (v : V) : Prop := ∃ d, Ds H v d ∧ Bg 141 m k d
theorem Dk.le {m k m' k' : Nat} {H : Hp} {v : V} (h : Dk m k H v) (hm : m ≤ m') (hk : k ≤ k') : Dk m' k' H v := by
  obtain ⟨d, h1, h2⟩ := h
  exact ⟨d, h1, h2.le hm hk⟩
theorem Dk.ext {m k : Nat} {H H' : Hp} {v : V} (h : Dk m k H v) (e : Ext H H') : Dk m k H' v := by
  obtain ⟨d, h1, h2⟩ := h
  exact ⟨d, ds_ext e h1, h2⟩
theorem Dk.non {H : Hp} : Dk 200 0 H .non := ⟨_, .non, Bg.non.le (by decide) (Nat.le_refl _)⟩
theorem Dk.bl {H : Hp} (b : Bool) : Dk 200 0 H (.bl b) := ⟨_, .bl b, (Bg.bl b).le (by decide) (Nat.le_refl _)⟩
theorem Dk.int {H : Hp} {i : Int} (h : i.natAbs < 2 ^ 140) : Dk 200 0 H (.int i) := ⟨_, .int i, (Bg.int (B := 140) (by decide) (by decide) h).le (by decide) (Nat.le_refl _)⟩
theorem Dk.intS {H : Hp} {i : Int} (h0 : -1000000 < i) (h1 : i < 1000000) : Dk 200 0 H (.int i) := Dk.int (Nat.lt_of_lt_of_le (show i.natAbs < 1000000 by omega) (by decide +kernel))
theorem Dk.str {H : Hp} {x : Str} (h : PyData.strOk x = true) (h2 : (x.cps.toList.all fun c => decide (c < 16 ^ 8)) = true) (hn : x.length ≤ 100) : Dk 200 0 H (.str x) := ⟨_, .str x, (Bg.str h h2 hn).le (by decide) (Nat.le_refl _)⟩
theorem Dk.text {H : Hp} {n : Nat} (hn : n ≤ 20) : Dk 200 0 H (.str (Str.ofString (toString (n : Int)))) := by
  have key : ((List.range 21).all fun n => PyData.strOk (Str.ofString (toString (n : Int))) && ((Str.ofString (toString (n : Int))).cps.toList.all fun c => decide (c < 16 ^ 8)) && decide ((Str.ofString (toString (n : Int))).length ≤ 100)) = true := by decide +kernel
  have := List.all_eq_true.mp key n (List.mem_range.mpr (by omega))
  rw [Bool.and_eq_true, Bool.and_eq_true] at this
  exact Dk.str this.1.1 this.1.2 (of_decide_eq_true this.2)
theorem dk_all {m k : Nat} {H : Hp} : ∀ {us : List V}, (∀ u ∈ us, Dk m k H u) → ∃ ds, DsAll H us ds ∧ ∀ d ∈ ds, Bg 141 m k d
  | [], _ => ⟨[], .nil, fun d h => by cases h⟩
  | u :: us, h => by
    obtain ⟨d, h1, h2⟩ := h u (List.mem_cons_self ..)
    obtain ⟨ds, h3, h4⟩ := dk_all fun x hx => h x (List.mem_cons_of_mem _ hx)
    refine ⟨d :: ds, .cons h1 h3, fun z hz => ?_⟩
    rcases List.mem_cons.mp hz with rfl | hz
    · exact h2
    · exact h4 z hz
theorem Dk.tup {m k n M : Nat} {H : Hp} {a : Addr} {us : List V} (h : H a = some (.tup us)) (hu : ∀ u ∈ us, Dk m k H u) (hn : us.length ≤ n) (hM : n * (m + 1) ≤ M) : Dk M (k + 1) H (.ref a) := by
  obtain ⟨ds, h1, h2⟩ := dk_all hu
  have := dsAll_len h1
  exact ⟨_, .tup h h1, Bg.tup (n := n) (by omega) h2 hM⟩
theorem Dk.lst {m k n M : Nat} {H : Hp} {a : Addr} {us : List V} (h : H a = some (.lst us)) (hu : ∀ u ∈ us, Dk m k H u) (hn : us.length ≤ n) (hM : n * (m + 1) ≤ M) : Dk M (k + 1) H (.ref a) := by
  obtain ⟨ds, h1, h2⟩ := dk_all hu
  have := dsAll_len h1
  exact ⟨_, .lst h h1, Bg.lst (n := n) (by omega) h2 hM⟩
/-- a thing that may be shown -/
def Thg (H : Hp) (v : V) : Prop := Dk 20000 3 H v ∨ ∃ a, v = .ref a ∧ H a = some (.dK [])
theorem Thg.ext {H H' : Hp} {v : V} (h : Thg H v) (e : Ext H H') : Thg H' v := by
  rcases h with h | ⟨a, e1, h⟩
  · exact .inl (h.ext e)
  · exact .inr ⟨a, e1, e _ _ h⟩
theorem Thg.dz {H : Hp} {v : V} (h : Thg H v) : ∃ d, Dz H v d ∧ (Bg 141 20000 3 d ∨ d = .dict []) := by
  rcases h with ⟨d, h1, h2⟩ | ⟨a, e, h⟩
  · exact ⟨d, .inl h1, .inl h2⟩
  · exact ⟨_, .inr ⟨a, e, h, rfl⟩, .inr rfl⟩
def hd2 (p D : Addr) (H : Hp) : Hp := fun b => if b = p ∨ b = D then none else H b
theorem hd2_ne {p D a : Addr} {H : Hp} (h1 : a ≠ p) (h2 : a ≠ D) : hd2 p D H a = H a := if_neg fun z => z.elim h1 h2
theorem hd2_le {p D : Addr} {H : Hp} : Ext (hd2 p D H) H := fun b o h => by
  unfold hd2 at h
  split at h
  · cases h
  · exact h
theorem hd2_kp {p D : Addr} {H H' : Hp} (k : Kp p H H') : Ext (hd2 p D H) (hd2 p D H') := fun b o h => by
  unfold hd2 at h ⊢
  split at h
  · cases h
  · rename_i n
    rw [if_neg n]
    exact k _ _ (fun z => n (.inl z)) h
theorem hd2_ext {p D : Addr} {H H' : Hp} (k : Ext H H') : Ext (hd2 p D H) (hd2 p D H') := hd2_kp fun b o _ h => k b o h
theorem hd2_upd {p D : Addr} {H : Hp} {o : HO} : hd2 p D (upd H D o) = hd2 p D H := by
  funext b
  unfold hd2
  split
  · rfl
  · rename_i n
    rw [upd_ne fun z => n (.inr z)]
theorem hd2_tup {p D a : Addr} {H : Hp} {xs ys zs : List V} (h : H a = some (.tup xs)) (hp : H p = some (.lst ys)) (hD : H D = some (.lst zs)) : hd2 p D H a = some (.tup xs) := by
  rw [hd2_ne]
  · exact h
  · intro z
    rw [z, hp] at h
    cases h
  · intro z
    rw [z, hD] at h
    cases h
theorem hd2_new {p D a : Addr} {H : Hp} {o o1 o2 : HO} (hp : H p = some o1) (hD : H D = some o2) (ha : H a = none) : hd2 p D (upd H a o) a = some o := by
  rw [hd2_ne]
  · exact upd_same
  · intro z
    rw [z, hp] at ha
    cases ha
  · intro z
    rw [z, hD] at ha
    cases ha
/-! ### repr of anything -/
def rShowE (K : PySem.W.Frag) : List V → Hp → VK → Prop := fun xs H Q => ∃ (v : V) (d : PyData), xs = [v] ∧ Dz H v d ∧ (Bg 141 20000 3 d ∨ d = .dict []) ∧ Q (.str d.shown) H
theorem call_showE (K : PySem.W.Frag) {X : Cx} (hg : X.A.guards = some []) (hu : X.A.units + 64 < cLine) (hK : X.K = K := by rfl) : CallR X (.builtin "repr") (rShowE K) := by
  subst hK
  intro pins s σ H xs us Q I r h
  obtain ⟨v, d, rfl, hd, hs, q⟩ := h
  rcases hd with hd | ⟨a, rfl, hA, rfl⟩
  · have hs : Bg 141 20000 3 d := hs.elim id fun e => by
      subst e
      cases hd
    exact call_showB X.K hg hu rfl pins s σ H _ us Q I r ⟨v, d, 141, 20000, 3, rfl, hd.dp, hs, by decide, by decide, by decide, q⟩
  · obtain ⟨u, rfl, rfl⟩ := vals1 r
    obtain ⟨_, hsys, vs, rel, od, es, ep, h1, h2, h3, _, h5, _⟩ := dk_of I.hok hA
    cases rel
    have hes : es.toList = [] := List.length_eq_zero_iff.mp h5.length
    have rb : Reads s.heap (.ref a) (.dict []) (a :: [] ++ []) := Reads.dict h1 h2.1 h3 (by rw [hes]; exact .nil) (by rw [hes]; exact .nil)
    refine PySem.repr_of_reads' rb ?_ (fun _ z => ?_) hg ?_ (fun _ _ e => e) (fun h' u tk keep => ⟨.str _, H, I.kept keep, ⟨_, rfl⟩, q⟩) ?_
    · simp [PyData.showable, PyData.showableKv]
    · have e : sysModules = a := by simpa using z
      rw [← e] at hsys
      cases hsys
    · simp only [PyData.depth, PyData.depthKv]
      omega
    · have e1 : (dictText []).length = 2 := by decide +kernel
      simp only [PyData.shown, PyData.shownKv]
      rw [e1]
      decide
/-! ### parts and sums of plain tuples -/
def rSlN : V → Option Int → Option Int → Hp → VK → Prop := fun x lo hi H Q => ∃ a xs, x = .ref a ∧ H a = some (.tup xs) ∧ ∀ p H', Ext H H' → H' p = some (.tup (cutV xs lo hi)) → Q (.ref p) H'
theorem slN (K : PySem.W.Frag) {X : Cx} (h : X.K = K := by rfl) : SlR X rSlN := fun pins s σ H x v vl vu lo hi sl Q I rx hs pl pu ⟨a, xs, ex, ha, q⟩ => by
  refine slA K h pins s σ H x v vl vu lo hi sl Q I rx hs pl pu ⟨a, xs, ex, SqT.of ha, fun z => q a H Ext.refl ?_, fun _ p hp => q p _ (Ext.new hp) upd_same⟩
  have e : cutV xs lo hi = xs := by
    unfold cutV
    rw [z.1, z.2, List.drop_zero, Nat.sub_zero, List.take_length]
  rw [e]
  exact ha
def rCatN : R2 := fun x y H Q => ∃ a b xs ys, x = .ref a ∧ y = .ref b ∧ H a = some (.tup xs) ∧ H b = some (.tup ys) ∧ xs.length + ys.length ≤ sizeLine ∧ ∀ p H', Ext H H' → H' p = some (.tup (xs ++ ys)) → Q (.ref p) H'
theorem catN (K : PySem.W.Frag) {X : Cx} (h : X.K = K := by rfl) : OpR X (binaryOp .Add) rCatN := fun pins s σ H x y v u Q I rx ry ⟨a, b, xs, ys, ex, ey, ha, hb, hz, q⟩ => by
  refine catA K h pins s σ H x y v u Q I rx ry ⟨a, b, xs, ys, ex, ey, SqT.of ha, SqT.of hb, hz, fun z => q b H Ext.refl (by rw [z]; exact hb), fun _ z => q a H Ext.refl (by rw [z, List.append_nil]; exact ha), fun _ _ p hp => q p _ (Ext.new hp) upd_same⟩
end Pf


namespace Pf
open PySem PySem.Spec PyProof.Rows L2
/-! ### what a thing of any kind is: a stretch, a crossed folding -/
def whD : PyData → Bool
  | .int _ => true
  | _ => false
theorem whD_is (d : PyData) : whD d = (isIntB d && !isBl d) := by cases d <;> rfl
def rowD (n : Int) : PyData → Bool
  | .tuple ds => decide ((ds.length : Int) = n)
  | _ => false
def triD : PyData → Option St3
  | .tuple [.int i, .int j, .int s] => some (i, j, s)
  | _ => none
theorem triD_some {d : PyData} {y : St3} (h : triD d = some y) : d = .tuple [.int y.1, .int y.2.1, .int y.2.2] := by
  unfold triD at h
  split at h
  · cases h
    rfl
  · cases h
theorem tri_ds {H : Hp} {v : V} {d : PyData} {y : St3} (h : Ds H v d) (e : triD d = some y) : Tri H v y := by
  have e := triD_some e
  subst e
  cases h with
  | tup h r =>
    cases r with
    | cons r1 r =>
      cases r with
      | cons r2 r =>
        cases r with
        | cons r3 r =>
          cases r
          cases r1
          cases r2
          cases r3
          exact ⟨_, rfl, h⟩
def isSt (r : Rl) (x : Str) (y : St3) : Bool := decide (1 ≤ y.2.2 ∧ y.2.2 ≤ x.length) && ((prsOf y).map fun p => mpB r x p.1 p.2).all id
def stD (r : Rl) (x : Str) (d : PyData) : Bool := match triD d with
  | some y => isSt r x y
  | none => false
def crD (r : Rl) (x : Str) : PyData → Bool
  | .tuple [a, b] => stD r x a && (stD r x b && match triD a, triD b with
    | some y, some z => crB y z
    | _, _ => false)
  | _ => false
theorem ds_three {H : Hp} {xs : List V} {ds : List PyData} (h : DsAll H xs ds) (hl : ds.length = 3) : ∃ u0 u1 u2 d0 d1 d2, xs = [u0, u1, u2] ∧ ds = [d0, d1, d2] ∧ Ds H u0 d0 ∧ Ds H u1 d1 ∧ Ds H u2 d2 := by
  cases h with
  | nil => cases hl
  | cons h0 h =>
    cases h with
    | nil => cases hl
    | cons h1 h =>
      cases h with
      | nil => cases hl
      | cons h2 h =>
        cases h with
        | nil => exact ⟨_, _, _, _, _, _, rfl, rfl, h0, h1, h2⟩
        | cons _ _ => simp at hl
theorem ds_two {H : Hp} {xs : List V} {ds : List PyData} (h : DsAll H xs ds) (hl : ds.length = 2) : ∃ u0 u1 d0 d1, xs = [u0, u1] ∧ ds = [d0, d1] ∧ Ds H u0 d0 ∧ Ds H u1 d1 := by
  cases h with
  | nil => cases hl
  | cons h0 h =>
    cases h with
    | nil => cases hl
    | cons h1 h =>
      cases h with
      | nil => exact ⟨_, _, _, _, rfl, rfl, h0, h1⟩
      | cons _ _ => simp at hl
theorem tri_wh {d0 d1 d2 : PyData} (h : ([d0, d1, d2].map whD).all id = false) : triD (.tuple [d0, d1, d2]) = none := by
  unfold triD
  split
  · rename_i e
    cases e
    cases h
  · rfl
theorem tri_wh2 {d0 d1 d2 : PyData} (h : ([d0, d1, d2].map whD).all id = true) : ∃ i j s : Int, d0 = .int i ∧ d1 = .int j ∧ d2 = .int s := by
  simp only [List.map_cons, List.map_nil, List.all_cons, List.all_nil, Bool.and_true, id, Bool.and_eq_true] at h
  obtain ⟨h0, h1, h2⟩ := h
  cases d0 with
  | int i =>
    cases d1 with
    | int j =>
      cases d2 with
      | int s => exact ⟨i, j, s, rfl, rfl, rfl⟩
      | _ => cases h2
    | _ => cases h1
  | _ => cases h0
theorem tri_row {d : PyData} (h : rowD 3 d = false) : triD d = none := by
  unfold triD
  split
  · cases h
  · rfl
section
variable {P : Program} {w : World} {K : PySem.W.Frag} {mg : Str → Option Value} {base : Heap}
abbrev s_is_whole : Stmt := topS 1
theorem sc_is_whole : FnScope ["thing"] ["thing"] (defScope s_is_whole) :=
  ⟨rfl, rfl, rfl, by decide +kernel, rfl, by decide +kernel, by decide +kernel⟩
def spWh {K : PySem.W.Frag} : Sp := fun vs H Q _ => ∃ (v : V) (d : PyData), vs = [v] ∧ Dq K H v d ∧ Q (.bl (whD d)) H
theorem ok_wh {f : Addr} {fd : FuncData} {k : Nat} (F : Fun K "is_whole" "is_whole" s_is_whole f fd) (misinstance : mg "isinstance" = none) (mint : mg "int" = none) (mbool : mg "bool" = none) : FnOk P w K mg base CX0 (k + 1) f fd ["thing"] (spWh (K := K)) := by
  refine F.ok sc_is_whole (fun vs H Q E h => ?_) (fun cdv A outer s H vs Q E hr h => ?_)
  · obtain ⟨v, d, rfl, _⟩ := h
    rfl
  · obtain ⟨v, d, rfl, hd, q⟩ := h
    refine ⟨_, (pss_one (ps_ret (pe_and (pe_callB (isi1 K) (by rfl) misinstance (by decide +kernel) (pa_cons (pv 0) (pa_cons (pe_bltn (v := .ty "int") (by rfl) mint (by decide +kernel) rfl) pa_nil))) (pe_one (pe_not (pe_callB (isi1 K) (by rfl) misinstance (by decide +kernel) (pa_cons (pv 0) (pa_cons (pe_bltn (v := .ty "bool") (by rfl) mbool (by decide +kernel) rfl) pa_nil)))))))), ?_⟩
    rw [whD_is] at q
    refine ⟨_, rfl, v, .ty "int", _, _, isIntB d, rfl, .ty _, hd.ty, kit_int d, isIntB d, rfl, ite2 (fun e => ?_) (fun e => ?_)⟩
    · rw [e, Bool.true_and] at q
      exact ⟨_, rfl, v, .ty "bool", _, _, isBl d, rfl, .ty _, hd.ty, kit_bool d, isBl d, rfl, q⟩
    · have e : isIntB d = false := by simpa using e
      rw [e, Bool.false_and] at q
      exact q
abbrev s_is_row : Stmt := topS 2
theorem sc_is_row : FnScope ["thing", "size"] ["thing", "size"] (defScope s_is_row) :=
  ⟨rfl, rfl, rfl, by decide +kernel, rfl, by decide +kernel, by decide +kernel⟩
def spRow {K : PySem.W.Frag} : Sp := fun vs H Q _ => ∃ (v : V) (d : PyData) (n : Int), vs = [v, .int n] ∧ Dq K H v d ∧ Q (.bl (rowD n d)) H
theorem ok_row {f : Addr} {fd : FuncData} {k : Nat} (F : Fun K "is_row" "is_row" s_is_row f fd) (misinstance : mg "isinstance" = none) (mtuple : mg "tuple" = none) (mlen : mg "len" = none) : FnOk P w K mg base CX0 (k + 1) f fd ["thing", "size"] (spRow (K := K)) := by
  refine F.ok sc_is_row (fun vs H Q E h => ?_) (fun cdv A outer s H vs Q E hr h => ?_)
  · obtain ⟨v, d, n, rfl, _⟩ := h
    rfl
  · obtain ⟨v, d, n, rfl, hd, q⟩ := h
    refine ⟨_, (pss_one (ps_ret (pe_and (pe_callB (isi1 K) (by rfl) misinstance (by decide +kernel) (pa_cons (pv 0) (pa_cons (pe_bltn (v := .ty "tuple") (by rfl) mtuple (by decide +kernel) rfl) pa_nil))) (pe_one (pe_cmpR op_eq (pe_callB (lenQ K) (by rfl) mlen (by decide +kernel) (pa_cons (pv 0) pa_nil)) (pv 1) (nomark _)))))), ?_⟩
    refine ⟨_, rfl, v, .ty "tuple", _, _, isTup d, rfl, .ty _, hd.ty, kit_tup d, isTup d, rfl, ite2 (fun e => ?_) (fun e => ?_)⟩
    · cases hd with
      | emp _ => cases e
      | dp hd =>
        cases hd with
        | tup hs hds =>
          refine ⟨_, rfl, _, _, rfl, .inr hs, _, rfl, rfl, ?_⟩
          rename_i a xs ds
          have e2 : decide ((V.int (xs.length : Nat)) = V.int n) = decide ((ds.length : Int) = n) := by
            rw [dpAll_len hds]
            exact decide_eq_decide.mpr ⟨V.int.inj, congrArg V.int⟩
          rw [e2]
          exact q
        | _ => cases e
    · have e : isTup d = false := by simpa using e
      cases d with
      | tuple ds => cases e
      | _ => exact q
abbrev CWh (P : Program) (w : World) (K : PySem.W.Frag) (mg : Str → Option Value) (base : Heap) : Prop := Ca P w K mg base 1 "is_whole" ["thing"] (spWh (K := K))
abbrev CRow (P : Program) (w : World) (K : PySem.W.Frag) (mg : Str → Option Value) (base : Heap) : Prop := Ca P w K mg base 1 "is_row" ["thing", "size"] (spRow (K := K))
abbrev s_is_stretch : Stmt := topS 9
theorem sc_is_stretch : FnScope ["rules", "string", "thing", "i", "j", "part"] ["rules", "string", "thing"] (defScope s_is_stretch) :=
  ⟨rfl, rfl, rfl, by decide +kernel, rfl, by decide +kernel, by decide +kernel⟩
def spISt : Sp := fun vs H Q _ => ∃ (v t : V) (r : Rl) (x : Str) (d : PyData), vs = [v, .str x, t] ∧ RulesW H v r ∧ x.length ≤ 12 ∧ Ds H t d ∧ ∀ H', Ext H H' → Q (.bl (stD r x d)) H'
theorem ok_ist {f : Addr} {fd : FuncData} (F : Fun K "is_stretch" "is_stretch" s_is_stretch f fd) (cis_row : CRow P w K mg base) (cis_whole : CWh P w K mg base) (cstretch_pairs : CPrs P w K mg base) (cmay_pair : CMPX P w K mg base) (mlen : mg "len" = none) (mall : mg "all" = none) : FnOk P w K mg base CX0 3 f fd ["rules", "string", "thing"] spISt := by
  refine F.ok sc_is_stretch (fun vs H Q E h => ?_) (fun cdv A outer s H vs Q E hr h => ?_)
  · obtain ⟨v, t, r, x, d, rfl, _⟩ := h
    rfl
  · obtain ⟨v, t, r, x, d, rfl, hR, hx, hd, q⟩ := h
    refine ⟨_, (pss_cons (ps_if (PW.pt (pw_or (pt_not (pt_val (pe_ca cis_row (hr.mono (by decide)) (by rfl) (pa_cons (pv 2) (pa_cons pe_int pa_nil))))) (pw_or1 (pt_not (pt_val (pe_callB (cr_all rfl) (by rfl) mall (by decide +kernel) (pa_cons (pe_lc (own := [("part", 5)]) (g := gName 5) (by rfl) sc_is_stretch.nd (pi_tup (pv 2)) (blkOk_by (own := [("part", 5)]) (N := ["rules", "string", "thing", "i", "j", "part"]) (sc := defScope s_is_stretch) (by decide +kernel)) (fun _ _ _ _ _ => (pg_name (i := 5) sc_is_stretch.nd rfl (.inl rfl))) (fun _ _ _ _ _ => pts_nil) (fun _ _ _ _ _ => (pe_ca cis_whole (hr.mono (by decide)) (by rfl) (pa_cons (pv 5) pa_nil)))) pa_nil))))))) (pss_one (ps_ret pe_bl)) pss_nil)
      (pss_cons (ps_if (pt_not (pt_chain op_le op_le pe_int (pe_ix (ixT K) (pv 2) pe_int (fun _ _ => rfl)) (pe_callB call_len_str (by rfl) mlen (by decide +kernel) (pa_cons (pv 1) pa_nil)))) (pss_one (ps_ret pe_bl)) pss_nil)
      (pss_one (ps_ret (pe_callB (cr_all rfl) (by rfl) mall (by decide +kernel) (pa_cons (pe_lc (own := [("i", 3), ("j", 4)]) (g := gTup K 2 (gCons (gName 3) (gCons (gName 4) gNil))) (by rfl) sc_is_stretch.nd (pi_list (pe_ca cstretch_pairs (hr.mono (by decide)) (by rfl) (pa_cons (pv 2) pa_nil))) (blkOk_by (own := [("i", 3), ("j", 4)]) (N := ["rules", "string", "thing", "i", "j", "part"]) (sc := defScope s_is_stretch) (by decide +kernel)) (fun _ _ _ _ _ => (pgT K rfl (pgs_cons (pg_name (i := 3) sc_is_stretch.nd rfl (.inl rfl)) (pgs_cons (pg_name (i := 4) sc_is_stretch.nd rfl (.inl rfl)) pgs_nil)))) (fun _ _ _ _ _ => pts_nil) (fun _ _ _ _ _ => (pe_ca cmay_pair (hr.mono (by decide)) (by rfl) (pa_cons (pv 0) (pa_cons (pv 1) (pa_cons (pv 3) (pa_cons (pv 4) pa_nil))))))) pa_nil)))))), ?_⟩
    have qF : triD d = none → ∀ H', Ext H H' → Q (.bl false) H' := fun e H' k => by
      have := q H' k
      unfold stD at this
      rw [e] at this
      exact this
    refine ⟨_, rfl, t, d, 3, rfl, .dp hd.dp, _, rfl, ?_⟩
    cases hrow : rowD 3 d with
    | false => exact iteT (qF (tri_row hrow) H Ext.refl)
    | true =>
      refine iteF ?_
      cases hd with
      | @tup a xs ds hs hds =>
        have hl : ds.length = 3 := by
          have : decide ((ds.length : Int) = 3) = true := hrow
          have := of_decide_eq_true this
          omega
        obtain ⟨u0, u1, u2, d0, d1, d2, rfl, rfl, h0, h1, h2⟩ := ds_three hds hl
        refine ⟨_, rfl, a, rfl, ⟨_, SqT.of hs⟩, fun D hD => lc_tup (K := K) (xs := [u0, u1, u2]) (fun i H2 => H2 D = some (.lst (((([d0, d1, d2] : List PyData).take i).map whD).map V.bl)) ∧ Ext H H2)
          ⟨upd_same, Ext.new hD⟩ (fun i H2 _ ⟨_, k⟩ => SqT.of (k _ _ hs)) (fun i u H2 hi hv => ?_) (fun H2 hv => ?_)⟩
        · obtain ⟨hL, k2⟩ := hv
          obtain ⟨dd, hdd, hdp⟩ := dsAll_get hds hi
          refine ⟨rfl, _, rfl, u, dd, rfl, .dp (ds_ext k2 hdp).dp, _, hL, szLt ?_, ?_, k2.put hD⟩
          · rw [List.length_map, List.length_map, List.length_take]
            omega
          · rw [upd_same, List.take_add_one, hdd, List.map_append, List.map_append]
            rfl
        · obtain ⟨hL, k2⟩ := hv
          have hL : H2 D = some (.lst ((([d0, d1, d2] : List PyData).map whD).map V.bl)) := hL
          refine ⟨D, _, rfl, SqL.of hL, _, rfl, ?_⟩
          cases hwh : ((([d0, d1, d2] : List PyData).map whD).all id) with
          | false => exact iteT (qF (tri_wh hwh) _ k2)
          | true =>
            obtain ⟨i, j, s, rfl, rfl, rfl⟩ := tri_wh2 hwh
            cases h0
            cases h1
            cases h2
            have q1 : ∀ H', Ext H H' → Q (.bl (isSt r x (i, j, s))) H' := q
            refine iteF ?_
            have hs2 := k2 _ _ hs
            refine ⟨_, rfl, a, _, 2, _, rfl, rfl, SqT.of hs2, rfl, _, _, rfl, rfl, _, rfl, ?_⟩
            by_cases e1 : 1 ≤ s
            · rw [decide_eq_true e1]
              refine iteT ⟨_, rfl, x, rfl, szL (by omega), _, _, rfl, rfl, _, rfl, ?_⟩
              by_cases e2 : s ≤ x.length
              · rw [decide_eq_true e2]
                refine iteF ⟨_, rfl, _, (i, j, s), rfl, ⟨a, rfl, hs2⟩, (show 0 ≤ s by omega), (show s ≤ 100 by omega), fun l us H3 hl hL3 hP3 k3 => ?_⟩
                have k03 := k2.trans k3
                have hul := paired_len hP3
                refine ⟨l, rfl, ⟨_, SqL.of hL3⟩, fun D2 hD2 => lc_list (K := K) (xs := us) (fun c H4 => H4 D2 = some (.lst (((((prsOf (i, j, s)).map fun p => mpB r x p.1 p.2)).take c).map V.bl)) ∧ Ext H3 H4)
                  ⟨upd_same, Ext.new hD2⟩ (fun c H4 _ ⟨_, k⟩ => SqL.of (k _ _ hL3)) (fun c u H4 hc hv => ?_) (fun H4 hv => ?_)⟩
                · obtain ⟨hL4, k4⟩ := hv
                  obtain ⟨p, hp, a1, rfl, ha1⟩ := paired_get hP3 hc
                  have k04 := k03.trans k4
                  refine ⟨a1, _, rfl, SqT.of (k4 _ _ ha1), rfl, _, _, rfl, _, _, rfl, rfl, rfl, _, rfl, _, rfl, _, rfl, _, rfl, v, r, x, p.1, p.2, rfl, RulesW.mono _ _ _ _ (TupK.ext k04) hR, by omega, fun H5 k5 => ⟨_, k5 _ _ hL4, szLt ?_, ?_, (k4.trans k5).put hD2⟩⟩
                  · rw [List.length_map, List.length_take, List.length_map, prs_len]
                    have : (i, j, s).2.2.toNat = s.toNat := rfl
                    omega
                  · rw [upd_same, List.take_add_one, List.getElem?_map, hp, List.map_append]
                    rfl
                · obtain ⟨hL4, k4⟩ := hv
                  rw [List.take_of_length_le (by rw [List.length_map]; omega)] at hL4
                  refine ⟨D2, _, rfl, SqL.of hL4, ?_⟩
                  have := q1 H4 (k03.trans k4)
                  unfold isSt at this
                  rw [decide_eq_true (show 1 ≤ (i, j, s).2.2 ∧ (i, j, s).2.2 ≤ x.length from ⟨e1, e2⟩), Bool.true_and] at this
                  exact this
              · rw [decide_eq_false e2]
                refine iteT ?_
                have := q1 H2 k2
                unfold isSt at this
                rw [decide_eq_false (show ¬ (1 ≤ (i, j, s).2.2 ∧ (i, j, s).2.2 ≤ x.length) from fun z => e2 z.2), Bool.false_and] at this
                exact this
            · rw [decide_eq_false e1]
              refine iteF ⟨_, rfl, iteT ?_⟩
              have := q1 H2 k2
              unfold isSt at this
              rw [decide_eq_false (show ¬ (1 ≤ (i, j, s).2.2 ∧ (i, j, s).2.2 ≤ x.length) from fun z => e1 z.1), Bool.false_and] at this
              exact this
      | _ => cases hrow
abbrev CISt (P : Program) (w : World) (K : PySem.W.Frag) (mg : Str → Option Value) (base : Heap) : Prop := Ca P w K mg base 3 "is_stretch" ["rules", "string", "thing"] spISt
end
end Pf


namespace Pf
open PySem PySem.Spec PyProof.Rows L2
theorem dep_mem : ∀ {ds : List PyData} {e : PyData}, e ∈ ds → e.depth ≤ PyData.depthAll ds
  | d :: ds, e, h => by
    rw [PyData.depthAll]
    rcases List.mem_cons.mp h with rfl | h
    · exact Nat.le_max_left ..
    · exact Nat.le_trans (dep_mem h) (Nat.le_max_right ..)
def Lay (k : Nat) (d : PyData) : Prop := d.canLay0 = true ∧ d.depth ≤ k
theorem Lay.of {B m k : Nat} {d : PyData} (h : Bg B m k d) : Lay k d := ⟨h.lay, h.dep⟩
theorem Lay.mem {k : Nat} {ds : List PyData} {e : PyData} (h : Lay (k + 1) (.tuple ds)) (he : e ∈ ds) : Lay k e := by
  obtain ⟨h1, h2⟩ := h
  have h1 : PyData.canLayAll0 ds = true := by simpa only [PyData.canLay0] using h1
  simp only [PyData.depth] at h2
  have := dep_mem he
  exact ⟨PyData.canLay0_of_mem _ _ h1 he, by omega⟩
theorem layA : ∀ {k : Nat} {es : List PyData}, (∀ e ∈ es, Lay k e) → PyData.canLayAll0 es = true ∧ PyData.depthAll es ≤ k
  | _, [], _ => ⟨by simp [PyData.canLayAll0], by simp [PyData.depthAll]⟩
  | k, e :: es, h => by
    have h1 := h e (List.mem_cons_self ..)
    have h2 := layA fun x hx => h x (List.mem_cons_of_mem _ hx)
    refine ⟨by simp [PyData.canLayAll0, h1.1, h2.1], ?_⟩
    simp only [PyData.depthAll]
    exact Nat.max_le.mpr ⟨h1.2, h2.2⟩
theorem Lay.lst {k : Nat} {es : List PyData} (h : ∀ e ∈ es, Lay k e) (hk : k ≤ 50) : SeqAt.shaped (.list es) = true := by
  have a := layA h
  show ((PyData.list es).canLay0 && decide ((PyData.list es).depth ≤ 64)) = true
  rw [show (PyData.list es).canLay0 = true by simpa only [PyData.canLay0] using a.1, decide_eq_true (show (PyData.list es).depth ≤ 64 by simp only [PyData.depth]; omega)]
  rfl
theorem eqv_none6 (ds : List PyData) : PyData.eqv (.list ds) (.list []) = ds.isEmpty := by
  cases ds <;> simp [PyData.eqv, PyData.eqvAll]
theorem mp_in {r : Rl} {x : Str} {p q : Int} (h : mpB r x p q = true) : 0 ≤ p ∧ p < q ∧ q < x.length ∧ mayC r x p q = true := by
  unfold mpB at h
  rw [Bool.and_eq_true] at h
  have := of_decide_eq_true h.1
  exact ⟨this.1, this.2.1, this.2.2, h.2⟩
theorem isSt_in {r : Rl} {x : Str} {y : St3} (h : isSt r x y = true) : 0 ≤ y.1 ∧ y.1 < x.length ∧ 0 ≤ y.2.1 ∧ y.2.1 < x.length ∧ 1 ≤ y.2.2 ∧ y.2.2 ≤ x.length := by
  unfold isSt at h
  rw [Bool.and_eq_true] at h
  have h1 := of_decide_eq_true h.1
  have h2 := h.2
  rw [List.all_map, List.all_eq_true] at h2
  have := mp_in (h2 _ (prs_mem (y := y) (k := 0) (by omega)))
  have a1 : 0 ≤ y.1 + ((0 : Nat) : Int) := this.1
  have a2 : y.1 + ((0 : Nat) : Int) < y.2.1 - ((0 : Nat) : Int) := this.2.1
  have a3 : y.2.1 - ((0 : Nat) : Int) < x.length := this.2.2.1
  omega
def badK (r : Rl) (x : Str) (i j : Int) (k : Nat) : Bool := decide (j - (k : Int) ≤ i + (k : Int)) || !mayC r x (i + (k : Int)) (j - (k : Int))
theorem isSt_fil {r : Rl} {x : Str} {i j s : Int} (i0 : 0 ≤ i) (j1 : j < x.length) (s0 : 1 ≤ s) : isSt r x (i, j, s) = ((List.range s.toNat).filter (badK r x i j)).isEmpty := by
  cases h : isSt r x (i, j, s) with
  | true =>
    unfold isSt at h
    rw [Bool.and_eq_true] at h
    have h2 := h.2
    rw [List.all_map, List.all_eq_true] at h2
    have : (List.range s.toNat).filter (badK r x i j) = [] := List.filter_eq_nil_iff.mpr fun k hk => by
      have hk := List.mem_range.mp hk
      have hm := mp_in (h2 _ (prs_mem (y := (i, j, s)) (k := k) hk))
      have a2 : i + (k : Int) < j - (k : Int) := hm.2.1
      have a4 : mayC r x (i + (k : Int)) (j - (k : Int)) = true := hm.2.2.2
      unfold badK
      rw [decide_eq_false (show ¬ j - (k : Int) ≤ i + (k : Int) by omega), a4]
      decide
    rw [this]
    rfl
  | false =>
    cases hf : (List.range s.toNat).filter (badK r x i j) with
    | cons z zs => rfl
    | nil =>
      exfalso
      have hf := List.filter_eq_nil_iff.mp hf
      have good : ∀ k : Nat, k < s.toNat → i + (k : Int) < j - (k : Int) ∧ mayC r x (i + (k : Int)) (j - (k : Int)) = true := fun k hk => by
        have := hf k (List.mem_range.mpr hk)
        unfold badK at this
        rw [Bool.or_eq_true, not_or] at this
        refine ⟨?_, ?_⟩
        · exact Int.lt_of_not_ge fun z => this.1 (decide_eq_true z)
        · have := this.2
          cases hm : mayC r x (i + (k : Int)) (j - (k : Int)) with
          | true => rfl
          | false =>
            rw [hm] at this
            exact absurd rfl this
      have hl := (good (s.toNat - 1) (by omega)).1
      have : isSt r x (i, j, s) = true := by
        unfold isSt
        rw [decide_eq_true (show 1 ≤ (i, j, s).2.2 ∧ (i, j, s).2.2 ≤ x.length from ⟨s0, show s ≤ x.length by omega⟩), Bool.true_and, List.all_map, List.all_eq_true]
        intro p hp
        unfold prsOf at hp
        obtain ⟨k, hk, rfl⟩ := List.mem_map.mp hp
        have hk : k < s.toNat := List.mem_range.mp hk
        have g := good k hk
        show mpB r x (i + (k : Int)) (j - (k : Int)) = true
        unfold mpB
        rw [decide_eq_true (show 0 ≤ i + (k : Int) ∧ i + (k : Int) < j - (k : Int) ∧ j - (k : Int) < x.length by omega), g.2]
        rfl
      rw [this] at h
      cases h
theorem st_row {r : Rl} {x : Str} {d : PyData} (h : rowD 3 d = false) : stD r x d = false := by
  unfold stD
  rw [tri_row h]
theorem cr_no {r : Rl} {x : Str} {a b : PyData} (h : ([a, b].map (stD r x)).all id = false) : crD r x (.tuple [a, b]) = false := by
  simp only [List.map_cons, List.map_nil, List.all_cons, List.all_nil, Bool.and_true, id] at h
  show (stD r x a && (stD r x b && _)) = false
  rw [← Bool.and_assoc, h, Bool.false_and]
theorem cr_yes {r : Rl} {x : Str} {a b : PyData} (h : ([a, b].map (stD r x)).all id = true) : ∃ y z, triD a = some y ∧ triD b = some z ∧ isSt r x y = true ∧ isSt r x z = true ∧ crD r x (.tuple [a, b]) = crB y z := by
  simp only [List.map_cons, List.map_nil, List.all_cons, List.all_nil, Bool.and_true, id, Bool.and_eq_true] at h
  have e : crD r x (.tuple [a, b]) = (stD r x a && (stD r x b && match triD a, triD b with
    | some y, some z => crB y z
    | _, _ => false)) := rfl
  rw [h.1, h.2] at e
  obtain ⟨h1, h2⟩ := h
  unfold stD at h1 h2
  cases ea : triD a with
  | none =>
    rw [ea] at h1
    cases h1
  | some y =>
    cases eb : triD b with
    | none =>
      rw [eb] at h2
      cases h2
    | some z =>
      rw [ea] at h1
      rw [eb] at h2
      rw [ea, eb] at e
      exact ⟨y, z, rfl, rfl, h1, h2, e⟩
theorem cr_len {r : Rl} {x : Str} {d : PyData} (h : rowD 2 d = false) : crD r x d = false := by
  unfold crD
  split
  · cases h
  · rfl
section
variable {P : Program} {w : World} {K : PySem.W.Frag} {mg : Str → Option Value} {base : Heap}
abbrev s_is_crossed : Stmt := topS 11
theorem sc_is_crossed : FnScope ["rules", "string", "thing", "part"] ["rules", "string", "thing"] (defScope s_is_crossed) :=
  ⟨rfl, rfl, rfl, by decide +kernel, rfl, by decide +kernel, by decide +kernel⟩
def spICr : Sp := fun vs H Q _ => ∃ (v t : V) (r : Rl) (x : Str) (d : PyData), vs = [v, .str x, t] ∧ RulesW H v r ∧ x.length ≤ 12 ∧ Dz H t d ∧ ∀ H', Ext H H' → Q (.bl (crD r x d)) H'
theorem ok_icr {f : Addr} {fd : FuncData} (F : Fun K "is_crossed" "is_crossed" s_is_crossed f fd) (cis_row : CRow P w K mg base) (cis_stretch : CISt P w K mg base) (cdo_cross : CDC P w K mg base) (mall : mg "all" = none) : FnOk P w K mg base CX0 4 f fd ["rules", "string", "thing"] spICr := by
  refine F.ok sc_is_crossed (fun vs H Q E h => ?_) (fun cdv A outer s H vs Q E hr h => ?_)
  · obtain ⟨v, t, r, x, d, rfl, _⟩ := h
    rfl
  · obtain ⟨v, t, r, x, d, rfl, hR, hx, hd, q⟩ := h
    refine ⟨_, (pss_cons (ps_if (PW.pt (pw_or (pt_not (pt_val (pe_ca cis_row (hr.mono (by decide)) (by rfl) (pa_cons (pv 2) (pa_cons pe_int pa_nil))))) (pw_or1 (pt_not (pt_val (pe_callB (cr_all rfl) (by rfl) mall (by decide +kernel) (pa_cons (pe_lc (own := [("part", 3)]) (g := gName 3) (by rfl) sc_is_crossed.nd (pi_tup (pv 2)) (blkOk_by (own := [("part", 3)]) (N := ["rules", "string", "thing", "part"]) (sc := defScope s_is_crossed) (by decide +kernel)) (fun _ _ _ _ _ => (pg_name (i := 3) sc_is_crossed.nd rfl (.inl rfl))) (fun _ _ _ _ _ => pts_nil) (fun _ _ _ _ _ => (pe_ca cis_stretch (hr.mono (by decide)) (by rfl) (pa_cons (pv 0) (pa_cons (pv 1) (pa_cons (pv 3) pa_nil)))))) pa_nil))))))) (pss_one (ps_ret pe_bl)) pss_nil)
      (pss_one (ps_ret (pe_ca cdo_cross (hr.mono (by decide)) (by rfl) (pa_cons (pe_ix (ixT K) (pv 2) pe_int (fun _ _ => rfl)) (pa_cons (pe_ix (ixT K) (pv 2) pe_int (fun _ _ => rfl)) pa_nil)))))), ?_⟩
    refine ⟨_, rfl, t, d, 2, rfl, hd.dq, _, rfl, ?_⟩
    cases hrow : rowD 2 d with
    | false =>
      have := q H Ext.refl
      rw [cr_len hrow] at this
      exact iteT this
    | true =>
      refine iteF ?_
      have hd : Ds H t d := hd.elim id fun ⟨_, _, _, e⟩ => by
        rw [e] at hrow
        cases hrow
      cases hd with
      | @tup a xs ds hs hds =>
        have hl : ds.length = 2 := by
          have : decide ((ds.length : Int) = 2) = true := hrow
          have := of_decide_eq_true this
          omega
        obtain ⟨u0, u1, d0, d1, rfl, rfl, h0, h1⟩ := ds_two hds hl
        refine ⟨_, rfl, a, rfl, ⟨_, SqT.of hs⟩, fun D hD => lc_tup (K := K) (xs := [u0, u1]) (fun i H2 => H2 D = some (.lst (((([d0, d1] : List PyData).take i).map (stD r x)).map V.bl)) ∧ Ext H H2)
          ⟨upd_same, Ext.new hD⟩ (fun i H2 _ ⟨_, k⟩ => SqT.of (k _ _ hs)) (fun i u H2 hi hv => ?_) (fun H2 hv => ?_)⟩
        · obtain ⟨hL, k2⟩ := hv
          obtain ⟨dd, hdd, hdp⟩ := dsAll_get hds hi
          refine ⟨rfl, _, rfl, _, rfl, _, rfl, v, u, r, x, dd, rfl, RulesW.mono _ _ _ _ (TupK.ext k2) hR, hx, ds_ext k2 hdp, fun H3 k3 => ⟨_, k3 _ _ hL, szLt ?_, ?_, (k2.trans k3).put hD⟩⟩
          · rw [List.length_map, List.length_map, List.length_take]
            omega
          · rw [upd_same, List.take_add_one, hdd, List.map_append, List.map_append]
            rfl
        · obtain ⟨hL, k2⟩ := hv
          have hL : H2 D = some (.lst ((([d0, d1] : List PyData).map (stD r x)).map V.bl)) := hL
          refine ⟨D, _, rfl, SqL.of hL, _, rfl, ?_⟩
          cases hal : ((([d0, d1] : List PyData).map (stD r x)).all id) with
          | false =>
            have := q H2 k2
            rw [cr_no hal] at this
            exact iteT this
          | true =>
            obtain ⟨y, z, hy, hz, sy, sz, e⟩ := cr_yes hal
            rw [e] at q
            refine iteF ⟨_, rfl, a, _, 0, _, rfl, rfl, SqT.of (k2 _ _ hs), rfl, _, rfl, a, _, 1, _, rfl, rfl, SqT.of (k2 _ _ hs), rfl, _, _, y, z, rfl, tri_ds (ds_ext k2 h0) hy, tri_ds (ds_ext k2 h1) hz, q H2 k2⟩
      | _ => cases hrow
abbrev CICr (P : Program) (w : World) (K : PySem.W.Frag) (mg : Str → Option Value) (base : Heap) : Prop := Ca P w K mg base 4 "is_crossed" ["rules", "string", "thing"] spICr
abbrev CICrK (P : Program) (w : World) (K : PySem.W.Frag) (mg : Str → Option Value) (base : Heap) : Prop := CaK P w K mg base 4 "is_crossed" ["rules", "string", "thing"] ["thing", "string", "rules"] (permV [2, 1, 0]) spICr
abbrev s_law_number : Stmt := topS 26
theorem sc_law_number : FnScope ["_law_what_is"] ["_law_what_is"] (defScope s_law_number) :=
  ⟨rfl, rfl, rfl, by decide +kernel, rfl, by decide +kernel, by decide +kernel⟩
theorem ok_num {f : Addr} {fd : FuncData} {k : Nat} (F : Fun K "_law_number" "_law_number" s_law_number f fd) (misinstance : mg "isinstance" = none) (mint : mg "int" = none) (mbool : mg "bool" = none) : FnOk P w K mg base CX0 (k + 1) f fd ["_law_what_is"] (spWh (K := K)) := by
  refine F.ok sc_law_number (fun vs H Q E h => ?_) (fun cdv A outer s H vs Q E hr h => ?_)
  · obtain ⟨v, d, rfl, _⟩ := h
    rfl
  · obtain ⟨v, d, rfl, hd, q⟩ := h
    refine ⟨_, (pss_one (ps_ret (pe_and (pe_callB (isi1 K) (by rfl) misinstance (by decide +kernel) (pa_cons (pv 0) (pa_cons (pe_bltn (v := .ty "int") (by rfl) mint (by decide +kernel) rfl) pa_nil))) (pe_one (pe_not (pe_callB (isi1 K) (by rfl) misinstance (by decide +kernel) (pa_cons (pv 0) (pa_cons (pe_bltn (v := .ty "bool") (by rfl) mbool (by decide +kernel) rfl) pa_nil)))))))), ?_⟩
    rw [whD_is] at q
    refine ⟨_, rfl, v, .ty "int", _, _, isIntB d, rfl, .ty _, hd.ty, kit_int d, isIntB d, rfl, ite2 (fun e => ?_) (fun e => ?_)⟩
    · rw [e, Bool.true_and] at q
      exact ⟨_, rfl, v, .ty "bool", _, _, isBl d, rfl, .ty _, hd.ty, kit_bool d, isBl d, rfl, q⟩
    · have e : isIntB d = false := by simpa using e
      rw [e, Bool.false_and] at q
      exact q
abbrev CNum (P : Program) (w : World) (K : PySem.W.Frag) (mg : Str → Option Value) (base : Heap) : Prop := Ca P w K mg base 1 "_law_number" ["_law_what_is"] (spWh (K := K))
abbrev s_law_is_stretch : Stmt := topS 27
theorem sc_law_is_stretch : FnScope ["_law_code_here", "_law_page_here", "_law_what_is", "_law_i", "_law_j", "_law_size", "_law_one", "_law_k"] ["_law_code_here", "_law_page_here", "_law_what_is"] (defScope s_law_is_stretch) :=
  ⟨rfl, rfl, rfl, by decide +kernel, rfl, by decide +kernel, by decide +kernel⟩
def spLSt : Sp := fun vs H Q _ => ∃ (v t : V) (r : Rl) (x : Str) (d : PyData), vs = [v, .str x, t] ∧ RulesAt H v r ∧ RlOk r ∧ x.length ≤ 12 ∧ Ds H t d ∧ Lay 6 d ∧ ∀ H', Ext H H' → Q (.bl (stD r x d)) H'
theorem ok_lst {f : Addr} {fd : FuncData} (F : Fun K "_law_is_stretch" "_law_is_stretch" s_law_is_stretch f fd) (c_law_number : CNum P w K mg base) (c_law_may : CMay P w K mg base) (misinstance : mg "isinstance" = none) (mtuple : mg "tuple" = none) (mlen : mg "len" = none) (mrange : mg "range" = none) : FnOk P w K mg base CX0 2 f fd ["_law_code_here", "_law_page_here", "_law_what_is"] spLSt := by
  refine F.ok sc_law_is_stretch (fun vs H Q E h => ?_) (fun cdv A outer s H vs Q E hr h => ?_)
  · obtain ⟨v, t, r, x, d, rfl, _⟩ := h
    rfl
  · obtain ⟨v, t, r, x, d, rfl, hR, ok, hx, hd, hlay, q⟩ := h
    refine ⟨_, (pss_cons (ps_if (PW.pt (pw_or (pt_not (pt_val (pe_callB (isi1 K) (by rfl) misinstance (by decide +kernel) (pa_cons (pv 2) (pa_cons (pe_bltn (v := .ty "tuple") (by rfl) mtuple (by decide +kernel) rfl) pa_nil))))) (pw_or1 (pt_cmpR op_ne (pe_callB (lenQ K) (by rfl) mlen (by decide +kernel) (pa_cons (pv 2) pa_nil)) pe_int (nomark _))))) (pss_one (ps_ret pe_bl)) pss_nil)
      (pss_cons (ps_if (pt_cmpR (neD K hr.units) (pe_lc (own := [("_law_one", 6)]) (g := gName 6) (by rfl) sc_law_is_stretch.nd (pi_tup (pv 2)) (blkOk_by (own := [("_law_one", 6)]) (N := ["_law_code_here", "_law_page_here", "_law_what_is", "_law_i", "_law_j", "_law_size", "_law_one", "_law_k"]) (sc := defScope s_law_is_stretch) (by decide +kernel)) (fun _ _ _ _ _ => (pg_name (i := 6) sc_law_is_stretch.nd rfl (.inl rfl))) (fun _ _ _ _ _ => (pts_one (pt_not (pt_val (pe_ca c_law_number (hr.mono (by decide)) (by rfl) (pa_cons (pv 6) pa_nil)))))) (fun _ _ _ _ _ => (pv 6))) (pe_lst pa_nil) (nomark _)) (pss_one (ps_ret pe_bl)) pss_nil)
      (pss_cons (ps_asg (pv 2) (pg_tup rfl (pgs_cons (pg_name (i := 3) sc_law_is_stretch.nd rfl (.inr rfl)) (pgs_cons (pg_name (i := 4) sc_law_is_stretch.nd rfl (.inr rfl)) (pgs_cons (pg_name (i := 5) sc_law_is_stretch.nd rfl (.inl rfl)) pgs_nil)))))
      (pss_cons (ps_if (PW.pt (pw_or (pt_not (pt_chain op_le op_lt pe_int (pv 3) (pe_callB call_len_str (by rfl) mlen (by decide +kernel) (pa_cons (pv 1) pa_nil)))) (pw_or (pt_not (pt_chain op_le op_lt pe_int (pv 4) (pe_callB call_len_str (by rfl) mlen (by decide +kernel) (pa_cons (pv 1) pa_nil)))) (pw_or1 (pt_not (pt_chain op_le op_le pe_int (pv 5) pe_int)))))) (pss_one (ps_ret pe_bl)) pss_nil)
      (pss_one (ps_ret (pe_cmpR (eqD K hr.units) (pe_lc (own := [("_law_k", 7)]) (g := gName 7) (by rfl) sc_law_is_stretch.nd (pi_range1 (by rfl) mrange (pa_cons (pv 5) pa_nil)) (blkOk_by (own := [("_law_k", 7)]) (N := ["_law_code_here", "_law_page_here", "_law_what_is", "_law_i", "_law_j", "_law_size", "_law_one", "_law_k"]) (sc := defScope s_law_is_stretch) (by decide +kernel)) (fun _ _ _ _ _ => (pg_name (i := 7) sc_law_is_stretch.nd rfl (.inl rfl))) (fun _ _ _ _ _ => (pts_one (PW.pt (pw_or (pt_cmpR op_ge (pe_op op_add (pv 3) (pv 7)) (pe_op op_sub (pv 4) (pv 7)) (nomark _)) (pw_or1 (pt_not (pt_val (pe_ca c_law_may (hr.mono (by decide)) (by rfl) (pa_cons (pv 0) (pa_cons (pv 1) (pa_cons (pe_op op_add (pv 3) (pv 7)) (pa_cons (pe_op op_sub (pv 4) (pv 7)) pa_nil)))))))))))) (fun _ _ _ _ _ => (pv 7))) (pe_lst pa_nil) (nomark _)))))))), ?_⟩
    refine ⟨_, rfl, t, .ty "tuple", _, _, isTup d, rfl, .ty _, (Dq.dp hd.dp).ty, kit_tup d, isTup d, rfl, ?_⟩
    cases hd with
    | @tup a xs ds hs hds =>
      have hel := dsAll_len hds
      refine iteF ⟨_, rfl, a, xs, rfl, .inr (SqT.of hs), rfl, _, rfl, ?_⟩
      by_cases hl : ds.length = 3
      · have e2 : (!decide (V.int (xs.length : Nat) = V.int 3)) = false := by
          rw [hel, hl]
          simp
        rw [e2]
        refine iteF ?_
        obtain ⟨u0, u1, u2, d0, d1, d2, rfl, rfl, h0, h1, h2⟩ := ds_three hds hl
        refine ⟨_, rfl, a, rfl, ⟨_, SqT.of hs⟩, fun D hD => lc_tup (K := K) (xs := [u0, u1, u2]) (fun i H2 => ∃ us, H2 D = some (.lst us) ∧ DsAll (hd2 D D H2) us ((([d0, d1, d2] : List PyData).take i).filter fun d => !whD d) ∧ Ext H H2)
          ⟨[], upd_same, .nil, Ext.new hD⟩ (fun i H2 _ ⟨_, _, _, k⟩ => SqT.of (k _ _ hs)) (fun i u H2 hi hv => ?_) (fun H2 hv => ?_)⟩
        · obtain ⟨us, hL, hU, k2⟩ := hv
          obtain ⟨dd, hdd, hdp⟩ := dsAll_get hds hi
          have hnh : Ext H (hd2 D D H2) := fun b o e => by
            rw [hd2_ne]
            · exact k2 _ _ e
            · intro z
              rw [z, hD] at e
              cases e
            · intro z
              rw [z, hD] at e
              cases e
          have hul := dsAll_len hU
          refine ⟨rfl, _, rfl, u, dd, rfl, .dp (ds_ext k2 hdp).dp, _, rfl, ?_⟩
          cases hw : whD dd with
          | true =>
            refine iteF ⟨us, hL, ?_, k2⟩
            rw [List.take_add_one, hdd, List.filter_append]
            have : ([dd].filter fun d => !whD d) = [] := by
              rw [List.filter_cons_of_neg (by rw [hw]; decide), List.filter_nil]
            show DsAll _ us (_ ++ [dd].filter fun d => !whD d)
            rw [this, List.append_nil]
            exact hU
          | false =>
            refine iteT ⟨_, rfl, us, hL, szLt ?_, us ++ [u], upd_same, ?_, k2.put hD⟩
            · rw [hul]
              have := List.length_filter_le (fun d => !whD d) ((([d0, d1, d2] : List PyData).take i))
              have h3 := List.length_take_le' i ([d0, d1, d2] : List PyData)
              have h4 : ([d0, d1, d2] : List PyData).length = 3 := rfl
              omega
            · rw [hd2_upd, List.take_add_one, hdd, List.filter_append]
              have : ([dd].filter fun d => !whD d) = [dd] := by
                rw [List.filter_cons_of_pos (by rw [hw]; rfl), List.filter_nil]
              show DsAll _ _ (_ ++ [dd].filter fun d => !whD d)
              rw [this]
              exact dsAll_snoc hU (ds_ext hnh hdp)
        · obtain ⟨us, hL, hU, k2⟩ := hv
          have hU : DsAll (hd2 D D H2) us (([d0, d1, d2] : List PyData).filter fun d => !whD d) := hU
          refine ⟨Nat.zero_le _, fun e0 he0 => ?_⟩
          have e4 := Ext.new (o := .lst []) he0
          have k4 := k2.trans e4
          refine ⟨.list (([d0, d1, d2] : List PyData).filter fun d => !whD d), .list [], .lst (SqL.of (e4 _ _ hL)) (dsAll_ext (fun b o h => e4 _ _ (hd2_le _ _ h)) hU).dp, .lst (SqL.of upd_same) .nil, Lay.lst (k := 5) (fun e he => hlay.mem (List.mem_filter.mp he).1) (by decide), by decide, _, rfl, ?_⟩
          rw [eqv_none6]
          cases hfil : (([d0, d1, d2] : List PyData).filter fun d => !whD d) with
          | cons z zs =>
            have hz : z ∈ ([d0, d1, d2] : List PyData).filter fun d => !whD d := by rw [hfil]; exact List.mem_cons_self ..
            have hz2 := List.mem_filter.mp hz
            refine iteT ?_
            have := q _ k4
            unfold stD at this
            rw [tri_wh (by
              cases hq : (([d0, d1, d2] : List PyData).map whD).all id with
              | false => rfl
              | true =>
                rw [List.all_map, List.all_eq_true] at hq
                have h5 : whD z = true := hq z hz2.1
                have h6 : (!whD z) = true := hz2.2
                rw [h5] at h6
                cases h6)] at this
            exact this
          | nil =>
            refine iteF ?_
            have hq : (([d0, d1, d2] : List PyData).map whD).all id = true := by
              rw [List.all_map, List.all_eq_true]
              intro z hz
              have := List.filter_eq_nil_iff.mp hfil z hz
              show whD z = true
              cases hw : whD z with
              | true => rfl
              | false =>
                rw [hw] at this
                exact absurd rfl this
            obtain ⟨i, j, sz, rfl, rfl, rfl⟩ := tri_wh2 hq
            cases h0
            cases h1
            cases h2
            generalize upd H2 e0 (.lst []) = H4 at e4 k4
            have hs4 := k4 _ _ hs
            have q1 : ∀ H', Ext H H' → Q (.bl (isSt r x (i, j, sz))) H' := q
            have no : ¬ (0 ≤ i ∧ i < x.length ∧ 0 ≤ j ∧ j < x.length ∧ 1 ≤ sz ∧ sz ≤ 12) → Q (.bl false) H4 := fun h => by
              have := q1 H4 k4
              cases hi : isSt r x (i, j, sz) with
              | false =>
                rw [hi] at this
                exact this
              | true =>
                have z := isSt_in hi
                exact absurd ⟨z.1, z.2.1, z.2.2.1, z.2.2.2.1, z.2.2.2.2.1, show sz ≤ 12 from Int.le_trans z.2.2.2.2.2 (by omega)⟩ h
            refine ⟨_, rfl, a, _, rfl, SqT.of hs4, rfl, _, _, rfl, _, _, rfl, _, _, rfl, rfl, ?_⟩
            refine ⟨_, rfl, 0, i, rfl, rfl, _, rfl, ?_⟩
            by_cases e1 : 0 ≤ i
            · rw [decide_eq_true e1]
              refine iteT ⟨_, rfl, x, rfl, szL (by omega), _, _, rfl, rfl, _, rfl, ?_⟩
              by_cases e2 : i < x.length
              · rw [decide_eq_true e2]
                refine iteF ⟨_, rfl, 0, j, rfl, rfl, _, rfl, ?_⟩
                by_cases e3 : 0 ≤ j
                · rw [decide_eq_true e3]
                  refine iteT ⟨_, rfl, x, rfl, szL (by omega), _, _, rfl, rfl, _, rfl, ?_⟩
                  by_cases e4' : j < x.length
                  · rw [decide_eq_true e4']
                    refine iteF ⟨_, rfl, 1, sz, rfl, rfl, _, rfl, ?_⟩
                    by_cases e5 : 1 ≤ sz
                    · rw [decide_eq_true e5]
                      refine iteT ⟨_, _, rfl, rfl, _, rfl, ?_⟩
                      by_cases e6 : sz ≤ 12
                      · rw [decide_eq_true e6]
                        refine iteF ?_
                        refine ⟨_, rfl, sz, rfl, by omega, by omega, fun D2 hD2 => lc_range (n := sz.toNat) (fun k H5 => H5 D2 = some (.lst ((((List.range k).filter (badK r x i j)).map fun k : Nat => (k : Int)).map V.int)) ∧ Ext H4 H5) ⟨upd_same, Ext.new hD2⟩ (fun k H5 hk hv => ?_) (fun H5 hv => ?_)⟩
                        · obtain ⟨hL5, k5⟩ := hv
                          have hsz : ((((List.range k).filter (badK r x i j)).map fun k : Nat => (k : Int)).map V.int).length ≤ 12 := by
                            rw [List.length_map, List.length_map]
                            have := List.length_filter_le (badK r x i j) (List.range k)
                            rw [List.length_range] at this
                            omega
                          have yes : badK r x i j k = true → ∀ H6, Ext H5 H6 → ∃ acc, H6 D2 = some (.lst acc) ∧ acc.length < sizeLine ∧ upd H6 D2 (.lst (acc ++ [V.int (k : Nat)])) D2 = some (.lst ((((List.range (k + 1)).filter (badK r x i j)).map fun k : Nat => (k : Int)).map V.int)) ∧ Ext H4 (upd H6 D2 (.lst (acc ++ [V.int (k : Nat)]))) := fun e H6 k6 => by
                            refine ⟨_, k6 _ _ hL5, szLt (by omega), ?_, (k5.trans k6).put hD2⟩
                            rw [upd_same, List.range_succ, List.filter_append, List.filter_cons_of_pos e, List.map_append, List.map_append]
                            rfl
                          have no2 : badK r x i j k = false → ∀ H6, Ext H5 H6 → H6 D2 = some (.lst ((((List.range (k + 1)).filter (badK r x i j)).map fun k : Nat => (k : Int)).map V.int)) ∧ Ext H4 H6 := fun e H6 k6 => by
                            refine ⟨?_, k5.trans k6⟩
                            rw [List.range_succ, List.filter_append, List.filter_cons_of_neg (by rw [e]; exact Bool.false_ne_true), List.filter_nil, List.append_nil]
                            exact k6 _ _ hL5
                          rw [Int.zero_add]
                          refine ⟨rfl, _, rfl, _, rfl, _, _, rfl, rfl, _, rfl, _, rfl, _, _, rfl, rfl, _, _, rfl, rfl, _, rfl, ite2 (fun e => ?_) (fun e => ?_)⟩
                          · have e : j - (k : Int) ≤ i + (k : Int) := of_decide_eq_true e
                            refine iteT ⟨_, rfl, yes ?_ H5 Ext.refl⟩
                            unfold badK
                            rw [decide_eq_true e]
                            rfl
                          · have e : ¬ j - (k : Int) ≤ i + (k : Int) := fun z => e (decide_eq_true z)
                            refine ⟨_, rfl, _, rfl, _, rfl, _, rfl, _, _, rfl, rfl, _, rfl, _, rfl, _, _, rfl, rfl, v, r, x, _, _, rfl, RulesAt.mono _ _ _ _ (TupK.ext (k4.trans k5)) hR, ok, by omega, by omega, by omega, by omega, by omega, fun H6 k6 => ⟨_, rfl, ?_⟩⟩
                            cases hm : mayC r x (i + (k : Int)) (j - (k : Int)) with
                            | false =>
                              refine iteT ⟨_, rfl, yes ?_ H6 k6⟩
                              unfold badK
                              rw [hm, decide_eq_false e]
                              rfl
                            | true =>
                              refine iteF (no2 ?_ H6 k6)
                              unfold badK
                              rw [hm, decide_eq_false e]
                              rfl
                        · obtain ⟨hL5, k5⟩ := hv
                          refine ⟨Nat.zero_le _, fun e7 he7 => ?_⟩
                          have x7 := Ext.new (o := .lst []) he7
                          refine ⟨.list ((((List.range sz.toNat).filter (badK r x i j)).map fun k : Nat => (k : Int)).map PyData.int), .list [], .lst (SqL.of (x7 _ _ hL5)) (dpInts _), .lst (SqL.of upd_same) .nil, PySem.W.shaped_ints _, by decide, ?_⟩
                          rw [eqv_none6]
                          have := q1 _ ((k4.trans k5).trans x7)
                          rw [isSt_fil e1 e4' e5] at this
                          have ee : (((((List.range sz.toNat).filter (badK r x i j)).map fun k : Nat => (k : Int)).map PyData.int).isEmpty) = ((List.range sz.toNat).filter (badK r x i j)).isEmpty := by
                            cases (List.range sz.toNat).filter (badK r x i j) <;> rfl
                          rw [ee]
                          exact this
                      · rw [decide_eq_false e6]
                        exact iteT (no fun h => e6 h.2.2.2.2.2)
                    · rw [decide_eq_false e5]
                      exact iteF ⟨_, rfl, iteT (no fun h => e5 h.2.2.2.2.1)⟩
                  · rw [decide_eq_false e4']
                    exact iteT (no fun h => e4' h.2.2.2.1)
                · rw [decide_eq_false e3]
                  exact iteF ⟨_, rfl, iteT (no fun h => e3 h.2.2.1)⟩
              · rw [decide_eq_false e2]
                exact iteT (no fun h => e2 h.2.1)
            · rw [decide_eq_false e1]
              exact iteF ⟨_, rfl, iteT (no fun h => e1 h.1)⟩
      · have e2 : (!decide (V.int (xs.length : Nat) = V.int 3)) = true := by
          rw [decide_eq_false]
          · rfl
          · intro z
            injection z with z
            omega
        rw [e2]
        have := q H Ext.refl
        rw [st_row (by show decide ((ds.length : Int) = 3) = false; exact decide_eq_false (by omega))] at this
        exact iteT this
    | _ => exact iteT (iteT (q H Ext.refl))
abbrev CLSt (P : Program) (w : World) (K : PySem.W.Frag) (mg : Str → Option Value) (base : Heap) : Prop := Ca P w K mg base 2 "_law_is_stretch" ["_law_code_here", "_law_page_here", "_law_what_is"] spLSt
abbrev s_law_due : Stmt := topS 28
theorem sc_law_due : FnScope ["_law_code_here", "_law_page_here", "_law_what_is", "_law_one"] ["_law_code_here", "_law_page_here", "_law_what_is"] (defScope s_law_due) :=
  ⟨rfl, rfl, rfl, by decide +kernel, rfl, by decide +kernel, by decide +kernel⟩
def spDue : Sp := fun vs H Q _ => ∃ (v t : V) (r : Rl) (x : Str) (d : PyData), vs = [v, .str x, t] ∧ RulesAt H v r ∧ RlOk r ∧ x.length ≤ 12 ∧ Dz H t d ∧ (Lay 7 d ∨ d = .dict []) ∧ ∀ H', Ext H H' → Q (.bl (crD r x d)) H'
theorem ok_due {f : Addr} {fd : FuncData} (F : Fun K "_law_due" "_law_due" s_law_due f fd) (c_law_is_stretch : CLSt P w K mg base) (c_law_crossing : CCrs P w K mg base) (misinstance : mg "isinstance" = none) (mtuple : mg "tuple" = none) (mlen : mg "len" = none) : FnOk P w K mg base CX0 3 f fd ["_law_code_here", "_law_page_here", "_law_what_is"] spDue := by
  refine F.ok sc_law_due (fun vs H Q E h => ?_) (fun cdv A outer s H vs Q E hr h => ?_)
  · obtain ⟨v, t, r, x, d, rfl, _⟩ := h
    rfl
  · obtain ⟨v, t, r, x, d, rfl, hR, ok, hx, hd, hlay, q⟩ := h
    refine ⟨_, (pss_cons (ps_if (PW.pt (pw_or (pt_not (pt_val (pe_callB (isi1 K) (by rfl) misinstance (by decide +kernel) (pa_cons (pv 2) (pa_cons (pe_bltn (v := .ty "tuple") (by rfl) mtuple (by decide +kernel) rfl) pa_nil))))) (pw_or1 (pt_cmpR op_ne (pe_callB (lenQ K) (by rfl) mlen (by decide +kernel) (pa_cons (pv 2) pa_nil)) pe_int (nomark _))))) (pss_one (ps_ret pe_bl)) pss_nil)
      (pss_cons (ps_if (pt_cmpR (neD K hr.units) (pe_lc (own := [("_law_one", 3)]) (g := gName 3) (by rfl) sc_law_due.nd (pi_tup (pv 2)) (blkOk_by (own := [("_law_one", 3)]) (N := ["_law_code_here", "_law_page_here", "_law_what_is", "_law_one"]) (sc := defScope s_law_due) (by decide +kernel)) (fun _ _ _ _ _ => (pg_name (i := 3) sc_law_due.nd rfl (.inl rfl))) (fun _ _ _ _ _ => (pts_one (pt_not (pt_val (pe_ca c_law_is_stretch (hr.mono (by decide)) (by rfl) (pa_cons (pv 0) (pa_cons (pv 1) (pa_cons (pv 3) pa_nil)))))))) (fun _ _ _ _ _ => (pv 3))) (pe_lst pa_nil) (nomark _)) (pss_one (ps_ret pe_bl)) pss_nil)
      (pss_one (ps_ret (pe_ca c_law_crossing (hr.mono (by decide)) (by rfl) (pa_cons (pe_ix (ixT K) (pv 2) pe_int (fun _ _ => rfl)) (pa_cons (pe_ix (ixT K) (pv 2) pe_int (fun _ _ => rfl)) pa_nil))))))), ?_⟩
    refine ⟨_, rfl, t, .ty "tuple", _, _, isTup d, rfl, .ty _, (Dz.dq hd).ty, kit_tup d, isTup d, rfl, ?_⟩
    rcases hd with hd | ⟨_, _, _, e⟩
    · cases hd with
      | @tup a xs ds hs hds =>
        have hlay : Lay 7 (.tuple ds) := hlay.elim id fun e => by cases e
        have hel := dsAll_len hds
        refine iteF ⟨_, rfl, a, xs, rfl, .inr (SqT.of hs), rfl, _, rfl, ?_⟩
        by_cases hl : ds.length = 2
        · have e2 : (!decide (V.int (xs.length : Nat) = V.int 2)) = false := by
            rw [hel, hl]
            simp
          rw [e2]
          refine iteF ?_
          obtain ⟨u0, u1, d0, d1, rfl, rfl, h0, h1⟩ := ds_two hds hl
          refine ⟨_, rfl, a, rfl, ⟨_, SqT.of hs⟩, fun D hD => lc_tup (K := K) (xs := [u0, u1]) (fun i H2 => ∃ us, H2 D = some (.lst us) ∧ DsAll (hd2 D D H2) us ((([d0, d1] : List PyData).take i).filter fun d => !stD r x d) ∧ Ext H H2)
            ⟨[], upd_same, .nil, Ext.new hD⟩ (fun i H2 _ ⟨_, _, _, k⟩ => SqT.of (k _ _ hs)) (fun i u H2 hi hv => ?_) (fun H2 hv => ?_)⟩
          · obtain ⟨us, hL, hU, k2⟩ := hv
            obtain ⟨dd, hdd, hdp⟩ := dsAll_get hds hi
            have hdm := List.mem_of_getElem? hdd
            have hul := dsAll_len hU
            refine ⟨rfl, _, rfl, _, rfl, _, rfl, v, u, r, x, dd, rfl, RulesAt.mono _ _ _ _ (TupK.ext k2) hR, ok, hx, ds_ext k2 hdp, hlay.mem hdm, fun H3 k3 => ⟨_, rfl, ?_⟩⟩
            have k23 := k2.trans k3
            have hnh : Ext H (hd2 D D H3) := fun b o e => by
              rw [hd2_ne]
              · exact k23 _ _ e
              · intro z
                rw [z, hD] at e
                cases e
              · intro z
                rw [z, hD] at e
                cases e
            have hU3 := dsAll_ext (hd2_ext k3) hU
            cases hw : stD r x dd with
            | true =>
              refine iteF ⟨us, k3 _ _ hL, ?_, k23⟩
              rw [List.take_add_one, hdd, List.filter_append]
              have : ([dd].filter fun d => !stD r x d) = [] := by
                rw [List.filter_cons_of_neg (by rw [hw]; decide), List.filter_nil]
              show DsAll _ us (_ ++ [dd].filter fun d => !stD r x d)
              rw [this, List.append_nil]
              exact hU3
            | false =>
              refine iteT ⟨_, rfl, us, k3 _ _ hL, szLt ?_, us ++ [u], upd_same, ?_, k23.put hD⟩
              · rw [hul]
                have := List.length_filter_le (fun d => !stD r x d) ((([d0, d1] : List PyData).take i))
                have h3 := List.length_take_le' i ([d0, d1] : List PyData)
                have h4 : ([d0, d1] : List PyData).length = 2 := rfl
                omega
              · rw [hd2_upd, List.take_add_one, hdd, List.filter_append]
                have : ([dd].filter fun d => !stD r x d) = [dd] := by
                  rw [List.filter_cons_of_pos (by rw [hw]; rfl), List.filter_nil]
                show DsAll _ _ (_ ++ [dd].filter fun d => !stD r x d)
                rw [this]
                exact dsAll_snoc hU3 (ds_ext hnh hdp)
          · obtain ⟨us, hL, hU, k2⟩ := hv
            have hU : DsAll (hd2 D D H2) us (([d0, d1] : List PyData).filter fun d => !stD r x d) := hU
            refine ⟨Nat.zero_le _, fun e0 he0 => ?_⟩
            have e4 := Ext.new (o := .lst []) he0
            have k4 := k2.trans e4
            refine ⟨.list (([d0, d1] : List PyData).filter fun d => !stD r x d), .list [], .lst (SqL.of (e4 _ _ hL)) (dsAll_ext (fun b o h => e4 _ _ (hd2_le _ _ h)) hU).dp, .lst (SqL.of upd_same) .nil, Lay.lst (k := 6) (fun e he => hlay.mem (List.mem_filter.mp he).1) (by decide), by decide, _, rfl, ?_⟩
            rw [eqv_none6]
            cases hfil : (([d0, d1] : List PyData).filter fun d => !stD r x d) with
            | cons z zs =>
              have hz : z ∈ ([d0, d1] : List PyData).filter fun d => !stD r x d := by rw [hfil]; exact List.mem_cons_self ..
              have hz2 := List.mem_filter.mp hz
              refine iteT ?_
              have := q _ k4
              rw [cr_no (by
                cases hq : (([d0, d1] : List PyData).map (stD r x)).all id with
                | false => rfl
                | true =>
                  rw [List.all_map, List.all_eq_true] at hq
                  have h5 : stD r x z = true := hq z hz2.1
                  have h6 : (!stD r x z) = true := hz2.2
                  rw [h5] at h6
                  cases h6)] at this
              exact this
            | nil =>
              refine iteF ?_
              have hq : (([d0, d1] : List PyData).map (stD r x)).all id = true := by
                rw [List.all_map, List.all_eq_true]
                intro z hz
                have := List.filter_eq_nil_iff.mp hfil z hz
                show stD r x z = true
                cases hw : stD r x z with
                | true => rfl
                | false =>
                  rw [hw] at this
                  exact absurd rfl this
              obtain ⟨y, z, hy, hz, sy, sz, e⟩ := cr_yes hq
              rw [e] at q
              have iy := isSt_in sy
              have iz := isSt_in sz
              exact ⟨_, rfl, a, _, 0, _, rfl, rfl, SqT.of (k4 _ _ hs), rfl, _, rfl, a, _, 1, _, rfl, rfl, SqT.of (k4 _ _ hs), rfl, _, _, y, z, rfl, tri_ds (ds_ext k4 h0) hy, tri_ds (ds_ext k4 h1) hz, by omega, by omega, fun H' k' => q H' (k4.trans k')⟩
        · have e2 : (!decide (V.int (xs.length : Nat) = V.int 2)) = true := by
            rw [decide_eq_false]
            · rfl
            · intro z
              injection z with z
              omega
          rw [e2]
          have := q H Ext.refl
          rw [cr_len (by show decide ((ds.length : Int) = 2) = false; exact decide_eq_false (by omega))] at this
          exact iteT this
      | _ => exact iteT (iteT (q H Ext.refl))
    · subst e
      exact iteT (iteT (q H Ext.refl))
abbrev CDue (P : Program) (w : World) (K : PySem.W.Frag) (mg : Str → Option Value) (base : Heap) : Prop := Ca P w K mg base 3 "_law_due" ["_law_code_here", "_law_page_here", "_law_what_is"] spDue
end
end Pf


namespace Pf
open PySem PySem.Spec PyProof.Rows L2
def BdT (y : St3) : Prop := (0 ≤ y.1 ∧ y.1 ≤ 20) ∧ (0 ≤ y.2.1 ∧ y.2.1 ≤ 20) ∧ 0 ≤ y.2.2 ∧ y.2.2 ≤ 20
theorem mem_cutV {xs : List V} {lo hi : Option Int} {u : V} (h : u ∈ cutV xs lo hi) : u ∈ xs := by
  unfold cutV at h
  exact List.mem_of_mem_drop (List.mem_of_mem_take h)
theorem cutV_len (xs : List V) (lo hi : Option Int) : (cutV xs lo hi).length ≤ xs.length := by
  unfold cutV
  rw [List.length_take, List.length_drop]
  omega
theorem bd_get {y : St3} (h : BdT y) {i : Int} (h0 : 0 ≤ i) (h1 : i < 3) : ∃ m : Int, 0 ≤ m ∧ m ≤ 20 ∧ atI [V.int y.1, .int y.2.1, .int y.2.2] i = some (.int m) := by
  obtain ⟨z, hz, e⟩ := atI_ints (ns := [y.1, y.2.1, y.2.2]) (i := i) h0 h1
  refine ⟨z, ?_, ?_, e⟩
  · simp only [List.mem_cons, List.not_mem_nil, or_false] at hz
    rcases hz with rfl | rfl | rfl
    · exact h.1.1
    · exact h.2.1.1
    · exact h.2.2.1
  · simp only [List.mem_cons, List.not_mem_nil, or_false] at hz
    rcases hz with rfl | rfl | rfl
    · exact h.1.2
    · exact h.2.1.2
    · exact h.2.2.2
theorem bd_dk {y : St3} (h : BdT y) {H : Hp} : ∀ u ∈ [V.int y.1, .int y.2.1, .int y.2.2], Dk 250 1 H u := fun u hu => by
  simp only [List.mem_cons, List.not_mem_nil, or_false] at hu
  rcases hu with rfl | rfl | rfl
  · exact (Dk.intS (by have := h.1; omega) (by have := h.1; omega)).le (by decide) (by decide)
  · exact (Dk.intS (by have := h.2.1; omega) (by have := h.2.1; omega)).le (by decide) (by decide)
  · exact (Dk.intS (by have := h.2.2; omega) (by have := h.2.2; omega)).le (by decide) (by decide)
theorem tri_dk {y : St3} (h : BdT y) {H : Hp} {a : Addr} (ha : H a = some (.tup [.int y.1, .int y.2.1, .int y.2.2])) : Dk 2000 2 H (.ref a) := Dk.tup (n := 7) ha (bd_dk h) (show 3 ≤ 7 by decide) (by decide)
theorem thg_of {m k : Nat} {H : Hp} {v : V} (h : Dk m k H v) (hm : m ≤ 20000) (hk : k ≤ 3) : Thg H v := .inl (h.le hm hk)
section
variable {P : Program} {w : World} {K : PySem.W.Frag} {mg : Str → Option Value} {base : Heap}
abbrev s_law_bent : Stmt := topS 29
theorem sc_law_bent : FnScope ["_law_pen_here", "_law_what_is", "_law_some", "_law_way", "_law_k", "_law_spot", "_law_one", "_law_odd", "_law_other"] ["_law_pen_here", "_law_what_is", "_law_some"] (defScope s_law_bent) :=
  ⟨rfl, rfl, rfl, by decide +kernel, rfl, by decide +kernel, by decide +kernel⟩
def spBent : Sp := fun vs H Q _ => ∃ (p c D l : Addr) (vw : V) (ww : St3 × St3) (us : List V) (L : List St3) (ys : List V) (n : Nat), vs = [.ref p, vw, .ref l] ∧ CfAt H vw ww ∧ BdT ww.1 ∧ BdT ww.2 ∧ H l = some (.lst us) ∧ l ≠ p ∧ Paired (Tri H) us L ∧ (∀ y ∈ L, BdT y) ∧ L.length ≤ 1000 ∧ H D = some (.lst ys) ∧ D ≠ p ∧ Pen H p c n ∧ n + 10 < 1000000 ∧
  ∀ v H', Thg (hd2 p D H') v → Kp p H H' → Pen H' p c (n + 10) → Q v H'
theorem ok_bent {f : Addr} {fd : FuncData} (F : Fun K "_law_bent" "_law_bent" s_law_bent f fd) (c_law_pick : CDraw P w K mg base) (mlen : mg "len" = none) (mlist : mg "list" = none) (mstr : mg "str" = none) : FnOk P w K mg base CX0 3 f fd ["_law_pen_here", "_law_what_is", "_law_some"] spBent := by
  refine F.ok sc_law_bent (fun vs H Q E h => ?_) (fun cdv A outer s H vs Q E hr h => ?_)
  · obtain ⟨p, c, D, l, vw, ww, us, L, ys, n, rfl, _⟩ := h
    rfl
  · obtain ⟨p, c, D, l, vw, ⟨y1, y2⟩, us, L, ys, n, rfl, ⟨b, v1, v2, rfl, hb, ⟨a1, rfl, ha1⟩, ⟨a2, rfl, ha2⟩⟩, b1, b2, hl, nlp, hPr, hLb, hLl, hD, nDp, hP, hn, q⟩ := h
    refine ⟨_, (pss_cons (ps_set (i := 3) sc_law_bent.nd rfl (.inl rfl) (pe_ca c_law_pick (hr.mono (by decide)) (by rfl) (pa_cons (pv 0) (pa_cons pe_int pa_nil))))
      (pss_cons (ps_set (i := 4) sc_law_bent.nd rfl (.inl rfl) (pe_ca c_law_pick (hr.mono (by decide)) (by rfl) (pa_cons (pv 0) (pa_cons pe_int pa_nil))))
      (pss_cons (ps_set (i := 5) sc_law_bent.nd rfl (.inl rfl) (pe_ca c_law_pick (hr.mono (by decide)) (by rfl) (pa_cons (pv 0) (pa_cons pe_int pa_nil))))
      (pss_cons (ps_set (i := 6) sc_law_bent.nd rfl (.inl rfl) (pe_ix (ixT K) (pv 1) (pv 4) (fun _ _ => rfl)))
      (pss_cons (ps_set (i := 7) sc_law_bent.nd rfl (.inl rfl) (pe_lst (pa_cons (pe_op op_add (pe_ix (ixT K) (pv 6) (pv 5) (fun _ _ => rfl)) pe_int) (pa_cons (pe_op op_sub (pe_ix (ixT K) (pv 6) (pv 5) (fun _ _ => rfl)) pe_int) (pa_cons (pe_un un_neg pe_int) (pa_cons pe_int (pa_cons pe_int (pa_cons pe_int (pa_cons pe_non (pa_cons pe_bl (pa_cons (pe_callTy call_str_int (by rfl) mstr (by decide +kernel) (pa_cons (pe_ix (ixT K) (pv 6) (pv 5) (fun _ _ => rfl)) pa_nil)) (pa_cons (pe_lst (pa_cons (pe_ix (ixT K) (pv 6) (pv 5) (fun _ _ => rfl)) pa_nil)) (pa_cons (pe_op op_pow pe_int pe_int) pa_nil)))))))))))))
      (pss_cons (ps_if (pt_cmpR op_lt (pv 3) pe_int (nomark _)) (pss_cons (ps_set (i := 6) sc_law_bent.nd rfl (.inl rfl) (pe_op (catN K) (pe_op (catN K) (pe_slice (slN K) (pv 6) po_none (po_some (pv 5))) (pe_tup (pa_cons (pe_ix (ixL K) (pv 7) (pe_ca c_law_pick (hr.mono (by decide)) (by rfl) (pa_cons (pv 0) (pa_cons pe_int pa_nil))) (fun _ _ => rfl)) pa_nil))) (pe_slice (slN K) (pv 6) (po_some (pe_op op_add (pv 5) pe_int)) po_none)))
      (pss_one (ps_ret (pe_ifExp (pt_cmpR op_eq (pv 4) pe_int (nomark _)) (pe_tup (pa_cons (pe_ix (ixT K) (pv 1) pe_int (fun _ _ => rfl)) (pa_cons (pv 6) pa_nil))) (pe_tup (pa_cons (pv 6) (pa_cons (pe_ix (ixT K) (pv 1) pe_int (fun _ _ => rfl)) pa_nil))))))) pss_nil)
      (pss_cons (ps_if (pt_cmpR op_eq (pv 3) pe_int (nomark _)) (pss_cons (ps_set (i := 7) sc_law_bent.nd rfl (.inl rfl) (pe_lst (pa_cons (pe_revT (pv 1)) (pa_cons (pe_slice (slN K) (pv 1) po_none (po_some pe_int)) (pa_cons (pe_op (catN K) (pv 1) (pe_slice (slN K) (pv 1) po_none (po_some pe_int))) (pa_cons (pe_callTy (listOf K) (by rfl) mlist (by decide +kernel) (pa_cons (pv 1) pa_nil)) (pa_cons (pe_tup (pa_cons (pe_ix (ixT K) (pv 1) pe_int (fun _ _ => rfl)) (pa_cons (pe_ix (ixT K) (pv 1) pe_int (fun _ _ => rfl)) pa_nil))) (pa_cons (pe_tup pa_nil) pa_nil))))))))
      (pss_one (ps_ret (pe_ix (ixL K) (pv 7) (pe_ca c_law_pick (hr.mono (by decide)) (by rfl) (pa_cons (pv 0) (pa_cons pe_int pa_nil))) (fun _ _ => rfl))))) pss_nil)
      (pss_cons (ps_if (pt_cmpR op_eq (pv 3) pe_int (nomark _)) (pss_cons (ps_set (i := 6) sc_law_bent.nd rfl (.inl rfl) (pe_ix (ixL K) (pe_lst (pa_cons (pe_callTy (listOf K) (by rfl) mlist (by decide +kernel) (pa_cons (pv 6) pa_nil)) (pa_cons (pe_slice (slN K) (pv 6) po_none (po_some pe_int)) (pa_cons (pe_op (catN K) (pv 6) (pe_tup (pa_cons pe_int pa_nil))) (pa_cons pe_non (pa_cons (pe_tup pa_nil) (pa_cons (pe_revT (pv 6)) (pa_cons pe_str pa_nil)))))))) (pe_ca c_law_pick (hr.mono (by decide)) (by rfl) (pa_cons (pv 0) (pa_cons pe_int pa_nil))) (fun _ _ => rfl)))
      (pss_one (ps_ret (pe_ifExp (pt_cmpR op_eq (pv 4) pe_int (nomark _)) (pe_tup (pa_cons (pe_ix (ixT K) (pv 1) pe_int (fun _ _ => rfl)) (pa_cons (pv 6) pa_nil))) (pe_tup (pa_cons (pv 6) (pa_cons (pe_ix (ixT K) (pv 1) pe_int (fun _ _ => rfl)) pa_nil))))))) pss_nil)
      (pss_cons (ps_if (pt_cmpR op_eq (pv 3) pe_int (nomark _)) (pss_one (ps_ret (pe_ix (ixL K) (pe_lst (pa_cons pe_non (pa_cons pe_bl (pa_cons pe_int (pa_cons pe_str (pa_cons (pe_lst pa_nil) (pa_cons pe_dnewK (pa_cons (pe_tup (pa_cons pe_non (pa_cons pe_non pa_nil))) (pa_cons (pe_tup (pa_cons (pe_tup (pa_cons pe_int (pa_cons pe_int pa_nil))) (pa_cons (pe_tup (pa_cons pe_int (pa_cons pe_int pa_nil))) pa_nil))) (pa_cons pe_str pa_nil)))))))))) (pe_ca c_law_pick (hr.mono (by decide)) (by rfl) (pa_cons (pv 0) (pa_cons pe_int pa_nil))) (fun _ _ => rfl)))) pss_nil)
      (pss_cons (ps_set (i := 8) sc_law_bent.nd rfl (.inl rfl) (pe_ix (ixL K) (pe_op op_cat (pv 2) (pe_lst (pa_cons (pe_tup (pa_cons pe_int (pa_cons pe_int (pa_cons pe_int pa_nil)))) pa_nil))) (pe_ca c_law_pick (hr.mono (by decide)) (by rfl) (pa_cons (pv 0) (pa_cons (pe_op op_add (pe_callB (lenQ K) (by rfl) mlen (by decide +kernel) (pa_cons (pv 2) pa_nil)) pe_int) pa_nil))) (fun _ _ => rfl)))
      (pss_one (ps_ret (pe_ifExp (pt_cmpR op_eq (pv 4) pe_int (nomark _)) (pe_tup (pa_cons (pe_ix (ixT K) (pv 1) pe_int (fun _ _ => rfl)) (pa_cons (pv 8) pa_nil))) (pe_tup (pa_cons (pv 8) (pa_cons (pe_ix (ixT K) (pv 1) pe_int (fun _ _ => rfl)) pa_nil)))))))))))))))), ?_⟩
    have hul := paired_len hPr
    obtain ⟨op, hop⟩ : ∃ zs, H p = some (.lst zs) := by
      obtain ⟨cells, a, r, hp, _⟩ := hP
      exact ⟨_, hp⟩
    have gb := hd2_tup (p := p) (D := D) hb hop hD
    have ga1 := hd2_tup (p := p) (D := D) ha1 hop hD
    have ga2 := hd2_tup (p := p) (D := D) ha2 hop hD
    -- what stays
    have pn : ∀ {H' : Hp} {m : Nat}, Pen H' p c m → ∃ zs, H' p = some (.lst zs) := fun h => by
      obtain ⟨cells, a, r, hp, _⟩ := h
      exact ⟨_, hp⟩
    have up : ∀ {H' : Hp}, Kp p H H' → ∀ {a : Addr} {xs : List V}, H a = some (.tup xs) → H' a = some (.tup xs) := fun {H'} k {a xs} e => k _ _ (fun z => by rw [z, hop] at e; cases e) e
    have fin : ∀ (H' : Hp) (u : V) (m' : Nat), Kp p H H' → Pen H' p c m' → m' ≤ n + 10 → Dk 2000 2 (hd2 p D H') u → (∀ t, H' t = none → Q (.ref t) (upd H' t (.tup [.ref a1, u]))) ∧ (∀ t, H' t = none → Q (.ref t) (upd H' t (.tup [u, .ref a2]))) := fun H' u m' k hP' hm hu => by
      obtain ⟨zs, hp'⟩ := pn hP'
      have hD' := k _ _ nDp hD
      have e0 := hd2_kp (D := D) k
      refine ⟨fun t ht => ?_, fun t ht => ?_⟩
      · have x := Ext.new (o := .tup [.ref a1, u]) ht
        refine q _ _ (.inl (Dk.tup (m := 2000) (k := 2) (n := 5) (hd2_new hp' hD' ht) (fun z hz => ?_) (show 2 ≤ 5 by decide) (by decide))) (k.trans (Kp.ext x)) ((hP'.ext x).mono (by omega))
        simp only [List.mem_cons, List.not_mem_nil, or_false] at hz
        rcases hz with rfl | rfl
        · exact (tri_dk b1 (e0 _ _ ga1)).ext (hd2_ext x)
        · exact hu.ext (hd2_ext x)
      · have x := Ext.new (o := .tup [u, .ref a2]) ht
        refine q _ _ (.inl (Dk.tup (m := 2000) (k := 2) (n := 5) (hd2_new hp' hD' ht) (fun z hz => ?_) (show 2 ≤ 5 by decide) (by decide))) (k.trans (Kp.ext x)) ((hP'.ext x).mono (by omega))
        simp only [List.mem_cons, List.not_mem_nil, or_false] at hz
        rcases hz with rfl | rfl
        · exact hu.ext (hd2_ext x)
        · exact (tri_dk b2 (e0 _ _ ga2)).ext (hd2_ext x)
    refine ⟨_, rfl, p, c, 12, n, rfl, hP, by omega, by decide, by decide, fun way H1 w0 w1 k1 hP1 => ?_⟩
    refine ⟨_, rfl, p, c, 2, _, rfl, hP1, by omega, by decide, by decide, fun kk H2 kk0 kk1 k2 hP2 => ?_⟩
    refine ⟨_, rfl, p, c, 3, _, rfl, hP2, by omega, by decide, by decide, fun sp H3 sp0 sp1 k3 hP3 => ?_⟩
    have k03 := (k1.trans k2).trans k3
    obtain ⟨ao, yo, hone, hao, byo⟩ : ∃ (ao : Addr) (yo : St3), atI [V.ref a1, .ref a2] kk = some (.ref ao) ∧ H ao = some (.tup [.int yo.1, .int yo.2.1, .int yo.2.2]) ∧ BdT yo := by
      have : kk = 0 ∨ kk = 1 := by omega
      rcases this with rfl | rfl
      · exact ⟨a1, y1, rfl, ha1, b1⟩
      · exact ⟨a2, y2, rfl, ha2, b2⟩
    have gao := hd2_tup (p := p) (D := D) hao hop hD
    refine ⟨_, rfl, _, rfl, b, _, kk, _, rfl, rfl, SqT.of (up k03 hb), hone, ?_⟩
    obtain ⟨m, m0, m1, hat⟩ := bd_get byo sp0 sp1
    have hao3 := up k03 hao
    refine ⟨_, rfl, _, rfl, ao, _, sp, _, rfl, rfl, SqT.of hao3, hat, m, 1, rfl, rfl, ?_⟩
    refine ⟨_, rfl, _, rfl, ao, _, sp, _, rfl, rfl, SqT.of hao3, hat, m, 1, rfl, rfl, ?_⟩
    refine ⟨1, rfl, ?_⟩
    refine ⟨_, rfl, _, rfl, ao, _, sp, _, rfl, rfl, SqT.of hao3, hat, m, rfl, ?_, ?_⟩
    · have : m.natAbs.log2 ≤ m.natAbs := Nat.log2_le_self _
      omega
    refine ⟨_, rfl, _, rfl, ao, _, sp, _, rfl, rfl, SqT.of hao3, hat, szL (show 1 ≤ 1000000 by decide), fun l0 hl0 => ?_⟩
    refine ⟨10, 40, rfl, rfl, ⟨by decide, by decide, by decide⟩, szL (show 11 ≤ 1000000 by decide), fun lo hlo => ?_⟩
    have x4 := Ext.new (o := .lst [.int m]) hl0
    have x5 := Ext.new (o := .lst [.int (m + 1), .int (m - 1), .int (-1), .int 0, .int 12, .int 99, .non, .bl true, .str (toString m), .ref l0, .int (10 ^ (40 : Int).toNat)]) hlo
    obtain ⟨zs3, hp3⟩ := pn hP3
    have hD3 := k03 _ _ nDp hD
    have gl0 := hd2_new (o := .lst [.int m]) hp3 hD3 hl0
    have hod : ∀ u ∈ [V.int (m + 1), .int (m - 1), .int (-1), .int 0, .int 12, .int 99, .non, .bl true, .str (toString m), .ref l0, .int (10 ^ (40 : Int).toNat)], Dk 250 1 (hd2 p D (upd H3 l0 (.lst [.int m]))) u := fun u hu => by
      simp only [List.mem_cons, List.not_mem_nil, or_false] at hu
      rcases hu with rfl | rfl | rfl | rfl | rfl | rfl | rfl | rfl | rfl | rfl | rfl
      · exact (Dk.intS (by omega) (by omega)).le (by decide) (by decide)
      · exact (Dk.intS (by omega) (by omega)).le (by decide) (by decide)
      · exact (Dk.intS (by decide) (by decide)).le (by decide) (by decide)
      · exact (Dk.intS (by decide) (by decide)).le (by decide) (by decide)
      · exact (Dk.intS (by decide) (by decide)).le (by decide) (by decide)
      · exact (Dk.intS (by decide) (by decide)).le (by decide) (by decide)
      · exact Dk.non.le (by decide) (by decide)
      · exact (Dk.bl true).le (by decide) (by decide)
      · obtain ⟨mn, rfl⟩ : ∃ mn : Nat, m = (mn : Int) := ⟨m.toNat, by omega⟩
        exact (Dk.text (by omega)).le (by decide) (by decide)
      · exact (Dk.lst (m := 200) (k := 0) (n := 1) gl0 (fun z hz => by rw [List.mem_singleton.mp hz]; exact Dk.intS (by omega) (by omega)) (Nat.le_refl _) (by decide)).le (Nat.le_refl 250) (by decide)
      · exact (Dk.int (by decide +kernel)).le (by decide) (by decide)
    have hod5 : ∀ u ∈ [V.int (m + 1), .int (m - 1), .int (-1), .int 0, .int 12, .int 99, .non, .bl true, .str (toString m), .ref l0, .int (10 ^ (40 : Int).toNat)], Dk 250 1 (hd2 p D (upd (upd H3 l0 (.lst [.int m])) lo (.lst [.int (m + 1), .int (m - 1), .int (-1), .int 0, .int 12, .int 99, .non, .bl true, .str (toString m), .ref l0, .int (10 ^ (40 : Int).toNat)]))) u := fun u hu => (hod u hu).ext (hd2_ext x5)
    have hlo5 : (upd (upd H3 l0 (.lst [.int m])) lo (.lst [.int (m + 1), .int (m - 1), .int (-1), .int 0, .int 12, .int 99, .non, .bl true, .str (toString m), .ref l0, .int (10 ^ (40 : Int).toNat)])) lo = some (.lst [.int (m + 1), .int (m - 1), .int (-1), .int 0, .int 12, .int 99, .non, .bl true, .str (toString m), .ref l0, .int (10 ^ (40 : Int).toNat)]) := upd_same
    have hP5 := (hP3.ext x4).ext x5
    have k05 := k03.trans (Kp.ext (x4.trans x5))
    have nlo : lo ≠ p := fun z => by
      rw [z] at hlo
      rw [x4 _ _ hp3] at hlo
      cases hlo
    have hods : ([V.int (m + 1), .int (m - 1), .int (-1), .int 0, .int 12, .int 99, .non, .bl true, .str (toString m), .ref l0, .int (10 ^ (40 : Int).toNat)]).length = 11 := rfl
    generalize [V.int (m + 1), .int (m - 1), .int (-1), .int 0, .int 12, .int 99, .non, .bl true, .str (toString m), .ref l0, .int (10 ^ (40 : Int).toNat)] = ods at x5 hod5 hlo5 hP5 k05 hods ⊢
    generalize upd (upd H3 l0 (.lst [.int m])) lo (.lst ods) = H5 at x5 hod5 hlo5 hP5 k05 ⊢
    clear hod gl0
    have hb5 := up k05 hb
    have hao5 := up k05 hao
    have hD5 := k05 _ _ nDp hD
    -- below 6
    refine ⟨_, rfl, _, _, rfl, rfl, _, rfl, ite2 (fun e => ?_) (fun e => ?_)⟩
    · clear e
      refine ⟨_, rfl, _, rfl, _, rfl, ao, _, rfl, hao5, fun p2 H6 x6 hS6 => ?_⟩
      refine ⟨_, rfl, _, rfl, p, c, 11, _, rfl, hP5.ext x6, by omega, by decide, by decide, fun e H7 e0 e1 k7 hP7 => ?_⟩
      obtain ⟨u, hu, hatu⟩ := atI_mem (xs := ods) e0 (by rw [hods]; exact e1)
      have k57 := (Kp.ext (p := p) x6).trans k7
      refine ⟨lo, ods, e, u, rfl, rfl, SqL.of (k57 _ _ nlo hlo5), hatu, szL (show 1 ≤ 1000000 by decide), fun t1 ht1 => ?_⟩
      have x8 := Ext.new (o := .tup [u]) ht1
      have k58 := k57.trans (Kp.ext x8)
      have hP8 := hP7.ext x8
      obtain ⟨zs6, hp6⟩ := pn (hP5.ext x6)
      have hS8 : upd H7 t1 (.tup [u]) p2 = some (.tup (cutV [V.int yo.1, .int yo.2.1, .int yo.2.2] none (some sp))) := x8 _ _ (k7 _ _ (fun z => by rw [z, hp6] at hS6; cases hS6) hS6)
      have ht8 : upd H7 t1 (.tup [u]) t1 = some (.tup [u]) := upd_same
      generalize upd H7 t1 (.tup [u]) = H8 at x8 k58 hP8 hS8 ht8 ⊢
      have hl1 := cutV_len [V.int yo.1, .int yo.2.1, .int yo.2.2] none (some sp)
      refine ⟨p2, t1, _, _, rfl, rfl, hS8, ht8, szL (by have : ([V.int yo.1, .int yo.2.1, .int yo.2.2]).length = 3 := rfl; have : ([u] : List V).length = 1 := rfl; omega), fun p3 H9 x9 hS9 => ?_⟩
      have k59 := k58.trans (Kp.ext x9)
      refine ⟨_, rfl, _, rfl, _, 1, rfl, rfl, _, rfl, ao, _, rfl, up (k05.trans k59) hao, fun p4 H10 x10 hS10 => ?_⟩
      have hl2 := cutV_len [V.int yo.1, .int yo.2.1, .int yo.2.2] (some (sp + 1)) none
      refine ⟨p3, p4, _, _, rfl, rfl, x10 _ _ hS9, hS10, szL (by have : ([V.int yo.1, .int yo.2.1, .int yo.2.2]).length = 3 := rfl; have : ([u] : List V).length = 1 := rfl; rw [List.length_append]; omega), fun p5 H11 x11 hS11 => ?_⟩
      have x911 := (x9.trans x10).trans x11
      have k511 := k58.trans (Kp.ext x911)
      have hP11 := hP8.ext x911
      obtain ⟨zs11, hp11⟩ := pn hP11
      have k011 := k05.trans k511
      have hD11 := k011 _ _ nDp hD
      have hdk : Dk 2000 2 (hd2 p D H11) (.ref p5) := Dk.tup (n := 7) (m := 250) (k := 1) (hd2_tup hS11 hp11 hD11) (fun z hz => by
        rcases List.mem_append.mp hz with hz | hz
        · rcases List.mem_append.mp hz with hz | hz
          · exact bd_dk byo z (mem_cutV hz)
          · rw [List.mem_singleton.mp hz]
            exact (hod5 u hu).ext (hd2_kp k511)
        · exact bd_dk byo z (mem_cutV hz)) (by
          rw [List.length_append, List.length_append]
          have : ([V.int yo.1, .int yo.2.1, .int yo.2.2]).length = 3 := rfl
          have : ([u] : List V).length = 1 := rfl
          omega) (by decide)
      have f := fin H11 _ _ k011 hP11 (by omega) hdk
      refine ⟨_, rfl, rfl, _, rfl, ite2 (fun e => ?_) (fun e => ?_)⟩
      · exact ⟨_, rfl, b, _, 0, _, rfl, rfl, SqT.of (up k011 hb), rfl, _, rfl, szL (show 2 ≤ 1000000 by decide), f.1⟩
      · exact ⟨_, rfl, _, rfl, b, _, 1, _, rfl, rfl, SqT.of (up k011 hb), rfl, szL (show 2 ≤ 1000000 by decide), f.2⟩
    -- 6
    have retK : ∀ (H9 : Hp) (l9 : Addr) (xs : List V) (e : Int) (H' : Hp) (G : VK), Ext H5 H9 → H9 l9 = some (.lst xs) → l9 ≠ p → 0 ≤ e → e < xs.length → Kp p H9 H' → Pen H' p c (n + 4) → (∀ u ∈ xs, ∀ H', Kp p H9 H' → Pen H' p c (n + 4) → G u H') → ∃ (l' : Addr) (xs' : List V) (e' : Int) (u : V), V.ref l9 = .ref l' ∧ V.int e = .int e' ∧ SqL K H' l' xs' ∧ atI xs' e' = some u ∧ G u H' := fun H9 l9 xs e H' G x h9 n9 e0 e1 k' hP' g => by
      obtain ⟨u, hu, hat⟩ := atI_mem (xs := xs) e0 e1
      exact ⟨l9, xs, e, u, rfl, rfl, SqL.of (k' _ _ n9 h9), hat, g u hu H' k' hP'⟩
    have fresh : ∀ (H9 : Hp) (a : Addr), Ext H5 H9 → H9 a = none → a ≠ p := fun H9 a x h z => by
      obtain ⟨zs5, hp5⟩ := pn hP5
      rw [z, x _ _ hp5] at h
      cases h
    have gnew : ∀ (H9 : Hp) (a : Addr) (o : HO), Ext H5 H9 → H9 a = none → hd2 p D (upd H9 a o) a = some o := fun H9 a o x h => by
      obtain ⟨zs5, hp5⟩ := pn hP5
      exact hd2_new (x _ _ hp5) (x _ _ hD5) h
    have g5 : ∀ {a : Addr} {xs : List V}, hd2 p D H a = some (.tup xs) → hd2 p D H5 a = some (.tup xs) := fun h => hd2_kp k05 _ _ h
    refine ⟨_, rfl, rfl, _, rfl, ite2 (fun e6 => ?_) (fun e6 => ?_)⟩
    · clear e6
      refine ⟨_, rfl, b, _, rfl, SqT.of hb5, fun q1 hq1 => ?_⟩
      have f1 := Ext.new (o := .tup [V.ref a1, .ref a2].reverse) hq1
      refine ⟨_, rfl, _, rfl, b, _, rfl, f1 _ _ hb5, fun q2 G2 f2 hq2 => ?_⟩
      refine ⟨_, rfl, _, rfl, _, rfl, b, _, rfl, f2 _ _ (f1 _ _ hb5), fun q3 G3 f3 hq3 => ?_⟩
      have f13 := (f1.trans f2).trans f3
      have hc1 := cutV_len [V.ref a1, .ref a2] none (some 1)
      have h2l : ([V.ref a1, .ref a2]).length = 2 := rfl
      refine ⟨b, q3, _, _, rfl, rfl, f13 _ _ hb5, hq3, szL (by omega), fun q4 G4 f4 hq4 => ?_⟩
      have f14 := f13.trans f4
      refine ⟨_, rfl, b, _, rfl, .inr (SqT.of (f14 _ _ hb5)), fun q5 hq5 => ?_⟩
      have f5 := Ext.new (o := .lst [V.ref a1, .ref a2]) hq5
      have f15 := f14.trans f5
      refine ⟨_, rfl, b, _, 0, _, rfl, rfl, SqT.of (f15 _ _ hb5), rfl, _, rfl, b, _, 0, _, rfl, rfl, SqT.of (f15 _ _ hb5), rfl, szL (show 2 ≤ 1000000 by decide), fun q6 hq6 => ?_⟩
      have f6 := Ext.new (o := .tup [V.ref a1, .ref a1]) hq6
      refine ⟨Nat.zero_le _, fun q7 hq7 => ⟨szL (show 6 ≤ 1000000 by decide), fun l9 hl9 => ?_⟩⟩
      have f7 := Ext.new (o := .tup []) hq7
      have f8 := Ext.new (o := .lst [V.ref q1, .ref q2, .ref q4, .ref q5, .ref q6, .ref q7]) hl9
      have f16 := f15.trans f6
      have f17 := f16.trans f7
      have f18 := f17.trans f8
      refine ⟨_, rfl, _, rfl, p, c, 6, _, rfl, (hP5.ext f18), by omega, by decide, by decide, fun e H' e0 e1 k' hP' => ?_⟩
      refine retK _ l9 _ e H' _ f18 upd_same (fresh _ _ f17 hl9) e0 e1 k' (hP'.mono (by omega)) fun u hu H'' k'' hP'' => ?_
      refine q _ _ (Thg.ext ?_ (hd2_kp k'')) ((k05.trans (Kp.ext f18)).trans k'') (hP''.mono (by omega))
      obtain ⟨zs5, hp5⟩ := pn hP5
      have d1 : ∀ {G : Hp}, Ext H5 G → Dk 2000 2 (hd2 p D G) (.ref a1) := fun x => (tri_dk b1 (g5 ga1)).ext (hd2_ext x)
      have d2 : ∀ {G : Hp}, Ext H5 G → Dk 2000 2 (hd2 p D G) (.ref a2) := fun x => (tri_dk b2 (g5 ga2)).ext (hd2_ext x)
      have d12 : ∀ {G : Hp}, Ext H5 G → ∀ u ∈ [V.ref a1, .ref a2], Dk 2000 2 (hd2 p D G) u := fun x u hu => by
        simp only [List.mem_cons, List.not_mem_nil, or_false] at hu
        rcases hu with rfl | rfl
        · exact d1 x
        · exact d2 x
      have t2 : ∀ {G : Hp} {a : Addr} {us : List V}, Ext H5 G → hd2 p D G a = some (.tup us) → us.length ≤ 5 → (∀ u ∈ us, u ∈ [V.ref a1, .ref a2]) → Dk 20000 3 (hd2 p D G) (.ref a) := fun x h hl hu => Dk.tup (n := 5) (m := 2000) (k := 2) h (fun u hu' => d12 x u (hu u hu')) hl (by decide)
      simp only [List.mem_cons, List.not_mem_nil, or_false] at hu
      rcases hu with rfl | rfl | rfl | rfl | rfl | rfl
      · exact .inl (t2 f18 (hd2_ext ((((((f2.trans f3).trans f4).trans f5).trans f6).trans f7).trans f8) _ _ (gnew _ _ _ Ext.refl hq1)) (show 2 ≤ 5 by decide) fun u hu => List.mem_reverse.mp hu)
      · refine .inl (t2 f18 (hd2_ext (((((f3.trans f4).trans f5).trans f6).trans f7).trans f8) _ _ (hd2_tup hq2 (f2 _ _ (f1 _ _ hp5)) (f2 _ _ (f1 _ _ hD5)))) (by omega) fun u hu => mem_cutV hu)
      · refine .inl (t2 f18 (hd2_ext (((f5.trans f6).trans f7).trans f8) _ _ (hd2_tup hq4 (f14 _ _ hp5) (f14 _ _ hD5))) (by rw [List.length_append]; omega) fun u hu => ?_)
        rcases List.mem_append.mp hu with hu | hu
        · exact hu
        · exact mem_cutV hu
      · exact .inl (Dk.lst (n := 5) (m := 2000) (k := 2) (hd2_ext ((f6.trans f7).trans f8) _ _ (gnew _ _ _ f14 hq5)) (d12 f18) (show 2 ≤ 5 by decide) (by decide))
      · exact .inl (t2 f18 (hd2_ext (f7.trans f8) _ _ (gnew _ _ _ f15 hq6)) (show 2 ≤ 5 by decide) fun u hu => by
          simp only [List.mem_cons, List.not_mem_nil, or_false] at hu ⊢
          rcases hu with rfl | rfl <;> exact .inl rfl)
      · exact .inl (t2 f18 (hd2_ext f8 _ _ (gnew _ _ _ f16 hq7)) (Nat.zero_le _) fun u hu => by cases hu)
    -- 7
    refine ⟨_, rfl, rfl, _, rfl, ite2 (fun e7 => ?_) (fun e7 => ?_)⟩
    · clear e7 e6
      have h3l : ([V.int yo.1, .int yo.2.1, .int yo.2.2]).length = 3 := rfl
      refine ⟨_, rfl, ao, _, rfl, .inr (SqT.of hao5), fun q1 hq1 => ?_⟩
      have f1 := Ext.new (o := .lst [V.int yo.1, .int yo.2.1, .int yo.2.2]) hq1
      refine ⟨_, rfl, _, rfl, ao, _, rfl, f1 _ _ hao5, fun q2 G2 f2 hq2 => ?_⟩
      have f12 := f1.trans f2
      have hc1 := cutV_len [V.int yo.1, .int yo.2.1, .int yo.2.2] none (some 2)
      refine ⟨_, rfl, szL (show 1 ≤ 1000000 by decide), fun q3 hq3 => ?_⟩
      have f3 := Ext.new (o := .tup [V.int 1]) hq3
      have f13 := f12.trans f3
      refine ⟨ao, q3, _, _, rfl, rfl, f13 _ _ hao5, upd_same, szL (show 3 + 1 ≤ 1000000 by decide), fun q4 G4 f4 hq4 => ?_⟩
      have f14 := f13.trans f4
      refine ⟨Nat.zero_le _, fun q5 hq5 => ?_⟩
      have f5 := Ext.new (o := .tup []) hq5
      have f15 := f14.trans f5
      refine ⟨_, rfl, ao, _, rfl, SqT.of (f15 _ _ hao5), fun q6 hq6 => ⟨szL (show 7 ≤ 1000000 by decide), fun l9 hl9 => ?_⟩⟩
      have f6 := Ext.new (o := .tup [V.int yo.1, .int yo.2.1, .int yo.2.2].reverse) hq6
      have f16 := f15.trans f6
      have f7 := Ext.new (o := .lst [V.ref q1, .ref q2, .ref q4, .non, .ref q5, .ref q6, .str "one"]) hl9
      have f17 := f16.trans f7
      refine ⟨_, rfl, p, c, 7, _, rfl, (hP5.ext f17), by omega, by decide, by decide, fun e H' e0 e1 k' hP' => ?_⟩
      refine retK _ l9 _ e H' _ f17 upd_same (fresh _ _ f16 hl9) e0 e1 k' (hP'.mono (by omega)) fun u hu H'' k'' hP'' => ?_
      obtain ⟨zs5, hp5⟩ := pn hP5
      have hdk : Dk 2000 2 (hd2 p D (upd (upd (upd G4 q5 (.tup [])) q6 (.tup [V.int yo.1, .int yo.2.1, .int yo.2.2].reverse)) l9 (.lst [V.ref q1, .ref q2, .ref q4, .non, .ref q5, .ref q6, .str "one"]))) u := by
        have t2 : ∀ {G : Hp} {a : Addr} {us : List V}, hd2 p D G a = some (.tup us) → us.length ≤ 7 → (∀ u ∈ us, u ∈ [V.int yo.1, .int yo.2.1, .int yo.2.2] ∨ u = .int 1) → Dk 2000 2 (hd2 p D G) (.ref a) := fun h hl hu => Dk.tup (n := 7) (m := 250) (k := 1) h (fun u hu' => (hu u hu').elim (bd_dk byo u) fun e => by
          rw [e]
          exact (Dk.intS (by decide) (by decide)).le (by decide) (by decide)) hl (by decide)
        simp only [List.mem_cons, List.not_mem_nil, or_false] at hu
        rcases hu with rfl | rfl | rfl | rfl | rfl | rfl | rfl
        · exact Dk.lst (n := 7) (m := 250) (k := 1) (hd2_ext (((((f2.trans f3).trans f4).trans f5).trans f6).trans f7) _ _ (gnew _ _ _ Ext.refl hq1)) (bd_dk byo) (show 3 ≤ 7 by decide) (by decide)
        · exact t2 (hd2_ext ((((f3.trans f4).trans f5).trans f6).trans f7) _ _ (hd2_tup hq2 (f12 _ _ hp5) (f12 _ _ hD5))) (by omega) fun u hu => .inl (mem_cutV hu)
        · refine t2 (hd2_ext ((f5.trans f6).trans f7) _ _ (hd2_tup hq4 (f14 _ _ hp5) (f14 _ _ hD5))) (show 4 ≤ 7 by decide) fun u hu => ?_
          rcases List.mem_append.mp hu with hu | hu
          · exact .inl hu
          · exact .inr (List.mem_singleton.mp hu)
        · exact Dk.non.le (by decide) (by decide)
        · exact t2 (hd2_ext (f6.trans f7) _ _ (gnew _ _ _ f14 hq5)) (Nat.zero_le _) fun u hu => by cases hu
        · exact t2 (hd2_ext f7 _ _ (gnew _ _ _ f15 hq6)) (show 3 ≤ 7 by decide) fun u hu => .inl (List.mem_reverse.mp hu)
        · exact (Dk.str (by decide +kernel) (by decide +kernel) (by decide +kernel)).le (by decide) (by decide)
      have k0 := (k05.trans (Kp.ext f17)).trans k''
      have f := fin H'' u _ k0 hP'' (by omega) (hdk.ext (hd2_kp k''))
      refine ⟨_, rfl, rfl, _, rfl, ite2 (fun e => ?_) (fun e => ?_)⟩
      · exact ⟨_, rfl, b, _, 0, _, rfl, rfl, SqT.of (up k0 hb), rfl, _, rfl, szL (show 2 ≤ 1000000 by decide), f.1⟩
      · exact ⟨_, rfl, _, rfl, b, _, 1, _, rfl, rfl, SqT.of (up k0 hb), rfl, szL (show 2 ≤ 1000000 by decide), f.2⟩
    -- 8
    refine ⟨_, rfl, rfl, _, rfl, ite2 (fun e8 => ?_) (fun e8 => ?_)⟩
    · clear e6 e7 e8
      refine ⟨Nat.zero_le _, fun q1 hq1 => ?_⟩
      have f1 := Ext.new (o := .lst []) hq1
      intro q2 hq2
      have f2 := Ext.new (o := .dK []) hq2
      refine ⟨szL (show 2 ≤ 1000000 by decide), fun q3 hq3 => ?_⟩
      have f3 := Ext.new (o := .tup [.non, .non]) hq3
      refine ⟨szL (show 2 ≤ 1000000 by decide), fun q4 hq4 => ?_⟩
      have f4 := Ext.new (o := .tup [.int 0, .int 1]) hq4
      refine ⟨szL (show 2 ≤ 1000000 by decide), fun q5 hq5 => ?_⟩
      have f5 := Ext.new (o := .tup [.int 2, .int 3]) hq5
      refine ⟨szL (show 2 ≤ 1000000 by decide), fun q6 hq6 => ⟨szL (show 9 ≤ 1000000 by decide), fun l9 hl9 => ?_⟩⟩
      have f6 := Ext.new (o := .tup [.ref q4, .ref q5]) hq6
      have f7 := Ext.new (o := .lst [.non, .bl true, .int 0, .str "", .ref q1, .ref q2, .ref q3, .ref q6, .str "()"]) hl9
      have f12 := f1.trans f2
      have f13 := f12.trans f3
      have f14 := f13.trans f4
      have f15 := f14.trans f5
      have f16 := f15.trans f6
      have f17 := f16.trans f7
      refine ⟨_, rfl, p, c, 9, _, rfl, (hP5.ext f17), by omega, by decide, by decide, fun e H' e0 e1 k' hP' => ?_⟩
      refine retK _ l9 _ e H' _ f17 upd_same (fresh _ _ f16 hl9) e0 e1 k' (hP'.mono (by omega)) fun u hu H'' k'' hP'' => ?_
      refine q _ _ (Thg.ext ?_ (hd2_kp k'')) ((k05.trans (Kp.ext f17)).trans k'') (hP''.mono (by omega))
      have i2 : ∀ {G : Hp} {i j : Int}, (0 ≤ i ∧ i ≤ 3) → (0 ≤ j ∧ j ≤ 3) → ∀ u ∈ [V.int i, .int j], Dk 200 0 G u := fun hi hj u hu => by
        simp only [List.mem_cons, List.not_mem_nil, or_false] at hu
        rcases hu with rfl | rfl
        · exact Dk.intS (by omega) (by omega)
        · exact Dk.intS (by omega) (by omega)
      simp only [List.mem_cons, List.not_mem_nil, or_false] at hu
      rcases hu with rfl | rfl | rfl | rfl | rfl | rfl | rfl | rfl | rfl
      · exact thg_of Dk.non (by decide) (by decide)
      · exact thg_of (Dk.bl true) (by decide) (by decide)
      · exact thg_of (Dk.intS (by decide) (by decide)) (by decide) (by decide)
      · exact thg_of (Dk.str (by decide +kernel) (by decide +kernel) (by decide +kernel)) (by decide) (by decide)
      · exact thg_of (Dk.lst (n := 1) (m := 200) (k := 0) (hd2_ext (((((f2.trans f3).trans f4).trans f5).trans f6).trans f7) _ _ (gnew _ _ _ Ext.refl hq1)) (fun u hu => by cases hu) (Nat.zero_le _) (Nat.le_refl _)) (by decide) (by decide)
      · exact .inr ⟨q2, rfl, hd2_ext ((((f3.trans f4).trans f5).trans f6).trans f7) _ _ (gnew _ _ _ f1 hq2)⟩
      · refine thg_of (Dk.tup (n := 2) (m := 200) (k := 0) (hd2_ext (((f4.trans f5).trans f6).trans f7) _ _ (gnew _ _ _ f12 hq3)) (fun u hu => ?_) (Nat.le_refl 2) (Nat.le_refl _)) (by decide) (by decide)
        simp only [List.mem_cons, List.not_mem_nil, or_false] at hu
        rcases hu with rfl | rfl <;> exact Dk.non
      · refine thg_of (Dk.tup (n := 2) (m := 500) (k := 1) (hd2_ext f7 _ _ (gnew _ _ _ f15 hq6)) (fun u hu => ?_) (Nat.le_refl 2) (Nat.le_refl _)) (by decide) (by decide)
        simp only [List.mem_cons, List.not_mem_nil, or_false] at hu
        rcases hu with rfl | rfl
        · exact Dk.tup (n := 2) (m := 200) (k := 0) (hd2_ext ((f5.trans f6).trans f7) _ _ (gnew _ _ _ f13 hq4)) (i2 (by decide) (by decide)) (Nat.le_refl 2) (by decide)
        · exact Dk.tup (n := 2) (m := 200) (k := 0) (hd2_ext (f6.trans f7) _ _ (gnew _ _ _ f14 hq5)) (i2 (by decide) (by decide)) (Nat.le_refl 2) (by decide)
      · exact thg_of (Dk.str (by decide +kernel) (by decide +kernel) (by decide +kernel)) (by decide) (by decide)
    -- another stretch
    have hl5 := k05 _ _ nlp hl
    refine ⟨_, rfl, szL (show 3 ≤ 1000000 by decide), fun q1 hq1 => ?_⟩
    have f1 := Ext.new (o := .tup [V.int 0, .int 1, .int 1]) hq1
    refine ⟨szL (show 1 ≤ 1000000 by decide), fun q2 hq2 => ?_⟩
    have f2 := Ext.new (o := .lst [V.ref q1]) hq2
    have f12 := f1.trans f2
    refine ⟨l, q2, us, [.ref q1], rfl, rfl, f12 _ _ hl5, upd_same, szL (by show us.length + 1 ≤ _; omega), fun q3 hq3 => ?_⟩
    have f3 := Ext.new (o := .lst (us ++ [V.ref q1])) hq3
    have f13 := f12.trans f3
    refine ⟨_, rfl, _, rfl, l, us, rfl, .inl (SqL.of (f13 _ _ hl5)), _, 1, rfl, rfl, p, c, _, _, rfl, hP5.ext f13, by omega, by omega, by omega, fun e H' e0 e1 k' hP' => ?_⟩
    refine retK _ q3 _ e H' _ f13 upd_same (fresh _ _ f12 hq3) e0 (by rw [List.length_append]; show e < ((us.length + 1 : Nat) : Int); omega) k' (hP'.mono (by omega)) fun u hu H'' k'' hP'' => ?_
    have k0 := (k05.trans (Kp.ext f13)).trans k''
    have hdk : Dk 2000 2 (hd2 p D H'') u := by
      rcases List.mem_append.mp hu with hu | hu
      · obtain ⟨ix, hix⟩ := List.mem_iff_getElem?.mp hu
        obtain ⟨y, hy, a3, rfl, ha3⟩ := paired_get hPr hix
        exact (tri_dk (hLb y (List.mem_of_getElem? hy)) (hd2_tup ha3 hop hD)).ext (hd2_kp k0)
      · rw [List.mem_singleton.mp hu]
        exact (tri_dk (y := (0, 1, 1)) ⟨by decide, by decide, by decide⟩ (hd2_ext (f2.trans f3) _ _ (gnew _ _ _ Ext.refl hq1))).ext (hd2_kp k'')
    have f := fin H'' u _ k0 hP'' (by omega) hdk
    refine ⟨_, rfl, rfl, _, rfl, ite2 (fun e => ?_) (fun e => ?_)⟩
    · exact ⟨_, rfl, b, _, 0, _, rfl, rfl, SqT.of (up k0 hb), rfl, _, rfl, szL (show 2 ≤ 1000000 by decide), f.1⟩
    · exact ⟨_, rfl, _, rfl, b, _, 1, _, rfl, rfl, SqT.of (up k0 hb), rfl, szL (show 2 ≤ 1000000 by decide), f.2⟩
abbrev CBent (P : Program) (w : World) (K : PySem.W.Frag) (mg : Str → Option Value) (base : Heap) : Prop := Ca P w K mg base 3 "_law_bent" ["_law_pen_here", "_law_what_is", "_law_some"] spBent
end
end Pf


namespace Pf
open PySem PySem.Spec PyProof.Rows L2
/-- two stretches of small numbers -/
def Two6 (H : Hp) (u : V) : Prop := ∃ ww : St3 × St3, CfAt H u ww ∧ BdT ww.1 ∧ BdT ww.2
theorem Two6.mono {H H' : Hp} {u : V} (k : TupK H H') (h : Two6 H u) : Two6 H' u := by
  obtain ⟨ww, h1, h2⟩ := h
  exact ⟨ww, CfAt.mono _ _ _ _ k h1, h2⟩
theorem Two6.thg {p D : Addr} {H : Hp} {u : V} {ys zs : List V} (h : Two6 H u) (hp : H p = some (.lst ys)) (hD : H D = some (.lst zs)) : Thg (hd2 p D H) u := by
  obtain ⟨⟨y1, y2⟩, ⟨b, v1, v2, rfl, hb, ⟨a1, rfl, ha1⟩, ⟨a2, rfl, ha2⟩⟩, b1, b2⟩ := h
  refine .inl (Dk.tup (n := 5) (m := 2000) (k := 2) (hd2_tup hb hp hD) (fun z hz => ?_) (show 2 ≤ 5 by decide) (by decide))
  simp only [List.mem_cons, List.not_mem_nil, or_false] at hz
  rcases hz with rfl | rfl
  · exact tri_dk b1 (hd2_tup ha1 hp hD)
  · exact tri_dk b2 (hd2_tup ha2 hp hD)
theorem stL_bd {r : Rl} {x : Str} (hx : x.length ≤ 12) {y : St3} (h : y ∈ stL r x) : BdT y := by
  have := stL_ok hx h
  exact ⟨by omega, by omega, by omega⟩
section
variable {P : Program} {w : World} {K : PySem.W.Frag} {mg : Str → Option Value} {base : Heap}
abbrev CStart (P : Program) (w : World) (K : PySem.W.Frag) (mg : Str → Option Value) (base : Heap) : Prop := Ca P w K mg base 1 "_law_pen" ["_law_script"] (spStart K)
abbrev s_law : Stmt := topS 30
theorem sc_law : FnScope ["_law_script", "_law_pen_here", "_law_turn", "_law_code_here", "_law_page_here", "_law_some", "_law_rows", "_law_things", "_law_both", "_law_piece", "_law_kept", "_law_due_here", "_law_found", "_law_k", "_law_row"] ["_law_script"] (defScope s_law) :=
  ⟨rfl, rfl, rfl, by decide +kernel, rfl, by decide +kernel, by decide +kernel⟩
def spLaw (K : PySem.W.Frag) : Sp := fun vs H Q _ => ∃ (a : Addr) (ns : List Int), vs = [.ref a] ∧ SqL K H a (ns.map V.int) ∧ ns.length ≤ 63 ∧ ∀ H', Q (.bl true) H'
theorem ok_law {f : Addr} {fd : FuncData} (F : Fun K "law" "law" s_law f fd) (room : Room 18 callerA) (c_law_pen : CStart P w K mg base) (c_law_pick : CDraw P w K mg base) (c_law_code : CRules P w K mg base) (c_law_crossing_page : CCPg P w K mg base) (c_law_stretches : CStL P w K mg base) (c_law_crossed : CCrd P w K mg base) (c_law_due : CDue P w K mg base) (c_law_bent : CBent P w K mg base) (cis_crossed : CICr P w K mg base) (cis_crossedK : CICrK P w K mg base)
    (mrange : mg "range" = none) (mrepr : mg "repr" = none) (mlen : mg "len" = none) (misinstance : mg "isinstance" = none) (mbool : mg "bool" = none) : FnG P w K mg base f fd ["_law_script"] (spLaw K) := by
  refine FnG.of (k := 17) F sc_law room (fun vs H Q E h => ?_) (fun cdv s H vs Q E hr hG h => ?_)
  · obtain ⟨a, ns, rfl, _⟩ := h
    rfl
  · obtain ⟨a, ns, rfl, hS, hns, q⟩ := h
    refine ⟨_, (pss_cons (ps_set (i := 1) sc_law.nd rfl (.inr rfl) (pe_ca c_law_pen (hr.mono (by decide)) (by rfl) (pa_cons (pv 0) pa_nil)))
      (pss_cons (ps_for PassesOwn.never rfl (pi_range1 (by rfl) mrange (pa_cons pe_int pa_nil)) (pg_name (i := 2) sc_law.nd rfl (.inl rfl)) (pss_cons (ps_set (i := 3) sc_law.nd rfl (.inl rfl) (pe_ca c_law_code (hr.mono (by decide)) (by rfl) (pa_cons (pv 1) pa_nil)))
      (pss_cons (ps_set (i := 4) sc_law.nd rfl (.inl rfl) (pe_ca c_law_crossing_page (hr.mono (by decide)) (by rfl) (pa_cons (pv 1) (pa_cons (pv 3) (pa_cons (pe_ix (ixL K) (pe_lst (pa_cons pe_int (pa_cons pe_int (pa_cons pe_int pa_nil)))) (pv 2) (fun _ _ => rfl)) pa_nil)))))
      (pss_cons (ps_set (i := 5) sc_law.nd rfl (.inr rfl) (pe_ca c_law_stretches (hr.mono (by decide)) (by rfl) (pa_cons (pv 3) (pa_cons (pv 4) pa_nil))))
      (pss_cons (ps_set (i := 6) sc_law.nd rfl (.inr rfl) (pe_op op_cat (pe_lc (own := [("_law_row", 14)]) (g := gName 14) (by rfl) sc_law.nd (pi_list (pe_ca c_law_crossed (hr.mono (by decide)) (by rfl) (pa_cons (pv 3) (pa_cons (pv 4) (pa_cons pe_int pa_nil))))) (blkOk_by (own := [("_law_row", 14)]) (N := ["_law_script", "_law_pen_here", "_law_turn", "_law_code_here", "_law_page_here", "_law_some", "_law_rows", "_law_things", "_law_both", "_law_piece", "_law_kept", "_law_due_here", "_law_found", "_law_k", "_law_row"]) (sc := defScope s_law) (by decide +kernel)) (fun _ _ _ _ _ => (pg_name (i := 14) sc_law.nd rfl (.inl rfl))) (fun _ _ _ _ _ => pts_nil) (fun _ _ _ _ _ => (pe_ix (ixT K) (pv 14) pe_int (fun _ _ => rfl)))) (pe_lst (pa_cons (pe_tup (pa_cons (pe_tup (pa_cons pe_int (pa_cons pe_int (pa_cons pe_int pa_nil)))) (pa_cons (pe_tup (pa_cons pe_int (pa_cons pe_int (pa_cons pe_int pa_nil)))) pa_nil))) pa_nil))))
      (pss_cons (ps_set (i := 7) sc_law.nd rfl (.inr rfl) (pe_lc (own := [("_law_k", 13)]) (g := gName 13) (by rfl) sc_law.nd (pi_range1 (by rfl) mrange (pa_cons pe_int pa_nil)) (blkOk_by (own := [("_law_k", 13)]) (N := ["_law_script", "_law_pen_here", "_law_turn", "_law_code_here", "_law_page_here", "_law_some", "_law_rows", "_law_things", "_law_both", "_law_piece", "_law_kept", "_law_due_here", "_law_found", "_law_k", "_law_row"]) (sc := defScope s_law) (by decide +kernel)) (fun _ _ _ _ _ => (pg_name (i := 13) sc_law.nd rfl (.inl rfl))) (fun _ _ _ _ _ => pts_nil) (fun _ _ _ _ _ => (pe_ix (ixL K) (pv 6) (pe_ca c_law_pick (hr.mono (by decide)) (by rfl) (pa_cons (pv 1) (pa_cons (pe_callB (lenQ K) (by rfl) mlen (by decide +kernel) (pa_cons (pv 6) pa_nil)) pa_nil))) (fun _ _ => rfl)))))
      (pss_cons (ps_set (i := 8) sc_law.nd rfl (.inl rfl) (pe_ix (ixL K) (pe_op op_cat (pv 5) (pe_lst (pa_cons (pe_tup (pa_cons pe_int (pa_cons pe_int (pa_cons pe_int pa_nil)))) pa_nil))) (pe_ca c_law_pick (hr.mono (by decide)) (by rfl) (pa_cons (pv 1) (pa_cons (pe_op op_add (pe_callB (lenQ K) (by rfl) mlen (by decide +kernel) (pa_cons (pv 5) pa_nil)) pe_int) pa_nil))) (fun _ _ => rfl)))
      (pss_cons (ps_expr (pe_bm PySem.F.plainAttrs_list PySem.F.slot_list_append PySem.F.type_list_append mt_append (pv 7) (pa_cons (pe_tup (pa_cons (pv 8) (pa_cons (pe_ix (ixL K) (pe_op op_cat (pv 5) (pe_lst (pa_cons (pe_tup (pa_cons pe_int (pa_cons pe_int (pa_cons pe_int pa_nil)))) pa_nil))) (pe_ca c_law_pick (hr.mono (by decide)) (by rfl) (pa_cons (pv 1) (pa_cons (pe_op op_add (pe_callB (lenQ K) (by rfl) mlen (by decide +kernel) (pa_cons (pv 5) pa_nil)) pe_int) pa_nil))) (fun _ _ => rfl)) pa_nil))) pa_nil)))
      (pss_cons (ps_set (i := 7) sc_law.nd rfl (.inr rfl) (pe_op op_cat (pv 7) (pe_lc (own := [("_law_k", 13)]) (g := gName 13) (by rfl) sc_law.nd (pi_range1 (by rfl) mrange (pa_cons pe_int pa_nil)) (blkOk_by (own := [("_law_k", 13)]) (N := ["_law_script", "_law_pen_here", "_law_turn", "_law_code_here", "_law_page_here", "_law_some", "_law_rows", "_law_things", "_law_both", "_law_piece", "_law_kept", "_law_due_here", "_law_found", "_law_k", "_law_row"]) (sc := defScope s_law) (by decide +kernel)) (fun _ _ _ _ _ => (pg_name (i := 13) sc_law.nd rfl (.inl rfl))) (fun _ _ _ _ _ => pts_nil) (fun _ _ _ _ _ => (pe_ca c_law_bent (hr.mono (by decide)) (by rfl) (pa_cons (pv 1) (pa_cons (pe_ix (ixL K) (pv 7) (pe_ca c_law_pick (hr.mono (by decide)) (by rfl) (pa_cons (pv 1) (pa_cons pe_int pa_nil))) (fun _ _ => rfl)) (pa_cons (pv 5) pa_nil))))))))
      (pss_one (ps_for PassesOwn.never rfl (pi_list (pe_op op_cat (pv 7) (pe_revL (pv 7)))) (pg_name (i := 9) sc_law.nd rfl (.inl rfl)) (pss_cons (ps_set (i := 10) sc_law.nd rfl (.inl rfl) (pe_callB (call_showE K hG hr.units) (by rfl) mrepr (by decide +kernel) (pa_cons (pv 9) pa_nil)))
      (pss_cons (ps_set (i := 11) sc_law.nd rfl (.inl rfl) (pe_ca c_law_due (hr.mono (by decide)) (by rfl) (pa_cons (pv 3) (pa_cons (pv 4) (pa_cons (pv 9) pa_nil)))))
      (pss_one (ps_for PassesOwn.never rfl (pi_list (pe_lst (pa_cons (pe_ca cis_crossed (hr.mono (by decide)) (by rfl) (pa_cons (pv 3) (pa_cons (pv 4) (pa_cons (pv 9) pa_nil)))) (pa_cons (pe_caK cis_crossedK (hr.mono (by decide)) (by rfl) (pk_cons (pv 9) (pk_cons (pv 4) (pk_cons (pv 3) pk_nil)))) pa_nil)))) (pg_name (i := 12) sc_law.nd rfl (.inl rfl)) (pss_one (ps_if (PW.pt (pw_or (pt_not (pt_val (pe_callB (isi1 K) (by rfl) misinstance (by decide +kernel) (pa_cons (pv 12) (pa_cons (pe_bltn (v := .ty "bool") (by rfl) mbool (by decide +kernel) rfl) pa_nil))))) (pw_or (pt_cmpR op_ne (pv 12) (pv 11) (nomark _)) (pw_or1 (pt_cmpR op_ne (pe_callB (call_showE K hG hr.units) (by rfl) mrepr (by decide +kernel) (pa_cons (pv 9) pa_nil)) (pv 10) (nomark _)))))) (pss_one (ps_ret pe_bl)) pss_nil)))))))))))))))))
      (pss_one (ps_ret pe_bl)))), ?_⟩
    refine ⟨_, rfl, a, ns, rfl, hS, hns, fun p c H1 hP1 => ?_⟩
    refine ⟨3, rfl, by decide, by decide, for_range (n := 3) (fun i σ H2 => ∃ (y2 y3 y4 y5 y6 y7 y8 y9 y10 y11 y12 : Option V), σ = [some (.ref a), some (.ref p), y2, y3, y4, y5, y6, y7, y8, y9, y10, y11, y12, none, none] ∧ Pen H2 p c (700 * i))
      ⟨none, none, none, none, none, none, none, none, none, none, none, rfl, hP1⟩ (fun i σ H2 hi hv => ?_) (fun σ H2 hv => ?_)⟩
    · obtain ⟨y2, y3, y4, y5, y6, y7, y8, y9, y10, y11, y12, rfl, hP2⟩ := hv
      refine ⟨_, rfl, p, c, _, rfl, hP2, by omega, fun v r H3 hr3 ok of3 k3 hP3 => ?_⟩
      obtain ⟨m2, hm2, hat2⟩ := atI_ints (ns := [12, 9, 12]) (i := 0 + (i : Int)) (by omega) (show (0 : Int) + (i : Int) < 3 by omega)
      have hm2b : 0 ≤ m2 ∧ m2 ≤ 12 := by
        simp only [List.mem_cons, List.not_mem_nil, or_false] at hm2
        omega
      refine ⟨_, rfl, _, rfl, szL (show 3 ≤ 1000000 by decide), fun l6 hl6 => ?_⟩
      have hr6 := RulesAt.mono _ _ _ _ (TupK.new (o := .lst [.int 12, .int 9, .int 12]) hl6) hr3
      refine ⟨_, rfl, l6, _, _, _, rfl, rfl, SqL.of upd_same, hat2, p, c, v, r, m2, _, rfl, hr6, ok, of3, hm2b.1, hm2b.2, hP3.new hl6, by omega, fun x H7 hxm hO k7 hP7 => ?_⟩
      have hr7 := RulesAt.mono _ _ _ _ (TupK.of k7 (hP3.new hl6)) hr6
      have hx12 : x.length ≤ 12 := by omega
      -- all stretches
      refine ⟨_, rfl, _, rfl, v, r, x, rfl, hr7, ok, hx12, fun ls us1 H8 hls hL8 hT8 x8 => ?_⟩
      have hP8 := hP7.ext x8
      have hr8 := RulesAt.mono _ _ _ _ (TupK.ext x8) hr7
      have hsl := stL_len r hx12
      have hus1 := paired_len hT8
      obtain ⟨op7, hop7⟩ := hP7.some0
      have nls : ls ≠ p := ne_old0 hop7 hls
      have hsb : ∀ y ∈ stL r x, BdT y := fun y hy => stL_bd hx12 hy
      generalize hSt : stL r x = St at hT8 hsl hus1 hsb
      -- rows
      refine ⟨_, rfl, _, rfl, v, r, x, 0, rfl, hr8, ok, hx12, hO, fun lcr usc H9 hlcr hL9 hPr9 x9 => ?_⟩
      have hcl := crL_len r hx12 0
      have hcb : ∀ cc ∈ SG dCr (crL r x 0), BdT cc.2.1 ∧ BdT cc.2.2 := fun cc hcc => by
        obtain ⟨y, hy, z, hz, _, e⟩ := crL_in ((SG_perm _ _).mem_iff.mp hcc)
        rw [e]
        exact ⟨stL_bd hx12 hy, stL_bd hx12 hz⟩
      have hscl : (SG dCr (crL r x 0)).length ≤ 213444 := by rw [SG_len]; exact hcl
      generalize SG dCr (crL r x 0) = SC at hPr9 hcb hscl
      have husc := paired_len hPr9
      refine ⟨lcr, rfl, ⟨_, SqL.of hL9⟩, fun G hG => lc_list (K := K) (xs := usc) (GenP CfAt G H9 (SC.map (·.2))) (gen_new hG) (fun j H10 _ h => SqL.of (h.ext _ _ hL9)) (fun j u H10 hj hv => ?_) (fun H10 hv => ?_)⟩
      · obtain ⟨cc, hcc, hC⟩ := paired_get hPr9 hj
        obtain ⟨a1, u1, rfl, ha1, hF1⟩ := CrAt.mono _ _ _ _ (TupK.ext hv.ext) hC
        refine ⟨rfl, _, rfl, a1, _, 1, _, rfl, rfl, SqT.of ha1, rfl, ?_⟩
        refine gen_step CfAt.mono hG hv Ext.refl (b := cc.2) hF1 ?_ (by rw [List.length_map]; omega)
        rw [List.getElem?_map, hcc]
        rfl
      obtain ⟨vsG, hLG, hPG, x10⟩ := gen_end hv (by rw [List.length_map]; omega)
      have hvsG := paired_len hPG
      rw [List.length_map] at hvsG
      have hPGb : ∀ u ∈ vsG, Two6 H10 u := fun u hu => by
        obtain ⟨ix, hix⟩ := List.mem_iff_getElem?.mp hu
        obtain ⟨ww, hww, hC⟩ := paired_get hPG hix
        rw [List.getElem?_map] at hww
        obtain ⟨cc, hcc, rfl⟩ := Option.map_eq_some_iff.mp hww
        exact ⟨_, hC, hcb cc (List.mem_of_getElem? hcc)⟩
      clear hPG hv hPr9 hcb
      refine ⟨szL (show 3 ≤ 1000000 by decide), fun t1 ht1 => ?_⟩
      have f1 := Ext.new (o := .tup [.int 0, .int 2, .int 1]) ht1
      refine ⟨szL (show 3 ≤ 1000000 by decide), fun t2 ht2 => ?_⟩
      have f2 := Ext.new (o := .tup [.int 1, .int 3, .int 1]) ht2
      refine ⟨szL (show 2 ≤ 1000000 by decide), fun t3 ht3 => ?_⟩
      have f3 := Ext.new (o := .tup [.ref t1, .ref t2]) ht3
      refine ⟨szL (show 1 ≤ 1000000 by decide), fun t4 ht4 => ?_⟩
      have f4 := Ext.new (o := .lst [.ref t3]) ht4
      have f14 := ((f1.trans f2).trans f3).trans f4
      refine ⟨G, t4, vsG, [.ref t3], rfl, rfl, f14 _ _ hLG, upd_same, szL (by show vsG.length + 1 ≤ _; omega), fun lr hlr => ?_⟩
      have f5 := Ext.new (o := .lst (vsG ++ [V.ref t3])) hlr
      have x811 := ((x9.trans x10).trans f14).trans f5
      have h611 : ∀ u ∈ vsG ++ [V.ref t3], Two6 (upd (upd (upd (upd (upd H10 t1 (.tup [.int 0, .int 2, .int 1])) t2 (.tup [.int 1, .int 3, .int 1])) t3 (.tup [.ref t1, .ref t2])) t4 (.lst [.ref t3])) lr (.lst (vsG ++ [V.ref t3]))) u := fun u hu => by
        rcases List.mem_append.mp hu with hu | hu
        · exact (hPGb u hu).mono (TupK.ext (f14.trans f5))
        · rw [List.mem_singleton.mp hu]
          exact ⟨((0, 2, 1), (1, 3, 1)), ⟨t3, _, _, rfl, (f4.trans f5) _ _ upd_same, ⟨t1, rfl, (((f2.trans f3).trans f4).trans f5) _ _ upd_same⟩, ⟨t2, rfl, ((f3.trans f4).trans f5) _ _ upd_same⟩⟩, ⟨by decide, by decide, by decide⟩, ⟨by decide, by decide, by decide⟩⟩
      have hP11 := hP8.ext x811
      have hL11 := x811 _ _ hL8
      have hT11 := paired_imp (fun _ _ => Tri.mono _ _ _ _ (TupK.ext x811)) hT8
      have hr11 := RulesAt.mono _ _ _ _ (TupK.ext x811) hr8
      have hLr : (upd (upd (upd (upd (upd H10 t1 (.tup [.int 0, .int 2, .int 1])) t2 (.tup [.int 1, .int 3, .int 1])) t3 (.tup [.ref t1, .ref t2])) t4 (.lst [.ref t3])) lr (.lst (vsG ++ [V.ref t3]))) lr = some (.lst (vsG ++ [V.ref t3])) := upd_same
      have nlr : lr ≠ p := by
        obtain ⟨o, ho⟩ := hP8.some0
        exact ne_old0 (((x9.trans x10).trans f14) _ _ ho) hlr
      have hrl : (vsG ++ [V.ref t3]).length ≤ 300000 := by
        rw [List.length_append]
        show vsG.length + 1 ≤ _
        omega
      have hr0 : 0 < (vsG ++ [V.ref t3]).length := by
        rw [List.length_append]
        exact Nat.succ_pos _
      generalize vsG ++ [V.ref t3] = rws at h611 hLr hrl hr0 hP11 hL11 hT11 hr11 ⊢
      generalize upd (upd (upd (upd (upd H10 t1 (.tup [.int 0, .int 2, .int 1])) t2 (.tup [.int 1, .int 3, .int 1])) t3 (.tup [.ref t1, .ref t2])) t4 (.lst [.ref t3])) lr (.lst rws) = H11 at h611 hLr hP11 hL11 hT11 hr11 ⊢
      clear hPGb f1 f2 f3 f4 f14 f5 x811 x9 x10 hLG ht1 ht2 ht3 ht4 hlr hL9 hlcr hG
      -- three of them
      refine ⟨3, rfl, by decide, by decide, fun D hD => lc_range (n := 3) (fun k H12 => ∃ us : List V, H12 D = some (.lst us) ∧ us.length = k ∧ (∀ u ∈ us, Two6 H12 u) ∧ Kp p H11 H12 ∧ Pen H12 p c (700 * i + 505 + k)) ⟨[], upd_same, rfl, (fun u hu => by cases hu), Kp.new hD, (hP11.new hD).mono (by omega)⟩ (fun k H12 hk hv => ?_) (fun H12 hv => ?_)⟩
      · obtain ⟨us, hLD, hul, hu6, k12, hP12⟩ := hv
        have nDp : D ≠ p := by
          obtain ⟨o, ho⟩ := hP11.some0
          exact ne_old0 ho hD
        refine ⟨rfl, _, rfl, _, rfl, _, rfl, lr, _, rfl, .inl (SqL.of (k12 _ _ nlr hLr)), p, c, _, _, rfl, hP12, by omega, by omega, by omega, fun e H13 e0 e1 k13 hP13 => ?_⟩
        obtain ⟨u, hu, hat⟩ := atI_mem (xs := rws) e0 e1
        have k113 := k12.trans k13
        refine ⟨lr, rws, e, u, rfl, rfl, SqL.of (k113 _ _ nlr hLr), hat, us, k13 _ _ nDp hLD, szLt (by omega), us ++ [u], upd_same, by rw [List.length_append, hul]; rfl, fun z hz => ?_, ?_, ?_⟩
        · have tk : TupK H13 (upd H13 D (.lst (us ++ [u]))) := TupK.lst (k13 _ _ nDp hLD)
          rcases List.mem_append.mp hz with hz | hz
          · exact (hu6 z hz).mono ((TupK.of k13 hP12).trans tk)
          · rw [List.mem_singleton.mp hz]
            exact (h611 u hu).mono ((TupK.of k113 hP11).trans tk)
        · exact k113.put hD
        · exact (hP13.put nDp (by
            intro z
            obtain ⟨cells, ca, cr, _, hc, _⟩ := hP11
            rw [z, hc] at hD
            cases hD)).mono (by omega)
      obtain ⟨us3, hLD, hul3, hu3, k12, hP12⟩ := hv
      have nDp : D ≠ p := by
        obtain ⟨o, ho⟩ := hP11.some0
        exact ne_old0 ho hD
      have nDc : D ≠ c := by
        intro z
        obtain ⟨cells, ca, cr, _, hc, _⟩ := hP11
        rw [z, hc] at hD
        cases hD
      have nDl : ls ≠ D := by
        intro z
        rw [z, hD] at hL11
        cases hL11
      have tk12 := TupK.of k12 hP11
      have hL12 := k12 _ _ nls hL11
      have hT12 := paired_imp (fun _ _ => Tri.mono _ _ _ _ tk12) hT11
      have hr12 := RulesAt.mono _ _ _ _ tk12 hr11
      clear h611 hLr
      -- a stretch, and another one
      refine ⟨_, rfl, szL (show 3 ≤ 1000000 by decide), fun t1 ht1 => ?_⟩
      have f1 := Ext.new (o := .tup [V.int 0, .int 1, .int 1]) ht1
      refine ⟨szL (show 1 ≤ 1000000 by decide), fun t2 ht2 => ?_⟩
      have f2 := Ext.new (o := .lst [V.ref t1]) ht2
      have f12 := f1.trans f2
      refine ⟨ls, t2, us1, [.ref t1], rfl, rfl, f12 _ _ hL12, upd_same, szL (by show us1.length + 1 ≤ _; omega), fun l3 hl3 => ?_⟩
      have f3 := Ext.new (o := .lst (us1 ++ [V.ref t1])) hl3
      have f13 := f12.trans f3
      refine ⟨_, rfl, _, rfl, ls, us1, rfl, .inl (SqL.of (f13 _ _ hL12)), _, 1, rfl, rfl, p, c, _, _, rfl, hP12.ext f13, by omega, by omega, by omega, fun e H14 e0 e1 k14 hP14 => ?_⟩
      obtain ⟨ub, hub, hatb⟩ := atI_mem (xs := us1 ++ [V.ref t1]) e0 (by rw [List.length_append]; show e < ((us1.length + 1 : Nat) : Int); omega)
      have nl3 : l3 ≠ p := by
        obtain ⟨o, ho⟩ := hP12.some0
        exact ne_old0 (f12 _ _ ho) hl3
      refine ⟨l3, _, e, ub, rfl, rfl, SqL.of (k14 _ _ nl3 upd_same), hatb, ?_⟩
      have k1214 := (Kp.ext (p := p) f13).trans k14
      have hub14 : ∃ y, Tri H14 ub y ∧ BdT y := by
        rcases List.mem_append.mp hub with hu | hu
        · obtain ⟨ix, hix⟩ := List.mem_iff_getElem?.mp hu
          obtain ⟨y, hy, hC⟩ := paired_get hT12 hix
          exact ⟨y, Tri.mono _ _ _ _ (TupK.of k1214 hP12) hC, hsb y (List.mem_of_getElem? hy)⟩
        · rw [List.mem_singleton.mp hu]
          exact ⟨(0, 1, 1), Tri.mono _ _ _ _ (TupK.of k14 (hP12.ext f13)) ⟨t1, rfl, (f2.trans f3) _ _ upd_same⟩, by decide, by decide, by decide⟩
      have hLD14 := k1214 _ _ nDp hLD
      have hL14 := k1214 _ _ nls hL12
      have tk14 := TupK.of k1214 hP12
      have hT14 := paired_imp (fun _ _ => Tri.mono _ _ _ _ tk14) hT12
      have hr14 := RulesAt.mono _ _ _ _ tk14 hr12
      have hu14 : ∀ u ∈ us3, Two6 H14 u := fun u hu => (hu3 u hu).mono tk14
      clear f1 f2 f3 f12 f13 ht1 ht2 hl3 hatb hub nl3 k14 tk14
      -- the other one
      refine ⟨_, rfl, .inl ⟨rfl, _, SqL.of hLD14⟩, _, rfl, _, rfl, szL (show 3 ≤ 1000000 by decide), fun t1 ht1 => ?_⟩
      have f1 := Ext.new (o := .tup [V.int 0, .int 1, .int 1]) ht1
      refine ⟨szL (show 1 ≤ 1000000 by decide), fun t2 ht2 => ?_⟩
      have f2 := Ext.new (o := .lst [V.ref t1]) ht2
      have f12 := f1.trans f2
      refine ⟨ls, t2, us1, [.ref t1], rfl, rfl, f12 _ _ hL14, upd_same, szL (by show us1.length + 1 ≤ _; omega), fun l3 hl3 => ?_⟩
      have f3 := Ext.new (o := .lst (us1 ++ [V.ref t1])) hl3
      have f13 := f12.trans f3
      refine ⟨_, rfl, _, rfl, ls, us1, rfl, .inl (SqL.of (f13 _ _ hL14)), _, 1, rfl, rfl, p, c, _, _, rfl, hP14.ext f13, by omega, by omega, by omega, fun e2 H15 e20 e21 k15 hP15 => ?_⟩
      obtain ⟨uc, huc, hatc⟩ := atI_mem (xs := us1 ++ [V.ref t1]) e20 (by rw [List.length_append]; show e2 < ((us1.length + 1 : Nat) : Int); omega)
      have nl3 : l3 ≠ p := by
        obtain ⟨o, ho⟩ := hP14.some0
        exact ne_old0 (f12 _ _ ho) hl3
      refine ⟨l3, _, e2, uc, rfl, rfl, SqL.of (k15 _ _ nl3 upd_same), hatc, szL (show 2 ≤ 1000000 by decide), fun t16 ht16 => ?_⟩
      have k1415 := (Kp.ext (p := p) f13).trans k15
      have huc15 : ∃ y, Tri H15 uc y ∧ BdT y := by
        rcases List.mem_append.mp huc with hu | hu
        · obtain ⟨ix, hix⟩ := List.mem_iff_getElem?.mp hu
          obtain ⟨y, hy, hC⟩ := paired_get hT14 hix
          exact ⟨y, Tri.mono _ _ _ _ (TupK.of k1415 hP14) hC, hsb y (List.mem_of_getElem? hy)⟩
        · rw [List.mem_singleton.mp hu]
          exact ⟨(0, 1, 1), Tri.mono _ _ _ _ (TupK.of k15 (hP14.ext f13)) ⟨t1, rfl, (f2.trans f3) _ _ upd_same⟩, by decide, by decide, by decide⟩
      have x16 := Ext.new (o := .tup [ub, uc]) ht16
      have k1416 := k1415.trans (Kp.ext x16)
      have hLD16 := k1416 _ _ nDp hLD14
      have tk1416 := TupK.of k1416 hP14
      have h6n : Two6 (upd H15 t16 (.tup [ub, uc])) (.ref t16) := by
        obtain ⟨yb, hyb, byb⟩ := hub14
        obtain ⟨yc, hyc, byc⟩ := huc15
        exact ⟨(yb, yc), ⟨t16, ub, uc, rfl, upd_same, Tri.mono _ _ _ _ tk1416 hyb, Tri.mono _ _ _ _ (TupK.ext x16) hyc⟩, byb, byc⟩
      have hP16 := hP15.ext x16
      have hu16 : ∀ u ∈ us3 ++ [V.ref t16], Two6 (upd H15 t16 (.tup [ub, uc])) u := fun u hu => by
        rcases List.mem_append.mp hu with hu | hu
        · exact (hu14 u hu).mono tk1416
        · rw [List.mem_singleton.mp hu]
          exact h6n
      have hr16 := RulesAt.mono _ _ _ _ tk1416 hr14
      have hT16 := paired_imp (fun _ _ => Tri.mono _ _ _ _ tk1416) hT14
      have hL16 := k1416 _ _ nls hL14
      refine ⟨D, us3, .ref t16, rfl, rfl, hLD16, szLt (by omega), ?_⟩
      generalize upd H15 t16 (.tup [ub, uc]) = H16 at hLD16 hP16 hu16 hr16 hT16 hL16 ⊢
      clear x16 k1416 k1415 h6n f1 f2 f3 f12 f13 ht1 ht2 hl3 hatc huc nl3 tk1416 hub14 huc15 k1214
      have tkD : TupK H16 (upd H16 D (.lst (us3 ++ [V.ref t16]))) := TupK.lst hLD16
      have hLD17 : upd H16 D (.lst (us3 ++ [V.ref t16])) D = some (.lst (us3 ++ [V.ref t16])) := upd_same
      have hu17 : ∀ u ∈ us3 ++ [V.ref t16], Two6 (upd H16 D (.lst (us3 ++ [V.ref t16]))) u := fun u hu => (hu16 u hu).mono tkD
      have hr17 := RulesAt.mono _ _ _ _ tkD hr16
      have hT17 := paired_imp (fun _ _ => Tri.mono _ _ _ _ tkD) hT16
      have hP17 := hP16.put (q := D) (o := .lst (us3 ++ [V.ref t16])) nDp nDc
      have hL17 : upd H16 D (.lst (us3 ++ [V.ref t16])) ls = some (.lst us1) := by
        rw [upd_ne nDl]
        exact hL16
      have h4l : (us3 ++ [V.ref t16]).length = 4 := by
        rw [List.length_append, hul3]
        rfl
      generalize us3 ++ [V.ref t16] = four at hLD17 hu17 hr17 hT17 hP17 hL17 h4l ⊢
      generalize upd H16 D (.lst four) = H17 at hLD17 hu17 hr17 hT17 hP17 hL17 ⊢
      clear tkD hu16 hr16 hT16 hL16 hLD16 hu14 hr14 hT14 hL14 hLD14 hu3 hr12 hT12 hL12 hLD tk12
      -- nine with something otherwise
      refine ⟨_, rfl, 9, rfl, by decide, by decide, fun D2 hD2 => lc_range (n := 9) (fun k H18 => ∃ us : List V, H18 D2 = some (.lst us) ∧ us.length = k ∧ (∀ u ∈ us, Thg (hd2 p D2 H18) u) ∧ Kp p H17 H18 ∧ Pen H18 p c (700 * i + 520 + 11 * k)) ⟨[], upd_same, rfl, (fun u hu => by cases hu), Kp.new hD2, (hP17.new hD2).mono (by omega)⟩ (fun k H18 hk hv => ?_) (fun H18 hv => ?_)⟩
      · obtain ⟨us, hL2, hul, huT, k18, hP18⟩ := hv
        have nD2p : D2 ≠ p := by
          obtain ⟨o, ho⟩ := hP17.some0
          exact ne_old0 ho hD2
        have nD2c : D2 ≠ c := by
          intro z
          obtain ⟨cells, ca, cr, _, hc, _⟩ := hP17
          rw [z, hc] at hD2
          cases hD2
        refine ⟨rfl, _, rfl, _, rfl, _, rfl, p, c, 4, _, rfl, hP18, by omega, by decide, by decide, fun e H19 e0 e1 k19 hP19 => ?_⟩
        obtain ⟨u, hu, hat⟩ := atI_mem (xs := four) e0 (by rw [h4l]; exact e1)
        have k1719 := k18.trans k19
        have tk19 := TupK.of k1719 hP17
        obtain ⟨ww, hw1, hw2, hw3⟩ := (hu17 u hu).mono tk19
        refine ⟨D, four, e, u, rfl, rfl, SqL.of (k1719 _ _ nDp hLD17), hat, _, rfl, p, c, D2, ls, u, ww, us1, St, us, _, rfl, hw1, hw2, hw3, k1719 _ _ nls hL17, nls, paired_imp (fun _ _ => Tri.mono _ _ _ _ tk19) hT17, hsb, by omega, k19 _ _ nD2p hL2, nD2p, hP19, by omega, fun vb H20 hg k20 hP20 => ?_⟩
        refine ⟨us, k20 _ _ nD2p (k19 _ _ nD2p hL2), szLt (by omega), us ++ [vb], upd_same, by rw [List.length_append, hul]; rfl, fun z hz => ?_, ?_, ?_⟩
        · rw [hd2_upd]
          rcases List.mem_append.mp hz with hz | hz
          · exact (huT z hz).ext (hd2_kp (k19.trans k20))
          · rw [List.mem_singleton.mp hz]
            exact hg
        · exact (k1719.trans k20).put hD2
        · exact (hP20.put nD2p nD2c).mono (by omega)
      obtain ⟨us9, hL2, hul9, huT, k18, hP18⟩ := hv
      have nD2p : D2 ≠ p := by
        obtain ⟨o, ho⟩ := hP17.some0
        exact ne_old0 ho hD2
      have tk18 := TupK.of k18 hP17
      refine ⟨D, D2, four, us9, rfl, rfl, k18 _ _ nDp hLD17, hL2, szL (by omega), fun l19 hl19 => ?_⟩
      have x19 := Ext.new (o := .lst (four ++ us9)) hl19
      have hth : ∀ u ∈ four ++ us9, Thg (upd H18 l19 (.lst (four ++ us9))) u := fun u hu => by
        obtain ⟨zs, hzs⟩ : ∃ zs, H18 p = some (.lst zs) := by
          obtain ⟨cells, ca, cr, hp, _⟩ := hP18
          exact ⟨_, hp⟩
        rcases List.mem_append.mp hu with hu | hu
        · exact ((((hu17 u hu).mono tk18).thg hzs hL2).ext hd2_le).ext x19
        · exact ((huT u hu).ext hd2_le).ext x19
      have hP19 := hP18.ext x19
      have hr19 := RulesAt.mono _ _ _ _ (TupK.ext x19) (RulesAt.mono _ _ _ _ tk18 hr17)
      have hL19 : upd H18 l19 (.lst (four ++ us9)) l19 = some (.lst (four ++ us9)) := upd_same
      have hln : (four ++ us9).length = 13 := by
        rw [List.length_append, h4l, hul9]
      generalize four ++ us9 = ths at hth hP19 hr19 hL19 hln x19 ⊢
      generalize upd H18 l19 (.lst ths) = H19 at hth hP19 hr19 hL19 ⊢
      -- forward and back
      refine ⟨_, rfl, _, rfl, l19, ths, rfl, SqL.of hL19, fun l3 hl3 => ?_⟩
      have f3 := Ext.new (o := .lst ths.reverse) hl3
      refine ⟨l19, l3, ths, ths.reverse, rfl, rfl, f3 _ _ hL19, upd_same, szL (by rw [List.length_reverse]; omega), fun l4 hl4 => ?_⟩
      have f4 := Ext.new (o := .lst (ths ++ ths.reverse)) hl4
      have f34 := f3.trans f4
      have hth4 : ∀ u ∈ ths ++ ths.reverse, Thg (upd (upd H19 l3 (.lst ths.reverse)) l4 (.lst (ths ++ ths.reverse))) u := fun u hu => by
        have hu : u ∈ ths := by
          rcases List.mem_append.mp hu with hu | hu
          · exact hu
          · exact List.mem_reverse.mp hu
        exact (hth u hu).ext f34
      have hL4 : (upd (upd H19 l3 (.lst ths.reverse)) l4 (.lst (ths ++ ths.reverse))) l4 = some (.lst (ths ++ ths.reverse)) := upd_same
      have hr4 := RulesAt.mono _ _ _ _ (TupK.ext f34) hr19
      have hP4 := hP19.ext f34
      generalize upd (upd H19 l3 (.lst ths.reverse)) l4 (.lst (ths ++ ths.reverse)) = H4 at hth4 hL4 hr4 hP4
      generalize ths ++ ths.reverse = vs at hth4 hL4
      refine ⟨l4, rfl, ⟨_, SqL.of hL4⟩, for_list (K := K) (xs := vs) (fun j σ H5 => ∃ (y9 y10 y11 y12 : Option V), σ = [some (.ref a), some (.ref p), some (.int (0 + (i : Int))), some v, some (.str x), some (.ref ls), some (.ref lr), some (.ref l19), some ub, y9, y10, y11, y12, none, none] ∧ Ext H4 H5)
        ⟨_, _, _, _, rfl, Ext.refl⟩ (fun j σ H5 _ h => by obtain ⟨_, _, _, _, _, k⟩ := h; exact SqL.of (k _ _ hL4)) (fun j u σ H5 hj hv => ?_) (fun σ H5 hv => ?_)⟩
      · obtain ⟨y9, y10, y11, y12, rfl, k5⟩ := hv
        obtain ⟨d, hd, hbg⟩ := ((hth4 u (List.mem_of_getElem? hj)).ext k5).dz
        have hr5 := RulesAt.mono _ _ _ _ (TupK.ext k5) hr4
        obtain ⟨T, hT⟩ : ∃ T, T = d.shown := ⟨_, rfl⟩
        refine ⟨_, rfl, u, d, rfl, hd, hbg, ?_⟩
        rw [← hT]
        have hlay : Lay 7 d ∨ d = .dict [] := hbg.elim (fun h => .inl ⟨h.lay, Nat.le_trans h.dep (by decide)⟩) .inr
        refine ⟨_, rfl, _, rfl, _, rfl, v, u, r, x, d, rfl, hr5, ok, hx12, hd, hlay, fun H6 k6 => ?_⟩
        refine ⟨_, rfl, _, rfl, _, rfl, v, u, r, x, d, rfl, (RulesAt.mono _ _ _ _ (TupK.ext k6) hr5).w, hx12, hd.ext k6, fun H7 k7 => ?_⟩
        have k57 := k6.trans k7
        refine ⟨_, rfl, _, rfl, _, rfl, rfl, rfl, v, u, r, x, d, rfl, (RulesAt.mono _ _ _ _ (TupK.ext k57) hr5).w, hx12, hd.ext k57, fun H8' k8 => ?_⟩
        refine ⟨szL (show 2 ≤ 1000000 by decide), fun lf hlf => ?_⟩
        have x9 := Ext.new (o := .lst [V.bl (crD r x d), .bl (crD r x d)]) hlf
        have k59 := (k57.trans k8).trans x9
        have hLf : upd H8' lf (.lst [V.bl (crD r x d), .bl (crD r x d)]) lf = some (.lst [V.bl (crD r x d), .bl (crD r x d)]) := upd_same
        generalize upd H8' lf (.lst [V.bl (crD r x d), .bl (crD r x d)]) = H9 at hLf k59 x9 ⊢
        refine ⟨lf, rfl, ⟨_, SqL.of hLf⟩, for_list (K := K) (xs := [V.bl (crD r x d), .bl (crD r x d)]) (fun j σ H10 => ∃ (y12 : Option V), σ = [some (.ref a), some (.ref p), some (.int (0 + (i : Int))), some v, some (.str x), some (.ref ls), some (.ref lr), some (.ref l19), some ub, some u, some (.str T), some (.bl (crD r x d)), y12, none, none] ∧ Ext H9 H10)
          ⟨_, rfl, Ext.refl⟩ (fun j σ H10 _ h => by obtain ⟨_, _, k⟩ := h; exact SqL.of (k _ _ hLf)) (fun j u2 σ H10 hj2 hv => ?_) (fun σ H10 hv => ?_)⟩
        · obtain ⟨y12, rfl, k10⟩ := hv
          have eu : u2 = .bl (crD r x d) := by
            have := List.mem_of_getElem? hj2
            simp only [List.mem_cons, List.not_mem_nil, or_false] at this
            exact this.elim id id
          subst eu
          refine ⟨_, rfl, .bl (crD r x d), .ty "bool", _, _, true, rfl, .ty _, .base (.bl _), kit_ty (by decide +kernel), true, rfl, iteF ?_⟩
          refine ⟨_, rfl, _, rfl, rfl, _, rfl, ?_⟩
          have ee : decide (V.bl (crD r x d) = V.bl (crD r x d)) = true := decide_eq_true rfl
          rw [ee]
          refine iteF ⟨_, rfl, u, d, rfl, hd.ext (k59.trans k10), hbg, ?_⟩
          rw [← hT]
          refine ⟨_, rfl, rfl, _, rfl, iteNS rfl ?_⟩
          exact ⟨_, rfl, k10⟩
        · obtain ⟨y12, rfl, k10⟩ := hv
          exact ⟨_, _, _, _, rfl, k5.trans (k59.trans k10)⟩
      · obtain ⟨y9, y10, y11, y12, rfl, k5⟩ := hv
        exact ⟨_, _, _, _, _, _, _, _, _, _, _, rfl, (hP4.ext k5).mono (by omega)⟩
    · exact q _
end
end Pf


namespace Pf
open PySem PySem.Spec PyProof.Rows L2
/-! ### what the top has written; the law's own head -/
theorem all_mk {l : PySem.W.OpenLaw} {w : World} {K : PySem.W.Frag} {h : Heap} {mg : Str → Option Value} {fa f0 f1 f2 f3 f4 f5 f6 f7 f8 f9 f10 f11 f12 f13 f14 f15 f16 f17 f18 f19 f20 f21 f22 f23 f24 f25 f26 : Addr} (X : K.In h) (G : h.Ns mainGlobals mg) (hfa : mg "law" = some (.ref fa))
    {od0 an0 od1 an1 od2 an2 od3 an3 od4 an4 od5 an5 od6 an6 od7 an7 od8 an8 od9 an9 od10 an10 od11 an11 od12 an12 od13 an13 od14 an14 od15 an15 od16 an16 od17 an17 od18 an18 od19 an19 od20 an20 od21 an21 od22 an22 od23 an23 od24 an24 od25 an25 od26 an26 : Option Addr} {sl0 sl1 sl2 sl3 sl4 sl5 sl6 sl7 sl8 sl9 sl10 sl11 sl12 sl13 sl14 sl15 sl16 sl17 sl18 sl19 sl20 sl21 sl22 sl23 sl24 sl25 sl26 : Array (Option Value)} {oc0 kV0 dc0 pm0 cd0 ct0 oc1 kV1 dc1 pm1 cd1 ct1 oc2 kV2 dc2 pm2 cd2 ct2 oc3 kV3 dc3 pm3 cd3 ct3 oc4 kV4 dc4 pm4 cd4 ct4 oc5 kV5 dc5 pm5 cd5 ct5 oc6 kV6 dc6 pm6 cd6 ct6 oc7 kV7 dc7 pm7 cd7 ct7 oc8 kV8 dc8 pm8 cd8 ct8 oc9 kV9 dc9 pm9 cd9 ct9 oc10 kV10 dc10 pm10 cd10 ct10 oc11 kV11 dc11 pm11 cd11 ct11 oc12 kV12 dc12 pm12 cd12 ct12 oc13 kV13 dc13 pm13 cd13 ct13 oc14 kV14 dc14 pm14 cd14 ct14 oc15 kV15 dc15 pm15 cd15 ct15 oc16 kV16 dc16 pm16 cd16 ct16 oc17 kV17 dc17 pm17 cd17 ct17 oc18 kV18 dc18 pm18 cd18 ct18 oc19 kV19 dc19 pm19 cd19 ct19 oc20 kV20 dc20 pm20 cd20 ct20 oc21 kV21 dc21 pm21 cd21 ct21 oc22 kV22 dc22 pm22 cd22 ct22 oc23 kV23 dc23 pm23 cd23 ct23 oc24 kV24 dc24 pm24 cd24 ct24 oc25 kV25 dc25 pm25 cd25 ct25 oc26 kV26 dc26 pm26 cd26 ct26 : Value} 
    (a0 : PySem.W.nsIn K mainGlobals "_law_pen" = some (some (.ref f0))) (l0 : K.lookup f0 = some ⟨oc0, od0, .func (PySem.W.fnOf "_law_pen" "_law_pen" (defArgs s_law_pen) (defBody s_law_pen) (defScope s_law_pen) .none kV0 dc0 pm0 an0 cd0 ct0), sl0⟩) (c0 : PySem.W.codeIn K cd0 "_law_pen" = true) (k0 : PySem.W.keepIn K (.ref f0) = true)
    (a1 : PySem.W.nsIn K mainGlobals "_law_pick" = some (some (.ref f1))) (l1 : K.lookup f1 = some ⟨oc1, od1, .func (PySem.W.fnOf "_law_pick" "_law_pick" (defArgs s_law_pick) (defBody s_law_pick) (defScope s_law_pick) .none kV1 dc1 pm1 an1 cd1 ct1), sl1⟩) (c1 : PySem.W.codeIn K cd1 "_law_pick" = true) (k1 : PySem.W.keepIn K (.ref f1) = true)
    (a2 : PySem.W.nsIn K mainGlobals "_law_some_worth" = some (some (.ref f2))) (l2 : K.lookup f2 = some ⟨oc2, od2, .func (PySem.W.fnOf "_law_some_worth" "_law_some_worth" (defArgs s_law_some_worth) (defBody s_law_some_worth) (defScope s_law_some_worth) .none kV2 dc2 pm2 an2 cd2 ct2), sl2⟩) (c2 : PySem.W.codeIn K cd2 "_law_some_worth" = true) (k2 : PySem.W.keepIn K (.ref f2) = true)
    (a3 : PySem.W.nsIn K mainGlobals "_law_ties" = some (some (.ref f3))) (l3 : K.lookup f3 = some ⟨oc3, od3, .func (PySem.W.fnOf "_law_ties" "_law_ties" (defArgs s_law_ties) (defBody s_law_ties) (defScope s_law_ties) .none kV3 dc3 pm3 an3 cd3 ct3), sl3⟩) (c3 : PySem.W.codeIn K cd3 "_law_ties" = true) (k3 : PySem.W.keepIn K (.ref f3) = true)
    (a4 : PySem.W.nsIn K mainGlobals "_law_code" = some (some (.ref f4))) (l4 : K.lookup f4 = some ⟨oc4, od4, .func (PySem.W.fnOf "_law_code" "_law_code" (defArgs s_law_code) (defBody s_law_code) (defScope s_law_code) .none kV4 dc4 pm4 an4 cd4 ct4), sl4⟩) (c4 : PySem.W.codeIn K cd4 "_law_code" = true) (k4 : PySem.W.keepIn K (.ref f4) = true)
    (a5 : PySem.W.nsIn K mainGlobals "_law_page" = some (some (.ref f5))) (l5 : K.lookup f5 = some ⟨oc5, od5, .func (PySem.W.fnOf "_law_page" "_law_page" (defArgs s_law_page) (defBody s_law_page) (defScope s_law_page) .none kV5 dc5 pm5 an5 cd5 ct5), sl5⟩) (c5 : PySem.W.codeIn K cd5 "_law_page" = true) (k5 : PySem.W.keepIn K (.ref f5) = true)
    (a6 : PySem.W.nsIn K mainGlobals "_law_may" = some (some (.ref f6))) (l6 : K.lookup f6 = some ⟨oc6, od6, .func (PySem.W.fnOf "_law_may" "_law_may" (defArgs s_law_may) (defBody s_law_may) (defScope s_law_may) .none kV6 dc6 pm6 an6 cd6 ct6), sl6⟩) (c6 : PySem.W.codeIn K cd6 "_law_may" = true) (k6 : PySem.W.keepIn K (.ref f6) = true)
    (a7 : PySem.W.nsIn K mainGlobals "_law_pairs_of" = some (some (.ref f7))) (l7 : K.lookup f7 = some ⟨oc7, od7, .func (PySem.W.fnOf "_law_pairs_of" "_law_pairs_of" (defArgs s_law_pairs_of) (defBody s_law_pairs_of) (defScope s_law_pairs_of) .none kV7 dc7 pm7 an7 cd7 ct7), sl7⟩) (c7 : PySem.W.codeIn K cd7 "_law_pairs_of" = true) (k7 : PySem.W.keepIn K (.ref f7) = true)
    (a8 : PySem.W.nsIn K mainGlobals "_law_stretch_worth" = some (some (.ref f8))) (l8 : K.lookup f8 = some ⟨oc8, od8, .func (PySem.W.fnOf "_law_stretch_worth" "_law_stretch_worth" (defArgs s_law_stretch_worth) (defBody s_law_stretch_worth) (defScope s_law_stretch_worth) .none kV8 dc8 pm8 an8 cd8 ct8), sl8⟩) (c8 : PySem.W.codeIn K cd8 "_law_stretch_worth" = true) (k8 : PySem.W.keepIn K (.ref f8) = true)
    (a9 : PySem.W.nsIn K mainGlobals "_law_stretches" = some (some (.ref f9))) (l9 : K.lookup f9 = some ⟨oc9, od9, .func (PySem.W.fnOf "_law_stretches" "_law_stretches" (defArgs s_law_stretches) (defBody s_law_stretches) (defScope s_law_stretches) .none kV9 dc9 pm9 an9 cd9 ct9), sl9⟩) (c9 : PySem.W.codeIn K cd9 "_law_stretches" = true) (k9 : PySem.W.keepIn K (.ref f9) = true)
    (a10 : PySem.W.nsIn K mainGlobals "_law_crossing" = some (some (.ref f10))) (l10 : K.lookup f10 = some ⟨oc10, od10, .func (PySem.W.fnOf "_law_crossing" "_law_crossing" (defArgs s_law_crossing) (defBody s_law_crossing) (defScope s_law_crossing) .none kV10 dc10 pm10 an10 cd10 ct10), sl10⟩) (c10 : PySem.W.codeIn K cd10 "_law_crossing" = true) (k10 : PySem.W.keepIn K (.ref f10) = true)
    (a11 : PySem.W.nsIn K mainGlobals "_law_crossed" = some (some (.ref f11))) (l11 : K.lookup f11 = some ⟨oc11, od11, .func (PySem.W.fnOf "_law_crossed" "_law_crossed" (defArgs s_law_crossed) (defBody s_law_crossed) (defScope s_law_crossed) .none kV11 dc11 pm11 an11 cd11 ct11), sl11⟩) (c11 : PySem.W.codeIn K cd11 "_law_crossed" = true) (k11 : PySem.W.keepIn K (.ref f11) = true)
    (a12 : PySem.W.nsIn K mainGlobals "_law_crossing_page" = some (some (.ref f12))) (l12 : K.lookup f12 = some ⟨oc12, od12, .func (PySem.W.fnOf "_law_crossing_page" "_law_crossing_page" (defArgs s_law_crossing_page) (defBody s_law_crossing_page) (defScope s_law_crossing_page) .none kV12 dc12 pm12 an12 cd12 ct12), sl12⟩) (c12 : PySem.W.codeIn K cd12 "_law_crossing_page" = true) (k12 : PySem.W.keepIn K (.ref f12) = true)
    (a13 : PySem.W.nsIn K mainGlobals "pair_worth" = some (some (.ref f13))) (l13 : K.lookup f13 = some ⟨oc13, od13, .func (PySem.W.fnOf "pair_worth" "pair_worth" (defArgs s_pair_worth) (defBody s_pair_worth) (defScope s_pair_worth) .none kV13 dc13 pm13 an13 cd13 ct13), sl13⟩) (c13 : PySem.W.codeIn K cd13 "pair_worth" = true) (k13 : PySem.W.keepIn K (.ref f13) = true)
    (a14 : PySem.W.nsIn K mainGlobals "text_of" = some (some (.ref f14))) (l14 : K.lookup f14 = some ⟨oc14, od14, .func (PySem.W.fnOf "text_of" "text_of" (defArgs s_text_of) (defBody s_text_of) (defScope s_text_of) .none kV14 dc14 pm14 an14 cd14 ct14), sl14⟩) (c14 : PySem.W.codeIn K cd14 "text_of" = true) (k14 : PySem.W.keepIn K (.ref f14) = true)
    (a15 : PySem.W.nsIn K mainGlobals "may_pair" = some (some (.ref f15))) (l15 : K.lookup f15 = some ⟨oc15, od15, .func (PySem.W.fnOf "may_pair" "may_pair" (defArgs s_may_pair) (defBody s_may_pair) (defScope s_may_pair) .none kV15 dc15 pm15 an15 cd15 ct15), sl15⟩) (c15 : PySem.W.codeIn K cd15 "may_pair" = true) (k15 : PySem.W.keepIn K (.ref f15) = true)
    (a16 : PySem.W.nsIn K mainGlobals "stretch_pairs" = some (some (.ref f16))) (l16 : K.lookup f16 = some ⟨oc16, od16, .func (PySem.W.fnOf "stretch_pairs" "stretch_pairs" (defArgs s_stretch_pairs) (defBody s_stretch_pairs) (defScope s_stretch_pairs) .none kV16 dc16 pm16 an16 cd16 ct16), sl16⟩) (c16 : PySem.W.codeIn K cd16 "stretch_pairs" = true) (k16 : PySem.W.keepIn K (.ref f16) = true)
    (a17 : PySem.W.nsIn K mainGlobals "do_cross" = some (some (.ref f17))) (l17 : K.lookup f17 = some ⟨oc17, od17, .func (PySem.W.fnOf "do_cross" "do_cross" (defArgs s_do_cross) (defBody s_do_cross) (defScope s_do_cross) .none kV17 dc17 pm17 an17 cd17 ct17), sl17⟩) (c17 : PySem.W.codeIn K cd17 "do_cross" = true) (k17 : PySem.W.keepIn K (.ref f17) = true)
    (a18 : PySem.W.nsIn K mainGlobals "is_whole" = some (some (.ref f18))) (l18 : K.lookup f18 = some ⟨oc18, od18, .func (PySem.W.fnOf "is_whole" "is_whole" (defArgs s_is_whole) (defBody s_is_whole) (defScope s_is_whole) .none kV18 dc18 pm18 an18 cd18 ct18), sl18⟩) (c18 : PySem.W.codeIn K cd18 "is_whole" = true) (k18 : PySem.W.keepIn K (.ref f18) = true)
    (a19 : PySem.W.nsIn K mainGlobals "is_row" = some (some (.ref f19))) (l19 : K.lookup f19 = some ⟨oc19, od19, .func (PySem.W.fnOf "is_row" "is_row" (defArgs s_is_row) (defBody s_is_row) (defScope s_is_row) .none kV19 dc19 pm19 an19 cd19 ct19), sl19⟩) (c19 : PySem.W.codeIn K cd19 "is_row" = true) (k19 : PySem.W.keepIn K (.ref f19) = true)
    (a20 : PySem.W.nsIn K mainGlobals "is_stretch" = some (some (.ref f20))) (l20 : K.lookup f20 = some ⟨oc20, od20, .func (PySem.W.fnOf "is_stretch" "is_stretch" (defArgs s_is_stretch) (defBody s_is_stretch) (defScope s_is_stretch) .none kV20 dc20 pm20 an20 cd20 ct20), sl20⟩) (c20 : PySem.W.codeIn K cd20 "is_stretch" = true) (k20 : PySem.W.keepIn K (.ref f20) = true)
    (a21 : PySem.W.nsIn K mainGlobals "is_crossed" = some (some (.ref f21))) (l21 : K.lookup f21 = some ⟨oc21, od21, .func (PySem.W.fnOf "is_crossed" "is_crossed" (defArgs s_is_crossed) (defBody s_is_crossed) (defScope s_is_crossed) .none kV21 dc21 pm21 an21 cd21 ct21), sl21⟩) (c21 : PySem.W.codeIn K cd21 "is_crossed" = true) (k21 : PySem.W.keepIn K (.ref f21) = true)
    (a22 : PySem.W.nsIn K mainGlobals "_law_number" = some (some (.ref f22))) (l22 : K.lookup f22 = some ⟨oc22, od22, .func (PySem.W.fnOf "_law_number" "_law_number" (defArgs s_law_number) (defBody s_law_number) (defScope s_law_number) .none kV22 dc22 pm22 an22 cd22 ct22), sl22⟩) (c22 : PySem.W.codeIn K cd22 "_law_number" = true) (k22 : PySem.W.keepIn K (.ref f22) = true)
    (a23 : PySem.W.nsIn K mainGlobals "_law_is_stretch" = some (some (.ref f23))) (l23 : K.lookup f23 = some ⟨oc23, od23, .func (PySem.W.fnOf "_law_is_stretch" "_law_is_stretch" (defArgs s_law_is_stretch) (defBody s_law_is_stretch) (defScope s_law_is_stretch) .none kV23 dc23 pm23 an23 cd23 ct23), sl23⟩) (c23 : PySem.W.codeIn K cd23 "_law_is_stretch" = true) (k23 : PySem.W.keepIn K (.ref f23) = true)
    (a24 : PySem.W.nsIn K mainGlobals "_law_due" = some (some (.ref f24))) (l24 : K.lookup f24 = some ⟨oc24, od24, .func (PySem.W.fnOf "_law_due" "_law_due" (defArgs s_law_due) (defBody s_law_due) (defScope s_law_due) .none kV24 dc24 pm24 an24 cd24 ct24), sl24⟩) (c24 : PySem.W.codeIn K cd24 "_law_due" = true) (k24 : PySem.W.keepIn K (.ref f24) = true)
    (a25 : PySem.W.nsIn K mainGlobals "_law_bent" = some (some (.ref f25))) (l25 : K.lookup f25 = some ⟨oc25, od25, .func (PySem.W.fnOf "_law_bent" "_law_bent" (defArgs s_law_bent) (defBody s_law_bent) (defScope s_law_bent) .none kV25 dc25 pm25 an25 cd25 ct25), sl25⟩) (c25 : PySem.W.codeIn K cd25 "_law_bent" = true) (k25 : PySem.W.keepIn K (.ref f25) = true)
    (a26 : PySem.W.nsIn K mainGlobals "law" = some (some (.ref f26))) (l26 : K.lookup f26 = some ⟨oc26, od26, .func (PySem.W.fnOf "law" "law" (defArgs s_law) (defBody s_law) (defScope s_law) .none kV26 dc26 pm26 an26 cd26 ct26), sl26⟩) (c26 : PySem.W.codeIn K cd26 "law" = true) (k26 : PySem.W.keepIn K (.ref f26) = true)
    (z0 : PySem.W.nsIn K mainGlobals "list" = some none)
    (z1 : PySem.W.nsIn K mainGlobals "len" = some none)
    (z2 : PySem.W.nsIn K mainGlobals "abs" = some none)
    (z3 : PySem.W.nsIn K mainGlobals "int" = some none)
    (z4 : PySem.W.nsIn K mainGlobals "sum" = some none)
    (z5 : PySem.W.nsIn K mainGlobals "min" = some none)
    (z6 : PySem.W.nsIn K mainGlobals "range" = some none)
    (z7 : PySem.W.nsIn K mainGlobals "sorted" = some none)
    (z8 : PySem.W.nsIn K mainGlobals "tuple" = some none)
    (z9 : PySem.W.nsIn K mainGlobals "dict" = some none)
    (z10 : PySem.W.nsIn K mainGlobals "isinstance" = some none)
    (z11 : PySem.W.nsIn K mainGlobals "str" = some none)
    (z12 : PySem.W.nsIn K mainGlobals "all" = some none)
    (z13 : PySem.W.nsIn K mainGlobals "zip" = some none)
    (z14 : PySem.W.nsIn K mainGlobals "max" = some none)
    (z15 : PySem.W.nsIn K mainGlobals "repr" = some none)
    (z16 : PySem.W.nsIn K mainGlobals "bool" = some none) :
    ∃ fd : FuncData, (∀ (s : Shared) (v : Value), BindsTo s fd ⟨[v], []⟩ [("_law_script", v)]) ∧ ∀ base : Heap, K.In base → base.Ns mainGlobals mg → FnG l.prog w K mg base fa fd ["_law_script"] (spLaw K) := by
  have e := hfa.symm.trans (PySem.W.mg_of X G a26)
  cases e
  have F0 := fun_mk (st := s_law_pen) l0 c0 k0
  have F1 := fun_mk (st := s_law_pick) l1 c1 k1
  have F2 := fun_mk (st := s_law_some_worth) l2 c2 k2
  have F3 := fun_mk (st := s_law_ties) l3 c3 k3
  have F4 := fun_mk (st := s_law_code) l4 c4 k4
  have F5 := fun_mk (st := s_law_page) l5 c5 k5
  have F6 := fun_mk (st := s_law_may) l6 c6 k6
  have F7 := fun_mk (st := s_law_pairs_of) l7 c7 k7
  have F8 := fun_mk (st := s_law_stretch_worth) l8 c8 k8
  have F9 := fun_mk (st := s_law_stretches) l9 c9 k9
  have F10 := fun_mk (st := s_law_crossing) l10 c10 k10
  have F11 := fun_mk (st := s_law_crossed) l11 c11 k11
  have F12 := fun_mk (st := s_law_crossing_page) l12 c12 k12
  have F13 := fun_mk (st := s_pair_worth) l13 c13 k13
  have F14 := fun_mk (st := s_text_of) l14 c14 k14
  have F15 := fun_mk (st := s_may_pair) l15 c15 k15
  have F16 := fun_mk (st := s_stretch_pairs) l16 c16 k16
  have F17 := fun_mk (st := s_do_cross) l17 c17 k17
  have F18 := fun_mk (st := s_is_whole) l18 c18 k18
  have F19 := fun_mk (st := s_is_row) l19 c19 k19
  have F20 := fun_mk (st := s_is_stretch) l20 c20 k20
  have F21 := fun_mk (st := s_is_crossed) l21 c21 k21
  have F22 := fun_mk (st := s_law_number) l22 c22 k22
  have F23 := fun_mk (st := s_law_is_stretch) l23 c23 k23
  have F24 := fun_mk (st := s_law_due) l24 c24 k24
  have F25 := fun_mk (st := s_law_bent) l25 c25 k25
  have F26 := fun_mk (st := s_law) l26 c26 k26
  have mlist := PySem.W.mg_none_of X G z0
  have mlen := PySem.W.mg_none_of X G z1
  have mabs := PySem.W.mg_none_of X G z2
  have mint := PySem.W.mg_none_of X G z3
  have msum := PySem.W.mg_none_of X G z4
  have mmin := PySem.W.mg_none_of X G z5
  have mrange := PySem.W.mg_none_of X G z6
  have msorted := PySem.W.mg_none_of X G z7
  have mtuple := PySem.W.mg_none_of X G z8
  have mdict := PySem.W.mg_none_of X G z9
  have misinstance := PySem.W.mg_none_of X G z10
  have mstr := PySem.W.mg_none_of X G z11
  have mall := PySem.W.mg_none_of X G z12
  have mzip := PySem.W.mg_none_of X G z13
  have mmax := PySem.W.mg_none_of X G z14
  have mrepr := PySem.W.mg_none_of X G z15
  have mbool := PySem.W.mg_none_of X G z16
  refine ⟨PySem.W.fnOf "law" "law" (defArgs s_law) (defBody s_law) (defScope s_law) .none kV26 dc26 pm26 an26 cd26 ct26, fun s v => .of_eq rfl, fun base _ _ => ?_⟩
  have c_law_pen : Ca l.prog w K mg base 1 "_law_pen" ["_law_script"] (spStart K) := ⟨f0, _, ok_start F0 mlist, PySem.W.mg_of X G a0, F0.kp, F0.binds fun _ _ _ _ _ _ us hl => match us, hl with | [_], _ => rfl⟩
  have c_law_pick : Ca l.prog w K mg base 1 "_law_pick" ["_law_pen_here", "_law_upto"] spDraw := ⟨f1, _, ok_draw F1 mlen mabs mint, PySem.W.mg_of X G a1, F1.kp, F1.binds fun _ _ _ _ _ _ us hl => match us, hl with | [_, _], _ => rfl⟩
  have c_law_some_worth : Ca l.prog w K mg base 2 "_law_some_worth" ["_law_pen_here"] spWorth := ⟨f2, _, ok_worth F2 c_law_pick, PySem.W.mg_of X G a2, F2.kp, F2.binds fun _ _ _ _ _ _ us hl => match us, hl with | [_], _ => rfl⟩
  have c_law_ties : Ca l.prog w K mg base 3 "_law_ties" ["_law_pen_here", "_law_letters", "_law_upto"] spTies := ⟨f3, _, ok_ties F3 c_law_pick c_law_some_worth msum mmin mlen mrange msorted mtuple, PySem.W.mg_of X G a3, F3.kp, F3.binds fun _ _ _ _ _ _ us hl => match us, hl with | [_, _, _], _ => rfl⟩
  have c_law_code : Ca l.prog w K mg base 4 "_law_code" ["_law_pen_here"] spRules := ⟨f4, _, ok_rules F4 c_law_pick c_law_some_worth c_law_ties mlen mint mtuple mrange msorted, PySem.W.mg_of X G a4, F4.kp, F4.binds fun _ _ _ _ _ _ us hl => match us, hl with | [_], _ => rfl⟩
  have c_law_page : Ca l.prog w K mg base 2 "_law_page" ["_law_pen_here", "_law_code_here", "_law_upto"] spLetters := ⟨f5, _, ok_letters F5 c_law_pick mrange mlen, PySem.W.mg_of X G a5, F5.kp, F5.binds fun _ _ _ _ _ _ us hl => match us, hl with | [_, _, _], _ => rfl⟩
  have c_law_may : Ca l.prog w K mg base 1 "_law_may" ["_law_code_here", "_law_page_here", "_law_i", "_law_j"] spMay := ⟨f6, _, ok_may F6 mdict, PySem.W.mg_of X G a6, F6.kp, F6.binds fun _ _ _ _ _ _ us hl => match us, hl with | [_, _, _, _], _ => rfl⟩
  have c_law_pairs_of : Ca l.prog w K mg base 1 "_law_pairs_of" ["_law_stretch"] spPrs := ⟨f7, _, ok_prsL F7 mrange, PySem.W.mg_of X G a7, F7.kp, F7.binds fun _ _ _ _ _ _ us hl => match us, hl with | [_], _ => rfl⟩
  have c_law_stretch_worth : Ca l.prog w K mg base 2 "_law_stretch_worth" ["_law_code_here", "_law_page_here", "_law_stretch"] spSWL := ⟨f8, _, ok_swL F8 c_law_pairs_of mdict msum, PySem.W.mg_of X G a8, F8.kp, F8.binds fun _ _ _ _ _ _ us hl => match us, hl with | [_, _, _], _ => rfl⟩
  have c_law_stretches : Ca l.prog w K mg base 2 "_law_stretches" ["_law_code_here", "_law_page_here"] spStL := ⟨f9, _, ok_stL F9 c_law_may mrange mlen, PySem.W.mg_of X G a9, F9.kp, F9.binds fun _ _ _ _ _ _ us hl => match us, hl with | [_, _], _ => rfl⟩
  have c_law_crossing : Ca l.prog w K mg base 2 "_law_crossing" ["_law_one", "_law_other"] spCrs := ⟨f10, _, ok_crs F10 c_law_pairs_of mmax mmin, PySem.W.mg_of X G a10, F10.kp, F10.binds fun _ _ _ _ _ _ us hl => match us, hl with | [_, _], _ => rfl⟩
  have c_law_crossed : Ca l.prog w K mg base 3 "_law_crossed" ["_law_code_here", "_law_page_here", "_law_by"] spCrd := ⟨f11, _, ok_crd F11 c_law_stretches c_law_stretch_worth c_law_crossing msorted, PySem.W.mg_of X G a11, F11.kp, F11.binds fun _ _ _ _ _ _ us hl => match us, hl with | [_, _, _], _ => rfl⟩
  have c_law_crossing_page : Ca l.prog w K mg base 3 "_law_crossing_page" ["_law_pen_here", "_law_code_here", "_law_upto"] spCPg := ⟨f12, _, ok_cpg F12 c_law_pick c_law_page mrange mlen, PySem.W.mg_of X G a12, F12.kp, F12.binds fun _ _ _ _ _ _ us hl => match us, hl with | [_, _, _], _ => rfl⟩
  have cpair_worth : Ca l.prog w K mg base 1 "pair_worth" ["rules", "both"] spPW := ⟨f13, _, ok_pw F13, PySem.W.mg_of X G a13, F13.kp, F13.binds fun _ _ _ _ _ _ us hl => match us, hl with | [_, _], _ => rfl⟩
  have ctext_of : Ca l.prog w K mg base 1 "text_of" ["string", "pair"] spTextOf := ⟨f14, _, ok_text_of F14, PySem.W.mg_of X G a14, F14.kp, F14.binds fun _ _ _ _ _ _ us hl => match us, hl with | [_, _], _ => rfl⟩
  have cmay_pair : Ca l.prog w K mg base 2 "may_pair" ["rules", "string", "i", "j"] spMPX := ⟨f15, _, ok_mpx F15 ctext_of cpair_worth mlen, PySem.W.mg_of X G a15, F15.kp, F15.binds fun _ _ _ _ _ _ us hl => match us, hl with | [_, _, _, _], _ => rfl⟩
  have cstretch_pairs : Ca l.prog w K mg base 1 "stretch_pairs" ["stretch"] spPrs := ⟨f16, _, ok_prs F16 mrange, PySem.W.mg_of X G a16, F16.kp, F16.binds fun _ _ _ _ _ _ us hl => match us, hl with | [_], _ => rfl⟩
  have cdo_cross : Ca l.prog w K mg base 1 "do_cross" ["stretch", "other"] spDC := ⟨f17, _, ok_dc F17, PySem.W.mg_of X G a17, F17.kp, F17.binds fun _ _ _ _ _ _ us hl => match us, hl with | [_, _], _ => rfl⟩
  have cis_whole : Ca l.prog w K mg base 1 "is_whole" ["thing"] (spWh (K := K)) := ⟨f18, _, ok_wh F18 misinstance mint mbool, PySem.W.mg_of X G a18, F18.kp, F18.binds fun _ _ _ _ _ _ us hl => match us, hl with | [_], _ => rfl⟩
  have cis_row : Ca l.prog w K mg base 1 "is_row" ["thing", "size"] (spRow (K := K)) := ⟨f19, _, ok_row F19 misinstance mtuple mlen, PySem.W.mg_of X G a19, F19.kp, F19.binds fun _ _ _ _ _ _ us hl => match us, hl with | [_, _], _ => rfl⟩
  have cis_stretch : Ca l.prog w K mg base 3 "is_stretch" ["rules", "string", "thing"] spISt := ⟨f20, _, ok_ist F20 cis_row cis_whole cstretch_pairs cmay_pair mlen mall, PySem.W.mg_of X G a20, F20.kp, F20.binds fun _ _ _ _ _ _ us hl => match us, hl with | [_, _, _], _ => rfl⟩
  have cis_crossed : Ca l.prog w K mg base 4 "is_crossed" ["rules", "string", "thing"] spICr := ⟨f21, _, ok_icr F21 cis_row cis_stretch cdo_cross mall, PySem.W.mg_of X G a21, F21.kp, F21.binds fun _ _ _ _ _ _ us hl => match us, hl with | [_, _, _], _ => rfl⟩
  have cis_crossedK : CaK l.prog w K mg base 4 "is_crossed" ["rules", "string", "thing"] ["thing", "string", "rules"] (permV [2, 1, 0]) spICr := ⟨f21, _, permU [2, 1, 0], ok_icr F21 cis_row cis_stretch cdo_cross mall, PySem.W.mg_of X G a21, F21.kp, kbn_of [2, 1, 0] fun ws hw => match ws, hw with | [_, _, _], _ => rfl⟩
  have c_law_number : Ca l.prog w K mg base 1 "_law_number" ["_law_what_is"] (spWh (K := K)) := ⟨f22, _, ok_num F22 misinstance mint mbool, PySem.W.mg_of X G a22, F22.kp, F22.binds fun _ _ _ _ _ _ us hl => match us, hl with | [_], _ => rfl⟩
  have c_law_is_stretch : Ca l.prog w K mg base 2 "_law_is_stretch" ["_law_code_here", "_law_page_here", "_law_what_is"] spLSt := ⟨f23, _, ok_lst F23 c_law_number c_law_may misinstance mtuple mlen mrange, PySem.W.mg_of X G a23, F23.kp, F23.binds fun _ _ _ _ _ _ us hl => match us, hl with | [_, _, _], _ => rfl⟩
  have c_law_due : Ca l.prog w K mg base 3 "_law_due" ["_law_code_here", "_law_page_here", "_law_what_is"] spDue := ⟨f24, _, ok_due F24 c_law_is_stretch c_law_crossing misinstance mtuple mlen, PySem.W.mg_of X G a24, F24.kp, F24.binds fun _ _ _ _ _ _ us hl => match us, hl with | [_, _, _], _ => rfl⟩
  have c_law_bent : Ca l.prog w K mg base 3 "_law_bent" ["_law_pen_here", "_law_what_is", "_law_some"] spBent := ⟨f25, _, ok_bent F25 c_law_pick mlen mlist mstr, PySem.W.mg_of X G a25, F25.kp, F25.binds fun _ _ _ _ _ _ us hl => match us, hl with | [_, _, _], _ => rfl⟩
  exact ok_law F26 ⟨rfl, by decide, by decide⟩ c_law_pen c_law_pick c_law_code c_law_crossing_page c_law_stretches c_law_crossed c_law_due c_law_bent cis_crossed cis_crossedK mrange mrepr mlen misinstance mbool
end Pf
open PySem PySem.W PyProof.Rows
set_option maxHeartbeats 0 in
theorem PySem.Challenge.cw_pairfolds_k66_crossed_foldings_known_holds : PySem.Challenge.rw_pairfolds_k66_crossed_foldings_known.Holds := by
  w_on; o_law; k_head; (case hw => w_witness2)
  k_fill
  refine Pf.walk_g (l := PySem.Challenge.rw_pairfolds_k66_crossed_foldings_known) (n := 63) (x := "_law_script") (sp := fun w => Pf.spLaw _) rfl (by decide) rfl (fun w h Y => PySem.W.kIn_of Y) ?F (fun _ _ a ns hl hS => ⟨a, ns, rfl, hS, hl, fun _ => rfl⟩)
  case F =>
    intro w mg fa h KX G hmg
    refine' Pf.all_mk KX G hmg ?a0 ?l0 ?c0 ?k0 ?a1 ?l1 ?c1 ?k1 ?a2 ?l2 ?c2 ?k2 ?a3 ?l3 ?c3 ?k3 ?a4 ?l4 ?c4 ?k4 ?a5 ?l5 ?c5 ?k5 ?a6 ?l6 ?c6 ?k6 ?a7 ?l7 ?c7 ?k7 ?a8 ?l8 ?c8 ?k8 ?a9 ?l9 ?c9 ?k9 ?a10 ?l10 ?c10 ?k10 ?a11 ?l11 ?c11 ?k11 ?a12 ?l12 ?c12 ?k12 ?a13 ?l13 ?c13 ?k13 ?a14 ?l14 ?c14 ?k14 ?a15 ?l15 ?c15 ?k15 ?a16 ?l16 ?c16 ?k16 ?a17 ?l17 ?c17 ?k17 ?a18 ?l18 ?c18 ?k18 ?a19 ?l19 ?c19 ?k19 ?a20 ?l20 ?c20 ?k20 ?a21 ?l21 ?c21 ?k21 ?a22 ?l22 ?c22 ?k22 ?a23 ?l23 ?c23 ?k23 ?a24 ?l24 ?c24 ?k24 ?a25 ?l25 ?c25 ?k25 ?a26 ?l26 ?c26 ?k26 ?z0 ?z1 ?z2 ?z3 ?z4 ?z5 ?z6 ?z7 ?z8 ?z9 ?z10 ?z11 ?z12 ?z13 ?z14 ?z15 ?z16
    (case a0 => k_is); (case l0 => k_is); (case c0 => k_is); (case k0 => k_is); (case a1 => k_is); (case l1 => k_is); (case c1 => k_is); (case k1 => k_is); (case a2 => k_is); (case l2 => k_is); (case c2 => k_is); (case k2 => k_is); (case a3 => k_is); (case l3 => k_is); (case c3 => k_is); (case k3 => k_is); (case a4 => k_is); (case l4 => k_is); (case c4 => k_is); (case k4 => k_is); (case a5 => k_is); (case l5 => k_is); (case c5 => k_is); (case k5 => k_is); (case a6 => k_is); (case l6 => k_is); (case c6 => k_is); (case k6 => k_is); (case a7 => k_is); (case l7 => k_is); (case c7 => k_is); (case k7 => k_is); (case a8 => k_is); (case l8 => k_is); (case c8 => k_is); (case k8 => k_is); (case a9 => k_is); (case l9 => k_is); (case c9 => k_is); (case k9 => k_is); (case a10 => k_is); (case l10 => k_is); (case c10 => k_is); (case k10 => k_is); (case a11 => k_is); (case l11 => k_is); (case c11 => k_is); (case k11 => k_is); (case a12 => k_is); (case l12 => k_is); (case c12 => k_is); (case k12 => k_is); (case a13 => k_is); (case l13 => k_is); (case c13 => k_is); (case k13 => k_is); (case a14 => k_is); (case l14 => k_is); (case c14 => k_is); (case k14 => k_is); (case a15 => k_is); (case l15 => k_is); (case c15 => k_is); (case k15 => k_is); (case a16 => k_is); (case l16 => k_is); (case c16 => k_is); (case k16 => k_is); (case a17 => k_is); (case l17 => k_is); (case c17 => k_is); (case k17 => k_is); (case a18 => k_is); (case l18 => k_is); (case c18 => k_is); (case k18 => k_is); (case a19 => k_is); (case l19 => k_is); (case c19 => k_is); (case k19 => k_is); (case a20 => k_is); (case l20 => k_is); (case c20 => k_is); (case k20 => k_is); (case a21 => k_is); (case l21 => k_is); (case c21 => k_is); (case k21 => k_is); (case a22 => k_is); (case l22 => k_is); (case c22 => k_is); (case k22 => k_is); (case a23 => k_is); (case l23 => k_is); (case c23 => k_is); (case k23 => k_is); (case a24 => k_is); (case l24 => k_is); (case c24 => k_is); (case k24 => k_is); (case a25 => k_is); (case l25 => k_is); (case c25 => k_is); (case k25 => k_is); (case a26 => k_is); (case l26 => k_is); (case c26 => k_is); (case k26 => k_is); (case z0 => k_is); (case z1 => k_is); (case z2 => k_is); (case z3 => k_is); (case z4 => k_is); (case z5 => k_is); (case z6 => k_is); (case z7 => k_is); (case z8 => k_is); (case z9 => k_is); (case z10 => k_is); (case z11 => k_is); (case z12 => k_is); (case z13 => k_is); (case z14 => k_is); (case z15 => k_is); (case z16 => k_is)
