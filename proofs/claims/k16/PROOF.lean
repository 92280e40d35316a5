import PyProof.Rows.All
import Wide.All
import OpenK.AllK
import Wide.FinOn
import HandS.ForMost
import HandS.Defaults
import HandS.TupMul
import HandS.TupAny
import HandS.IsInst
import HandS.Conv
import KE.SortData
import KE.GoesMore
import HandS.Style
import HandS.Walk
import HandS.Zip
import HandS.TupLe
import HandS.DictComp
import KE.KDictSum
import HandS.ExcValue
import PySem.Challenge.RW_pairfolds_k16_least_worths_told
import KE.KDictZip
import HandS.Text
import HandS.Sort
import PyProof.SumWalkG
import HandS.SortKw
import KE.KMinKey
import HandS.Deep
import HandS.Exc
import HandS.ExcOwn
import HandS.ExcIs
import HandS.TryMany
import HandS.Wide
import PyProof.ReprLen
import HandS.Lambda
import HandS.EndTab
import KE.KNest
import HandS.TupSets
import PyProof.FactsAll.subtypes_4
import PyProof.Transfer
import HandS.WordsExc
set_option Elab.async false
set_option linter.all false
set_option maxRecDepth 100000
set_option maxHeartbeats 4000000
namespace Pf
open PySem PySem.Spec PyProof.Rows L2

/-! ### a def that may be called: its promise, its name, its binding -/
structure Ca (P : Program) (w : World) (K : PySem.W.Frag) (mg : Str → Option Value) (base : Heap) (k : Nat) (x : Str) (ps : List Str) (sp : Sp) : Prop where
  ex : ∃ f fd, FnOk P w K mg base CX0 k f fd ps sp ∧ mg x = some (.ref f) ∧ PySem.W.keepIn K (.ref f) = true ∧ Binds K fd ps []
structure CaK (P : Program) (w : World) (K : PySem.W.Frag) (mg : Str → Option Value) (base : Heap) (k : Nat) (x : Str) (ps ks : List Str) (gV : List V → List V → List V) (sp : Sp) : Prop where
  ex : ∃ f fd g, FnOk P w K mg base CX0 k f fd ps sp ∧ mg x = some (.ref f) ∧ PySem.W.keepIn K (.ref f) = true ∧ KBn K fd ps 0 ks g gV
section
variable {X : Cx} {k : Nat} {x : Str} {ps ks : List Str} {sp : Sp} {p pos : Pos} {e : Expr} {es : List Expr} {kws : List Keyword} {t tk : TA} {gV : List V → List V → List V}
theorem pe_ca (c : Ca X.prog X.w X.K X.mg X.base k x ps sp) (hr : Room k X.A) (hg : Gl X x) (ha : PA X (e :: es) t) (hdb : (x == ("__debug__" : Str)) = false := by decide)
    (he : starEach (e :: es) X.env = (false, eval e X.env) :: starEach es X.env := by rfl) (hpl : (backTo pos (starEach es X.env)).any (·.1) = false := by rfl) :
    PE X (.Call (.Name x p) (e :: es) [] pos) (tCall sp [] E0 t) := by
  obtain ⟨f, fd, F, hm, hk, hb⟩ := c.ex
  exact pe_call F hr hg hm hk hb .nil pass0 ha hdb he hpl
theorem pe_ca0 (c : Ca X.prog X.w X.K X.mg X.base k x ps sp) (hr : Room k X.A) (hg : Gl X x) (hdb : (x == ("__debug__" : Str)) = false := by decide) :
    PE X (.Call (.Name x p) [] [] pos) (tCall sp [] E0 tNil) := by
  obtain ⟨f, fd, F, hm, hk, hb⟩ := c.ex
  exact pe_call0 F hr hg hm hk hb .nil pass0 hdb
/-- f(k = v, ..), by names alone -/
theorem pe_caK (c : CaK X.prog X.w X.K X.mg X.base k x ps ks gV sp) (hr : Room k X.A) (hg : Gl X x) (hkw : PK X kws tk)
    (hall : (backToKw pos (keywordEach kws X.env)).all (·.1.isSome) = true := by rfl) (hks : (backToKw pos (keywordEach kws X.env)).filterMap (·.1) = ks := by rfl) (hdb : (x == ("__debug__" : Str)) = false := by decide)
    (hpl : ((backTo pos (starEach [] X.env)).any (·.1) || (backToKw pos (keywordEach kws X.env)).any (·.1.isNone)) = false := by rfl) :
    PE X (.Call (.Name x p) [] kws pos) (tCallN 0 ks.length sp gV E0 tNil tk) := by
  obtain ⟨f, fd, g, F, hm, hk, hb⟩ := c.ex
  refine ⟨fun pins s σ H Q I h => ?_⟩
  refine wpAny_Call_Name_kw (ld_glob I hg hm ?_ hdb)
  refine PySem.W.callWith_KW0 (h₀ := X.base) I.ok.mod.kin hk hall ?_ hpl
  refine thn (hkw.run pos pins s σ H _ I h) fun ws s2 ⟨zs, H2, I2, rz, l1, l2, q2⟩ => ⟨I2.kIn, ?_⟩
  rw [hks]
  exact run_fnN (us := []) (vs := []) F hr hb pass0 I2 .nil rz rfl l2 q2
end

/-! ### rules that read a list or a tuple, the written part by its letter -/
theorem ixL (K : PySem.W.Frag) {X : Cx} (h : X.K = K := by rfl) : IxR X (rIxL K) := h ▸ ix_list
theorem ixT (K : PySem.W.Frag) {X : Cx} (h : X.K = K := by rfl) : IxR X (rIxT K) := h ▸ ix_tup
theorem ixA (K : PySem.W.Frag) {X : Cx} (h : X.K = K := by rfl) : IxR X (rIx K) := h ▸ ix_seq
def rLenA (K : PySem.W.Frag) : List V → Hp → VK → Prop := fun xs H Q => ∃ x n, xs = [x] ∧ LenV K x H n ∧ Q (.int n) H
theorem lenA (K : PySem.W.Frag) {X : Cx} (h : X.K = K := by rfl) : CallR X (.builtin "len") (rLenA K) := by
  subst h
  exact call_len
theorem repT (K : PySem.W.Frag) {X : Cx} (h : X.K = K := by rfl) : OpR X (binaryOp .Mult) (rRepT K) := h ▸ op_repT
theorem slL (K : PySem.W.Frag) {X : Cx} (h : X.K = K := by rfl) : SlR X (rSlL K) := h ▸ sl_list
theorem slT (K : PySem.W.Frag) {X : Cx} (h : X.K = K := by rfl) : SlR X (rSlT K) := h ▸ sl_tup
theorem eqD (K : PySem.W.Frag) {X : Cx} (hu : X.A.units + 64 < cLine) (h : X.K = K := by rfl) : OpR X (compareOp .Eq) (rEqD K) := h ▸ op_eqD hu
theorem neD (K : PySem.W.Frag) {X : Cx} (hu : X.A.units + 64 < cLine) (h : X.K = K := by rfl) : OpR X (compareOp .NotEq) (rNeD K) := h ▸ op_neD hu
theorem catT (K : PySem.W.Frag) {X : Cx} (h : X.K = K := by rfl) : OpR X (binaryOp .Add) (rCatT K) := h ▸ op_catT
theorem catA (K : PySem.W.Frag) {X : Cx} (h : X.K = K := by rfl) : OpR X (binaryOp .Add) (rCatA K) := h ▸ op_catA
theorem slA (K : PySem.W.Frag) {X : Cx} (h : X.K = K := by rfl) : SlR X (rSlA K) := h ▸ sl_tupA
theorem isi1 (K : PySem.W.Frag) {X : Cx} (h : X.K = K := by rfl) : CallR X (.builtin "isinstance") (rIsi K) := h ▸ call_isi
theorem pgT (K : PySem.W.Frag) {X : Cx} {es : List Expr} {k n : Nat} {t : TGs} {pos : Pos} (hc : X.calm = true) (h : PGs X es t) (hK : X.K = K := by rfl) (hn : (assignEach es X.env).length = n := by rfl) (hst : (assignEach es X.env).findIdx? (·.1) = none := by rfl) :
    PG X (.Tuple es k pos) (gTup K n t) := by
  subst hK
  exact pg_tup hc h hn hst
def rLen (K : PySem.W.Frag) : List V → Hp → VK → Prop := fun xs H Q => ∃ p ys, xs = [.ref p] ∧ (SqL K H p ys ∨ SqT K H p ys) ∧ Q (.int ys.length) H
theorem lenQ (K : PySem.W.Frag) {X : Cx} (h : X.K = K := by rfl) : CallR X (.builtin "len") (rLen K) := by
  subst h
  exact call_len_seq
def rListOf (K : PySem.W.Frag) : List V → Hp → VK → Prop := fun xs H Q => ∃ p ys, xs = [.ref p] ∧ (SqL K H p ys ∨ SqT K H p ys) ∧ ∀ l, H l = none → Q (.ref l) (upd H l (.lst ys))
theorem listOf (K : PySem.W.Frag) {X : Cx} (h : X.K = K := by rfl) : CallR X (.type "list") (rListOf K) := by
  subst h
  exact call_list_of
def rTupleOf (K : PySem.W.Frag) : List V → Hp → VK → Prop := fun xs H Q => ∃ p ys, xs = [.ref p] ∧ ((SqL K H p ys ∧ ∀ l, H l = none → Q (.ref l) (upd H l (.tup ys))) ∨ (SqT K H p ys ∧ Q (.ref p) H))
theorem tupleOf (K : PySem.W.Frag) {X : Cx} (h : X.K = K := by rfl) : CallR X (.type "tuple") (rTupleOf K) := by
  subst h
  exact call_tuple_of

/-! ### repr of a plain thing -/
def repV : V → Str
  | .non => "None"
  | .bl b => if b then "True" else "False"
  | .int i => toString i
  | _ => ""
def RepOk : V → Prop
  | .non => True
  | .bl _ => True
  | .int i => i.natAbs.log2 < 1920
  | _ => False
theorem call_repr {X : Cx} : CallR X (.builtin "repr") (fun xs H Q => ∃ v, xs = [v] ∧ RepOk v ∧ Q (.str (repV v)) H) := by
  intro pins s σ H xs us Q I r h
  obtain ⟨v, rfl, hz, q⟩ := h
  cases v with
  | non =>
    obtain ⟨u, rfl, rfl⟩ := vals1 r
    exact PySem.P.repr_of_none ⟨.str _, H, I.tok _, ⟨_, rfl⟩, q⟩
  | bl b =>
    obtain ⟨u, rfl, rfl⟩ := vals1 r
    exact PySem.P.repr_of_bool ⟨.str _, H, I.tok _, ⟨_, rfl⟩, by cases b <;> exact q⟩
  | int i =>
    obtain ⟨u, rfl, t, rfl⟩ := vals1 r
    exact PySem.P.repr_of_int hz ⟨.str _, H, I.tok _, ⟨_, rfl⟩, q⟩
  | str _ => exact hz.elim
  | byt _ => exact hz.elim
  | flt _ => exact hz.elim
  | ref _ => exact hz.elim
  | ty _ => exact hz.elim

/-! ### texts of small letters -/
def Small (x : Str) : Prop := ∀ c ∈ x.cps.toList, 97 ≤ c ∧ c ≤ 122
theorem Small.app {a b : Str} (ha : Small a) (hb : Small b) : Small (a ++ b) := fun c h => by
  rw [Str.cps_append, Array.toList_append, List.mem_append] at h
  rcases h with h | h
  · exact ha c h
  · exact hb c h
theorem Small.one {c : Nat} (h : 97 ≤ c ∧ c ≤ 122) : Small ⟨#[c]⟩ := fun d hd => by
  have e : d = c := by simpa using hd
  subst e
  exact h
theorem Small.at {x : Str} (h : Small x) {i c : Nat} (hi : x.cps[i]? = some c) : 97 ≤ c ∧ c ≤ 122 := by
  refine h c ?_
  have := Array.mem_of_getElem? hi
  exact Array.mem_toList_iff.mpr this
theorem Small.ok {x : Str} (h : Small x) : PyData.strOk x = true := by
  show x.cps.all (· < 0x110000) = true
  rw [Array.all_eq_true_iff_forall_mem]
  intro c hc
  have := h c (Array.mem_toList_iff.mpr hc)
  exact decide_eq_true (by omega)
/-! ### a chain of three comparisons -/
def tChain3 (r1 r2 r3 : R2) (ta tb tc td : TE) : TE := fun σ H Q => ta σ H fun x H1 => tb σ H1 fun y H2 => r1 x y H2 fun z H3 => ∃ k, z = .bl k ∧
  (if k = true then tc σ H3 fun u H4 => r2 y u H4 fun z2 H5 => ∃ k2, z2 = .bl k2 ∧ (if k2 = true then td σ H5 fun v H6 => r3 u v H6 Q else Q (.bl false) H5) else Q (.bl false) H3)
theorem pt_chain3 {X : Cx} {o1 o2 o3 : CmpOp} {r1 r2 r3 : R2} {a b c d : Expr} {ta tb tc td : TE} {pos : Pos} (h1 : OpR X (compareOp o1) r1) (h2 : OpR X (compareOp o2) r2) (h3 : OpR X (compareOp o3) r3)
    (ha : PE X a ta) (hb : PE X b tb) (hc : PE X c tc) (hd : PE X d td) (hm : lastMarks [o1, o2, o3] [b, c, d] = false := by with_unfolding_all rfl) :
    PT X (.Compare a [o1, o2, o3] [b, c, d] pos) (tTest (tChain3 r1 r2 r3 ta tb tc td)) := by
  refine ⟨fun pins s σ H Q I h => isTrue_chain (thn (ha.run pins s σ H _ I h) fun v s1 ⟨x, H1, I1, e1, q1⟩ => test_link ?_) hm⟩
  refine thn (hb.run pins s1 σ H1 _ I1 q1) fun u s2 ⟨y, H2, I2, e2, q2⟩ => ?_
  refine thn (h1 pins s2 σ H2 x y v u _ I2 e1 e2 q2) fun dv s3 ⟨z, H3, I3, e3, k, ek, q3⟩ => ?_
  subst ek
  cases e3
  refine wpAny_truthy_bool ?_
  cases k with
  | false =>
    obtain ⟨k', e', q'⟩ := q3
    cases e'
    exact ite_ff ⟨H3, I3, q'⟩
  | true =>
    refine ite_tt (test_link ?_)
    refine thn (hc.run pins s3 σ H3 _ I3 q3) fun u4 s4 ⟨y4, H4, I4, e4, q4⟩ => ?_
    refine thn (h2 pins s4 σ H4 y y4 u u4 _ I4 e2 e4 q4) fun dv5 s5 ⟨z5, H5, I5, e5, k5, ek5, q5⟩ => ?_
    subst ek5
    cases e5
    refine wpAny_truthy_bool ?_
    cases k5 with
    | false =>
      obtain ⟨k', e', q'⟩ := q5
      cases e'
      exact ite_ff ⟨H5, I5, q'⟩
    | true =>
      refine ite_tt (test_last ?_)
      refine thn (hd.run pins s5 σ H5 _ I5 q5) fun u6 s6 ⟨y6, H6, I6, e6, q6⟩ => ?_
      refine thn (h3 pins s6 σ H6 y4 y6 u4 u6 _ I6 e4 e6 q6) fun dv7 s7 ⟨z7, H7, I7, e7, k7, ek7, q7⟩ => ?_
      subst ek7
      cases e7
      exact wpAny_truthy_bool ⟨H7, I7, q7⟩
theorem inSeq (K : PySem.W.Frag) {X : Cx} (h : X.K = K := by rfl) : OpR X (compareOp .In) (rIn K false) := h ▸ op_in_seq
theorem notInSeq (K : PySem.W.Frag) {X : Cx} (h : X.K = K := by rfl) : OpR X (compareOp .NotIn) (rIn K true) := h ▸ op_notIn_seq
/-! ### join with nothing between -/
theorem join_str (ys : List Str) : Txt.join "" ys = Str.join "" ys := eq_of_beq (join_closes (ys := ys) rfl)
theorem sjoin_le {m : Nat} : ∀ {ys : List Str}, (∀ y ∈ ys, y.length ≤ m) → (Str.join "" ys).length ≤ ys.length * m
  | [], _ => Nat.zero_le _
  | [y], h => by
    have := h y (List.mem_cons_self ..)
    show y.length ≤ 1 * m
    omega
  | y :: z :: r, h => by
    have h1 := h y (List.mem_cons_self ..)
    have h2 := sjoin_le (ys := z :: r) fun x hx => h x (List.mem_cons_of_mem _ hx)
    show (y ++ "" ++ Str.join "" (z :: r)).length ≤ _
    rw [Str.length_append, Str.length_append, List.length_cons, Nat.succ_mul]
    show y.length + 0 + _ ≤ _
    omega
theorem small_nil : Small "" := by
  unfold Small
  decide +kernel
theorem sjoin_small : ∀ {ys : List Str}, (∀ y ∈ ys, Small y) → Small (Str.join "" ys)
  | [], _ => small_nil
  | [y], h => h y (List.mem_cons_self ..)
  | y :: z :: r, h => ((h y (List.mem_cons_self ..)).app small_nil).app (sjoin_small (ys := z :: r) fun x hx => h x (List.mem_cons_of_mem _ hx))
theorem join_le {m : Nat} {ys : List Str} (h : ∀ y ∈ ys, y.length ≤ m) : (Txt.join "" ys).length ≤ ys.length * m := by
  rw [join_str]
  exact sjoin_le h
theorem join_small {ys : List Str} (h : ∀ y ∈ ys, Small y) : Small (Txt.join "" ys) := by
  rw [join_str]
  exact sjoin_small h

/-! ### a walk over a text's signs -/
theorem for_str {x : Str} {g : TG} {tb : TS} {D : Ends} {σ : L2.St} {H : Hp} (Pv : Nat → L2.St → Hp → Prop) (h0 : Pv 0 σ H)
    (hs : ∀ i c σ H, x.cps[i]? = some c → Pv i σ H → g (.str ⟨#[c]⟩) σ H fun σ2 H2 => tb { D with nx := Pv (i + 1), ct := Pv (i + 1), bk := D.nx } σ2 H2) (hd : ∀ σ H, Pv x.cps.size σ H → D.nx σ H) :
    ∃ W : Nat → Nat → L2.St → Hp → Prop, (∃ m, W 0 m σ H) ∧ ∀ i m σ H, W i m σ H →
      ((Its x).stop i H ∧ D.nx σ H) ∨ ((Its x).go i H ∧ ∃ N : L2.St → Hp → Prop, (∀ σ' H', N σ' H' → ∃ m', m' < m ∧ W (i + 1) m' σ' H') ∧ ∀ y H', (Its x).yld i H y H' → g y σ H' fun σ2 H2 => tb { D with nx := N, ct := N, bk := D.nx } σ2 H2) := by
  refine ⟨fun i m σ H => m = x.cps.size - i ∧ i ≤ x.cps.size ∧ Pv i σ H, ⟨x.cps.size, by simp, Nat.zero_le _, h0⟩, ?_⟩
  rintro i m σ H ⟨rfl, hi, p⟩
  by_cases hlt : i < x.cps.size
  · refine .inr ⟨hlt, Pv (i + 1), fun σ' H' p' => ⟨x.cps.size - (i + 1), by omega, rfl, hlt, p'⟩, fun y H' z => ?_⟩
    obtain ⟨e, c, hc, ev⟩ := z
    subst e ev
    exact hs i c σ _ hc p
  · have e : i = x.cps.size := by omega
    subst e
    exact .inl ⟨Nat.le_refl _, hd σ H p⟩
theorem lc_str {x : Str} {g : TG} {tt : TT} {te : TE} {vs : List Nat} {σ : L2.St} {H1 : Hp} {D : Addr} {Qd : Hp → Prop} (Pv : Nat → Hp → Prop) (h0 : Pv 0 (upd H1 D (.lst [])))
    (hs : ∀ i c H, x.cps[i]? = some c → Pv i H → g (.str ⟨#[c]⟩) (wipe σ vs) H fun σ2 H2 => wipe σ2 vs = wipe σ vs ∧ tt σ2 H2 fun b H3 =>
      if b = true then te σ2 H3 fun y H4 => ∃ acc, H4 D = some (.lst acc) ∧ acc.length < sizeLine ∧ Pv (i + 1) (upd H4 D (.lst (acc ++ [y]))) else Pv (i + 1) H3) (hd : ∀ H, Pv x.cps.size H → Qd H) :
    ∃ W : Nat → Nat → Hp → Prop, (∃ m, W 0 m (upd H1 D (.lst []))) ∧ ∀ i m H, W i m H →
      ((Its x).stop i H ∧ Qd H) ∨ ((Its x).go i H ∧ ∃ Nx : Hp → Prop, (∀ H', Nx H' → ∃ m', m' < m ∧ W (i + 1) m' H') ∧ ∀ y H', (Its x).yld i H y H' → g y (wipe σ vs) H' fun σ2 H2 => wipe σ2 vs = wipe σ vs ∧ tt σ2 H2 fun b H3 =>
        if b = true then te σ2 H3 fun y H4 => ∃ acc, H4 D = some (.lst acc) ∧ acc.length < sizeLine ∧ Nx (upd H4 D (.lst (acc ++ [y]))) else Nx H3) := by
  refine ⟨fun i m H => m = x.cps.size - i ∧ i ≤ x.cps.size ∧ Pv i H, ⟨x.cps.size, by simp, Nat.zero_le _, h0⟩, ?_⟩
  rintro i m H ⟨rfl, hi, p⟩
  by_cases hlt : i < x.cps.size
  · refine .inr ⟨hlt, Pv (i + 1), fun H' p' => ⟨x.cps.size - (i + 1), by omega, rfl, hlt, p'⟩, fun y H' z => ?_⟩
    obtain ⟨e, c, hc, ev⟩ := z
    subst e ev
    exact hs i c _ hc p
  · have e : i = x.cps.size := by omega
    subst e
    exact .inl ⟨Nat.le_refl _, hd H p⟩

/-! ### what stays in the heap, but the thing at p -/
def Kp (p : Addr) (H H' : Hp) : Prop := ∀ b o, b ≠ p → H b = some o → H' b = some o
theorem Kp.refl {p : Addr} {H : Hp} : Kp p H H := fun _ _ _ e => e
theorem Kp.trans {p : Addr} {H H1 H2 : Hp} (a : Kp p H H1) (b : Kp p H1 H2) : Kp p H H2 := fun c o n e => b c o n (a c o n e)
theorem Kp.new {p q : Addr} {H : Hp} {o : HO} (h : H q = none) : Kp p H (upd H q o) := fun b x _ e => by
  rw [upd_ne (ne_of_none e h)]
  exact e
theorem Kp.at {p : Addr} {H : Hp} {o : HO} : Kp p H (upd H p o) := fun b x n e => by
  rw [upd_ne n]
  exact e
/-- a change of what stood nowhere in H -/
theorem Kp.put {p q : Addr} {H H1 : Hp} {o : HO} (k : Kp p H H1) (h : H q = none) : Kp p H (upd H1 q o) := fun b x n e => by
  rw [upd_ne (ne_of_none e h)]
  exact k b x n e
theorem Kp.tup {p : Addr} {H H' : Hp} {ys : List V} {b : Addr} {xs : List V} (k : Kp p H H') (hp : H p = some (.lst ys)) (h : H b = some (.tup xs)) : H' b = some (.tup xs) :=
  k b _ (ne_of h hp (by intro z; cases z)) h
theorem Kp.some {p : Addr} {H H' : Hp} (k : Kp p H H') (hp : ∃ o, H' p = some o) {b : Addr} (h : H' b = none) : H b = none := by
  cases e : H b with
  | none => rfl
  | some o =>
    by_cases n : b = p
    · subst n
      obtain ⟨o', e'⟩ := hp
      rw [e'] at h
      cases h
    · rw [k b o n e] at h
      cases h

/-! ### arguments by names, in another order -/
def permV (js : List Nat) : List V → List V → List V := fun _ zs => js.map fun j => zs.getD j .non
def permU (js : List Nat) : List Value → List Value → List Value := fun _ ws => js.map fun j => ws.getD j .none
theorem vals_getD : ∀ {zs : List V} {ws : List Value} (j : Nat), Vals zs ws → RelV (zs.getD j .non) (ws.getD j .none)
  | _, _, _, .nil => rfl
  | _, _, 0, .cons r _ => r
  | _, _, j + 1, .cons _ t => vals_getD j t
theorem perm_rel {zs : List V} {ws : List Value} (r : Vals zs ws) : ∀ js : List Nat, Vals (js.map fun j => zs.getD j .non) (js.map fun j => ws.getD j .none)
  | [] => .nil
  | j :: js => .cons (vals_getD j r) (perm_rel r js)
theorem kbn_of {K : PySem.W.Frag} {fd : FuncData} {ps ks : List Str} (js : List Nat) (h : ∀ ws : List Value, ws.length = ks.length → bindArgs fd ⟨[], ks.zip ws⟩ = pure (ps.zip (js.map fun j => ws.getD j .none))) :
    KBn K fd ps 0 ks (permU js) (permV js) where
  to := fun s us ws _ hu hw => by
    obtain rfl := List.length_eq_zero_iff.mp hu
    exact .of_eq (h ws hw)
  rel := fun _ r => perm_rel r js
/-! ### what is added, and nothing changed -/
def Ext (H H' : Hp) : Prop := ∀ b o, H b = some o → H' b = some o
theorem Ext.refl {H : Hp} : Ext H H := fun _ _ e => e
theorem Ext.trans {H H1 H2 : Hp} (a : Ext H H1) (b : Ext H1 H2) : Ext H H2 := fun c o e => b c o (a c o e)
theorem Ext.new {q : Addr} {H : Hp} {o : HO} (h : H q = none) : Ext H (upd H q o) := fun b x e => by
  rw [upd_ne (ne_of_none e h)]
  exact e
theorem Ext.put {q : Addr} {H H1 : Hp} {o : HO} (k : Ext H H1) (h : H q = none) : Ext H (upd H1 q o) := fun b x e => by
  rw [upd_ne (ne_of_none e h)]
  exact k b x e
theorem Ext.none {H H' : Hp} (k : Ext H H') {q : Addr} (h : H' q = none) : H q = none := by
  cases e : H q with
  | none => rfl
  | some o =>
    rw [k q o e] at h
    cases h

theorem atI_get {α : Type} {xs : List α} {i : Int} (h0 : 0 ≤ i) (h1 : i < xs.length) : atI xs i = some (xs[i.toNat]'(by omega)) := by
  unfold atI ixN
  rw [if_pos h0, if_pos h1]
  exact List.getElem?_eq_getElem _
theorem atI_ints {ns : List Int} {i : Int} (h0 : 0 ≤ i) (h1 : i < ns.length) : ∃ z, z ∈ ns ∧ atI (ns.map V.int) i = some (.int z) := by
  have h2 : i < (ns.map V.int).length := by rw [List.length_map]; exact h1
  refine ⟨ns[i.toNat]'(by omega), List.getElem_mem _, ?_⟩
  rw [atI_get h0 h2, List.getElem_map]
theorem atI_mem {α : Type} {xs : List α} {i : Int} (h0 : 0 ≤ i) (h1 : i < xs.length) : ∃ v, v ∈ xs ∧ atI xs i = some v :=
  ⟨xs[i.toNat]'(by omega), List.getElem_mem _, atI_get h0 h1⟩
theorem len_pos {x : Str} (h : ¬ x = "") : 1 ≤ x.length := by
  obtain ⟨⟨l⟩⟩ := x
  cases l with
  | nil => exact absurd (by decide +kernel) h
  | cons a r =>
    show 1 ≤ (a :: r).length
    exact Nat.succ_pos _
theorem natAbs_lt_of {i : Int} {n : Nat} (h0 : -(n : Int) < i) (h1 : i < n) : i.natAbs < n := by omega
theorem log2_small {i : Int} (h : i.natAbs < 2 ^ 64) : i.natAbs.log2 < 1920 := by
  by_cases z : i.natAbs = 0
  · rw [z]
    decide
  · exact (Nat.log2_lt z).mpr (Nat.lt_of_lt_of_le h (Nat.pow_le_pow_right (by decide) (by decide)))
theorem szL {n : Nat} (h : n ≤ 1000000) : n ≤ sizeLine := by
  rw [sizeLine_eq]
  omega
theorem szLt {n : Nat} (h : n < 1000000) : n < sizeLine := by
  rw [sizeLine_eq]
  omega
end Pf


namespace Pf
open PySem PySem.Spec PyProof.Rows L2
/-! ### the law's own call: made by nobody, nothing being shown meanwhile -/
structure FnG (P : Program) (w : World) (K : PySem.W.Frag) (mg : Str → Option Value) (base : Heap) (f : Addr) (fd : FuncData) (ps : List Str) (sp : Sp) : Prop where
  run : ∀ (s : Shared) (H : Hp) (args : Args) (us : List Value) (vs : List V) (Q : VK) (E : XK), Env0 P w K mg base callerA [] s H → BindsTo s fd args (ps.zip us) → Vals vs us → sp vs H Q E →
    codeAny (model P w) callerA (.call (.ref f) args) (CR CX0 [] P w H s Q E) s
theorem FnG.of {P : Program} {w : World} {K : PySem.W.Frag} {mg : Str → Option Value} {base : Heap} {k : Nat} {f : Addr} {fd : FuncData} {x qual : Str} {st : Stmt} {N ps : List Str} {sp : Sp} (F : Fun K x qual st f fd) (S : FnScope N ps (defScope st))
    (room : Room (k + 1) callerA) (len : ∀ vs H Q E, sp vs H Q E → vs.length = ps.length)
    (body : ∀ (cdv : Value) (s : Shared) (H : Hp) (vs : List V) (Q : VK) (E : XK), Room k (callerA.deeper (envOfC qual (defScope st) s.heap.objs.size f cdv)) → (callerA.deeper (envOfC qual (defScope st) s.heap.objs.size f cdv)).guards = some [] → sp vs H Q E →
      ∃ t, PSs (cxOf CX0 P w K mg base N qual (defScope st) f cdv callerA [] s H E).nox (defBody st) t ∧ t { nx := fun _ H' => Q .non H', rt := Q } (start N vs) H) : FnG P w K mg base f fd ps sp := by
  obtain ⟨oc, od, kV, doc, pm, an, cdv, ct, osl, rfl, lk, hcd⟩ := F.ex
  refine ⟨fun s H args us vs Q E env0 bnd rel hsp => ?_⟩
  have inS : K.In s.heap := env0.mod.kin.keeps fun b o e => (env0.bs b o e).1
  have limS : s.heap.NoLimit := env0.mod.nolimit.keeps fun b o e => (env0.bs b o e).1
  have kinds : ∀ y ∈ ps.zip us, (defScope st).names.lookup y.1 = some .local ∨ ((defScope st).names.lookup y.1 = some .cell ∧ ((cellsFrom (s.heap.objs.size + 1) (defScope st).names []).lookup y.1).isSome = true) := by
    rintro ⟨n, v⟩ hy
    cases S.par n (List.of_mem_zip hy).1 with
    | inl q => exact .inl q
    | inr q => exact .inr ⟨q, PySem.W.cellsFrom_some _ _ _ (.inl q)⟩
  refine codeAny_call_function room.depth (inS _ _ lk) rfl S.co S.gen rfl (PySem.W.codeRec_of inS hcd) (bnd _ _ _ _ ?_)
  refine wpAny_newFunctionEnv_cells S.kind kinds fun env0' he s1 inC => ?_
  subst he
  refine ⟨limS.keeps inC.toInCall.keep, codeAny_func ?_⟩
  obtain ⟨t, ht, hq⟩ := body cdv s H vs Q E (room.deeper _) rfl hsp
  have I0 : Inv (cxOf CX0 P w K mg base N qual (defScope st) f cdv callerA [] s H E) [] (start N vs) H s1 := inv_start S room.hd env0 (len _ _ _ _ hsp) rel inC
  refine wpAny_mono (ht.nox.run [] s1 (start N vs) H _ I0 hq) (fun fl s' hs => ?_) fun _ _ z => z
  cases fl with
  | ret u =>
    obtain ⟨v, σ', H', J, rv, q⟩ := hs
    exact ⟨v, H', J.os, J.bare, J.base, J.hok, rv, q⟩
  | next =>
    obtain ⟨σ', H', J, q⟩ := hs
    exact ⟨.non, H', J.os, J.bare, J.base, J.hok, rfl, q⟩
  | brk => exact False.elim (by obtain ⟨_, _, _, q⟩ := hs; exact q)
  | cont => exact False.elim (by obtain ⟨_, _, _, q⟩ := hs; exact q)
/-- its end: from an abstract heap that holds the script or nothing -/
theorem FnG.ends {P : Program} {w : World} {K : PySem.W.Frag} {mg mb : Str → Option Value} {fa a : Addr} {fd : FuncData} {x : Str} {sp : Sp} {s1 : Shared} {vs : List Value} {ns : List Int}
    (inK : K.In s1.heap) (gl : s1.heap.Ns mainGlobals mg) (bl : s1.heap.Ns builtinsNs mb) (bb : ∀ x : Str, x ≠ "__name__" → mb x = bootBuiltins x) (lim : s1.heap.NoLimit) (gens : s1.gens = #[])
    (hscr : s1.heap.get? a = some { cls := .type "list", data := .seq vs.toArray }) (hin : IntsAre vs ns) (F : ∀ base : Heap, K.In base → base.Ns mainGlobals mg → FnG P w K mg base fa fd [x] sp) (bnd : ∀ (s : Shared) (u : Value), BindsTo s fd ⟨[u], []⟩ [(x, u)])
    {H : Hp} (only : Only H) (hsp : sp [.ref a] H (fun v _ => v = .bl true) fun _ _ _ => False) (hok : HOk P w H s1.heap) (hA : ∀ b, H b ≠ none → b = a) (hK : H a ≠ none → K.lookup a = none) :
    codeAny (model P w) callerA (.call (.ref fa) ⟨[.ref a], []⟩) (fun r s' => r = .ok (.ret (.bool true)) ∧ OldK s1.heap s'.heap ∧ s'.os = s1.os ∧ AllBare s'.gens) s1 := by
  have isA : ∀ {b : Addr} {u : HO}, H b = some u → b = a := fun {b u} q => hA b (by rw [q]; exact Option.some_ne_none _)
  have hid : ∀ {b : Addr} {o : Obj}, s1.heap.get? b = some o → H b = none → (hidT s1.heap H).get? b = some o := fun e n => hidT_get e n
  have dictN : ∀ {b : Addr} {o : Obj} {es : Array DictEntry} {ep : Nat}, s1.heap.get? b = some o → o.data = .dict es ep → H b = none := by
    intro b o es ep e d
    cases q : H b with
    | none => rfl
    | some u =>
      obtain rfl := isA q
      rw [hscr] at e
      cases e
      exact nomatch d
  have nsH : ∀ {b : Addr} {m : Str → Option Value}, s1.heap.Ns b m → (hidT s1.heap H).Ns b m := by
    rintro b m ⟨o, es, ep, e, d, r⟩
    exact ⟨o, es, ep, hid e (dictN e d), d, r⟩
  have inB : K.In (hidT s1.heap H) := by
    intro b o e
    refine hid (inK b o e) ?_
    cases q : H b with
    | none => rfl
    | some u =>
      obtain rfl := isA q
      rw [hK (by rw [q]; exact Option.some_ne_none _)] at e
      cases e
  have limB : (hidT s1.heap H).NoLimit := by
    obtain ⟨mc, h1, h2⟩ := lim
    exact ⟨mc, nsH h1, h2⟩
  have env0 : Env0 P w K mg (hidT s1.heap H) callerA [] s1 H :=
    ⟨rfl, ⟨inB, nsH gl, ⟨mb, nsH bl, bb⟩, limB⟩, fun b o e => of_hidT e, Nat.le_of_eq (hidT_size _ _), trivial, fun b hb => (nomatch (show b ∈ ([] : List Addr) from hb)), hok, .of_eq gens⟩
  refine codeAny_mono ((F _ inB (nsH gl)).run s1 H ⟨[.ref a], []⟩ [.ref a] [.ref a] _ _ env0 (bnd s1 (.ref a)) (.cons rfl .nil) hsp) fun r s' h => ?_
  match r, h with
  | .error _, h => exact False.elim h
  | .ok .next, h => exact False.elim h
  | .ok .brk, h => exact False.elim h
  | .ok .cont, h => exact False.elim h
  | .ok (.ret u), h =>
    obtain ⟨v, H', os, bare, un, hok', rel, q⟩ := h
    obtain rfl : v = .bl true := q
    obtain rfl : u = Value.bool true := rel
    refine ⟨rfl, OldK.of_keep fun b o e => ?_, os, bare⟩
    cases q : H b with
    | none => exact un.keep b o e q (fun z => (nomatch (show b ∈ ([] : List Addr) from z))) (by simp)
    | some u =>
      cases only b with
      | inl z => rw [q] at z; cases z
      | inr z =>
        obtain ⟨ob, xs, z⟩ := z
        have kept := (hok' b _ (un.frzs b ob _ z)).1
        have was := (hok b _ z).1
        rw [e] at was
        cases was
        exact kept
theorem walk_g {l : PySem.W.OpenLaw} {n : Nat} {q : Program} {loose : List Str} {XP : (Str → Option Value) → Heap → Prop} {YP : World → Heap → Prop} {d : DefRec} {K : Params → PySem.W.Frag} {sp : World → Sp} {x : Str}
    (hn : l.most = some n) (hn2 : n ≤ sizeLine) (hdf : d.params.defaults = []) (hY : ∀ (w : World) (h : Heap), YP w h → (K w.params).In h)
    (F : ∀ (w : World) (mg : Str → Option Value) (fa : Addr) (h : Heap), (K w.params).In h → h.Ns mainGlobals mg → mg d.name = some (.ref fa) →
      ∃ fd : FuncData, (∀ (s : Shared) (u : Value), BindsTo s fd ⟨[u], []⟩ [(x, u)]) ∧ ∀ base : Heap, (K w.params).In base → base.Ns mainGlobals mg → FnG l.prog w (K w.params) mg base fa fd [x] (sp w))
    (hsp : ∀ (w : World) (H : Hp) (a : Addr) (ns : List Int), ns.length ≤ n → SqL (K w.params) H a (ns.map V.int) → sp w [.ref a] H (fun v _ => v = .bl true) fun _ _ _ => False) :
    PySem.W.WalkO q loose XP YP l.row.toRowW d [] (fun f vs => PySem.call f vs) := by
  refine Att.attach_call hn hdf fun w s0 s1 mg mb fa o pm cd doc a vs ns G Y ho hd hcd hmg hobj hints hlen hg => ?_
  have inK := hY w _ Y
  obtain ⟨fd, bnd, hF⟩ := F w mg fa _ inK G.T.g hmg
  have szs : ns.length ≤ sizeLine := Nat.le_trans hlen hn2
  have vals := vals_ints hints
  cases hk : (K w.params).lookup a with
  | some ob =>
    have e := inK a ob hk
    rw [hobj] at e
    cases e
    have here : SqL (K w.params) (fun _ => none) a (ns.map V.int) := .inr ⟨_, vs.toArray, _, hk, rfl, rfl, rfl, by rw [List.size_toArray, hints.length]; exact szs, by simpa using vals⟩
    exact FnG.ends inK G.T.g G.T.b G.T.builtins G.T.nolimit hg hobj hints hF bnd (fun _ => .inl rfl) (hsp w _ a ns hlen here) (fun _ _ z => (nomatch z)) (fun b z => absurd rfl z) fun z => absurd rfl z
  | none =>
    have here : SqL (K w.params) (fun b => if b = a then some (.frz { cls := .type "list", data := .seq vs.toArray } (.lst (ns.map V.int))) else none) a (ns.map V.int) := .inl (.inr ⟨_, if_pos rfl⟩)
    refine FnG.ends inK G.T.g G.T.b G.T.builtins G.T.nolimit hg hobj hints hF bnd (fun b => ?_) (hsp w _ a ns hlen here) (fun b u z => ?_) (fun b z => ?_) fun _ => hk
    · exact if h : b = a then .inr ⟨_, _, if_pos h⟩ else .inl (if_neg h)
    · by_cases h : b = a
      · rw [if_pos h] at z
        cases z
        subst h
        exact ⟨hobj, by rw [List.length_map]; exact szs, vs, _, vals, hobj⟩
      · rw [if_neg h] at z
        cases z
    · by_cases h : b = a
      · exact h
      · exact absurd (if_neg h) z
/-! ### data that are small: how much they weigh, how deep they are -/
structure Sm (m k : Nat) (d : PyData) : Prop where
  lay : d.canLay0 = true
  sho : d.showable = true
  ish : d.intsShort 13 = true
  wt : d.weight ≤ m
  dep : d.depth ≤ k
theorem Sm.le {m k m' k' : Nat} {d : PyData} (h : Sm m k d) (hm : m ≤ m') (hk : k ≤ k') : Sm m' k' d := ⟨h.lay, h.sho, h.ish, Nat.le_trans h.wt hm, Nat.le_trans h.dep hk⟩
theorem Sm.non : Sm 0 0 .none := ⟨by simp [PyData.canLay0], by simp [PyData.showable], by simp [PyData.intsShort], by simp [PyData.weight], by simp [PyData.depth]⟩
theorem Sm.bl (b : Bool) : Sm 0 0 (.bool b) := ⟨by simp [PyData.canLay0], by simp [PyData.showable], by simp [PyData.intsShort], by simp [PyData.weight], by simp [PyData.depth]⟩
theorem Sm.int {i : Int} (h0 : -1000000000 < i) (h1 : i < 1000000000) : Sm 64 0 (.int i) := by
  have hb : i.natAbs < 2 ^ 64 := by omega
  have hl : i.natAbs.log2 < 64 := by
    by_cases z : i.natAbs = 0
    · rw [z]
      decide
    · exact (Nat.log2_lt z).mpr hb
  refine ⟨by simp [PyData.canLay0], ?_, ?_, ?_, by simp [PyData.depth]⟩
  · simp only [PyData.showable]
    exact decide_eq_true (by omega)
  · simp only [PyData.intsShort, PyData.shown]
    refine decide_eq_true ?_
    by_cases hn : i < 0
    · rw [len_text_neg hn]
      have := toString_length_le (v := 0 - i) (k := 9) (by omega) (by decide) (by omega)
      omega
    · have := toString_length_le (v := i) (k := 9) (by omega) (by decide) (by omega)
      omega
  · simp only [PyData.weight]
    split <;> omega
theorem Sm.str {x : Str} {n : Nat} (h : PyData.strOk x = true) (hn : x.length ≤ n) : Sm n 0 (.str x) :=
  ⟨by simpa only [PyData.canLay0] using h, by simp [PyData.showable], by simp [PyData.intsShort], by simp only [PyData.weight]; exact hn, by simp [PyData.depth]⟩
structure SmA (n m k : Nat) (ds : List PyData) : Prop where
  lay : PyData.canLayAll0 ds = true
  sho : PyData.showableAll ds = true
  ish : PyData.intsShortAll 13 ds = true
  wt : PyData.weightAll ds ≤ ds.length * (m + 1)
  dep : PyData.depthAll ds ≤ k
theorem SmA.of {m k : Nat} : ∀ {ds : List PyData}, (∀ d ∈ ds, Sm m k d) → SmA ds.length m k ds
  | [], _ => ⟨by simp [PyData.canLayAll0], by simp [PyData.showableAll], by simp [PyData.intsShortAll], by simp [PyData.weightAll], by simp [PyData.depthAll]⟩
  | d :: ds, h => by
    have h1 := h d (List.mem_cons_self ..)
    have h2 := SmA.of (ds := ds) fun x hx => h x (List.mem_cons_of_mem _ hx)
    refine ⟨by simp [PyData.canLayAll0, h1.lay, h2.lay], by simp [PyData.showableAll, h1.sho, h2.sho], by simp [PyData.intsShortAll, h1.ish, h2.ish], ?_, ?_⟩
    · have e1 := h1.wt
      have e2 := h2.wt
      simp only [PyData.weightAll, List.length_cons, Nat.succ_mul]
      omega
    · simp only [PyData.depthAll]
      exact Nat.max_le.mpr ⟨h1.dep, h2.dep⟩
theorem Sm.lst {n m k M : Nat} {ds : List PyData} (hn : ds.length ≤ n) (h : ∀ d ∈ ds, Sm m k d) (hM : n * (m + 1) ≤ M) : Sm M (k + 1) (.list ds) := by
  have a := SmA.of h
  have hw : ds.length * (m + 1) ≤ n * (m + 1) := Nat.mul_le_mul_right _ hn
  exact ⟨by simpa only [PyData.canLay0] using a.lay, by simpa only [PyData.showable] using a.sho, by simpa only [PyData.intsShort] using a.ish, by simp only [PyData.weight]; exact Nat.le_trans a.wt (Nat.le_trans hw hM), by simp only [PyData.depth]; exact Nat.succ_le_succ a.dep⟩
theorem Sm.tup {n m k M : Nat} {ds : List PyData} (hn : ds.length ≤ n) (h : ∀ d ∈ ds, Sm m k d) (hM : n * (m + 1) ≤ M) : Sm M (k + 1) (.tuple ds) := by
  have a := SmA.of h
  have hw : ds.length * (m + 1) ≤ n * (m + 1) := Nat.mul_le_mul_right _ hn
  exact ⟨by simpa only [PyData.canLay0] using a.lay, by simpa only [PyData.showable] using a.sho, by simpa only [PyData.intsShort] using a.ish, by simp only [PyData.weight]; exact Nat.le_trans a.wt (Nat.le_trans hw hM), by simp only [PyData.depth]; exact Nat.succ_le_succ a.dep⟩
theorem Sm.shaped {m k : Nat} {d : PyData} (h : Sm m k d) (hk : k ≤ 50) : SeqAt.shaped d = true := by
  show (d.canLay0 && decide (d.depth ≤ 64)) = true
  rw [h.lay, decide_eq_true (show d.depth ≤ 64 from Nat.le_trans h.dep (by omega))]
  rfl
theorem Sm.short {m k : Nat} {d : PyData} (h : Sm m k d) (hm : m ≤ 1000000) (hk : k ≤ 50) : d.shown.length ≤ sizeLine := by
  have e : PyData.layable0 d = true := by
    show (d.canLay0 && decide (d.depth ≤ 64) && decide (d.weight ≤ 2 ^ 20)) = true
    rw [h.lay, decide_eq_true (show d.depth ≤ 64 from Nat.le_trans h.dep (by omega)), decide_eq_true (show d.weight ≤ 2 ^ 20 from Nat.le_trans h.wt (by omega))]
    rfl
  have := shown_le13 e h.ish
  rw [sizeLine_eq]
  omega
/-! ### repr of data at any depth -/
def rShow (K : PySem.W.Frag) : List V → Hp → VK → Prop := fun xs H Q => ∃ v d m k, xs = [v] ∧ Dp K H v d ∧ Sm m k d ∧ m ≤ 1000000 ∧ k ≤ 50 ∧ Q (.str d.shown) H
theorem call_show (K : PySem.W.Frag) {X : Cx} (hg : X.A.guards = some []) (hu : X.A.units + 64 < cLine) (hK : X.K = K := by rfl) : CallR X (.builtin "repr") (rShow K) := by
  subst hK
  intro pins s σ H xs us Q I r h
  obtain ⟨v, d, m, k, rfl, hd, sh, hm, hk, q⟩ := h
  have hdep := sh.dep
  have hz := sh.short hm hk
  cases hd with
  | non =>
    obtain ⟨u, rfl, rfl⟩ := vals1 r
    exact PySem.P.repr_of_none ⟨.str _, H, I.tok _, ⟨_, rfl⟩, by simpa only [PyData.shown] using q⟩
  | bl b =>
    obtain ⟨u, rfl, rfl⟩ := vals1 r
    refine PySem.P.repr_of_bool ⟨.str _, H, I.tok _, ⟨_, rfl⟩, ?_⟩
    simp only [PyData.shown] at q
    cases b <;> exact q
  | int i =>
    obtain ⟨u, rfl, t, rfl⟩ := vals1 r
    have hi : i.natAbs.log2 < 1920 := by simpa [PyData.showable] using sh.sho
    exact PySem.P.repr_of_int hi ⟨.str _, H, I.tok _, ⟨_, rfl⟩, by simpa only [PyData.shown] using q⟩
  | str x =>
    obtain ⟨u, rfl, t, rfl⟩ := vals1 r
    simp only [PyData.shown] at q hz
    exact PySem.P.repr_of_str ⟨.str _, H, I.tok _, ⟨_, rfl⟩, q⟩ hz
  | @lst a ys ds hs hds =>
    obtain ⟨u, rfl, rfl⟩ := vals1 r
    obtain ⟨as, rd⟩ := Dp.reads I _ _ _ (Dp.lst hs hds) (show RelV (.ref a) (.ref a) from rfl)
    exact PySem.repr_of_reads' rd sh.sho (PyData.noDict_hsm (PyData.hasDict_of_canLay _ sh.lay)) hg (by omega) (fun _ _ e => e) (fun h' u tk keep => ⟨.str _, H, I.kept keep, ⟨_, rfl⟩, q⟩) hz
  | @tup a ys ds hs hds =>
    obtain ⟨u, rfl, rfl⟩ := vals1 r
    obtain ⟨as, rd⟩ := Dp.reads I _ _ _ (Dp.tup hs hds) (show RelV (.ref a) (.ref a) from rfl)
    exact PySem.repr_of_reads' rd sh.sho (PyData.noDict_hsm (PyData.hasDict_of_canLay _ sh.lay)) hg (by omega) (fun _ _ e => e) (fun h' u tk keep => ⟨.str _, H, I.kept keep, ⟨_, rfl⟩, q⟩) hz
/-! ### sorted of data -/
def rSortD (K : PySem.W.Frag) : List V → Hp → VK → Prop := fun vs H Q => ∃ (β : Type) (v : β → V) (d : β → PyData) (a : Addr) (bs : List β), vs = [.ref a] ∧ SqL K H a (bs.map v) ∧ (∀ b ∈ bs, Dp K H (v b) (d b) ∧ (d b).depth ≤ 50) ∧
  PySem.W.AllAlike (bs.map d) ∧ PySem.W.Sortable (bs.map d) ∧ ∀ p, H p = none → Q (.ref p) (upd H p (.lst ((bs.mergeSort (PySem.W.dataLe false d)).map v)))
section
variable {β : Type} {v : β → V} {d : β → PyData}
theorem each_vals : ∀ {bs : List β} {its : List Value}, Vals (bs.map v) its → PySem.W.EachIs (fun (u : Value) (b : β) => RelV (v b) u) its bs
  | [], _, .nil => .nil
  | _ :: _, _, .cons r t => .cons r (each_vals t)
theorem vals_each : ∀ {bs : List β} {its : List Value}, PySem.W.EachIs (fun (u : Value) (b : β) => RelV (v b) u) its bs → Vals (bs.map v) its
  | [], _, .nil => .nil
  | _ :: _, _, .cons r t => .cons r (vals_each t)
theorem each_reads {X : Cx} {pins : List (Addr × Obj)} {σ : L2.St} {H : Hp} {s : Shared} (I : Inv X pins σ H s) : ∀ {bs : List β} {its : List Value}, Vals (bs.map v) its → (∀ b ∈ bs, Dp X.K H (v b) (d b)) → PySem.W.EachIs (fun (u : Value) (b : β) => ∃ as, Reads s.heap u (d b) as) its bs
  | [], _, .nil, _ => .nil
  | b :: _, _, .cons r t, h => .cons (Dp.reads I _ _ _ (h b (List.mem_cons_self ..)) r) (each_reads I t fun x hx => h x (List.mem_cons_of_mem _ hx))
end
theorem cr_sortD (K : PySem.W.Frag) {X : Cx} (hu : X.A.units + 64 < cLine) (hK : X.K = K := by rfl) : CallR X (.builtin "sorted") (rSortD K) := by
  subst hK
  intro pins s σ H vs us Q I r h
  obtain ⟨β, v, d, a, bs, rfl, hs, hd, al, so, q⟩ := h
  obtain ⟨u, rfl, rfl⟩ := vals1 r
  obtain ⟨its, rv, hl, hz⟩ := I.list hs
  rw [List.length_map] at hz
  refine PySem.W.sorted_data (enc := d) (R := fun (u : Value) (b : β) => RelV (v b) u) hl.isList (each_vals rv) (each_reads I rv fun b hb => (hd b hb).1) al so hz (fun b hb => ?_) fun out hlen he => ?_
  · have := (hd b hb).2
    omega
  · obtain ⟨ep, he'⟩ := PyProof.Rows.sortedAll_at s.heap its out.toArray
    have hlen2 : ((bs.mergeSort (PySem.W.dataLe false d)).map v).length ≤ sizeLine := by
      rw [List.length_map, List.length_mergeSort]
      exact hz
    exact ⟨.ref _, upd H (s.heap.objs.size + 1) (.lst ((bs.mergeSort (PySem.W.dataLe false d)).map v)), I.laid (t' := s.toks) (fun _ _ => PyProof.Rows.sortedAll_old) (Nat.le_succ _) ⟨hlen2, out, ep, vals_each he, by simpa using he'⟩, rfl, q _ (I.hok.fresh (Nat.le_succ _))⟩
end Pf


namespace Pf
open PySem PySem.Spec PyProof.Rows L2
/-! ### tuples stay -/
structure TupK (H H' : Hp) : Prop where
  tup : ∀ b xs, H b = some (.tup xs) → H' b = some (.tup xs)
  frz : ∀ b o u, H b = some (.frz o u) → H' b = some (.frz o u)
instance {H H' : Hp} : CoeFun (TupK H H') (fun _ => ∀ b xs, H b = some (.tup xs) → H' b = some (.tup xs)) := ⟨TupK.tup⟩
theorem TupK.refl {H : Hp} : TupK H H := ⟨fun _ _ e => e, fun _ _ _ e => e⟩
theorem TupK.trans {H H1 H2 : Hp} (a : TupK H H1) (b : TupK H1 H2) : TupK H H2 := ⟨fun c xs e => b.tup c xs (a.tup c xs e), fun c o u e => b.frz c o u (a.frz c o u e)⟩
theorem TupK.ext {H H' : Hp} (k : Ext H H') : TupK H H' := ⟨fun b _ e => k b _ e, fun b _ _ e => k b _ e⟩
theorem TupK.new {q : Addr} {H : Hp} {o : HO} (h : H q = none) : TupK H (upd H q o) := TupK.ext (Ext.new h)
theorem TupK.lst {q : Addr} {H : Hp} {o : HO} {ys : List V} (h : H q = some (.lst ys)) : TupK H (upd H q o) := by
  refine ⟨fun b xs e => ?_, fun b o u e => ?_⟩
  · rw [upd_ne (ne_of e h (by intro z; cases z))]
    exact e
  · rw [upd_ne (ne_of e h (by intro z; cases z))]
    exact e
theorem paired_imp {α β : Type} {R S : α → β → Prop} (h : ∀ a b, R a b → S a b) : ∀ {xs : List α} {ys : List β}, Paired R xs ys → Paired S xs ys
  | _, _, .nil => .nil
  | _, _, .cons r t => .cons (h _ _ r) (paired_imp h t)
theorem paired_get {α β : Type} {R : α → β → Prop} : ∀ {xs : List α} {ys : List β} {i : Nat} {x : α}, Paired R xs ys → xs[i]? = some x → ∃ y, ys[i]? = some y ∧ R x y
  | _, _, _, _, .nil, e => by simp at e
  | _, _, 0, _, .cons r _, e => by
    simp at e
    subst e
    exact ⟨_, rfl, r⟩
  | _, _, i + 1, x, .cons _ t, e => by
    obtain ⟨y, h1, h2⟩ := paired_get (i := i) (x := x) t (by simpa using e)
    exact ⟨y, by simpa using h1, h2⟩
theorem paired_len {α β : Type} {R : α → β → Prop} : ∀ {xs : List α} {ys : List β}, Paired R xs ys → xs.length = ys.length
  | _, _, .nil => rfl
  | _, _, .cons _ t => by rw [List.length_cons, List.length_cons, paired_len t]
theorem paired_app {α β : Type} {R : α → β → Prop} : ∀ {xs xs' : List α} {ys ys' : List β}, Paired R xs ys → Paired R xs' ys' → Paired R (xs ++ xs') (ys ++ ys')
  | _, _, _, _, .nil, s => s
  | _, _, _, _, .cons r t, s => .cons r (paired_app t s)
/-! ### things as they lie in the heap -/
def PairAt (H : Hp) (v : V) (x : Str × Int) : Prop := ∃ a, v = .ref a ∧ H a = some (.tup [.str x.1, .int x.2])
def StackAt (H : Hp) (v : V) (x : Str × Str × Int) : Prop := ∃ a, v = .ref a ∧ H a = some (.tup [.str x.1, .str x.2.1, .int x.2.2])
def TwoAt (H : Hp) (v : V) (x : Int × Int) : Prop := ∃ a, v = .ref a ∧ H a = some (.tup [.int x.1, .int x.2])
def TupOf {α : Type} (R : Hp → V → α → Prop) (H : Hp) (v : V) (xs : List α) : Prop := ∃ a vs, v = .ref a ∧ H a = some (.tup vs) ∧ Paired (R H) vs xs
def Mono {α : Type} (R : Hp → V → α → Prop) : Prop := ∀ H H' v x, TupK H H' → R H v x → R H' v x
theorem PairAt.mono : Mono PairAt := fun H H' v x k ⟨a, e, h⟩ => ⟨a, e, k _ _ h⟩
theorem StackAt.mono : Mono StackAt := fun H H' v x k ⟨a, e, h⟩ => ⟨a, e, k _ _ h⟩
theorem TwoAt.mono : Mono TwoAt := fun H H' v x k ⟨a, e, h⟩ => ⟨a, e, k _ _ h⟩
theorem TupOf.mono {α : Type} {R : Hp → V → α → Prop} (m : Mono R) : Mono (TupOf R) := fun H H' v x k ⟨a, vs, e, h, r⟩ => ⟨a, vs, e, k _ _ h, paired_imp (fun _ _ => m _ _ _ _ k) r⟩
/-- a tuple whose object is known to have no dict -/
def FrzOf {α : Type} (R : Hp → V → α → Prop) (H : Hp) (v : V) (xs : List α) : Prop := ∃ (a : Addr) (o : Obj) (vs : List V), v = .ref a ∧ H a = some (.frz o (.tup vs)) ∧ o.dict = none ∧ Paired (R H) vs xs
theorem FrzOf.mono {α : Type} {R : Hp → V → α → Prop} (m : Mono R) : Mono (FrzOf R) := fun H H' v x k ⟨a, o, vs, e, h, hd, r⟩ => ⟨a, o, vs, e, k.frz _ _ _ h, hd, paired_imp (fun _ _ => m _ _ _ _ k) r⟩
theorem SqT.fz {K : PySem.W.Frag} {H : Hp} {a : Addr} {o : Obj} {xs : List V} (h : H a = some (.frz o (.tup xs))) : SqT K H a xs := .inl (.inr ⟨o, h⟩)
def IntAt (_ : Hp) (v : V) (x : Int) : Prop := v = .int x
theorem IntAt.mono : Mono IntAt := fun _ _ _ _ _ e => e
theorem paired_ints {H : Hp} : ∀ ns : List Int, Paired (IntAt H) (ns.map V.int) ns
  | [] => .nil
  | _ :: r => .cons rfl (paired_ints r)
structure Rl where
  letters : Str
  prs : List (Str × Int)
  span : Int
  loops : List Int
  stk : List (Str × Str × Int)
def RulesAt (H : Hp) (v : V) (r : Rl) : Prop := ∃ a vp vl vs, v = .ref a ∧ H a = some (.tup [.str r.letters, vp, .int r.span, vl, vs]) ∧ FrzOf PairAt H vp r.prs ∧ TupOf IntAt H vl r.loops ∧ TupOf StackAt H vs r.stk
theorem RulesAt.mono : Mono RulesAt := fun H H' v x k ⟨a, vp, vl, vs, e, h, h1, h2, h3⟩ => ⟨a, vp, vl, vs, e, k _ _ h, FrzOf.mono PairAt.mono _ _ _ _ k h1, TupOf.mono IntAt.mono _ _ _ _ k h2, TupOf.mono StackAt.mono _ _ _ _ k h3⟩
/-- pairs as a tuple of either make -/
def PrsW (H : Hp) (v : V) (xs : List (Str × Int)) : Prop := ∃ (a : Addr) (vs : List V), v = .ref a ∧ ((∃ o, H a = some (.frz o (.tup vs))) ∨ H a = some (.tup vs)) ∧ Paired (PairAt H) vs xs
theorem PrsW.mono : Mono PrsW := fun H H' v x k ⟨a, vs, e, h, r⟩ => ⟨a, vs, e, h.elim (fun ⟨o, h⟩ => .inl ⟨o, k.frz _ _ _ h⟩) (fun h => .inr (k _ _ h)), paired_imp (fun _ _ => PairAt.mono _ _ _ _ k) r⟩
theorem SqT.w {K : PySem.W.Frag} {H : Hp} {a : Addr} {xs : List V} (h : (∃ o, H a = some (.frz o (.tup xs))) ∨ H a = some (.tup xs)) : SqT K H a xs := h.elim (fun ⟨_, h⟩ => SqT.fz h) (fun h => SqT.of h)
def RulesW (H : Hp) (v : V) (r : Rl) : Prop := ∃ a vp vl vs, v = .ref a ∧ H a = some (.tup [.str r.letters, vp, .int r.span, vl, vs]) ∧ PrsW H vp r.prs ∧ TupOf IntAt H vl r.loops ∧ TupOf StackAt H vs r.stk
theorem RulesW.mono : Mono RulesW := fun H H' v x k ⟨a, vp, vl, vs, e, h, h1, h2, h3⟩ => ⟨a, vp, vl, vs, e, k _ _ h, PrsW.mono _ _ _ _ k h1, TupOf.mono IntAt.mono _ _ _ _ k h2, TupOf.mono StackAt.mono _ _ _ _ k h3⟩
theorem RulesAt.w {H : Hp} {v : V} {r : Rl} (h : RulesAt H v r) : RulesW H v r := by
  obtain ⟨a, vp, vl, vs, e, h, ⟨ap, o, us, e1, h1, _, p⟩, h2, h3⟩ := h
  exact ⟨a, vp, vl, vs, e, h, ⟨ap, us, e1, .inl ⟨o, h1⟩, p⟩, h2, h3⟩
def Two (t : Str) : Prop := t.length = 2 ∧ Small t
structure RlOk (r : Rl) : Prop where
  let6 : r.letters.length ≤ 6
  let1 : 1 ≤ r.letters.length
  small : Small r.letters
  prs : r.prs.length ≤ 12
  pr : ∀ x ∈ r.prs, Two x.1 ∧ -99 ≤ x.2 ∧ x.2 ≤ 99
  sp0 : 0 ≤ r.span
  sp3 : r.span ≤ 3
  lo9 : r.loops.length = 9
  lo : ∀ x ∈ r.loops, -99 ≤ x ∧ x ≤ 99
  stk : r.stk.length ≤ 12
  st : ∀ x ∈ r.stk, Two x.1 ∧ Two x.2.1 ∧ -99 ≤ x.2.2 ∧ x.2.2 ≤ 99
  nd : (r.stk.map fun x => (x.1, x.2.1)).Nodup
  pn : (r.prs.map (·.1)).Nodup
/-! ### a dict by two texts -/
def encE (x : Str × Str × Int) : List Key × V := ([.inr x.1, .inr x.2.1], .int x.2.2)
def putE (es : List (Str × Str × Int)) (a b : Str) (i : Int) : List (Str × Str × Int) :=
  if (es.any fun x => decide (x.1 = a ∧ x.2.1 = b)) = true then es.map (fun x => if x.1 = a ∧ x.2.1 = b then (x.1, x.2.1, i) else x) else es ++ [(a, b, i)]
theorem encE_key (x : Str × Str × Int) (a b : Str) : ((encE x).1 = [Sum.inr a, Sum.inr b]) ↔ (x.1 = a ∧ x.2.1 = b) := by
  unfold encE
  constructor
  · intro h
    injection h with h1 h2
    injection h2 with h3 _
    exact ⟨Sum.inr.inj h1, Sum.inr.inj h3⟩
  · rintro ⟨h1, h2⟩
    rw [h1, h2]
theorem put_enc (es : List (Str × Str × Int)) (a b : Str) (i : Int) : putK (es.map encE) [Sum.inr a, Sum.inr b] (.int i) = (putE es a b i).map encE := by
  have hany : ((es.map encE).any fun kv => decide (kv.1 = [Sum.inr a, Sum.inr b])) = es.any fun x => decide (x.1 = a ∧ x.2.1 = b) := by
    rw [List.any_map]
    congr 1
    funext x
    exact decide_eq_decide.mpr (encE_key x a b)
  unfold putK putE
  rw [hany]
  by_cases h : (es.any fun x => decide (x.1 = a ∧ x.2.1 = b)) = true
  · rw [if_pos h, if_pos h, List.map_map, List.map_map]
    refine List.map_congr_left fun x _ => ?_
    show (if (encE x).1 = [Sum.inr a, Sum.inr b] then ((encE x).1, V.int i) else encE x) = encE (if x.1 = a ∧ x.2.1 = b then (x.1, x.2.1, i) else x)
    by_cases e : x.1 = a ∧ x.2.1 = b
    · rw [if_pos ((encE_key x a b).mpr e), if_pos e]
      rfl
    · rw [if_neg (fun z => e ((encE_key x a b).mp z)), if_neg e]
  · rw [if_neg h, if_neg h, List.map_append]
    rfl
theorem putE_keys (es : List (Str × Str × Int)) (a b : Str) (i : Int) (hn : (es.map fun x => (x.1, x.2.1)).Nodup) : ((putE es a b i).map fun x => (x.1, x.2.1)).Nodup := by
  unfold putE
  split
  · rw [List.map_map]
    have e : ((fun x : Str × Str × Int => (x.1, x.2.1)) ∘ fun x => if x.1 = a ∧ x.2.1 = b then (x.1, x.2.1, i) else x) = fun x => (x.1, x.2.1) := by
      funext x
      show (fun x : Str × Str × Int => (x.1, x.2.1)) (if x.1 = a ∧ x.2.1 = b then (x.1, x.2.1, i) else x) = _
      split <;> rfl
    rw [e]
    exact hn
  · rename_i h
    rw [List.map_append]
    refine List.nodup_append.mpr ⟨hn, by simp, fun x hx y hy e => ?_⟩
    obtain ⟨z, hz, rfl⟩ := List.mem_map.mp hx
    have hy' : y = (a, b) := by simpa using hy
    rw [hy'] at e
    injection e with e1 e2
    exact h (List.any_eq_true.mpr ⟨z, hz, decide_eq_true ⟨e1, e2⟩⟩)
theorem putE_len (es : List (Str × Str × Int)) (a b : Str) (i : Int) : (putE es a b i).length ≤ es.length + 1 := by
  unfold putE
  split
  · rw [List.length_map]
    omega
  · rw [List.length_append]
    exact Nat.le_refl _
theorem putE_all {Pd : Str × Str × Int → Prop} {es : List (Str × Str × Int)} {a b : Str} {i : Int} (h : ∀ x ∈ es, Pd x) (hn : Pd (a, b, i)) : ∀ x ∈ putE es a b i, Pd x := by
  intro x hx
  unfold putE at hx
  split at hx
  · obtain ⟨y, hy, rfl⟩ := List.mem_map.mp hx
    split
    · rename_i e
      rw [e.1, e.2]
      exact hn
    · exact h y hy
  · rcases List.mem_append.mp hx with hx | hx
    · exact h x hx
    · rw [List.mem_singleton.mp hx]
      exact hn
theorem val_enc {es : List (Str × Str × Int)} {a b : Str} {i : Int} (hn : (es.map fun x => (x.1, x.2.1)).Nodup) (h : (a, b, i) ∈ es) : valV (es.map encE) [Sum.inr a, Sum.inr b] = some (.int i) := by
  induction es with
  | nil => cases h
  | cons y r ih =>
    rw [List.map_cons]
    rw [List.map_cons, List.nodup_cons] at hn
    by_cases e : y.1 = a ∧ y.2.1 = b
    · rw [valV_pos ((encE_key y a b).mpr e)]
      rcases List.mem_cons.mp h with z | z
      · rw [← z]
        rfl
      · exact absurd (List.mem_map.mpr ⟨_, z, by rw [e.1, e.2]⟩) hn.1
    · rw [valV_neg (fun z => e ((encE_key y a b).mp z))]
      rcases List.mem_cons.mp h with z | z
      · rw [← z] at e
        exact absurd ⟨rfl, rfl⟩ e
      · exact ih hn.2 z
theorem map_erase {α β : Type} (f : α → β) : ∀ (xs : List α) (k : Nat), (xs.map f).eraseIdx k = (xs.eraseIdx k).map f
  | [], _ => rfl
  | _ :: _, 0 => rfl
  | x :: r, k + 1 => by
    show f x :: (r.map f).eraseIdx k = f x :: (r.eraseIdx k).map f
    rw [map_erase f r k]
theorem dpStrs {K : PySem.W.Frag} {H : Hp} : ∀ us : List Str, DpAll K H (us.map V.str) (us.map PyData.str)
  | [] => .nil
  | _ :: r => .cons (.str _) (dpStrs r)
theorem sm_strs {us : List Str} {n m : Nat} (hn : us.length ≤ n) (h : ∀ t ∈ us, Small t ∧ t.length ≤ m) (hM : n * (m + 1) ≤ 1000000) : Sm 1000000 1 (.list (us.map PyData.str)) := by
  refine Sm.lst (n := n) (m := m) (k := 0) (by rw [List.length_map]; exact hn) (fun d hd => ?_) hM
  obtain ⟨t, ht, rfl⟩ := List.mem_map.mp hd
  exact Sm.str (h t ht).1.ok (h t ht).2
theorem keys_zip {H : Hp} : ∀ {es : List (Str × Str × Int)} {bs : List Addr}, IsKeys H (es.map encE) bs → ∃ bes : List (Addr × (Str × Str × Int)), bes.map (·.1) = bs ∧ bes.map (·.2) = es ∧ ∀ x ∈ bes, H x.1 = some (.tup [.str x.2.1, .str x.2.2.1])
  | [], _, .nil => ⟨[], rfl, rfl, fun x h => by cases h⟩
  | e :: es, b :: bs, .cons r t => by
    obtain ⟨bes, h1, h2, h3⟩ := keys_zip (es := es) t
    refine ⟨(b, e) :: bes, by rw [List.map_cons, h1], by rw [List.map_cons, h2], fun x hx => ?_⟩
    rcases List.mem_cons.mp hx with rfl | hx
    · exact r
    · exact h3 x hx
theorem ixN_in {n : Nat} {i : Int} (h0 : 0 ≤ i) (h1 : i < n) : seqIndex? i n = some i.toNat := by
  refine (ixN_seq ?_).1
  unfold ixN
  rw [if_pos h0, if_pos h1]
end Pf


namespace Pf
open PySem PySem.Spec PyProof.Rows L2
/-! ### enumerate of a text -/
def ItES (x : Str) : It :=
  ⟨fun i _ => i < x.cps.size, fun i H v H' => ∃ T c, v = .ref T ∧ H T = none ∧ H' = upd H T (.tup [.int (i : Nat), .str ⟨#[c]⟩]) ∧ x.cps[i]? = some c, fun i _ => i = x.cps.size⟩
theorem turn_es {P : Program} {w : World} {K : PySem.W.Frag} {elts : List Expr} {kk : Nat} {tpos : Pos} (x : Str) (t : Tok) (e it : Addr) :
    Turn P w K (.Tuple elts kk tpos) (ItES x) [e, it] e (fun i h => (∃ old, IsEnum h e it ((i : Nat) : Int) old) ∧ h.IsStrIter it (strIterType x) x t i ∧ e ≠ it) where
  mem := by simp
  obj := fun i h st b hb => by
    obtain ⟨⟨old, he⟩, ⟨o, ho, hc, hd⟩, _⟩ := st
    have e' : b = e ∨ b = it := by simpa using hb
    cases e' with
    | inl z =>
      rw [z]
      exact ⟨_, he, fun v q => nomatch q⟩
    | inr z =>
      rw [z]
      exact ⟨o, ho, fun v q => by rw [hd] at q; cases q⟩
  keep := fun i h h' st k => by
    obtain ⟨⟨old, he⟩, ⟨o, ho, r⟩, hne⟩ := st
    exact ⟨⟨old, k e (by simp) _ he⟩, ⟨o, k it (by simp) o ho, r⟩, hne⟩
  item := by
    intro X hP hw hK hc i pins s σ H E I hf st hg
    subst hP hw hK
    obtain ⟨⟨old, he⟩, hit, hne⟩ := st
    have hel : e < s.heap.objs.size := Heap.lt_size he
    have hil : it < s.heap.objs.size := by
      obtain ⟨_, q, _⟩ := hit
      exact Heap.lt_size q
    have D := Draws.text (prog := X.prog) (w := X.w) (A := X.A.in1) (show X.A.in1.handled = none from I.ok.hd hc) it x t
    refine wpAny_pyNext_enum_itemD D he hit hg hne (by simpa using hne) fun u h' tk hu ho hit' hT hsz hk => ?_
    obtain ⟨c, t2, hcx, rfl⟩ := hu
    refine ⟨_, rfl, wpAny_letOwnedTupleGo_enum (s := { s with heap := h', toks := tk + 1 }) ho fun h'' he' sb => ?_⟩
    have hT2 := (sb.2 _ (Nat.ne_of_gt hel)).trans hT
    have new : ObjOk X.prog X.w (upd H s.heap.objs.size (.tup [.int (i : Nat), .str ⟨#[c]⟩])) h'' s.heap.objs.size (.tup [.int (i : Nat), .str ⟨#[c]⟩]) :=
      ⟨by show 2 ≤ sizeLine; decide, [.int i tk, .str ⟨#[c]⟩ t2], .cons ⟨_, rfl⟩ (.cons ⟨_, rfl⟩ .nil), ⟨_, hT2, rfl, _, rfl⟩⟩
    have I1 : Inv X pins σ (upd H s.heap.objs.size (.tup [.int (i : Nat), .str ⟨#[c]⟩])) { s with heap := h'', toks := tk + 1 } :=
      I.turnedNew (ch := [e, it]) (fun b ob hb q => (sb.2 b (fun z => hb (by simp [z]))).trans (hk b ob (fun z => hb (by simp [z])) (fun z => hb (by simp [z])) q)) hf (Nat.le_refl _) new
    obtain ⟨oi, hoi, ri⟩ := hit'
    refine ⟨.ref s.heap.objs.size, _, I1, rfl, ⟨_, c, rfl, I.hok.fresh (Nat.le_refl _), rfl, hcx⟩, ⟨⟨.str ⟨#[c]⟩ t2, ?_⟩, ⟨oi, (sb.2 it (Ne.symm hne)).trans hoi, ri⟩, hne⟩, fun b hb => ?_⟩
    · have e1 : ((i + 1 : Nat) : Int) = (i : Int) + 1 := by omega
      rw [e1]
      exact he'
    · have hb' : b < s.heap.objs.size := by
        have e' : b = e ∨ b = it := by simpa using hb
        cases e' with
        | inl z => rw [z]; exact hel
        | inr z => rw [z]; exact hil
      rw [upd_ne (Nat.ne_of_lt hb')]
      exact (hf b hb).1
  done := by
    intro X hP hw hK hc i pins s σ H E I hf st hg
    subst hP hw hK
    obtain ⟨⟨old, he⟩, hit, hne⟩ := st
    have hi : i = x.cps.size := hg
    subst hi
    obtain ⟨f0, f1, f2, f3, f4, f5⟩ := hf it (by simp)
    have D := Draws.text (prog := X.prog) (w := X.w) (A := X.A.in1) (show X.A.in1.handled = none from I.ok.hd hc) it x t
    exact wpAny_pyNext_enum_endD D he hit fun h' eb => ⟨rfl, I.turned (t' := s.toks) (fun b o hb q => eb b o hb q) f0 f1 f3 f4 f5⟩
  self := fun A i s Q E st h => by
    obtain ⟨⟨_, he⟩, _⟩ := st
    exact wpAny_pyIter_enum he h
def iEnumS (ta : TA) : TI := fun σ H R => ta σ H fun vs H1 => ∃ x, vs = [.str x] ∧ R (ItES x) H1
theorem pi_enumS {X : Cx} {e : Expr} {ta : TA} {p pos tpos : Pos} {elts : List Expr} {kk : Nat} (hg : Gl X "enumerate") (hm : X.mg "enumerate" = none) (ha : PA X [e] ta) (hs : starEach [e] X.env = [(false, eval e X.env)] := by rfl) :
    PI X (.Tuple elts kk tpos) (.Call (.Name "enumerate" p) [e] [] pos) (iEnumS ta) := by
  refine ⟨fun pins s σ H R I h => ?_⟩
  refine Call_ (ld_blt I hg hm boot_enumerate (PyProof.Rows.callWith_type1 (thn (ha.run pos pins s σ H _ I h) fun us s1 ⟨vs, H1, I1, r1, q1⟩ => ?_) hs rfl))
  obtain ⟨x, rfl, q⟩ := q1
  obtain ⟨u, rfl, t, rfl⟩ := vals1 r1
  refine call_enumerate_str fun h' he hit hsz hk => wpAny_pyIter_enum he ?_
  refine ⟨s1.heap.objs.size + 1, [s1.heap.objs.size + 1, s1.heap.objs.size], _, _, H1, rfl, I1.kept (t' := s1.toks) hk, turn_es x t (s1.heap.objs.size + 1) s1.heap.objs.size, ⟨⟨.none, he⟩, hit, Nat.succ_ne_self _⟩, fun b hb => ?_, q⟩
  have e' : b = s1.heap.objs.size + 1 ∨ b = s1.heap.objs.size := by simpa using hb
  have hle : s1.heap.objs.size ≤ b := by
    cases e' with
    | inl z => rw [z]; exact Nat.le_add_right _ _
    | inr z => rw [z]; exact Nat.le_refl _
  exact I1.fpOk hle (I1.hok.fresh hle)
theorem for_es {x : Str} {g : TG} {tb : TS} {D : Ends} {σ : L2.St} {H : Hp} (Pv : Nat → L2.St → Hp → Prop) (h0 : Pv 0 σ H)
    (hs : ∀ i c T σ H, x.cps[i]? = some c → Pv i σ H → H T = none → g (.ref T) σ (upd H T (.tup [.int (i : Nat), .str ⟨#[c]⟩])) fun σ2 H2 => tb { D with nx := Pv (i + 1), ct := Pv (i + 1), bk := D.nx } σ2 H2) (hd : ∀ σ H, Pv x.cps.size σ H → D.nx σ H) :
    ∃ W : Nat → Nat → L2.St → Hp → Prop, (∃ m, W 0 m σ H) ∧ ∀ i m σ H, W i m σ H →
      ((ItES x).stop i H ∧ D.nx σ H) ∨ ((ItES x).go i H ∧ ∃ N : L2.St → Hp → Prop, (∀ σ' H', N σ' H' → ∃ m', m' < m ∧ W (i + 1) m' σ' H') ∧ ∀ y H', (ItES x).yld i H y H' → g y σ H' fun σ2 H2 => tb { D with nx := N, ct := N, bk := D.nx } σ2 H2) := by
  refine ⟨fun i m σ H => m = x.cps.size - i ∧ i ≤ x.cps.size ∧ Pv i σ H, ⟨x.cps.size, by simp, Nat.zero_le _, h0⟩, ?_⟩
  rintro i m σ H ⟨rfl, hi, p⟩
  by_cases hlt : i < x.cps.size
  · refine .inr ⟨hlt, Pv (i + 1), fun σ' H' p' => ⟨x.cps.size - (i + 1), by omega, rfl, hlt, p'⟩, fun y H' z => ?_⟩
    obtain ⟨T, c, rfl, hT, rfl, hc⟩ := z
    exact hs i c T σ _ hc p hT
  · have e : i = x.cps.size := by omega
    subst e
    exact .inl ⟨rfl, hd σ H p⟩
theorem lc_es {x : Str} {g : TG} {tt : TT} {te : TE} {vs : List Nat} {σ : L2.St} {H1 : Hp} {D : Addr} {Qd : Hp → Prop} (Pv : Nat → Hp → Prop) (h0 : Pv 0 (upd H1 D (.lst [])))
    (hs : ∀ i c T H, x.cps[i]? = some c → Pv i H → H T = none → g (.ref T) (wipe σ vs) (upd H T (.tup [.int (i : Nat), .str ⟨#[c]⟩])) fun σ2 H2 => wipe σ2 vs = wipe σ vs ∧ tt σ2 H2 fun b H3 =>
      if b = true then te σ2 H3 fun y H4 => ∃ acc, H4 D = some (.lst acc) ∧ acc.length < sizeLine ∧ Pv (i + 1) (upd H4 D (.lst (acc ++ [y]))) else Pv (i + 1) H3) (hd : ∀ H, Pv x.cps.size H → Qd H) :
    ∃ W : Nat → Nat → Hp → Prop, (∃ m, W 0 m (upd H1 D (.lst []))) ∧ ∀ i m H, W i m H →
      ((ItES x).stop i H ∧ Qd H) ∨ ((ItES x).go i H ∧ ∃ Nx : Hp → Prop, (∀ H', Nx H' → ∃ m', m' < m ∧ W (i + 1) m' H') ∧ ∀ y H', (ItES x).yld i H y H' → g y (wipe σ vs) H' fun σ2 H2 => wipe σ2 vs = wipe σ vs ∧ tt σ2 H2 fun b H3 =>
        if b = true then te σ2 H3 fun y H4 => ∃ acc, H4 D = some (.lst acc) ∧ acc.length < sizeLine ∧ Nx (upd H4 D (.lst (acc ++ [y]))) else Nx H3) := by
  refine ⟨fun i m H => m = x.cps.size - i ∧ i ≤ x.cps.size ∧ Pv i H, ⟨x.cps.size, by simp, Nat.zero_le _, h0⟩, ?_⟩
  rintro i m H ⟨rfl, hi, p⟩
  by_cases hlt : i < x.cps.size
  · refine .inr ⟨hlt, Pv (i + 1), fun H' p' => ⟨x.cps.size - (i + 1), by omega, rfl, hlt, p'⟩, fun y H' z => ?_⟩
    obtain ⟨T, c, rfl, hT, rfl, hc⟩ := z
    exact hs i c T _ hc p hT
  · have e : i = x.cps.size := by omega
    subst e
    exact .inl ⟨rfl, hd H p⟩
/-! ### a text backwards: some text, no longer -/
def tRevS (te : TE) : TE := fun σ H Q => te σ H fun x H1 => ∃ z : Str, x = .str z ∧ z.length ≤ sizeLine ∧ ∀ y : Str, y.length ≤ z.length → (∀ c ∈ y.cps.toList, c ∈ z.cps.toList) → Q (.str y) H1
theorem sliceBy_mem (x : Str) (l u : Option (Int × Tok)) (st : Int × Tok) : ∀ c ∈ (Txt.sliceBy x l u st).cps.toList, c ∈ x.cps.toList := by
  intro c hc
  unfold Txt.sliceBy at hc
  split at hc
  · exact hc
  · have hc : c ∈ List.filterMap (x.cps[·]?) _ := hc
    obtain ⟨i, _, hi⟩ := List.mem_filterMap.mp hc
    exact Array.mem_toList_iff.mpr (Array.mem_of_getElem? hi)
theorem pe_revS {X : Cx} {e : Expr} {te : TE} {k : Nat} {p1 p2 p3 pos : Pos} (he : PE X e te) : PE X (.Subscript e (.Slice none none (some (.UnaryOp .USub (.Constant (.int 1) k p1) p2)) p3) pos) (tRevS te) := by
  refine ⟨fun pins s σ H Q I h => ?_⟩
  refine Subscript_ (thn (he.run pins s σ H _ I h) fun v s1 ⟨x, H1, I1, r1, q1⟩ => ?_)
  obtain ⟨z, rfl, hz, q⟩ := q1
  obtain ⟨t, rfl⟩ := r1
  have hst : PO X (some (.UnaryOp .USub (.Constant (.int 1) k p1) p2)) (tPart (tUn (rU fun i => .int (-i)) (tC (.int 1)))) := po_some (pe_un un_neg pe_int)
  refine wpAny_Slice (thn (po_none.run pins s1 σ H1 (fun o H2 => o = none ∧ H2 = H1) I1 ⟨rfl, rfl⟩) fun vl s2 ⟨l, H2, I2, pl, el, e2⟩ => ?_)
  subst el e2
  refine thn (po_none.run pins s2 σ H2 (fun o H3 => o = none ∧ H3 = H2) I2 ⟨rfl, rfl⟩) fun vu s3 ⟨u, H3, I3, pu, eu, e3⟩ => ?_
  subst eu e3
  refine thn (hst.run pins s3 σ H3 (fun o H4 => o = some (-1) ∧ H4 = H3) I3 ⟨1, rfl, -1, rfl, rfl, rfl⟩) fun vs s4 ⟨o, H4, I4, ps, eo, e4⟩ => ?_
  subst eo e4
  cases pl
  cases pu
  cases ps with
  | int i t5 =>
    refine tail_any (ops := [.str z t, .ref s4.heap.objs.size]) (typeIs_str _ _ _) (PySem.F.slot_str_getitem.lookup) ?_ (by with_unfolding_all rfl)
    refine wpAny_getItem_str_slice (l := none) (u := none) (st := some (-1, t5)) ⟨_, Heap.get?_push_size _ rfl, rfl, rfl⟩ rfl ?_
    refine post_val_or_str ⟨Nat.le_trans (Txt.sliceBy_le z none none (-1, t5) (show (-1 : Int) ≠ 0 by decide)) hz, fun t6 tk => ?_⟩
    exact ⟨.str _, H4, (I4.kept (t' := tk) fun b ob q => Heap.get?_push_of_some _ q), ⟨_, rfl⟩, q _ (Txt.sliceBy_le z none none (-1, t5) (show (-1 : Int) ≠ 0 by decide)) (sliceBy_mem z none none (-1, t5))⟩
end Pf


namespace Pf
open PySem PySem.Spec PyProof.Rows L2
/-! ### enumerate of a tuple -/
abbrev EnO (a : Addr) : Obj := { cls := .type "enumerate", data := .fields #[.none, .bool false, .ref a, rawInt 0, .none, .none] }
theorem meets_en1 {u : Value} {ob : Obj} {G : Heap → Prop} (B : Begins u ob G) : Meets (Builtin.«enumerate.__new__» ⟨[.type "enumerate", u], []⟩) (fun _ R s => G s.heap ∧ R (.ok (.ret (.ref (s.heap.push ob).objs.size))) { s with heap := (s.heap.push ob).push (EnO s.heap.objs.size) }) :=
  .of_wp fun prog w A R s z => by
    obtain ⟨hp, g, d, tk, os⟩ := s
    obtain ⟨z1, z⟩ := z
    have hse := sub_enumerate
    have q : ∀ {A' : Around} {E : Value → Shared → Prop} {Q : Value → Shared → Prop}, Q (.ref hp.objs.size) ⟨hp.push ob, g, d, tk, os⟩ → wpAny (model prog w) A' (pyIter u) Q E ⟨hp, g, d, tk, os⟩ := fun r => B.iter prog w _ _ ⟨hp, g, d, tk, os⟩ _ z1 r
    wp_walk using q
    refine wpAny_stack_any fun sk => wpAny_pure ?_
    split
    · rename_i c _ _ _ _ _
      cases ec : (c == Value.type "enumerate")
      · wp_walk using q
        exact ⟨_, rfl, z⟩
      · wp_walk using q
        exact ⟨_, rfl, z⟩
    · wp_walk using q
      exact ⟨_, rfl, z⟩
theorem en1_begins {P : Program} {w : World} {A : Around} {E : Value → Shared → Prop} {s : Shared} {u : Value} {ob : Obj} {G : Heap → Prop} {Q : Value → Shared → Prop} (B : Begins u ob G) (z1 : G s.heap)
    (z : ∀ h', IsEnum h' (s.heap.objs.size + 1) s.heap.objs.size 0 .none → h'.get? s.heap.objs.size = some ob → h'.objs.size = s.heap.objs.size + 2 → (∀ b o, s.heap.get? b = some o → h'.get? b = some o) → Q (.ref (s.heap.objs.size + 1)) { s with heap := h' }) :
    wpAny (model P w) A (call (.type "enumerate") [u]) Q E s := by
  refine callType_new F.called_enumerate (by decide) (F.typeCall_enumerate_1 _) (F.newCall_enumerate_1 _) (fun obj => F.args_object_init_2 obj _) F.entry_enumerate_new (meets_en1 B) ⟨z1, ?_⟩
  have e1 : (s.heap.push ob).objs.size = s.heap.objs.size + 1 := Heap.size_push ..
  show _ ∧ _
  rw [e1]
  have hen : IsEnum ((s.heap.push ob).push (EnO s.heap.objs.size)) (s.heap.objs.size + 1) s.heap.objs.size 0 .none := by
    have := Heap.get?_push_size (s.heap.push ob) (o := EnO s.heap.objs.size) rfl
    rw [e1] at this
    exact this
  exact ⟨⟨_, hen, rfl⟩, z _ hen (Heap.get?_push_of_some _ (Heap.get?_push_size _ B.free)) (by rw [Heap.size_push, e1]) fun b o y => Heap.get?_push_of_some _ (Heap.get?_push_of_some _ y)⟩
def ItET (K : PySem.W.Frag) (a : Addr) : It :=
  ⟨fun i H => ∃ (xs : List V) (x : V), SqT K H a xs ∧ xs[i]? = some x, fun i H v H' => ∃ T x, v = .ref T ∧ H T = none ∧ H' = upd H T (.tup [.int (i : Nat), x]) ∧ ∀ xs, SqT K H a xs → xs[i]? = some x, fun i H => ∃ xs : List V, SqT K H a xs ∧ xs.length = i⟩
theorem turn_et {P : Program} {w : World} {K : PySem.W.Frag} {elts : List Expr} {kk : Nat} {tpos : Pos} (a e it : Addr) :
    Turn P w K (.Tuple elts kk tpos) (ItET K a) [e, it] e (fun i h => (∃ old, IsEnum h e it ((i : Nat) : Int) old) ∧ h.IsTupleIter it a i ∧ e ≠ it ∧ e ≠ a ∧ a ≠ it) where
  mem := by simp
  obj := fun i h st b hb => by
    obtain ⟨⟨old, he⟩, ⟨o, ho, hc, hd⟩, _⟩ := st
    have e' : b = e ∨ b = it := by simpa using hb
    cases e' with
    | inl z =>
      rw [z]
      exact ⟨_, he, fun v q => nomatch q⟩
    | inr z =>
      rw [z]
      exact ⟨o, ho, fun v q => by rw [hd] at q; cases q⟩
  keep := fun i h h' st k => by
    obtain ⟨⟨old, he⟩, ⟨o, ho, r⟩, hne⟩ := st
    exact ⟨⟨old, k e (by simp) _ he⟩, ⟨o, k it (by simp) o ho, r⟩, hne⟩
  item := by
    intro X hP hw hK hc i pins s σ H E I hf st hg
    subst hP hw hK
    obtain ⟨⟨old, he⟩, hit, hne, hea, hai⟩ := st
    obtain ⟨xs, x, hq, hx⟩ := hg
    obtain ⟨its, rv, pt, hz⟩ := I.tuple hq
    obtain ⟨u, hu, ru⟩ := rv.get hx
    have hel : e < s.heap.objs.size := Heap.lt_size he
    have hil : it < s.heap.objs.size := by
      obtain ⟨_, q, _⟩ := hit
      exact Heap.lt_size q
    have hti : s.heap.IsTuple a its.toArray := pt
    have D := Draws.tuple (prog := X.prog) (w := X.w) (A := X.A.in1) (show X.A.in1.handled = none from I.ok.hd hc) it a hai its.toArray
    refine wpAny_pyNext_enum_itemD D he ⟨hit, hti⟩ (by have := (List.getElem?_eq_some_iff.mp hu).1; simpa using this) hne (by simp [hne, hea]) fun y h' tk hy ho hit' hT hsz hk => ?_
    have ey : y = u := by
      have h2 : its[i]? = some y := by simpa using hy
      rw [hu] at h2
      exact (Option.some.inj h2).symm
    subst ey
    refine ⟨_, rfl, wpAny_letOwnedTupleGo_enum (s := { s with heap := h', toks := tk + 1 }) ho fun h'' he' sb => ?_⟩
    have hT2 := (sb.2 _ (Nat.ne_of_gt hel)).trans hT
    have new : ObjOk X.prog X.w (upd H s.heap.objs.size (.tup [.int (i : Nat), x])) h'' s.heap.objs.size (.tup [.int (i : Nat), x]) :=
      ⟨by show 2 ≤ sizeLine; decide, [.int i tk, y], .cons ⟨_, rfl⟩ (.cons ru .nil), ⟨_, hT2, rfl, _, rfl⟩⟩
    have I1 : Inv X pins σ (upd H s.heap.objs.size (.tup [.int (i : Nat), x])) { s with heap := h'', toks := tk + 1 } :=
      I.turnedNew (ch := [e, it]) (fun b ob hb q => (sb.2 b (fun z => hb (by simp [z]))).trans (hk b ob (fun z => hb (by simp [z])) (fun z => hb (by simp [z])) q)) hf (Nat.le_refl _) new
    obtain ⟨oi, hoi, ri⟩ := hit'.1
    refine ⟨.ref s.heap.objs.size, _, I1, rfl, ⟨_, x, rfl, I.hok.fresh (Nat.le_refl _), rfl, fun ys hy => by rw [I.tuple_inj hy hq]; exact hx⟩, ⟨⟨y, ?_⟩, ⟨oi, (sb.2 it (Ne.symm hne)).trans hoi, ri⟩, hne, hea, hai⟩, fun b hb => ?_⟩
    · have e1 : ((i + 1 : Nat) : Int) = (i : Int) + 1 := by omega
      rw [e1]
      exact he'
    · have hb' : b < s.heap.objs.size := by
        have e' : b = e ∨ b = it := by simpa using hb
        cases e' with
        | inl z => rw [z]; exact hel
        | inr z => rw [z]; exact hil
      rw [upd_ne (Nat.ne_of_lt hb')]
      exact (hf b hb).1
  done := by
    intro X hP hw hK hc i pins s σ H E I hf st hg
    subst hP hw hK
    obtain ⟨⟨old, he⟩, hit, hne, hea, hai⟩ := st
    obtain ⟨xs, hq, hx⟩ := hg
    obtain ⟨its, rv, pt, hz⟩ := I.tuple hq
    have hln := rv.length
    obtain ⟨f0, f1, f2, f3, f4, f5⟩ := hf it (by simp)
    have hti : s.heap.IsTuple a its.toArray := pt
    have D := Draws.tuple (prog := X.prog) (w := X.w) (A := X.A.in1) (show X.A.in1.handled = none from I.ok.hd hc) it a hai its.toArray
    have ei : its.toArray.size = i := by
      rw [List.size_toArray]
      omega
    exact wpAny_pyNext_enum_endD D he ⟨by rw [ei]; exact hit, hti⟩ fun h' eb => ⟨rfl, I.turned (t' := s.toks) (fun b o hb q => eb b o hb q) f0 f1 f3 f4 f5⟩
  self := fun A i s Q E st h => by
    obtain ⟨⟨_, he⟩, _⟩ := st
    exact wpAny_pyIter_enum he h
def iEnumT (K : PySem.W.Frag) (ta : TA) : TI := fun σ H R => ta σ H fun vs H1 => ∃ a xs, vs = [.ref a] ∧ SqT K H1 a xs ∧ R (ItET K a) H1
theorem pi_enumT {X : Cx} {e : Expr} {ta : TA} {p pos tpos : Pos} {elts : List Expr} {kk : Nat} (hg : Gl X "enumerate") (hm : X.mg "enumerate" = none) (ha : PA X [e] ta) (hs : starEach [e] X.env = [(false, eval e X.env)] := by rfl) :
    PI X (.Tuple elts kk tpos) (.Call (.Name "enumerate" p) [e] [] pos) (iEnumT X.K ta) := by
  refine ⟨fun pins s σ H R I h => ?_⟩
  refine Call_ (ld_blt I hg hm boot_enumerate (PyProof.Rows.callWith_type1 (thn (ha.run pos pins s σ H _ I h) fun us s1 ⟨vs, H1, I1, r1, q1⟩ => ?_) hs rfl))
  obtain ⟨a, xs, rfl, hq, q⟩ := q1
  obtain ⟨u, rfl, er⟩ := vals1 r1
  cases er
  obtain ⟨its, rv, pt, hz⟩ := I1.tuple hq
  have hti : s1.heap.IsTuple a its.toArray := pt
  have hal : a < s1.heap.objs.size := by
    obtain ⟨_, q, _⟩ := hti
    exact Heap.lt_size q
  refine en1_begins (begins_tuple a its.toArray) hti fun h' he hit hsz hk => wpAny_pyIter_enum he ?_
  refine ⟨s1.heap.objs.size + 1, [s1.heap.objs.size + 1, s1.heap.objs.size], _, _, H1, rfl, I1.kept (t' := s1.toks) hk, turn_et a (s1.heap.objs.size + 1) s1.heap.objs.size, ⟨⟨.none, he⟩, ⟨_, hit, rfl, rfl⟩, Nat.succ_ne_self _, Nat.ne_of_gt (Nat.lt_succ_of_lt hal), Nat.ne_of_lt hal⟩, fun b hb => ?_, q⟩
  have e' : b = s1.heap.objs.size + 1 ∨ b = s1.heap.objs.size := by simpa using hb
  have hle : s1.heap.objs.size ≤ b := by
    cases e' with
    | inl z => rw [z]; exact Nat.le_add_right _ _
    | inr z => rw [z]; exact Nat.le_refl _
  exact I1.fpOk hle (I1.hok.fresh hle)
theorem walk_et {K : PySem.W.Frag} {a : Addr} {xs : List V} : Walk (ItET K a) xs.length (fun H => SqT K H a xs) (YPair (fun i => some (.int (i : Nat))) (fun i => xs[i]?)) :=
  ⟨fun i H hi q => ⟨xs, _, q, List.getElem?_eq_getElem hi⟩, fun H q => ⟨xs, q, rfl⟩, fun i H x H' hi q ⟨T, y, e1, e2, e3, e4⟩ => ⟨T, _, y, e1, e2, e3, rfl, e4 xs q⟩⟩
theorem walk_zt {K : PySem.W.Frag} {a b : Addr} {xs ys : List V} {n : Nat} (hn : n = min xs.length ys.length) : Walk (RZ.ItzT K a b) n (fun H => SqT K H a xs ∧ SqT K H b ys) (YPair (fun i => xs[i]?) (fun i => ys[i]?)) := by
  subst hn
  refine ⟨fun i H hi q => ⟨xs, ys, _, _, q.1, q.2, List.getElem?_eq_getElem (by omega), List.getElem?_eq_getElem (by omega)⟩, fun H q => ⟨xs, ys, q.1, q.2, by omega⟩, fun i H x H' hi q ⟨T, y, z, e1, e2, e3, e4, e5⟩ => ⟨T, y, z, e1, e2, e3, e4 xs q.1, e5 ys q.2⟩⟩
/-! ### two fors in a comprehension -/
def LcIn (J1 : It) (g1 : TG) (tt1 : TT) (te : TE) (vs1 : List Nat) (σ2 : L2.St) (D : Addr) (H4 : Hp) (Nx : Hp → Prop) : Prop := ∃ W1 : Nat → Nat → Hp → Prop, (∃ m, W1 0 m H4) ∧ ∀ j k H, W1 j k H →
  (J1.stop j H ∧ Nx H) ∨ (J1.go j H ∧ ∃ Nx1 : Hp → Prop, (∀ H', Nx1 H' → ∃ k', k' < k ∧ W1 (j + 1) k' H') ∧ ∀ x H', J1.yld j H x H' → g1 x (wipe σ2 vs1) H' fun σ3 H5 => wipe σ3 vs1 = wipe σ2 vs1 ∧ tt1 σ3 H5 fun b H6 => if b = true then te σ3 H6 fun y H7 => ∃ acc, H7 D = some (.lst acc) ∧ acc.length < sizeLine ∧ Nx1 (upd H7 D (.lst (acc ++ [y]))) else Nx1 H6)
theorem lc_in {J1 : It} {n : Nat} {G : Hp → Prop} {Y : Nat → Hp → V → Hp → Prop} (w : Walk J1 n G Y) {g1 : TG} {tt1 : TT} {te : TE} {vs1 : List Nat} {σ2 : L2.St} {D : Addr} {H4 : Hp} {Nx : Hp → Prop} (Pv : Nat → Hp → Prop) (h0 : Pv 0 H4) (hG : ∀ i H, i ≤ n → Pv i H → G H)
    (hs : ∀ i x H H', i < n → Pv i H → Y i H x H' → g1 x (wipe σ2 vs1) H' fun σ3 H5 => wipe σ3 vs1 = wipe σ2 vs1 ∧ tt1 σ3 H5 fun b H6 => if b = true then te σ3 H6 fun y H7 => ∃ acc, H7 D = some (.lst acc) ∧ acc.length < sizeLine ∧ Pv (i + 1) (upd H7 D (.lst (acc ++ [y]))) else Pv (i + 1) H6)
    (hd : ∀ H, Pv n H → Nx H) : LcIn J1 g1 tt1 te vs1 σ2 D H4 Nx := by
  refine ⟨fun i m H => m = n - i ∧ i ≤ n ∧ Pv i H, ⟨n, rfl, Nat.zero_le _, h0⟩, ?_⟩
  rintro i m H ⟨rfl, hi, pv⟩
  have hq := hG i H hi pv
  by_cases hlt : i < n
  · exact .inr ⟨w.goes i H hlt hq, Pv (i + 1), fun H' p' => ⟨n - (i + 1), by omega, rfl, hlt, p'⟩, fun x H' y => hs i x H H' hlt pv (w.yields i H x H' hlt hq y)⟩
  · obtain rfl : i = n := by omega
    exact .inl ⟨w.stops H hq, hd H pv⟩
theorem lc_two {J : It} {n : Nat} {G : Hp → Prop} {Y : Nat → Hp → V → Hp → Prop} (w : Walk J n G Y) {g : TG} {tt : TT} {wi1 : TI} {g1 : TG} {tt1 : TT} {te : TE} {vs vs1 : List Nat} {σ : L2.St} {H1 : Hp} {D : Addr} {Qd : Hp → Prop} (Pv : Nat → Hp → Prop) (h0 : Pv 0 (upd H1 D (.lst []))) (hG : ∀ i H, i ≤ n → Pv i H → G H)
    (hs : ∀ i x H H', i < n → Pv i H → Y i H x H' → g x (wipe σ vs) H' fun σ2 H2 => wipe σ2 vs = wipe σ vs ∧ tt σ2 H2 fun b H3 => if b = true then wi1 σ2 H3 fun J1 H4 => LcIn J1 g1 tt1 te vs1 σ2 D H4 (Pv (i + 1)) else Pv (i + 1) H3)
    (hd : ∀ H, Pv n H → Qd H) :
    ∃ W : Nat → Nat → Hp → Prop, (∃ m, W 0 m (upd H1 D (.lst []))) ∧ ∀ i m H, W i m H → (J.stop i H ∧ Qd H) ∨ (J.go i H ∧ ∃ Nx : Hp → Prop, (∀ H', Nx H' → ∃ m', m' < m ∧ W (i + 1) m' H') ∧ ∀ x H', J.yld i H x H' → g x (wipe σ vs) H' fun σ2 H2 => wipe σ2 vs = wipe σ vs ∧ tt σ2 H2 fun b H3 =>
      if b = true then wi1 σ2 H3 fun J1 H4 => LcIn J1 g1 tt1 te vs1 σ2 D H4 Nx else Nx H3) := by
  refine ⟨fun i m H => m = n - i ∧ i ≤ n ∧ Pv i H, ⟨n, rfl, Nat.zero_le _, h0⟩, ?_⟩
  rintro i m H ⟨rfl, hi, pv⟩
  have hq := hG i H hi pv
  by_cases hlt : i < n
  · exact .inr ⟨w.goes i H hlt hq, Pv (i + 1), fun H' p' => ⟨n - (i + 1), by omega, rfl, hlt, p'⟩, fun x H' y => hs i x H H' hlt pv (w.yields i H x H' hlt hq y)⟩
  · obtain rfl : i = n := by omega
    exact .inl ⟨w.stops H hq, hd H pv⟩
/-! ### tuples of numbers compared; truths by identity -/
theorem ltT (K : PySem.W.Frag) {X : Cx} (hu : X.A.units < cLine) (h : X.K = K := by rfl) : OpR X (compareOp .Lt) (rLtT K) := h ▸ op_ltT hu
theorem lex2 (a b c d : Int) : HT.lexLt [a, b] [c, d] = decide (a < c ∨ (a = c ∧ b < d)) := by
  rw [HT.lexLt_cons, HT.lexLt_cons, HT.lexLt_nil_nil]
  by_cases e : a = c
  · rw [if_pos e]
    by_cases e2 : b = d
    · rw [if_pos e2]
      exact (decide_eq_false (by omega)).symm
    · rw [if_neg e2]
      exact decide_eq_decide.mpr (by omega)
  · rw [if_neg e]
    exact decide_eq_decide.mpr (by omega)
/-! ### parts of tuples -/
theorem piT (K : PySem.W.Frag) {X : Cx} {tg l : Expr} {tl : TE} (hl : PE X l tl) (h : X.K = K := by rfl) : PI X tg l (iTup K tl) := by
  subst h
  exact pi_tup hl
theorem piL (K : PySem.W.Frag) {X : Cx} {tg l : Expr} {tl : TE} (hl : PE X l tl) (h : X.K = K := by rfl) : PI X tg l (iList K tl) := by
  subst h
  exact pi_list hl
/-- a part of a tuple: the same one, or another -/
def rSlE (K : PySem.W.Frag) : V → Option Int → Option Int → Hp → VK → Prop := fun x lo hi H Q => ∃ a xs, x = .ref a ∧ H a = some (.tup xs) ∧ ∀ p H', Ext H H' → H' p = some (.tup (cutV xs lo hi)) → Q (.ref p) H'
theorem slE (K : PySem.W.Frag) {X : Cx} (h : X.K = K := by rfl) : SlR X (rSlE K) := fun pins s σ H x v vl vu lo hi sl Q I rx hs pl pu ⟨a, xs, ex, ha, q⟩ => by
  refine slA K h pins s σ H x v vl vu lo hi sl Q I rx hs pl pu ⟨a, xs, ex, SqT.of ha, fun z => ?_, fun _ p hp => q p _ (Ext.new hp) upd_same⟩
  refine q a H Ext.refl ?_
  have e : cutV xs lo hi = xs := by
    unfold cutV
    rw [z.1, z.2, List.drop_zero, Nat.sub_zero, List.take_length]
  rw [e]
  exact ha
theorem cut_from {xs : List V} {k : Nat} : cutV xs (some (k : Int)) none = xs.drop k := by
  unfold cutV
  have e1 : HT.sIx xs.length 0 (some (k : Int)) = min k xs.length := HT.sIx_nat _ _ _
  have e2 : HT.sIx xs.length xs.length none = xs.length := rfl
  rw [e1, e2, List.take_of_length_le (by rw [List.length_drop]; omega)]
  by_cases h : k ≤ xs.length
  · rw [Nat.min_eq_left h]
  · rw [Nat.min_eq_right (by omega), List.drop_length, List.drop_eq_nil_of_le (by omega)]
theorem cut_to {xs : List V} {k : Nat} : cutV xs none (some (k : Int)) = xs.take k := by
  unfold cutV
  have e1 : HT.sIx xs.length 0 none = 0 := rfl
  have e2 : HT.sIx xs.length xs.length (some (k : Int)) = min k xs.length := HT.sIx_nat _ _ _
  rw [e1, e2, List.drop_zero, Nat.sub_zero]
  by_cases h : k ≤ xs.length
  · rw [Nat.min_eq_left h]
  · rw [Nat.min_eq_right (by omega), List.take_length, List.take_of_length_le (by omega)]
theorem paired_take {α β : Type} {R : α → β → Prop} : ∀ {xs : List α} {ys : List β} (k : Nat), Paired R xs ys → Paired R (xs.take k) (ys.take k)
  | _, _, 0, _ => by rw [List.take_zero, List.take_zero]; exact .nil
  | _, _, k + 1, .nil => by rw [List.take_nil, List.take_nil]; exact .nil
  | _, _, k + 1, .cons r t => by rw [List.take_succ_cons, List.take_succ_cons]; exact .cons r (paired_take k t)
theorem paired_drop {α β : Type} {R : α → β → Prop} : ∀ {xs : List α} {ys : List β} (k : Nat), Paired R xs ys → Paired R (xs.drop k) (ys.drop k)
  | _, _, 0, h => by rw [List.drop_zero, List.drop_zero]; exact h
  | _, _, k + 1, .nil => by rw [List.drop_nil, List.drop_nil]; exact .nil
  | _, _, k + 1, .cons r t => by rw [List.drop_succ_cons, List.drop_succ_cons]; exact paired_drop k t
/-- two tuples put together: one of them, or another -/
def rCatE (K : PySem.W.Frag) : R2 := fun x y H Q => ∃ a b xs ys, x = .ref a ∧ y = .ref b ∧ H a = some (.tup xs) ∧ H b = some (.tup ys) ∧ xs.length + ys.length ≤ sizeLine ∧ ∀ p H', Ext H H' → H' p = some (.tup (xs ++ ys)) → Q (.ref p) H'
theorem catE (K : PySem.W.Frag) {X : Cx} (h : X.K = K := by rfl) : OpR X (binaryOp .Add) (rCatE K) := fun pins s σ H x y v u Q I rx ry ⟨a, b, xs, ys, ex, ey, ha, hb, hz, q⟩ => by
  refine catA K h pins s σ H x y v u Q I rx ry ⟨a, b, xs, ys, ex, ey, SqT.of ha, SqT.of hb, hz, fun z => ?_, fun _ z => ?_, fun _ _ p hp => q p _ (Ext.new hp) upd_same⟩
  · exact q b H Ext.refl (by rw [z]; exact hb)
  · exact q a H Ext.refl (by rw [z, List.append_nil]; exact ha)
end Pf


namespace Pf
open PySem PySem.Spec PyProof.Rows L2
/-! ### sorting tuples, the first of them empty -/
section
open PySem.W PySem.SeqAt PySem.Calls
variable {prog : Program} {w : World} {A : Around} {E : Value → Shared → Prop} {s : Shared}
theorem tup_lt1 {Q : Bool → Shared → Prop} {a b : Value} {xs ys : List PyData} {as bs : List Addr} (ra : Reads s.heap a (.tuple xs) as) (rb : Reads s.heap b (.tuple ys) bs) (hal : alikeAll xs ys = true)
    (hu : A.units + min (PyData.tuple xs).depth (PyData.tuple ys).depth < cLine) (hq : Q (dataLt (.tuple xs) (.tuple ys)) s) : wpAny (model prog w) A (oneLt' true a b) Q E s := by
  cases ra with
  | @tuple l o vs n _ as₁ h1 h2 h3 h4 =>
    cases rb with
    | @tuple m p ws k _ bs₁ g1 g2 g3 g4 =>
      have z1 : vs.size = xs.length := by simpa using ReadsAll.length _ _ _ h4
      have z2 : ws.size = ys.length := by simpa using ReadsAll.length _ _ _ g4
      rw [dataLt_tuple, ← firstLt_toks xs ys hal, ← z1, ← z2] at hq
      obtain ⟨ocls, odd, odata, osl⟩ := o
      obtain ⟨pcls, pdd, pdata, psl⟩ := p
      simp only at h2 h3 g2 g3
      subst h2 h3 g2 g3
      rw [oneLt'_eq]
      simp only [if_true]
      refine wpAny_bind (wpAny_cRoomFor (room_here hu) (wpAny_bind (wpAny_callSpecialIfBound?_slot (T := "tuple") ⟨_, h1, rfl⟩ F.slot_tuple_lt ?_)))
      refine call_meets F.slot_tuple_lt ⟨_, h1, rfl⟩ F.entry_tuple_lt (F.args_tuple_lt_2 _ _) (tuple_ltAt l m vs ws n k odd pdd osl psl (pairEq xs ys) (fun j => dataLt (xs.getD j .none) (ys.getD j .none))) ⟨h1, g1, fun j j1 j2 => ?_, fun j j1 j2 hj => ?_, wpAny_truthy_bool hq⟩
      · have y := eqAt_alikeAll xs ys A.in1 s vs.toList ws.toList _ _ h4 g4 hal (room_in hu) j (by simpa using j1) (by simpa using j2)
        simpa using y
      · have y := rcLt_alikeAll xs ys A.in1 s vs.toList ws.toList _ _ h4 g4 hal (room_in hu) j (by simpa using j1) (by simpa using j2) hj
        simpa using y
theorem ft_at {M : Model} {v : Value} {ds : List PyData} {as : List Addr} (r : Reads s.heap v (.tuple ds) as) : ∃ f : Option Value, (ds = [] → f = none) ∧ ∀ Q : Option Value → Shared → Prop, Q f s → wpAny M A (firstOfTuple' v) Q E s := by
  cases r with
  | @tuple a o xs n _ _ ho hc hd hr =>
    refine ⟨xs[0]?, fun e => ?_, fun Q q => ?_⟩
    · subst e
      cases q : xs.toList with
      | nil =>
        rw [← Array.getElem?_toList, q]
        rfl
      | cons f fr =>
        rw [q] at hr
        cases hr
    · rw [kas_first_eq]
      refine wpAny_bind (Looks.here (show Looks M s.heap (typeOf (.ref a)) o.cls from (Looks.ld ho).andThen .now) ?_)
      rw [hc, if_neg (by simp)]
      exact wpAny_bind (listItems_at ho hd (wpAny_pure q))
theorem fts_at {M : Model} : ∀ {vs : List Value} {ds : List PyData}, EachIs (fun v d => ∃ as, Reads s.heap v d as) vs ds → (∀ d ∈ ds, ∃ xs, d = .tuple xs) → ∃ fs : List (Option Value), (∀ r, ds = .tuple [] :: r → ∃ t, fs = none :: t) ∧ ∀ Q : List (Option Value) → Shared → Prop, Q fs s → wpAny M A (vs.mapM firstOfTuple') Q E s
  | _, _, .nil, _ => ⟨[], (fun r z => by cases z), fun Q q => by rw [List.mapM_nil]; exact wpAny_pure q⟩
  | _, _, .cons (b := d) ⟨as, r⟩ t, ht => by
    obtain ⟨fs, _, h2⟩ := fts_at (M := M) t fun d hd => ht d (List.mem_cons_of_mem _ hd)
    obtain ⟨xs, rfl⟩ := ht d (List.mem_cons_self ..)
    obtain ⟨f, e1, e2⟩ := ft_at (M := M) (A := A) (E := E) r
    refine ⟨f :: fs, fun r z => ⟨fs, ?_⟩, fun Q q => ?_⟩
    · injection z with z _
      injection z with z
      rw [e1 z]
    · rw [List.mapM_cons]
      exact wpAny_bind (e2 _ (wpAny_bind (h2 _ (wpAny_pure q))))
theorem kind_empt {M : Model} {vs : List Value} {ds : List PyData} {Q : SortKind → Shared → Prop} (e : EachIs (fun v d => ∃ as, Reads s.heap v d as) vs (.tuple [] :: ds)) (ht : ∀ d ∈ PyData.tuple [] :: ds, ∃ xs, d = .tuple xs) (q : Q oneType' s) : wpAny M A (keyKind' vs.toArray) Q E s := by
  obtain ⟨fs, h1, h2⟩ := fts_at (M := M) (A := A) (E := E) e ht
  obtain ⟨t, rfl⟩ := h1 ds rfl
  obtain ⟨v0, vr, rfl⟩ : ∃ v0 vr, vs = v0 :: vr := by
    cases e with
    | cons z zs => exact ⟨_, _, rfl⟩
  rw [keyKind'_eq, List.mapM_toArray, map_eq_pure_bind]
  refine wpAny_bind (wpAny_bind (h2 _ (wpAny_pure ?_)))
  rw [if_neg (by simp), if_neg (by simp), oneTypeOnly'_eq, List.mapM_toArray, map_eq_pure_bind]
  refine wpAny_bind (wpAny_bind (wpAny_bind (kas_mapM (r := Value.type "tuple") _ (fun v hv Q' hq => ?_) (wpAny_pure ?_))))
  · obtain ⟨d, hd, as, r⟩ := e.left v hv
    obtain ⟨xs, rfl⟩ := ht d hd
    exact (looks_reads r).here hq
  · have h0 : (List.map (fun _ => Value.type "tuple") (v0 :: vr)).toArray[0]? = some (Value.type "tuple") := by simp
    rw [h0]
    have ha : ((List.map (fun _ : Value => Value.type "tuple") (v0 :: vr)).toArray.all fun x => x == Value.type "tuple") = true := by
      simp only [List.all_toArray, List.all_map, List.all_eq_true]
      intro _ _
      rfl
    simp only [ha, if_true]
    exact wpAny_pure (wpAny_pure q)
theorem sorts_empt {vs : List Value} {ds : List PyData} (e : EachIs (fun v d => ∃ as, Reads s.heap v d as) vs (.tuple [] :: ds)) (hal : AllAlike (.tuple [] :: ds)) (ht : ∀ d ∈ PyData.tuple [] :: ds, ∃ xs, d = .tuple xs) (hu : ∀ d ∈ PyData.tuple [] :: ds, A.units + d.depth < cLine) : SortsAt prog w A s (dataKind s.heap (.tuple [] :: ds)) vs := by
  refine ⟨fun v hv => ?_, oneType', ?_, fun h2 E Q hq => kind_empt e ht hq⟩
  · obtain ⟨d, hd, as, r⟩ := e.left v hv
    exact ⟨_, dataKind_some hal hd r⟩
  · intro E x y a b Q ha hb hq
    obtain ⟨d, as, hd, ra, rfl⟩ := dataKind_inv ha
    obtain ⟨d', as', hd', rb, rfl⟩ := dataKind_inv hb
    have hdd := hal d hd d' hd'
    have hroom : A.units + min d.depth d'.depth < cLine := Nat.lt_of_le_of_lt (Nat.add_le_add_left (Nat.min_le_left _ _) _) (hu d hd)
    obtain ⟨xs, rfl⟩ := ht d hd
    obtain ⟨ys, rfl⟩ := ht d' hd'
    rw [keyLt'_oneType]
    exact tup_lt1 ra rb (by simpa [alike] using hdd) hroom hq
theorem sorted_empt {β : Type} {vs : List Value} {bs : List β} {enc : β → PyData} {R : Value → β → Prop} {l : Addr} {r : List PyData} {Q : Value → Shared → Prop} (hl : s.heap.IsList l vs.toArray) (e : EachIs R vs bs) (er : EachIs (fun v b => ∃ as, Reads s.heap v (enc b) as) vs bs) (hal : AllAlike (bs.map enc)) (h0 : bs.map enc = .tuple [] :: r) (ht : ∀ d ∈ bs.map enc, ∃ xs, d = .tuple xs) (hL : bs.length ≤ sizeLine)
    (hu : ∀ b, b ∈ bs → A.units + 2 + (enc b).depth < cLine) (h : ∀ out, out.length = bs.length → EachIs R out (bs.mergeSort (dataLe false enc)) → Q (.ref (s.heap.objs.size + 1)) { s with heap := sortedAll s.heap vs (List.toArray out) }) :
    wpAny (model prog w) A (call (.builtin "sorted") [.ref l]) Q E s := by
  have er2 : EachIs (fun v b => ∃ as, Reads (sortingHeap (copyHeap s.heap vs) (s.heap.objs.size + 1) vs) v (enc b) as) vs bs := er.mono fun _ _ ⟨as, z⟩ => ⟨as, PyProof.Rows.Reads.keeps (fun _ _ => sorting_copy_old) z⟩
  have em := each_map (R := fun v d => ∃ as, Reads (sortingHeap (copyHeap s.heap vs) (s.heap.objs.size + 1) vs) v d as) enc er2
  have bm := bound_map (A := A.in1.in1) (bs := bs) (enc := enc) hu
  have S : SortsAt prog w A.in1.in1 { s with heap := sortingHeap (copyHeap s.heap vs) (s.heap.objs.size + 1) vs } (dataKind (sortingHeap (copyHeap s.heap vs) (s.heap.objs.size + 1) vs) (bs.map enc)) vs := by
    rw [h0] at em bm ht hal ⊢
    exact sorts_empt (s := { s with heap := sortingHeap (copyHeap s.heap vs) (s.heap.objs.size + 1) vs }) em hal ht bm
  exact sorted_vals hl S (by rw [e.length]; exact hL) (h _ (by rw [sortVals_length false rfl]; exact e.length) (sortVals_data false e er2 hal))
end
/-- sorted of tuples, the first of them empty -/
def rSortE (K : PySem.W.Frag) : List V → Hp → VK → Prop := fun vs H Q => ∃ (β : Type) (v : β → V) (d : β → PyData) (a : Addr) (bs : List β) (r : List PyData), vs = [.ref a] ∧ SqL K H a (bs.map v) ∧ (∀ b ∈ bs, Dp K H (v b) (d b) ∧ (d b).depth ≤ 50) ∧
  PySem.W.AllAlike (bs.map d) ∧ bs.map d = .tuple [] :: r ∧ (∀ e ∈ bs.map d, ∃ xs, e = .tuple xs) ∧ ∀ p, H p = none → Q (.ref p) (upd H p (.lst ((bs.mergeSort (PySem.W.dataLe false d)).map v)))
theorem cr_sortE (K : PySem.W.Frag) {X : Cx} (hu : X.A.units + 64 < cLine) (hK : X.K = K := by rfl) : CallR X (.builtin "sorted") (rSortE K) := by
  subst hK
  intro pins s σ H vs us Q I r h
  obtain ⟨β, v, d, a, bs, rd, rfl, hs, hd, al, h0, ht, q⟩ := h
  obtain ⟨u, rfl, rfl⟩ := vals1 r
  obtain ⟨its, rv, hl, hz⟩ := I.list hs
  rw [List.length_map] at hz
  refine sorted_empt (enc := d) (R := fun (u : Value) (b : β) => RelV (v b) u) hl.isList (each_vals rv) (each_reads I rv fun b hb => (hd b hb).1) al h0 ht hz (fun b hb => ?_) fun out hlen he => ?_
  · have := (hd b hb).2
    omega
  · obtain ⟨ep, he'⟩ := PyProof.Rows.sortedAll_at s.heap its out.toArray
    have hlen2 : ((bs.mergeSort (PySem.W.dataLe false d)).map v).length ≤ sizeLine := by
      rw [List.length_map, List.length_mergeSort]
      exact hz
    exact ⟨.ref _, upd H (s.heap.objs.size + 1) (.lst ((bs.mergeSort (PySem.W.dataLe false d)).map v)), I.laid (t' := s.toks) (fun _ _ => PyProof.Rows.sortedAll_old) (Nat.le_succ _) ⟨hlen2, out, ep, vals_each he, by simpa using he'⟩, rfl, q _ (I.hok.fresh (Nat.le_succ _))⟩
end Pf


namespace Pf
open PySem PySem.Spec PyProof.Rows L2
/-! ### a dict by tuples, made in a comprehension -/
theorem dset_t {X : Cx} {pins : List (Addr × Obj)} {σ : L2.St} {H : Hp} {s : Shared} {E : Value → Shared → Prop} {D b : Addr} {kvs : List (List Key × V)} {ks : List Key} {z : V} {u : Value} {Q : Unit → Shared → Prop} (hu : X.A.units < cLine) (I : Inv X pins σ H s) (hD : H D = some (.dT kvs)) (hb : H b = some (.tup (ks.map kV))) (hz : kvs.length < sizeLine)
    (rz : RelV z u) (go : ∀ s', Inv X pins σ (upd H D (.dT (putK kvs ks z))) s' → Q () s') : wpAny (model X.prog X.w) X.A (dictSet D (.ref b) u) Q E s := by
  obtain ⟨len, nsys, xs, rel, dd⟩ := dt_of I.hok hD
  have lx : xs.length ≤ sizeLine := Paired.length rel ▸ len
  have lp := length_putK kvs ks z
  refine wpAny_dictSet_heap (hsz := lx) (show (tupleKind (mixKind X.prog X.w)).room X.A from hu) (key_of I.hok hb) dd fun h' dd' same => go _ ?_
  obtain ⟨ob, es, ep, e1, e2, e3, e4, _, e5⟩ := dd'
  have stays : ∀ c ys, H c = some (.tup ys) → (upd H D (.dT (putK kvs ks z))) c = some (.tup ys) := fun c ys ec => by
    rw [upd_ne (ne_of ec hD (by intro y; cases y))]
    exact ec
  exact d_write I (by rw [hD]; exact True.intro) same ⟨ob, e1⟩ ⟨by omega, nsys, _, (rel.put ks hb rz).keeps stays, ob, es, ep, e1, e2, e3, e4, e5⟩
/-- what is asked of a turn's key and value -/
def PutT (D : Addr) (y z : V) (H : Hp) (N : Hp → Prop) : Prop := ∃ kvs ks b, y = .ref b ∧ H b = some (.tup (ks.map kV)) ∧ H D = some (.dT kvs) ∧ kvs.length < sizeLine ∧ N (upd H D (.dT (putK kvs ks z)))
def tDcT (wi : TI) (g : TG) (tk tv : TE) (vs : List Nat) : TE := fun σ H Q => wi σ H fun J H1 => ∀ D, H1 D = none → ∃ W : Nat → Nat → Hp → Prop, (∃ m, W 0 m (upd H1 D (.dT []))) ∧ ∀ i m H, W i m H →
  (J.stop i H ∧ Q (.ref D) H) ∨ (J.go i H ∧ ∃ Nx : Hp → Prop, (∀ H', Nx H' → ∃ m', m' < m ∧ W (i + 1) m' H') ∧ ∀ x H', J.yld i H x H' → g x (wipe σ vs) H' fun σ2 H2 => wipe σ2 vs = wipe σ vs ∧ tk σ2 H2 fun y H3 => tv σ2 H3 fun z H4 => PutT D y z H4 Nx)
/-- the block's context is free of what the walk itself holds -/
theorem blk_free {X : Cx} {s : Shared} {H : Hp} {scope : Scope} {ce : Env} {fp : List Addr} {σ' : L2.St} {H' : Hp} {s' : Shared} (J : Inv (X.blk s H scope ce fp) [] σ' H' s') (nn : ∀ b ∈ fp, H' b = none) : ∀ b ∈ fp, FpOk (X.blk s H scope ce fp) [] H' b := fun b hb =>
  ⟨nn b hb, (J.ok.exf b hb).1, J.ok.exfs b hb, .inl hb, fun x c e => (J.ok.exf b hb).2 x c e, fun p hp => by
    have hp : p ∈ ([] : List (Addr × Obj)) ++ [] := hp
    cases hp⟩
/-- a turn is over: the block again as it began, but for the heap -/
theorem blk_turn {X Y : Cx} {fp : List Addr} {it : Addr} {tg : Expr} {J : It} {tn : Nat → Heap → Prop} {P : Program} {w : World} {K : PySem.W.Frag} (T : Turn P w K tg J fp it tn) {i : Nat} {h7 : Heap} (st : tn (i + 1) h7) {σ0 σ8 : L2.St} {vs : List Nat} {H' : Hp} {s' : Shared} (hw : wipe σ8 vs = wipe σ0 vs)
    (JJ : Inv Y ([] ++ pinsAt fp h7) σ8 H' s') : Inv Y [] (wipe σ0 vs) H' s' ∧ tn (i + 1) s'.heap ∧ ∀ b ∈ fp, H' b = none := by
  have held : ∀ b ∈ fp, ∀ o, h7.get? b = some o → s'.heap.get? b = some o ∧ H' b = none := fun b hb o e => by
    have z := JJ.pin (b, o) (List.mem_append_right _ (List.mem_append_right _ (mem_pinsAt hb e)))
    exact ⟨z.1, z.2.1⟩
  refine ⟨(JJ.unpinned (pins := [])).weak (by rw [← hw, wipe_length]) (fun j v e => ?_), T.keep _ _ _ st fun b hb o e => (held b hb o e).1, fun b hb => ?_⟩
  · rw [← hw] at e
    exact (wipe_some e).1
  · obtain ⟨o, e, _⟩ := T.obj _ _ st b hb
    exact (held b hb o e).2
theorem dcT_core {X : Cx} {pins : List (Addr × Obj)} {s : Shared} {σ : L2.St} {H : Hp} {Q : VK} {kx vx tg iter : Expr} {scope : Scope} {own : List (Str × Nat)} {pos pos' : Pos} {wi : TI} {g : TG} {tk tv : TE} {use : Option (Value → Sem Unit)} {Qf : Value → Shared → Prop} (hu : X.A.units < cLine) (calm : X.calm = true) (nd : X.N.Nodup) (I : Inv X pins σ H s) (hi : PI X tg iter wi) (ok : BlkOk X.N X.env.scope scope own)
    (hg : ∀ (s : Shared) (H : Hp) (C : Addr) (cl : List (Str × Addr)) (fp : List Addr), PG (X.blk s H scope (compEnvC scope cl C X.env) fp) tg g)
    (hk : ∀ (s : Shared) (H : Hp) (C : Addr) (cl : List (Str × Addr)) (fp : List Addr), PE (X.blk s H scope (compEnvC scope cl C X.env) fp) kx tk)
    (hv : ∀ (s : Shared) (H : Hp) (C : Addr) (cl : List (Str × Addr)) (fp : List Addr), PE (X.blk s H scope (compEnvC scope cl C X.env) fp) vx tv) (hfs : ∀ x, foldedSetIterable iter X.env x = pure x) (h : tDcT wi g tk tv (own.map (·.2)) σ H Q)
    (fin : ∀ D C s' m H', Inv X pins σ H' s' → Q (.ref D) H' → s'.heap.Ns C m → FpOk X pins H' C → compPost (model X.prog X.w) X.A X.xe use Qf (.ref D) C (.ok .next) s') :
    wpAny (model X.prog X.w) X.A (comprehension (.DictComp kx vx [⟨tg, iter, [], 0⟩] scope pos) scope X.env pos' newDict false (eval iter X.env) use) Qf X.xe s := by
  have cells : ∀ y ∈ scope.names, y.2 = .free → ∃ c, X.env.cells.lookup y.1 = some c := fun y hy e => (ok.free y hy e).elim (fun k => I.ok.has _ (.inl k)) fun k => I.ok.has _ (.inr k)
  refine wpAny_comprehension_free (use := use) rfl hfs (closure_ok cells) ok.kind (fun y hy e => by rw [ok.uniq y hy, e]) (thn (hi.run pins s σ H _ I h) fun xv sa ha => thn ha fun itv sb hb => ?_)
  obtain ⟨it, fp, tn, J, Hb, rfl, Ib, T, stb, fb, rest⟩ := hb
  refine wpAny_newObj_type (newEnv_comp ?_)
  obtain ⟨W, ⟨m0, w0⟩, turn⟩ := rest sb.heap.objs.size (Ib.hok.fresh (Nat.le_refl _))
  have Ic : Inv X pins σ (upd Hb sb.heap.objs.size (.dT [])) { sb with heap := sb.heap.push { cls := .type "dict", data := .dict #[] } } := Ib.laid (t' := sb.toks) (fun b o e => Heap.get?_push_of_some _ e) (Nat.le_refl _) (dt_empty sb.heap Ib.big)
  have stc : tn 0 (sb.heap.push { cls := .type "dict", data := .dict #[] }) := T.keep _ _ _ stb fun b _ o e => Heap.get?_push_of_some _ e
  have below : ∀ b ∈ fp, b < sb.heap.objs.size := fun b hb => by
    obtain ⟨o, e, _⟩ := T.obj _ _ stb b hb
    exact Heap.lt_size e
  have fc : ∀ b ∈ fp, FpOk X pins (upd Hb sb.heap.objs.size (.dT [])) b ∧ b < (sb.heap.push { cls := .type "dict", data := .dict #[] }).objs.size := fun b hb => by
    refine ⟨⟨?_, (fb b hb).2⟩, ?_⟩
    · rw [upd_ne (Nat.ne_of_lt (below b hb))]
      exact (fb b hb).1
    · rw [Heap.size_push]
      exact Nat.lt_succ_of_lt (below b hb)
  generalize sb.heap.objs.size = D at turn w0 Ic fc ⊢
  generalize hsc : ({ sb with heap := sb.heap.push { cls := .type "dict", data := .dict #[] } } : Shared) = sc at Ic ⊢
  have stc : tn 0 sc.heap := by rw [← hsc]; exact stc
  generalize upd Hb D (.dT []) = Hc at w0 Ic fc
  have fc : ∀ b ∈ fp, FpOk X pins Hc b ∧ b < sc.heap.objs.size := by rw [← hsc]; exact fc
  have Id := block_start Ic ok nd fc
  have pg := hg sc Hc sc.heap.objs.size (cellsFrom (sc.heap.objs.size + 1) scope.names (cloFrom X.env.cells scope.names [])) fp
  have pk := hk sc Hc sc.heap.objs.size (cellsFrom (sc.heap.objs.size + 1) scope.names (cloFrom X.env.cells scope.names [])) fp
  have pv := hv sc Hc sc.heap.objs.size (cellsFrom (sc.heap.objs.size + 1) scope.names (cloFrom X.env.cells scope.names [])) fp
  show codeAny _ _ (.compStart _ 0 (.ref it) (.ref D) (compEnvC scope (cellsFrom (sc.heap.objs.size + 1) scope.names (cloFrom X.env.cells scope.names [])) sc.heap.objs.size X.env)) (compPost _ _ _ _ _ (.ref D) sc.heap.objs.size) { sc with heap := pushCells (sc.heap.push { cls := .type "dict", data := .dict #[] }) scope.names }
  have std : tn 0 (pushCells (sc.heap.push { cls := .type "dict", data := .dict #[] }) scope.names) := T.keep _ _ _ stc fun b _ o e => pushCells_keeps _ _ _ _ (Heap.get?_push_of_some _ e)
  generalize ec : compEnvC scope (cellsFrom (sc.heap.objs.size + 1) scope.names (cloFrom X.env.cells scope.names [])) sc.heap.objs.size X.env = ce at Id pg pk pv ⊢
  have cl : ce.locals = sc.heap.objs.size := by rw [← ec]; rfl
  generalize ed : ({ sc with heap := pushCells (sc.heap.push { cls := .type "dict", data := .dict #[] }) scope.names } : Shared) = sd at Id ⊢
  have std : tn 0 sd.heap := by rw [← ed]; exact std
  have loop : codeAny (model X.prog X.w) X.A (.compLoop (.DictComp kx vx [⟨tg, iter, [], 0⟩] scope pos) 0 (.ref it) (.ref D) ce) (compPost (model X.prog X.w) X.A X.xe use Qf (.ref D) sc.heap.objs.size) sd := by
    refine compLoop_anyD (fun n s' => ∃ i H', Inv (X.blk sc Hc scope ce fp) [] (wipe σ (own.map (·.2))) H' s' ∧ tn i s'.heap ∧ (∀ b ∈ fp, H' b = none) ∧ W i n H') ?_ m0 ⟨0, Hc, Id, std, fun b hb => (fc b hb).1.1, w0⟩
    rintro n s5 ⟨i, H5, I5, st5, n5, w5⟩
    rcases turn i n H5 w5 with ⟨ends, qq⟩ | ⟨goes, Nx, hNx, step⟩
    · refine thnF (T.done (X.blk sc Hc scope ce fp) rfl rfl rfl calm i [] s5 _ H5 (fun _ _ => False) I5 (blk_free I5 n5) st5 ends) fun r s6 ⟨er, I6⟩ => ?_
      subst er
      have I7 : Inv X pins σ H5 s6 := Ic.call' (ch := fp) I6.os I6.base I6.hok I6.bare fun b hb => ⟨(fc b hb).1.2.2.2.1, (fc b hb).1.2.1, (fc b hb).1.2.2.2.2.1, (fc b hb).1.2.2.2.2.2⟩
      have nl : H5 sc.heap.objs.size = none := by
        rw [← cl]
        exact I6.free
      obtain ⟨m, hn, _⟩ := I6.loc
      have hn : s6.heap.Ns ce.locals m := hn
      rw [cl] at hn
      exact fin D sc.heap.objs.size s6 m H5 I7 qq hn (Ic.fpOk (Nat.le_refl _) nl)
    · refine thnF (T.item (X.blk sc Hc scope ce fp) rfl rfl rfl calm i [] s5 _ H5 (fun _ _ => False) I5 (blk_free I5 n5) st5 goes) fun r s6 ⟨u, er, h6⟩ => ?_
      subst er
      refine thnF h6 fun _ s7 ⟨x, H7, I7, r7, y7, st7, n7⟩ => ?_
      refine thnF (pg.run _ s7 _ H7 x u _ (I7.pinned (blk_free I7 n7) (T.obj _ _ st7)) r7 (step x H7 y7)) fun _ s8 ⟨σ8, H8, I8, hw8, q8⟩ => ?_
      rw [List.forIn_nil]
      refine wpAny_pure ?_
      rw [if_pos rfl]
      refine thnF (pk.run _ s8 σ8 H8 _ I8 q8) fun v9 s9 ⟨y9, H9, I9, r9, q9⟩ => ?_
      refine thnF (pv.run _ s9 σ8 H9 _ I9 q9) fun v10 s10 ⟨z10, H10, I10, r10, kvs, ks, b, ey, eb, eD, lz, nx⟩ => ?_
      subst ey
      cases (show v9 = Value.ref b from r9)
      refine dset_t (X := X.blk sc Hc scope ce fp) hu I10 eD eb lz r10 fun s11 I11 => ?_
      obtain ⟨m', hm, w'⟩ := hNx _ nx
      obtain ⟨a1, a2, a3⟩ := blk_turn (X := X) T st7 hw8 I11
      exact ⟨m', hm, i + 1, _, a1, a2, a3, w'⟩
  exact codeAny_compStart_dict loop (T.self X.A 0 _ _ _ std loop)
theorem pe_dcT {X : Cx} {kx vx tg iter : Expr} {scope : Scope} {own : List (Str × Nat)} {pos : Pos} {wi : TI} {g : TG} {tk tv : TE} (hu : X.A.units < cLine) (calm : X.calm = true) (nd : X.N.Nodup) (hi : PI X tg iter wi) (ok : BlkOk X.N X.env.scope scope own)
    (hg : ∀ (s : Shared) (H : Hp) (C : Addr) (cl : List (Str × Addr)) (fp : List Addr), PG (X.blk s H scope (compEnvC scope cl C X.env) fp) tg g)
    (hk : ∀ (s : Shared) (H : Hp) (C : Addr) (cl : List (Str × Addr)) (fp : List Addr), PE (X.blk s H scope (compEnvC scope cl C X.env) fp) kx tk)
    (hv : ∀ (s : Shared) (H : Hp) (C : Addr) (cl : List (Str × Addr)) (fp : List Addr), PE (X.blk s H scope (compEnvC scope cl C X.env) fp) vx tv) (hfs : ∀ x, foldedSetIterable iter X.env x = pure x := by intro _; rfl) :
    PE X (.DictComp kx vx [⟨tg, iter, [], 0⟩] scope pos) (tDcT wi g tk tv (own.map (·.2))) := by
  refine ⟨fun pins s σ H Q I h => ?_⟩
  rw [arm_eval_DictComp]
  refine dcT_core hu calm nd I hi ok hg hk hv hfs h fun D C s' m H' I' q hn f => ⟨m, hn, fun h'' sb => ?_⟩
  obtain ⟨f0, f1, f2, f3, f4, f5⟩ := f
  exact ⟨.ref D, H', I'.turned (t' := s'.toks) (fun b o hb e => (sb.2 b hb).trans e) f0 f1 f3 f4 f5, rfl, q⟩
/-- a name on the same line takes it, before the block's own names go -/
theorem ps_setDcT {X : Cx} {i : Nat} {y : Str} {py : Pos} {kx vx tg iter : Expr} {scope : Scope} {own : List (Str × Nat)} {pos spos : Pos} {wi : TI} {g : TG} {tk tv : TE} (hu : X.A.units < cLine) (calm : X.calm = true) (nd : X.N.Nodup) (at_ : X.N[i]? = some y) (loc : X.env.scope.names.lookup y = some .local)
    (sw : swapsWith (.DictComp kx vx [⟨tg, iter, [], 0⟩] scope pos) (some (.Name y py)) spos.line X.env = pure true) (hi : PI X tg iter wi) (ok : BlkOk X.N X.env.scope scope own)
    (hg : ∀ (s : Shared) (H : Hp) (C : Addr) (cl : List (Str × Addr)) (fp : List Addr), PG (X.blk s H scope (compEnvC scope cl C X.env) fp) tg g)
    (hk : ∀ (s : Shared) (H : Hp) (C : Addr) (cl : List (Str × Addr)) (fp : List Addr), PE (X.blk s H scope (compEnvC scope cl C X.env) fp) kx tk)
    (hv : ∀ (s : Shared) (H : Hp) (C : Addr) (cl : List (Str × Addr)) (fp : List Addr), PE (X.blk s H scope (compEnvC scope cl C X.env) fp) vx tv) (hfs : ∀ x, foldedSetIterable iter X.env x = pure x := by intro _; rfl) :
    PS X (.Assign [.Name y py] (.DictComp kx vx [⟨tg, iter, [], 0⟩] scope pos) spos) (tAsg (tDcT wi g tk tv (own.map (·.2))) (gName i)) := by
  refine ⟨fun pins s σ H D I h => ?_⟩
  rw [exec_Assign_Name_used _ _ _ _ sw]
  refine wpAny_bind (wpAny_standAt (wpAny_bind ?_))
  show wpAny _ X.A (do let _ ← comprehension (.DictComp kx vx [⟨tg, iter, [], 0⟩] scope pos) scope X.env (firstIterPos [⟨tg, iter, [], 0⟩] pos) newDict false (eval iter X.env) (some (assign (.Name y py) X.env))) _ _ s
  have h : tDcT wi g tk tv (own.map (·.2)) σ H (fun x H1 => gName i x σ H1 D.nx) := h
  refine wpAny_bind (thn (dcT_core (Qf := fun _ s' => SP X pins D .next s') hu calm nd I hi ok hg hk hv hfs h fun L C s' m H' I' q hn f => ?_) fun _ s' hq => wpAny_pure (wpAny_pure hq))
  show wpAny _ _ (assign (.Name y py) X.env (.ref L)) _ _ _
  refine wpAny_assign_Name (store_ok2 (v := V.ref L) I' nd at_ (.inl loc) rfl (fun s2 I2 ⟨a, sb, ha⟩ => ?_) (.inr loc))
  obtain ⟨f0, f1, f2, f3, f4, f5⟩ := f
  have apart : C ≠ a := by
    rcases ha with z | z
    · rw [z]
      exact f1
    · exact fun e => f4 y a z e.symm
  exact ⟨m, hn.sameBut sb apart, fun h3 sb3 => ⟨_, H', I2.turned (t' := s2.toks) (fun b o hb e => (sb3.2 b hb).trans e) f0 f1 f3 f4 f5, q⟩⟩
theorem swD_true {kx vx : Expr} {gs : List Comprehension} {scope : Scope} {pos py : Pos} {y : Str} {l : Nat} {env : Env} (hk : env.scope.kind = .function) (hy : env.scope.names.lookup y = some .local) (hl : (py.line == pos.line) = true)
    (ha : (scope.names.any fun (n, k) => n == y && (k == .local || k == .cell)) = false) : swapsWith (.DictComp kx vx gs scope pos) (some (.Name y py)) l env = pure true := by
  have ky : env.kindOf y = some .local := hy
  have hb : env.blockKind = .function := by unfold Env.blockKind; rw [hk]; rfl
  unfold swapsWith
  simp only [hb, ky, ha, Expr.pos, hl]
  rfl
theorem dcT_it {J : It} {n : Nat} {G : Hp → Prop} {Y : Nat → Hp → V → Hp → Prop} (w : Walk J n G Y) {g : TG} {tk tv : TE} {vs : List Nat} {σ : L2.St} {H1 : Hp} {D : Addr} {Qd : Hp → Prop} (Pv : Nat → Hp → Prop) (h0 : Pv 0 (upd H1 D (.dT []))) (hG : ∀ i H, i ≤ n → Pv i H → G H)
    (hs : ∀ i x H H', i < n → Pv i H → Y i H x H' → g x (wipe σ vs) H' fun σ2 H2 => wipe σ2 vs = wipe σ vs ∧ tk σ2 H2 fun y H3 => tv σ2 H3 fun z H4 => PutT D y z H4 (Pv (i + 1))) (hd : ∀ H, Pv n H → Qd H) :
    ∃ W : Nat → Nat → Hp → Prop, (∃ m, W 0 m (upd H1 D (.dT []))) ∧ ∀ i m H, W i m H → (J.stop i H ∧ Qd H) ∨ (J.go i H ∧ ∃ Nx : Hp → Prop, (∀ H', Nx H' → ∃ m', m' < m ∧ W (i + 1) m' H') ∧ ∀ x H', J.yld i H x H' → g x (wipe σ vs) H' fun σ2 H2 => wipe σ2 vs = wipe σ vs ∧ tk σ2 H2 fun y H3 => tv σ2 H3 fun z H4 => PutT D y z H4 Nx) := by
  refine ⟨fun i m H => m = n - i ∧ i ≤ n ∧ Pv i H, ⟨n, rfl, Nat.zero_le _, h0⟩, ?_⟩
  rintro i m H ⟨rfl, hi, pv⟩
  have hq := hG i H hi pv
  by_cases hlt : i < n
  · exact .inr ⟨w.goes i H hlt hq, Pv (i + 1), fun H' p' => ⟨n - (i + 1), by omega, rfl, hlt, p'⟩, fun x H' y => hs i x H H' hlt pv (w.yields i H x H' hlt hq y)⟩
  · obtain rfl : i = n := by omega
    exact .inl ⟨w.stops H hq, hd H pv⟩
end Pf


namespace Pf
open PySem PySem.Spec PyProof.Rows L2
/-! ### a list lengthened in its place -/
theorem lk_iadd : typeLookup (.type "list") (dunderI "add") = pure (some (.builtin "list.__iadd__")) := PySem.F.slot_list_iadd.lookup
theorem nf_list : fillsNumberSlot (.type "list") "add" = pure false := by kernel_rfl
theorem iadd_lst {M : Model} {A : Around} {E : Value → Shared → Prop} {s : Shared} {a b : Value} {Q : Value → Shared → Prop} (ha : s.TypeIs a "list") (hb : s.TypeIs b "list") (hc : wpAny M A (call (.builtin "list.__iadd__") [a, b]) Q E s) : wpAny M A (inplaceOp .Add a b) Q E s := by
  unfold inplaceOp
  refine wpAny_holding ?_
  have h1 : fillsInplaceSlot (.type "list") "add" (Operator.Add == .Add) = pure false := by
    unfold fillsInplaceSlot
    show (typeLookup (.type "list") (dunderI "add") >>= fun z => pure (z.isSome && !isSeqSlot z)) = pure false
    rw [lk_iadd]
    kernel_rfl
  have h2 : seqSlot? (.type "list") (dunderI "add") = pure (some (.builtin "list.__iadd__")) := PySem.seqSlot_of lk_iadd (by kernel_rfl)
  refine wpAny_bind (wpAny_typeOf ha (wpAny_bind (wpAny_of_eq h1 ?_)))
  show wpAny M A (if false = true then _ else _) Q E s
  rw [if_neg Bool.false_ne_true]
  exact wpAny_bind (wpAny_binaryOp1_none (nm := "add") ha hb nf_list (wpAny_bind (wpAny_of_eq h2 (wpAny_bind (wpAny_rule hc)))))
def rIext : TIp := fun x y H Q => ∃ l b xs zs, x = .ref l ∧ y = .ref b ∧ H l = some (.lst xs) ∧ H b = some (.lst zs) ∧ xs.length + zs.length ≤ sizeLine ∧ Q (.ref l) (upd H l (.lst (xs ++ zs)))
theorem ip_ext {X : Cx} : PIp X .Add rIext := by
  intro pins s σ H x y v u Q I rx ry h
  obtain ⟨l, b, xs, zs, rfl, rfl, hH, hB, hz, q⟩ := h
  cases rx
  cases ry
  obtain ⟨z, its, n, r, hl, e⟩ := I.lstM hH
  obtain ⟨z2, its2, n2, r2, hl2, e2⟩ := I.lstM hB
  have hs2 : its.toArray.size + its2.toArray.size ≤ sizeLine := by
    rw [List.size_toArray, List.size_toArray]
    omega
  have long : ¬ (!its.toArray.isEmpty && Builtin.List.listTooLong (its.toArray.size + its2.toArray.size)) = true := by
    rw [notLongL hs2, Bool.and_false]
    exact Bool.false_ne_true
  refine iadd_lst ⟨_, e, rfl⟩ ⟨_, e2, rfl⟩ (call_meets PySem.F.slot_list_iadd ⟨_, e, rfl⟩ PySem.F.entry_list_iadd (PySem.F.args_list_iadd_2 _ _) (AutoSeq1.list___iadd___list_list_0 l its.toArray n b its2.toArray n2 long (by rw [List.size_toArray]; omega) (by omega)) ⟨e, e2, ?_⟩)
  refine ⟨.ref l, _, I.lset (its' := its ++ its2) hH e (by simp) (r.append r2) ?_, rfl, q⟩
  rw [List.length_append]
  omega
end Pf


namespace Pf
open PySem PySem.Spec PyProof.Rows L2
/-! ### sorted of a dict by tuples -/
theorem obj_there {P : Program} {w : World} {H : Hp} {h : Heap} {a : Addr} {o : HO} (x : ObjOk P w H h a o) : ∃ u, h.get? a = some u := by
  cases o with
  | lst _ =>
    obtain ⟨_, _, _, _, e⟩ := x
    exact ⟨_, e⟩
  | tup _ =>
    obtain ⟨_, _, _, u, e, _⟩ := x
    exact ⟨u, e⟩
  | dK _ =>
    obtain ⟨_, _, _, _, u, _, _, e, _⟩ := x
    exact ⟨u, e⟩
  | dT _ =>
    obtain ⟨_, _, _, _, u, _, _, e, _⟩ := x
    exact ⟨u, e⟩
  | set _ _ =>
    obtain ⟨u, _, _, _, e, _⟩ := x
    exact ⟨u, e⟩
  | ins _ _ _ =>
    obtain ⟨_, _, _, e, _⟩ := x
    exact ⟨_, e⟩
  | own _ => exact x
  | xd _ =>
    obtain ⟨_, ⟨u, _, _, e, _⟩, _⟩ := x
    exact ⟨u, e⟩
  | rng _ _ =>
    obtain ⟨_, _, _, e⟩ := x
    exact ⟨_, e⟩
  | frz u _ => exact ⟨u, x.1⟩
  | tbl _ => exact ⟨_, x⟩
  | met _ _ => exact ⟨_, x⟩
  | ext _ => exact x.2.1
def rSortKT (K : PySem.W.Frag) : List V → Hp → VK → Prop := fun vs H Q => ∃ (d : Addr) (kvs : List (List Key × V)), vs = [.ref d] ∧ Rd H d (.dT kvs) ∧ ∀ bs : List Addr, IsKeys H kvs bs → ∃ (β : Type) (ad : β → Addr) (dd : β → PyData) (ys : List β), bs = ys.map ad ∧ (∀ y ∈ ys, Dp K H (.ref (ad y)) (dd y) ∧ (dd y).depth ≤ 50) ∧
  PySem.W.AllAlike (ys.map dd) ∧ PySem.W.Sortable (ys.map dd) ∧ ∀ p, H p = none → Q (.ref p) (upd H p (.lst ((ys.mergeSort (PySem.W.dataLe false dd)).map fun y => .ref (ad y))))
theorem cr_sortKT (K : PySem.W.Frag) {X : Cx} (calm : X.calm = true) (hu : X.A.units + 64 < cLine) (hK : X.K = K := by rfl) : CallR X (.builtin "sorted") (rSortKT K) := by
  subst hK
  intro pins s σ H vs us Q I r h
  obtain ⟨d, kvs, rfl, hd, q⟩ := h
  obtain ⟨u, rfl, er⟩ := vals1 r
  cases er
  obtain ⟨z, hs, ks, pr, o, es, ep, ho, hx, hdt, he, hn⟩ := (show ObjOk X.prog X.w H s.heap d (.dT kvs) from hd.ok I.hok)
  have l1 : es.size = ks.length := size_of_entries he
  have l2 : kvs.length = ks.length := Paired.length pr
  obtain ⟨β, ad, dd, ys, eys, hy, al, so, qq⟩ := q _ (isKeys_of pr)
  have hyl : ys.length = ks.length := by
    have := congrArg List.length eys
    rw [List.length_map, List.length_map] at this
    exact this.symm
  refine Calls.call_function_entry kind_sorted plain_sorted entry_sorted (args_sorted1 _) ?_
  unfold Builtin.«sorted»
  refine wpAny_bind (m := checkCount "sorted" 1 1 _) (wpAny_pure ?_)
  refine wpAny_bind (PySem.W.kdu_collect (kdl_raw hs hx hdt) (I.ok.hd calm) ho (by omega) fun h1 tk acc kp items => ?_)
  have ea : acc.toList = ys.map fun y => Value.ref (ad y) := by
    have e0 : (ks.map fun x => x.2.1).map Value.ref = ys.map fun y => Value.ref (ad y) := by
      rw [eys, List.map_map]
      rfl
    rw [← e0]
    refine List.ext_getElem? fun j => ?_
    rw [List.getElem?_map, List.getElem?_map]
    cases hj : acc.toList[j]? with
    | none =>
      have := List.getElem?_eq_none_iff.mp hj
      rw [Array.length_toList, items.1] at this
      rw [List.getElem?_eq_none (by omega)]
      rfl
    | some v =>
      obtain ⟨en, hen, hv⟩ := items.2 j v (by rw [← Array.getElem?_toList]; exact hj)
      have qe := entry_at he j
      rw [hen] at qe
      cases hb : ks[j]? with
      | none =>
        rw [hb] at qe
        exact nomatch (show some en = none from qe)
      | some b =>
        rw [hb] at qe
        rw [hv, Option.some.inj (show some en = some (entryOfKey (tupleKind (mixKind X.prog X.w)) b) from qe)]
        rfl
  have hz2 : acc.toList.length ≤ sizeLine := by
    rw [ea, List.length_map]
    omega
  refine wpAny_bind (wpAny_newList ?_ hz2)
  have hat : (h1.push (seqObj "list" acc.toList.toArray 0)).get? h1.objs.size = some (seqObj "list" acc.toList.toArray 0) := Heap.get?_push_size _ rfl
  have hlt : ∀ b ob, s.heap.get? b = some ob → b ≠ h1.objs.size := fun b ob e => Nat.ne_of_lt (Heap.lt_size (kp b ob e))
  have old : ∀ b ob, s.heap.get? b = some ob → (h1.push (seqObj "list" acc.toList.toArray 0)).get? b = some ob := fun b ob e => Heap.get?_push_of_some _ (kp b ob e)
  have rel : PySem.W.EachIs (fun (v : Value) (y : β) => RelV (V.ref (ad y)) v) acc.toList ys := by
    rw [ea]
    clear q qq eys hy al so hyl ea
    induction ys with
    | nil => exact .nil
    | cons y t ih => exact .cons rfl ih
  have rv : Vals (ys.map fun y => V.ref (ad y)) acc.toList := vals_each (v := fun y => V.ref (ad y)) rel
  have rd : PySem.W.EachIs (fun (v : Value) (y : β) => ∃ as, Reads (PySem.W.sortingHeap (h1.push (seqObj "list" acc.toList.toArray 0)) h1.objs.size acc.toList) v (dd y) as) acc.toList ys := (each_reads (v := fun y => V.ref (ad y)) I rv fun y hy' => (hy y hy').1).mono fun _ _ ⟨as, w⟩ => ⟨as, PyProof.Rows.Reads.keeps (fun b ob e => PySem.W.sortingHeap_old (hlt b ob e) (old b ob e)) w⟩
  have hub : ∀ y ∈ ys, X.A.in1.in1.units + (dd y).depth < cLine := fun y hy' => by
    have := (hy y hy').2
    show X.A.units + 2 + (dd y).depth < cLine
    omega
  have S := PySem.W.SortsAt.data (prog := X.prog) (w := X.w) (A := X.A.in1.in1) (s := { s with heap := PySem.W.sortingHeap (h1.push (seqObj "list" acc.toList.toArray 0)) h1.objs.size acc.toList, toks := tk }) (PySem.W.each_map (R := fun v d => ∃ as, Reads (PySem.W.sortingHeap (h1.push (seqObj "list" acc.toList.toArray 0)) h1.objs.size acc.toList) v d as) dd rd) al so (PySem.W.bound_map hub)
  refine wpAny_bind (wpAny_holding (wpAny_call_entry slot_list_sort ⟨_, hat, rfl⟩ entry_list_sort ?body (args_list_sort _)))
  case body =>
    refine PySem.W.list_sort_vals (s := { s with heap := h1.push (seqObj "list" acc.toList.toArray 0), toks := tk }) hat S hz2 ⟨_, rfl, wpAny_pure ⟨_, rfl, ?_⟩⟩
    have each := PySem.W.sortVals_data false rel rd al
    generalize PySem.W.sortVals (PySem.W.dataKind (PySem.W.sortingHeap (h1.push (seqObj "list" acc.toList.toArray 0)) h1.objs.size acc.toList) (ys.map dd)) false acc.toList acc.toList = out at each ⊢
    obtain ⟨ee, he'⟩ := PyProof.Rows.sortedHeap_at (vs := acc.toList) (out := out.toArray) hat
    have hl2 : ((ys.mergeSort (PySem.W.dataLe false dd)).map fun y => V.ref (ad y)).length ≤ sizeLine := by
      rw [List.length_map, List.length_mergeSort]
      omega
    have gone : s.heap.get? h1.objs.size = none := by
      cases e : s.heap.get? h1.objs.size with
      | none => rfl
      | some ob => exact absurd rfl (hlt _ ob e)
    have free : H h1.objs.size = none := by
      cases e : H h1.objs.size with
      | none => rfl
      | some u =>
        obtain ⟨ob, e2⟩ := obj_there (I.hok _ _ e)
        rw [gone] at e2
        cases e2
    exact ⟨.ref h1.objs.size, upd H h1.objs.size (.lst ((ys.mergeSort (PySem.W.dataLe false dd)).map fun y => V.ref (ad y))), I.laidN (t' := tk) (fun b ob e => by rw [PyProof.Rows.sortedHeap_old (hlt b ob e) (Heap.lt_size (old b ob e))]; exact old b ob e) gone free ⟨hl2, out, ee, vals_each (v := fun y => V.ref (ad y)) each, by simpa using he'⟩, rfl, qq _ free⟩
end Pf


namespace Pf
open PySem PySem.Spec PyProof.Rows L2
/-! ### a text so many times: some text of its letters, no longer than it may be -/
theorem rep_cps (x : Array Nat) : ∀ (n : Nat) (acc : Array Nat), (((List.replicate n x).foldl (· ++ ·) acc).size = acc.size + x.size * n) ∧ ∀ c ∈ ((List.replicate n x).foldl (· ++ ·) acc).toList, c ∈ acc.toList ∨ c ∈ x.toList
  | 0, acc => ⟨by rw [Nat.mul_zero]; rfl, fun c h => .inl h⟩
  | n + 1, acc => by
    have ih := rep_cps x n (acc ++ x)
    rw [List.replicate_succ, List.foldl_cons]
    refine ⟨?_, fun c h => ?_⟩
    · rw [ih.1, Array.size_append, Nat.mul_succ]
      omega
    · rcases ih.2 c h with z | z
      · rw [Array.toList_append, List.mem_append] at z
        exact z
      · exact .inr z
def rRepS : R2 := fun x y H Q => ∃ (z : Str) (k : Int), x = .str z ∧ y = .int k ∧ 0 ≤ k ∧ k ≤ 1000 ∧ z.length ≤ 1000 ∧ ∀ w : Str, w.length ≤ z.length * k.toNat → (∀ c ∈ w.cps.toList, c ∈ z.cps.toList) → Q (.str w) H
theorem op_repS {X : Cx} : OpR X (binaryOp .Mult) rRepS := by
  intro pins s σ H x y v u Q I rx ry h
  obtain ⟨z, k, rfl, rfl, k0, k1, hz, q⟩ := h
  obtain ⟨t, rfl⟩ := rx
  obtain ⟨t2, rfl⟩ := ry
  have hm : z.length * k.toNat ≤ 1000 * 1000 := Nat.mul_le_mul hz (by omega)
  have hbig : (z.length : Int) * k ≤ 1000 * 1000 := Int.mul_le_mul (by omega) k1 k0 (by decide)
  refine PySem.P.mul_str (by rw [decide_eq_false (by omega), decide_eq_false (by omega)]; rfl) (fun h1 _ z2 => ?_) (fun _ _ => ?_) ?_
  · have h3 : (1000 : Int) ≤ (2 ^ 63 - 1) / k := by
      rw [Int.le_ediv_iff_mul_le (by omega)]
      omega
    omega
  · unfold Builtin.Str.tooLong
    exact decide_eq_false (by rw [sizeLine_eq]; omega)
  · by_cases c1 : k < 1
    · rw [if_pos c1]
      exact ⟨by decide, .str Str.empty, H, I.tok _, ⟨_, rfl⟩, q _ (Nat.zero_le _) (fun c hc => by cases hc)⟩
    · rw [if_neg c1]
      by_cases c2 : (k == 1 || z.length == 0) = true
      · rw [if_pos c2]
        refine ⟨.str z, H, I, ⟨_, rfl⟩, q z ?_ fun _ hc => hc⟩
        exact Nat.le_mul_of_pos_right _ (by omega)
      · rw [if_neg c2]
        have hr := rep_cps z.cps k.toNat #[]
        have hl : (⟨(List.replicate k.toNat z.cps).foldl (· ++ ·) #[]⟩ : Str).length = z.length * k.toNat := by
          show ((List.replicate k.toNat z.cps).foldl (· ++ ·) #[]).size = _
          rw [hr.1]
          show 0 + z.length * k.toNat = _
          omega
        refine ⟨?_, .str _, H, I.tok _, ⟨_, rfl⟩, q _ (Nat.le_of_eq hl) fun c hc => ?_⟩
        · rw [hl, sizeLine_eq]
          omega
        · rcases hr.2 c hc with y | y
          · cases y
          · exact y
/-! ### a list under way -/
section
variable {β : Type} {R : Hp → V → β → Prop} {D : Addr} {H H1 H4 : Hp} {ys : List β} {v : V} {b : β}
def GenL (R : Hp → V → β → Prop) (D : Addr) (H1 : Hp) (ys : List β) (H : Hp) : Prop := ∃ vs, H D = some (.lst vs) ∧ Paired (R H) vs ys ∧ Ext H1 H
theorem genl_new (hD : H1 D = none) : GenL R D H1 [] (upd H1 D (.lst [])) := ⟨[], upd_same, .nil, Ext.new hD⟩
theorem GenL.ext (h : GenL R D H1 ys H) : Ext H1 H := by
  obtain ⟨_, _, _, k⟩ := h
  exact k
theorem GenL.keep (m : Mono R) (h : GenL R D H1 ys H) (k : Ext H H4) : GenL R D H1 ys H4 := by
  obtain ⟨vs, hL, hP, k1⟩ := h
  exact ⟨vs, k _ _ hL, paired_imp (fun _ _ => m _ _ _ _ (TupK.ext k)) hP, k1.trans k⟩
theorem genl_step (m : Mono R) (hD : H1 D = none) (h : GenL R D H1 ys H) (k : Ext H H4) (hv : R H4 v b) (hn : ys.length < 1000000) : ∃ acc, H4 D = some (.lst acc) ∧ acc.length < sizeLine ∧ GenL R D H1 (ys ++ [b]) (upd H4 D (.lst (acc ++ [v]))) := by
  obtain ⟨vs, hL, hP, k1⟩ := h
  have hl := paired_len hP
  have hL4 := k _ _ hL
  exact ⟨vs, hL4, szLt (by omega), vs ++ [v], upd_same, paired_app (paired_imp (fun _ _ => m _ _ _ _ ((TupK.ext k).trans (TupK.lst hL4))) hP) (.cons (m _ _ _ _ (TupK.lst hL4) hv) .nil), (k1.trans k).put hD⟩
/-- one more at its end -/
theorem app_ok {Q : VK} (m : Mono R) (hD : H1 D = none) (h : GenL R D H1 ys H) (k : Ext H H4) (hv : R H4 v b) (hn : ys.length < 1000000) (q : ∀ H', GenL R D H1 (ys ++ [b]) H' → Q .non H') : rAppend (.ref D) [v] H4 Q := by
  obtain ⟨acc, h1, h2, h3⟩ := genl_step m hD h k hv hn
  exact ⟨D, acc, v, rfl, rfl, h1, h2, q _ h3⟩
theorem GenL.sq {K : PySem.W.Frag} (h : GenL R D H1 ys H) : ∃ vs, SqL K H D vs := by
  obtain ⟨vs, h1, _⟩ := h
  exact ⟨vs, SqL.of h1⟩
end
theorem putT_len (c : List (List Key × V)) (k : List Key) (v : V) : (putK c k v).length ≤ c.length + 1 := by
  unfold putK
  split
  · rw [List.length_map]
    omega
  · rw [List.length_append, List.length_singleton]
    exact Nat.le_refl _
end Pf


namespace Pf
open PySem PySem.Spec PyProof.Rows L2
def topS (i : Nat) : Stmt := PySem.Challenge.pw_pairfolds_k16_least_worths_told.main.body.getD i (.Pass ⟨0, 0, 0, 0⟩)
/-! ### the pen: a list of cells, a place, a rest -/
def Pen (H : Hp) (p c : Addr) (n : Nat) : Prop := ∃ (cells : List Int) (a r : Int), H p = some (.lst [.ref c, .int a, .int r]) ∧ H c = some (.lst (cells.map V.int)) ∧ 0 ≤ a ∧ a ≤ n ∧ 0 ≤ r ∧ cells.length ≤ 63
section
variable {H H' : Hp} {p c q : Addr} {n m : Nat} {o : HO}
theorem Pen.mono (h : Pen H p c n) (l : n ≤ m) : Pen H p c m := by
  obtain ⟨cells, a, r, h1, h2, h3, h4, h5, h6⟩ := h
  exact ⟨cells, a, r, h1, h2, h3, by omega, h5, h6⟩
theorem Pen.put (h : Pen H p c n) (hp : q ≠ p) (hc : q ≠ c) : Pen (upd H q o) p c n := by
  obtain ⟨cells, a, r, h1, h2, h3⟩ := h
  exact ⟨cells, a, r, by rw [upd_ne hp.symm]; exact h1, by rw [upd_ne hc.symm]; exact h2, h3⟩
theorem Pen.ne (h : Pen H p c n) (hq : H q = none) : q ≠ p ∧ q ≠ c := by
  obtain ⟨cells, a, r, h1, h2, h3⟩ := h
  exact ⟨(ne_of_none h1 hq).symm, (ne_of_none h2 hq).symm⟩
theorem Pen.new (h : Pen H p c n) (hq : H q = none) : Pen (upd H q o) p c n := h.put (h.ne hq).1 (h.ne hq).2
theorem Pen.tup (h : Pen H p c n) {b : Addr} {xs : List V} (e : H b = some (.tup xs)) : b ≠ p := by
  obtain ⟨cells, a, r, h1, _⟩ := h
  exact ne_of e h1 (by intro z; cases z)
theorem Pen.frz (h : Pen H p c n) {b : Addr} {ob : Obj} {u : HO} (e : H b = some (.frz ob u)) : b ≠ p := by
  obtain ⟨cells, a, r, h1, _⟩ := h
  exact ne_of e h1 (by intro z; cases z)
theorem Pen.nb (h : Pen H p c n) {b : Addr} {xs : List V} (e : H b = some (.lst xs)) (hx : xs.length ≠ 3 ∨ ∀ i : Addr, xs[0]? ≠ some (.ref i)) : b ≠ p := by
  obtain ⟨cells, a, r, h1, _⟩ := h
  refine ne_of e h1 (fun z => ?_)
  injection z with z
  rcases hx with hx | hx
  · apply hx
    rw [z]
    rfl
  · apply hx c
    rw [z]
    rfl
theorem Pen.ext (h : Pen H p c n) (k : Ext H H') : Pen H' p c n := by
  obtain ⟨cells, a, r, h1, h2, h3⟩ := h
  exact ⟨cells, a, r, k _ _ h1, k _ _ h2, h3⟩
end
theorem TupK.of {p c : Addr} {n : Nat} {H H' : Hp} (k : Kp p H H') (hP : Pen H p c n) : TupK H H' := ⟨fun b _ e => k b _ (hP.tup e) e, fun b _ _ e => k b _ (hP.frz e) e⟩
theorem Kp.ext {p : Addr} {H H' : Hp} (k : Ext H H') : Kp p H H' := fun b o _ e => k b o e
theorem cut_ints (ns : List Int) (lo hi : Option Int) : ∃ cs : List Int, cutV (ns.map V.int) lo hi = cs.map V.int ∧ cs.length ≤ ns.length := by
  unfold cutV
  refine ⟨(ns.drop _).take _, by rw [List.map_take, List.map_drop], ?_⟩
  rw [List.length_take, List.length_drop]
  omega
theorem mod_b (z m : Int) (h : 0 < m) (h2 : m < 2 ^ 64) : -(2 ^ 64) < z % m ∧ z % m < 2 ^ 64 := by
  have h3 := Int.emod_nonneg z (show m ≠ 0 by omega)
  have h4 := Int.emod_lt_of_pos z h
  omega
theorem draw_b1 {z a : Int} (a0 : 0 ≤ a) (a1 : a ≤ 1000000) : (z % 2147483497 + 50021 * a * a + 40009 * a + 67).natAbs < 2 ^ 64 := by
  have h3 := Int.emod_nonneg z (show (2147483497 : Int) ≠ 0 by decide)
  have h4 := Int.emod_lt_of_pos z (show (0 : Int) < 2147483497 by decide)
  have h5 : 50021 * a * a ≤ 50021 * 1000000 * 1000000 := Int.mul_le_mul (by omega) a1 a0 (by decide)
  have h6 : 0 ≤ 50021 * a * a := Int.mul_nonneg (by omega) a0
  omega
theorem draw_b3 (z : Int) {a : Int} (a0 : 0 ≤ a) (a1 : a ≤ 1000000) : (z % 2147483629 + 31 * a + 17).natAbs < 2 ^ 64 := by
  have h3 := Int.emod_nonneg z (show (2147483629 : Int) ≠ 0 by decide)
  have h4 := Int.emod_lt_of_pos z (show (0 : Int) < 2147483629 by decide)
  omega
theorem draw_b4 (z : Int) : -(2 ^ 64) < z % 90001 + 11 ∧ z % 90001 + 11 < 2 ^ 64 := by
  have h3 := Int.emod_nonneg z (show (90001 : Int) ≠ 0 by decide)
  have h4 := Int.emod_lt_of_pos z (show (0 : Int) < 90001 by decide)
  omega
section
variable {P : Program} {w : World} {K : PySem.W.Frag} {mg : Str → Option Value} {base : Heap}
abbrev s_law_pen : Stmt := topS 42
theorem sc_law_pen : FnScope ["_law_script"] ["_law_script"] (defScope s_law_pen) :=
  ⟨rfl, rfl, rfl, by decide +kernel, rfl, by decide +kernel, by decide +kernel⟩
def spStart (K : PySem.W.Frag) : Sp := fun vs H Q _ => ∃ (a : Addr) (ns : List Int), vs = [.ref a] ∧ SqL K H a (ns.map V.int) ∧ ns.length ≤ 63 ∧ ∀ p c H', Pen H' p c 0 → Ext H H' → Q (.ref p) H'
theorem ok_start {f : Addr} {fd : FuncData} {k : Nat} (F : Fun K "_law_pen" "_law_pen" s_law_pen f fd) : FnOk P w K mg base CX0 (k + 1) f fd ["_law_script"] (spStart K) := by
  refine F.ok sc_law_pen (fun vs H Q E h => ?_) (fun cdv A outer s H vs Q E hr h => ?_)
  · obtain ⟨a, ns, rfl, _⟩ := h
    rfl
  · obtain ⟨a, ns, rfl, hS, hns, q⟩ := h
    refine ⟨_, (pss_one (ps_ret (pe_lst (pa_cons (pe_slice (slL K) (pv 0) po_none (po_some pe_int)) (pa_cons pe_int (pa_cons pe_int pa_nil)))))), ?_⟩
    obtain ⟨cs, hcs, hcl⟩ := cut_ints ns none (some 63)
    refine ⟨_, rfl, 63, rfl, a, _, rfl, hS, fun c hc => ?_⟩
    rw [hcs]
    refine ⟨szL (show 3 ≤ 1000000 by decide), fun p hp => ?_⟩
    refine q p c _ ⟨cs, 0, 0, upd_same, ?_, by decide, by decide, by decide, by omega⟩ ((Ext.new hc).trans (Ext.new hp))
    exact Ext.new hp _ _ upd_same
abbrev s_law_draw : Stmt := topS 43
theorem sc_law_draw : FnScope ["_law_pen_here", "_law_many", "_law_digit", "_law_here", "_law_cell", "_law_low", "_law_stirred"] ["_law_pen_here", "_law_many"] (defScope s_law_draw) :=
  ⟨rfl, rfl, rfl, by decide +kernel, rfl, by decide +kernel, by decide +kernel⟩
def spDraw : Sp := fun vs H Q _ => ∃ (p c : Addr) (m : Int) (n : Nat), vs = [.ref p, .int m] ∧ Pen H p c n ∧ n < 1000000 ∧ 0 < m ∧ m ≤ 1000000 ∧
  ∀ r H', 0 ≤ r → r < m → Kp p H H' → Pen H' p c (n + 1) → Q (.int r) H'
theorem ok_draw {f : Addr} {fd : FuncData} {k : Nat} (F : Fun K "_law_draw" "_law_draw" s_law_draw f fd) (mlen : mg "len" = none) (mabs : mg "abs" = none) : FnOk P w K mg base CX0 (k + 1) f fd ["_law_pen_here", "_law_many"] spDraw := by
  refine F.ok sc_law_draw (fun vs H Q E h => ?_) (fun cdv A outer s H vs Q E hr h => ?_)
  · obtain ⟨p, c, m, n, rfl, _⟩ := h
    rfl
  · obtain ⟨p, c, m, n, rfl, hP, hn, m0, m1, q⟩ := h
    obtain ⟨cells, a, r, hp, hc, a0, a1, r0, cl⟩ := hP
    refine ⟨_, (pss_cons (ps_if (pt_cmpR op_gt (pe_ix (ixL K) (pv 0) pe_int (fun _ _ => rfl)) pe_int (nomark _)) (pss_cons (ps_set (i := 2) sc_law_draw.nd rfl (.inl rfl) (pe_op op_mod (pe_ix (ixL K) (pv 0) pe_int (fun _ _ => rfl)) (pv 1)))
      (pss_cons (ps_asg (pe_op op_fdiv (pe_ix (ixL K) (pv 0) pe_int (fun _ _ => rfl)) (pv 1)) (pg_sub (pv 0) pe_int set_list))
      (pss_one (ps_ret (pv 2))))) pss_nil)
      (pss_cons (ps_set (i := 3) sc_law_draw.nd rfl (.inl rfl) (pe_ix (ixL K) (pv 0) pe_int (fun _ _ => rfl)))
      (pss_cons (ps_asg (pe_op op_add (pv 3) pe_int) (pg_sub (pv 0) pe_int set_list))
      (pss_cons (ps_set (i := 4) sc_law_draw.nd rfl (.inl rfl) (pe_op op_add (pe_op op_mul pe_int (pv 3)) pe_int))
      (pss_cons (ps_if (pt_cmpR op_gt (pe_callB (lenQ K) (by rfl) mlen (by decide +kernel) (pa_cons (pe_ix (ixL K) (pv 0) pe_int (fun _ _ => rfl)) pa_nil)) pe_int (nomark _)) (pss_one (ps_set (i := 4) sc_law_draw.nd rfl (.inl rfl) (pe_ix (ixL K) (pe_ix (ixL K) (pv 0) pe_int (fun _ _ => rfl)) (pe_op op_mod (pv 3) (pe_callB (lenQ K) (by rfl) mlen (by decide +kernel) (pa_cons (pe_ix (ixL K) (pv 0) pe_int (fun _ _ => rfl)) pa_nil))) (fun _ _ => rfl)))) pss_nil)
      (pss_cons (ps_if (PW.pt (pw_and (pt_cmpR op_lt (pv 3) (pe_callB (lenQ K) (by rfl) mlen (by decide +kernel) (pa_cons (pe_ix (ixL K) (pv 0) pe_int (fun _ _ => rfl)) pa_nil)) (nomark _)) (pw_and1 (pt_cmpR op_ge (pe_callB call_abs (by rfl) mabs (by decide +kernel) (pa_cons (pv 4) pa_nil)) (pe_op op_pow pe_int pe_int) (nomark _))))) (pss_cons (ps_asg (pe_op op_fdiv (pe_callB call_abs (by rfl) mabs (by decide +kernel) (pa_cons (pv 4) pa_nil)) (pv 1)) (pg_sub (pv 0) pe_int set_list))
      (pss_one (ps_ret (pe_op op_mod (pe_callB call_abs (by rfl) mabs (by decide +kernel) (pa_cons (pv 4) pa_nil)) (pv 1))))) pss_nil)
      (pss_cons (ps_set (i := 5) sc_law_draw.nd rfl (.inl rfl) (pe_op op_add (pe_op op_add (pe_op op_add (pe_op op_mod (pv 4) pe_int) (pe_op op_mul (pe_op op_mul pe_int (pv 3)) (pv 3))) (pe_op op_mul pe_int (pv 3))) pe_int))
      (pss_cons (ps_set (i := 6) sc_law_draw.nd rfl (.inl rfl) (pe_op op_mod (pe_op op_pow (pv 5) pe_int) pe_int))
      (pss_cons (ps_set (i := 6) sc_law_draw.nd rfl (.inl rfl) (pe_op op_mod (pe_op op_mul (pe_op op_pow (pe_op op_add (pe_op op_add (pv 6) (pe_op op_mul pe_int (pv 3))) pe_int) pe_int) (pe_op op_add (pe_op op_mod (pv 6) pe_int) pe_int)) pe_int))
      (pss_one (ps_ret (pe_op op_mod (pe_op op_fdiv (pv 6) pe_int) (pv 1))))))))))))), ?_⟩
    have ncp : c ≠ p := ne_of hc hp (by
      intro z
      injection z with z
      cases cells with
      | nil => cases z
      | cons x y => injection z with z1 _; cases z1)
    refine ⟨.ref p, rfl, p, _, 2, .int r, rfl, rfl, SqL.of hp, rfl, _, _, rfl, rfl, _, rfl, ite2 (fun e => ?_) (fun e => ?_)⟩
    · refine ⟨.ref p, rfl, p, _, 2, .int r, rfl, rfl, SqL.of hp, rfl, .int m, rfl, r, m, rfl, rfl, m0, ?_⟩
      refine ⟨.ref p, rfl, p, _, 2, .int r, rfl, rfl, SqL.of hp, rfl, .int m, rfl, r, m, rfl, rfl, ⟨m0, by omega⟩, .ref p, rfl, p, _, 2, 2, rfl, rfl, hp, rfl, ?_⟩
      refine ⟨_, rfl, q _ _ (Int.emod_nonneg _ (by omega)) (Int.emod_lt_of_pos _ m0) Kp.at ⟨cells, a, r / m, upd_same, ?_, a0, by omega, Int.ediv_nonneg r0 (by omega), cl⟩⟩
      rw [upd_ne ncp]
      exact hc
    · refine ⟨.ref p, rfl, p, _, 1, .int a, rfl, rfl, SqL.of hp, rfl, ?_⟩
      refine ⟨.int a, rfl, a, 1, rfl, rfl, .ref p, rfl, p, _, 1, 1, rfl, rfl, hp, rfl, ?_⟩
      have hp2 : (upd H p (.lst [.ref c, .int (a + 1), .int r])) p = some (.lst [.ref c, .int (a + 1), .int r]) := upd_same
      have hc2 : (upd H p (.lst [.ref c, .int (a + 1), .int r])) c = some (.lst (cells.map V.int)) := by
        rw [upd_ne ncp]
        exact hc
      have k2 : Kp p H (upd H p (.lst [.ref c, .int (a + 1), .int r])) := Kp.at
      have hl1 : ((cells.map V.int).length : Int) = cells.length := by rw [List.length_map]
      refine ⟨.int a, rfl, 91009, a, rfl, rfl, .inl ⟨by decide, by decide⟩, _, 53, rfl, rfl, ?_⟩
      refine ⟨.ref p, rfl, p, _, 0, .ref c, rfl, rfl, SqL.of hp2, rfl, c, _, rfl, .inl (SqL.of hc2), _, _, rfl, rfl, _, rfl, ite2 (fun e1 => ?_) (fun e1 => ?_)⟩
      · have hl2 : (0 : Int) < ((cells.map V.int).length : Int) := by simpa using e1
        obtain ⟨z, _, hat⟩ := atI_ints (ns := cells) (Int.emod_nonneg a (show ((cells.map V.int).length : Int) ≠ 0 by omega)) (by
          have := Int.emod_lt_of_pos a (show (0 : Int) < ((cells.map V.int).length : Int) by omega)
          omega)
        refine ⟨.ref p, rfl, p, _, 0, .ref c, rfl, rfl, SqL.of hp2, rfl, .int a, rfl, .ref p, rfl, p, _, 0, .ref c, rfl, rfl, SqL.of hp2, rfl, c, _, rfl, .inl (SqL.of hc2), _, _, rfl, rfl, hl2, c, _, _, _, rfl, rfl, SqL.of hc2, hat, ?_⟩
        refine ⟨.int a, rfl, .ref p, rfl, p, _, 0, .ref c, rfl, rfl, SqL.of hp2, rfl, c, _, rfl, .inl (SqL.of hc2), _, _, rfl, rfl, _, rfl, ite2 (fun e2 => ?_) (fun e2 => ?_)⟩
        refine ⟨_, rfl, _, rfl, 10, 18, rfl, rfl, ⟨by decide, by decide, by decide⟩, _, _, rfl, rfl, _, rfl, ite2 (fun e3 => ?_) (fun e3 => ?_)⟩
        · refine ⟨_, rfl, _, rfl, .int m, rfl, _, m, rfl, rfl, ⟨m0, by omega⟩, .ref p, rfl, p, _, 2, 2, rfl, rfl, hp2, rfl, ?_⟩
          refine ⟨_, rfl, _, rfl, .int m, rfl, _, m, rfl, rfl, m0, q _ _ (Int.emod_nonneg _ (by omega)) (Int.emod_lt_of_pos _ m0) (k2.trans Kp.at) ⟨cells, a + 1, _, upd_same, ?_, by omega, by omega, Int.ediv_nonneg ?_ (by omega), cl⟩⟩
          · rw [upd_ne ncp]
            exact hc2
          · split <;> omega
        all_goals
          refine ⟨_, rfl, _, 2147483497, rfl, rfl, (show (0 : Int) < 2147483497 by decide), .int a, rfl, 50021, a, rfl, rfl, .inl ⟨by decide, by decide⟩, .int a, rfl, _, a, rfl, rfl, .inl ⟨by omega, by omega⟩, _, _, rfl, rfl, .int a, rfl, 40009, a, rfl, rfl, .inl ⟨by decide, by decide⟩, _, _, rfl, rfl, _, 67, rfl, rfl, ?_⟩
          refine ⟨_, rfl, _, 3, rfl, rfl, ⟨by decide, by decide, draw_b1 a0 (by omega)⟩, _, 2147483629, rfl, rfl, (show (0 : Int) < 2147483629 by decide), ?_⟩
          refine ⟨_, rfl, .int a, rfl, 31, a, rfl, rfl, .inl ⟨by decide, by decide⟩, _, _, rfl, rfl, _, 17, rfl, rfl, _, 2, rfl, rfl, ⟨by decide, by decide, draw_b3 _ a0 (by omega)⟩, _, rfl, _, 90001, rfl, rfl, (show (0 : Int) < 90001 by decide), _, 11, rfl, rfl, _, _, rfl, rfl, .inr (draw_b4 _), _, 2147483549, rfl, rfl, (show (0 : Int) < 2147483549 by decide), ?_⟩
          refine ⟨_, rfl, _, 64, rfl, rfl, ⟨by decide, by decide⟩, .int m, rfl, _, m, rfl, rfl, m0, q _ _ (Int.emod_nonneg _ (by omega)) (Int.emod_lt_of_pos _ m0) k2 ⟨cells, a + 1, r, hp2, hc2, by omega, by omega, r0, cl⟩⟩
      · refine ⟨.int a, rfl, .ref p, rfl, p, _, 0, .ref c, rfl, rfl, SqL.of hp2, rfl, c, _, rfl, .inl (SqL.of hc2), _, _, rfl, rfl, _, rfl, ite2 (fun e2 => ?_) (fun e2 => ?_)⟩
        · exfalso
          have h1 : ¬ (0 : Int) < ((cells.map V.int).length : Int) := by simpa using e1
          have h2 : a < ((cells.map V.int).length : Int) := by simpa using e2
          omega
        · refine ⟨_, rfl, _, 2147483497, rfl, rfl, (show (0 : Int) < 2147483497 by decide), .int a, rfl, 50021, a, rfl, rfl, .inl ⟨by decide, by decide⟩, .int a, rfl, _, a, rfl, rfl, .inl ⟨by omega, by omega⟩, _, _, rfl, rfl, .int a, rfl, 40009, a, rfl, rfl, .inl ⟨by decide, by decide⟩, _, _, rfl, rfl, _, 67, rfl, rfl, ?_⟩
          refine ⟨_, rfl, _, 3, rfl, rfl, ⟨by decide, by decide, draw_b1 a0 (by omega)⟩, _, 2147483629, rfl, rfl, (show (0 : Int) < 2147483629 by decide), ?_⟩
          refine ⟨_, rfl, .int a, rfl, 31, a, rfl, rfl, .inl ⟨by decide, by decide⟩, _, _, rfl, rfl, _, 17, rfl, rfl, _, 2, rfl, rfl, ⟨by decide, by decide, draw_b3 _ a0 (by omega)⟩, _, rfl, _, 90001, rfl, rfl, (show (0 : Int) < 90001 by decide), _, 11, rfl, rfl, _, _, rfl, rfl, .inr (draw_b4 _), _, 2147483549, rfl, rfl, (show (0 : Int) < 2147483549 by decide), ?_⟩
          refine ⟨_, rfl, _, 64, rfl, rfl, ⟨by decide, by decide⟩, .int m, rfl, _, m, rfl, rfl, m0, q _ _ (Int.emod_nonneg _ (by omega)) (Int.emod_lt_of_pos _ m0) k2 ⟨cells, a + 1, r, hp2, hc2, by omega, by omega, r0, cl⟩⟩
abbrev CDraw (P : Program) (w : World) (K : PySem.W.Frag) (mg : Str → Option Value) (base : Heap) : Prop := Ca P w K mg base 1 "_law_draw" ["_law_pen_here", "_law_many"] spDraw
end
end Pf


namespace Pf
open PySem PySem.Spec PyProof.Rows L2
def SeqOf (H : Hp) (v : V) (xs : List V) : Prop := (∃ a, v = .ref a ∧ H a = some (.lst xs)) ∨ (∃ a, v = .ref a ∧ Rd H a (.tup xs)) ∨ ∃ z : Str, v = .str z ∧ xs = z.cps.toList.map fun c => V.str ⟨#[c]⟩
section
variable {P : Program} {w : World} {K : PySem.W.Frag} {mg : Str → Option Value} {base : Heap}
abbrev s_law_pick : Stmt := topS 44
theorem sc_law_pick : FnScope ["_law_pen_here", "_law_some"] ["_law_pen_here", "_law_some"] (defScope s_law_pick) :=
  ⟨rfl, rfl, rfl, by decide +kernel, rfl, by decide +kernel, by decide +kernel⟩
def spPick : Sp := fun vs H Q _ => ∃ (p c : Addr) (v : V) (xs : List V) (n : Nat), vs = [.ref p, v] ∧ SeqOf H v xs ∧ v ≠ .ref p ∧ 0 < xs.length ∧ xs.length < 1000000 ∧ Pen H p c n ∧ n < 1000000 ∧
  ∀ x H', x ∈ xs → Kp p H H' → Pen H' p c (n + 1) → Q x H'
theorem ok_pick {f : Addr} {fd : FuncData} (F : Fun K "_law_pick" "_law_pick" s_law_pick f fd) (c_law_draw : CDraw P w K mg base) (mlen : mg "len" = none) : FnOk P w K mg base CX0 2 f fd ["_law_pen_here", "_law_some"] spPick := by
  refine F.ok sc_law_pick (fun vs H Q E h => ?_) (fun cdv A outer s H vs Q E hr h => ?_)
  · obtain ⟨p, c, v, xs, n, rfl, _⟩ := h
    rfl
  · obtain ⟨p, c, v, xs, n, rfl, hv, hvp, x0, x1, hP, hn, q⟩ := h
    refine ⟨_, (pss_one (ps_ret (pe_ix (ixA K) (pv 1) (pe_ca c_law_draw (hr.mono (by decide)) (by rfl) (pa_cons (pv 0) (pa_cons (pe_callB (lenA K) (by rfl) mlen (by decide +kernel) (pa_cons (pv 1) pa_nil)) pa_nil))) (fun _ _ => rfl)))), ?_⟩
    rcases hv with ⟨a, rfl, ha⟩ | ⟨a, rfl, ha⟩ | ⟨z, rfl, ez⟩
    · have nap : a ≠ p := fun z => hvp (by rw [z])
      refine ⟨_, rfl, _, rfl, _, rfl, _, xs.length, rfl, .inl ⟨xs, SqL.of ha, rfl⟩, p, c, xs.length, n, rfl, hP, hn, by omega, by omega, fun r H' r0 r1 k hP' => ?_⟩
      obtain ⟨x, hx, hat⟩ := atI_mem r0 r1
      exact .inl ⟨a, xs, r, x, rfl, rfl, SqL.of (k _ _ nap ha), hat, q x H' hx k hP'⟩
    · refine ⟨_, rfl, _, rfl, _, rfl, _, xs.length, rfl, .inr ⟨xs, .inl ha, rfl⟩, p, c, xs.length, n, rfl, hP, hn, by omega, by omega, fun r H' r0 r1 k hP' => ?_⟩
      obtain ⟨x, hx, hat⟩ := atI_mem r0 r1
      exact .inr (.inl ⟨a, xs, r, x, rfl, rfl, .inl (ha.elim (fun e => .inl (k _ _ (hP.tup e) e)) fun ⟨o, e⟩ => .inr ⟨o, k _ _ (hP.frz e) e⟩), hat, q x H' hx k hP'⟩)
    · have hz : xs.length = z.length := by
        rw [ez, List.length_map, Array.length_toList]
        rfl
      refine ⟨_, rfl, _, rfl, _, rfl, _, z.length, rfl, ⟨szL (by omega), rfl⟩, p, c, z.length, n, rfl, hP, hn, by omega, by omega, fun r H' r0 r1 k hP' => ?_⟩
      obtain ⟨x, hx, hat⟩ := atI_mem (xs := z.cps.toList) r0 (by rw [Array.length_toList]; exact r1)
      exact .inr (.inr ⟨z, r, x, rfl, rfl, szL (by omega), hat, q _ H' (by rw [ez]; exact List.mem_map.mpr ⟨x, hx, rfl⟩) k hP'⟩)
abbrev CPick (P : Program) (w : World) (K : PySem.W.Frag) (mg : Str → Option Value) (base : Heap) : Prop := Ca P w K mg base 2 "_law_pick" ["_law_pen_here", "_law_some"] spPick
abbrev s_law_worth : Stmt := topS 45
theorem sc_law_worth : FnScope ["_law_pen_here", "_law_some"] ["_law_pen_here"] (defScope s_law_worth) :=
  ⟨rfl, rfl, rfl, by decide +kernel, rfl, by decide +kernel, by decide +kernel⟩
def spWorth : Sp := fun vs H Q _ => ∃ (p c : Addr) (n : Nat), vs = [.ref p] ∧ Pen H p c n ∧ n + 3 < 1000000 ∧
  ∀ (i : Int) H', -99 ≤ i → i ≤ 99 → Kp p H H' → Pen H' p c (n + 4) → Q (.int i) H'
theorem ok_worth {f : Addr} {fd : FuncData} (F : Fun K "_law_worth" "_law_worth" s_law_worth f fd) (c_law_draw : CDraw P w K mg base) (c_law_pick : CPick P w K mg base) : FnOk P w K mg base CX0 3 f fd ["_law_pen_here"] spWorth := by
  refine F.ok sc_law_worth (fun vs H Q E h => ?_) (fun cdv A outer s H vs Q E hr h => ?_)
  · obtain ⟨p, c, n, rfl, _⟩ := h
    rfl
  · obtain ⟨p, c, n, rfl, hP, hn, q⟩ := h
    refine ⟨_, (pss_cons (ps_set (i := 1) sc_law_worth.nd rfl (.inl rfl) (pe_lst (pa_cons pe_int (pa_cons (pe_op op_sub (pe_ca c_law_draw (hr.mono (by decide)) (by rfl) (pa_cons (pv 0) (pa_cons pe_int pa_nil))) pe_int) (pa_cons (pe_op op_sub (pe_ca c_law_draw (hr.mono (by decide)) (by rfl) (pa_cons (pv 0) (pa_cons pe_int pa_nil))) pe_int) (pa_cons (pe_op op_sub (pe_ca c_law_draw (hr.mono (by decide)) (by rfl) (pa_cons (pv 0) (pa_cons pe_int pa_nil))) pe_int) (pa_cons pe_int (pa_cons (pe_un un_neg pe_int) pa_nil))))))))
      (pss_one (ps_ret (pe_ix (ixL K) (pv 1) (pe_ca c_law_pick (hr.mono (by decide)) (by rfl) (pa_cons (pv 0) (pa_cons (pe_lst (pa_cons pe_int (pa_cons pe_int (pa_cons pe_int (pa_cons pe_int (pa_cons pe_int (pa_cons pe_int (pa_cons pe_int (pa_cons pe_int pa_nil))))))))) pa_nil))) (fun _ _ => rfl))))), ?_⟩
    refine ⟨_, rfl, p, c, 19, n, rfl, hP, by omega, by decide, by decide, fun r1 H1 r1a r1b k1 hP1 => ⟨r1, 9, rfl, rfl, ?_⟩⟩
    refine ⟨_, rfl, p, c, 19, n + 1, rfl, hP1, by omega, by decide, by decide, fun r2 H2 r2a r2b k2 hP2 => ⟨r2, 9, rfl, rfl, ?_⟩⟩
    refine ⟨_, rfl, p, c, 7, n + 2, rfl, hP2, by omega, by decide, by decide, fun r3 H3 r3a r3b k3 hP3 => ⟨r3, 3, rfl, rfl, 99, rfl, ?_⟩⟩
    refine ⟨szL (show 6 ≤ 1000000 by decide), fun l hl => ?_⟩
    have hP4 := hP3.new (o := .lst [.int 0, .int (r1 - 9), .int (r2 - 9), .int (r3 - 3), .int 99, .int (-99)]) hl
    refine ⟨_, rfl, _, rfl, szL (show 8 ≤ 1000000 by decide), fun l2 hl2 => ?_⟩
    have nl2 := hP4.ne hl2
    have nl := hP3.ne hl
    refine ⟨p, c, .ref l2, [0, 1, 1, 2, 3, 3, 4, 5].map V.int, n + 3, rfl, .inl ⟨l2, rfl, upd_same⟩, (fun z => nl2.1 (by injection z)), (show 0 < 8 by decide), (show 8 < 1000000 by decide), hP4.new hl2, by omega, fun x H5 hx k5 hP5 => ?_⟩
    obtain ⟨t, ht, rfl⟩ := List.mem_map.mp hx
    have ht2 : 0 ≤ t ∧ t < 6 := by
      simp only [List.mem_cons, List.not_mem_nil, or_false] at ht
      omega
    obtain ⟨z, hz, hat⟩ := atI_ints (ns := [0, r1 - 9, r2 - 9, r3 - 3, 99, -99]) ht2.1 ht2.2
    have hz2 : -99 ≤ z ∧ z ≤ 99 := by
      simp only [List.mem_cons, List.not_mem_nil, or_false] at hz
      omega
    exact ⟨l, _, t, _, rfl, rfl, SqL.of (k5 _ _ nl.1 (Ext.new hl2 _ _ upd_same)), hat, q z _ hz2.1 hz2.2 ((((k1.trans k2).trans k3).trans (Kp.new hl)).trans ((Kp.new hl2).trans k5)) hP5⟩
abbrev CWorth (P : Program) (w : World) (K : PySem.W.Frag) (mg : Str → Option Value) (base : Heap) : Prop := Ca P w K mg base 3 "_law_worth" ["_law_pen_here"] spWorth
end
end Pf


namespace Pf
open PySem PySem.Spec PyProof.Rows L2
/-! ### dict(zip(a, b)) of two tuples -/
section
variable {P : Program} {w : World} {A : Around} {E : Value → Shared → Prop} {s : Shared} {q U O G j1 j2 m1 m2 : Addr} {f : Bool} {og : Obj} {k1 k2 : Nat} {us vs : Array Value}
theorem zn_item {u v : Value} {R : Value → Shared → Prop} (D : ZipApart q U O j1 j2 m1 m2) (hq : IsZipHeld s.heap q U O G f) (hG : s.heap.get? G = some og) (hU : IsPair s.heap U (.ref j1) (.ref j2)) (t1 : s.heap.IsTupleIter j1 m1 k1) (t2 : s.heap.IsTupleIter j2 m2 k2) (b1 : s.heap.IsTuple m1 us) (b2 : s.heap.IsTuple m2 vs) (eu : us[k1]? = some u) (ev : vs[k2]? = some v)
    (next : ∀ h', IsZipHeld h' q U O G true → h'.IsTupleIter j1 m1 (k1 + 1) → h'.IsTupleIter j2 m2 (k2 + 1) → IsPair h' s.heap.objs.size u v → (∀ c o, c ≠ q → c ≠ j1 → c ≠ j2 → s.heap.get? c = some o → h'.get? c = some o) → R (.ref s.heap.objs.size) { s with heap := h' }) :
    wpAny (model P w) A (Builtin.«zip.__next__» ⟨[.ref q], []⟩) (fun fin s' => ∃ v, fin = .done (.ret v) ∧ R v s') E s := by
  show wpAny _ _ (field (.ref q) 2 >>= _) _ _ _
  refine wpAny_bind (wpAny_field hq rfl (x := .bool false) rfl ?_)
  show wpAny _ _ (field (.ref q) 3 >>= _) _ _ _
  refine wpAny_bind (wpAny_field hq rfl (x := .ref U) rfl (wpAny_bind (wpAny_seqItems hU rfl ?_)))
  show wpAny _ _ (Builtin.SmallTypes.ownedTupleIsFree (.ref q) >>= _) _ _ _
  refine wpAny_bind (wpAny_tupleHeld_zip hq hG fun g1 q1 e1 => ?_)
  simp only [Bool.false_eq_true, if_false]; refine wpAny_bind ?_; rw [← Array.forIn_toList]; simp only [List.forIn_cons, List.forIn_nil]
  refine wpAny_bind (wpAny_bind (wpAny_holding ?_))
  show wpAny _ _ (Builtin.SmallTypes.nextOf (.ref j1) >>= _) _ _ _
  refine wpAny_bind (RZ.nextOf_tuple_item (s := { s with heap := g1 }) (t1.extBut e1.extBut D.i1z) (b1.extBut e1.extBut D.l1z) eu fun g2 t1b e2 => wpAny_pure (wpAny_pure ?_))
  refine wpAny_bind (wpAny_bind (wpAny_holding ?_))
  show wpAny _ _ (Builtin.SmallTypes.nextOf (.ref j2) >>= _) _ _ _
  refine wpAny_bind (RZ.nextOf_tuple_item (s := { s with heap := g2 }) ((t2.extBut e1.extBut D.i2z).extBut e2.extBut D.i12.symm) ((b2.extBut e1.extBut D.l2z).extBut e2.extBut D.l2i1) ev fun g3 t2b e3 => wpAny_pure (wpAny_pure (wpAny_pure ?_)))
  show wpAny _ _ (newTuple [u, v] >>= _) _ _ _
  refine wpAny_bind (wpAny_newTuple (wpAny_pure ⟨_, rfl, ?_⟩))
  have sz : g3.objs.size = s.heap.objs.size := by rw [e3.1, e2.1, e1.1]
  have q3 : IsZipHeld g3 q U O G true := e3.extBut _ _ D.i2z.symm (e2.extBut _ _ D.i1z.symm q1)
  have pr : IsPair (g3.push { cls := .type "tuple", data := .seq #[u, v] }) g3.objs.size u v := Heap.get?_push_size _ rfl
  show R (.ref g3.objs.size) _
  rw [sz] at pr ⊢
  exact next _ (Heap.get?_push_of_some _ q3) ((t1b.extBut e3.extBut D.i12).at fun o e => Heap.get?_push_of_some _ e) (t2b.at fun o e => Heap.get?_push_of_some _ e) pr fun c o c1 c2 c3 e => Heap.get?_push_of_some _ (e3.extBut _ _ c3 (e2.extBut _ _ c2 (e1.extBut _ _ c1 e)))
theorem zn_end {R : Fin → Shared → Prop} (hh : A.handled = none) (D : ZipApart q U O j1 j2 m1 m2) (hq : IsZipHeld s.heap q U O G f) (hG : s.heap.get? G = some og) (hU : IsPair s.heap U (.ref j1) (.ref j2)) (t1 : s.heap.IsTupleIter j1 m1 k1) (b1 : s.heap.IsTuple m1 us) (eu : us[k1]? = none)
    (next : ∀ h' e, (∀ c o, c ≠ q → c ≠ j1 → s.heap.get? c = some o → h'.get? c = some o) → (∃ o, h'.get? e = some o ∧ o.cls = .type "StopIteration") → E (.ref e) { s with heap := h' }) :
    wpAny (model P w) A (Builtin.«zip.__next__» ⟨[.ref q], []⟩) R E s := by
  show wpAny _ _ (field (.ref q) 2 >>= _) _ _ _
  refine wpAny_bind (wpAny_field hq rfl (x := .bool false) rfl ?_)
  show wpAny _ _ (field (.ref q) 3 >>= _) _ _ _
  refine wpAny_bind (wpAny_field hq rfl (x := .ref U) rfl (wpAny_bind (wpAny_seqItems hU rfl ?_)))
  show wpAny _ _ (Builtin.SmallTypes.ownedTupleIsFree (.ref q) >>= _) _ _ _
  refine wpAny_bind (wpAny_tupleHeld_zip hq hG fun g1 q1 e1 => ?_)
  simp only [Bool.false_eq_true, if_false]; refine wpAny_bind ?_; rw [← Array.forIn_toList]; simp only [List.forIn_cons, List.forIn_nil]
  refine wpAny_bind (wpAny_bind (wpAny_holding ?_))
  show wpAny _ _ (Builtin.SmallTypes.nextOf (.ref j1) >>= _) _ _ _
  exact wpAny_bind (RZ.nextOf_tuple_end (s := { s with heap := g1 }) hh (t1.extBut e1.extBut D.i1z) (b1.extBut e1.extBut D.l1z) eu fun g2 e e2 he => next g2 e (fun c o c1 c2 x => e2 _ _ c2 (e1.extBut _ _ c1 x)) he)
theorem zp_item {u v : Value} {R : Option Value → Shared → Prop} (D : ZipApart q U O j1 j2 m1 m2) (hq : IsZipHeld s.heap q U O G f) (hG : s.heap.get? G = some og) (hU : IsPair s.heap U (.ref j1) (.ref j2)) (t1 : s.heap.IsTupleIter j1 m1 k1) (t2 : s.heap.IsTupleIter j2 m2 k2) (b1 : s.heap.IsTuple m1 us) (b2 : s.heap.IsTuple m2 vs) (eu : us[k1]? = some u) (ev : vs[k2]? = some v)
    (next : ∀ h', IsZipHeld h' q U O G true → h'.IsTupleIter j1 m1 (k1 + 1) → h'.IsTupleIter j2 m2 (k2 + 1) → IsPair h' s.heap.objs.size u v → (∀ c o, c ≠ q → c ≠ j1 → c ≠ j2 → s.heap.get? c = some o → h'.get? c = some o) → R (some (.ref s.heap.objs.size)) { s with heap := h' }) :
    wpAny (model P w) A (pyNext (.ref q)) R E s := by
  have ty : s.TypeIs (.ref q) "zip" := ⟨_, hq, rfl⟩
  unfold pyNext
  exact wpAny_bind (wpAny_attempt (wpAny_callSpecial?_slot (name := Str.ofString "__next__") ty F.slot_zip_next (wpAny_call_entry F.slot_zip_next ty F.entry_zip_next (zn_item D hq hG hU t1 t2 b1 b2 eu ev fun h' a1 a3 a4 a5 a7 => wpAny_pure (next h' a1 a3 a4 a5 a7)) (F.args_zip_next_1 _))))
theorem zp_end {R : Option Value → Shared → Prop} (hh : A.handled = none) (D : ZipApart q U O j1 j2 m1 m2) (hq : IsZipHeld s.heap q U O G f) (hG : s.heap.get? G = some og) (hU : IsPair s.heap U (.ref j1) (.ref j2)) (t1 : s.heap.IsTupleIter j1 m1 k1) (b1 : s.heap.IsTuple m1 us) (eu : us[k1]? = none)
    (next : ∀ h', (∀ c o, c ≠ q → c ≠ j1 → s.heap.get? c = some o → h'.get? c = some o) → R none { s with heap := h' }) : wpAny (model P w) A (pyNext (.ref q)) R E s := by
  have ty : s.TypeIs (.ref q) "zip" := ⟨_, hq, rfl⟩
  unfold pyNext
  refine wpAny_bind (wpAny_attempt (wpAny_callSpecial?_slot (name := Str.ofString "__next__") ty F.slot_zip_next (wpAny_call_entry F.slot_zip_next ty F.entry_zip_next (zn_end hh D hq hG hU t1 b1 eu fun h' e kp ⟨o, ho, hc⟩ => ?_) (F.args_zip_next_1 _))))
  exact wpAny_bind (wpAny_isInstance (T := "StopIteration") (b := true) ⟨o, ho, hc⟩ isSubtype_stop (wpAny_pure (next _ kp)))
end
theorem zipT_arg {P : Program} {w : World} (q U O j1 j2 m1 m2 : Addr) (D : ZipApart q U O j1 j2 m1 m2) (us vs : Array Value) (hl : us.size = vs.size) :
    PairArg P w "zip" q [q, U, O, j1, j2, m1, m2] [q, O, j1, j2] us.size (fun i k v => us[i]? = some k ∧ vs[i]? = some v)
      (fun h => IsZip h q U O .none ∧ IsPair h U (.ref j1) (.ref j2) ∧ (∃ a b, IsPair h O a b) ∧ h.IsTupleIter j1 m1 0 ∧ h.IsTupleIter j2 m2 0 ∧ h.IsTuple m1 us ∧ h.IsTuple m2 vs) where
  type := fun s ok => ⟨_, ok.1, rfl⟩
  notDict := by decide
  keep := fun h h' ⟨z0, z1, ⟨a, b, z2⟩, z3, z4, z5, z6⟩ k => ⟨k _ _ z0, k _ _ z1, ⟨a, b, k _ _ z2⟩, z3.at fun o e => k _ o e, z4.at fun o e => k _ o e, z5.at fun o e => k _ o e, z6.at fun o e => k _ o e⟩
  there := fun h ⟨z0, z1, ⟨a, b, z2⟩, ⟨_, z3, _⟩, ⟨_, z4, _⟩, ⟨_, z5, _⟩, ⟨_, z6, _⟩⟩ c hc => by
    simp only [List.mem_cons, List.not_mem_nil, or_false] at hc
    rcases hc with rfl | rfl | rfl | rfl | rfl | rfl | rfl
    · exact ⟨_, z0⟩
    · exact ⟨_, z1⟩
    · exact ⟨_, z2⟩
    · exact ⟨_, z3⟩
    · exact ⟨_, z4⟩
    · exact ⟨_, z5⟩
    · exact ⟨_, z6⟩
  sub := fun b hb => by simp only [List.mem_cons, List.not_mem_nil, or_false] at hb ⊢; rcases hb with rfl | rfl | rfl | rfl <;> simp
  noKeys := fun A s Q E hA ok h => getAttrOr_miss_zip ok.1 rfl rfl rfl zip_no_keys (by decide +kernel) hA h
  iter := fun A s d Q E hA ⟨z0, z1, ⟨a, b, z2⟩, z3, z4, z5, z6⟩ hd hdf h => by
    simp only [List.mem_cons, List.not_mem_nil, or_false, not_or] at hdf
    obtain ⟨d0, d1, d2, d3, d4, d5, d6⟩ := hdf
    refine wpAny_pyIter_zip z0 (h q [q, O, j1, j2] (fun i h => IsPair h U (.ref j1) (.ref j2) ∧ h.IsTupleIter j1 m1 i ∧ h.IsTupleIter j2 m2 i ∧ h.IsTuple m1 us ∧ h.IsTuple m2 vs ∧ ((IsZip h q U O .none ∧ ∃ a b, IsPair h O a b) ∨ ∃ G f og, IsZipHeld h q U O G f ∧ h.get? G = some og ∧ G ≠ q ∧ G ≠ j1 ∧ G ≠ j2 ∧ G ≠ d)) s.heap s.toks ?_ ⟨z1, z3, z4, z5, z6, .inl ⟨z0, a, b, z2⟩⟩ (fun _ _ e => e) fun b hb => .inl hb)
    refine { off := fun hm => ?_, frame := fun i g1 g2 st k => ?_, item := fun i s1 Q1 E1 hi st hds next => ?_, done := fun s1 Q1 E1 st next => ?_ }
    · simp only [List.mem_cons, List.not_mem_nil, or_false] at hm
      rcases hm with e | e | e | e
      · exact d0 e
      · exact d2 e
      · exact d3 e
      · exact d4 e
    · obtain ⟨y1, y3, y4, y5, y6, y⟩ := st
      refine ⟨k _ _ (Ne.symm d1) y1, y3.at fun o e => k _ o (Ne.symm d3) e, y4.at fun o e => k _ o (Ne.symm d4) e, y5.at fun o e => k _ o (Ne.symm d5) e, y6.at fun o e => k _ o (Ne.symm d6) e, ?_⟩
      rcases y with ⟨y0, a, b, y2⟩ | ⟨G, f, og, y0, yG, r1, r2, r3, r4⟩
      · exact .inl ⟨k _ _ (Ne.symm d0) y0, a, b, k _ _ (Ne.symm d2) y2⟩
      · exact .inr ⟨G, f, og, k _ _ (Ne.symm d0) y0, k _ _ r4 yG, r1, r2, r3, r4⟩
    · obtain ⟨y1, y3, y4, y5, y6, y⟩ := st
      have eu := Array.getElem?_eq_getElem hi
      have ev := Array.getElem?_eq_getElem (hl ▸ hi : i < vs.size)
      have lt : ∀ {c o}, s1.heap.get? c = some o → s1.heap.objs.size ≠ c := fun e => Nat.ne_of_gt (Heap.lt_size e)
      have n1 : s1.heap.objs.size ≠ j1 := let ⟨_, e, _⟩ := y3; lt e
      have n2 : s1.heap.objs.size ≠ j2 := let ⟨_, e, _⟩ := y4; lt e
      rcases y with ⟨y0, a, b, y2⟩ | ⟨G, f, og, y0, yG, r1, r2, r3, r4⟩
      · refine RZ.pyNext_zipT_item D y0 y1 y2 y3 y4 y5 y6 eu ev fun h' a1 a2 a3 a4 a5 a6 k => ?_
        refine next s1.heap.objs.size _ _ h' s1.toks ⟨eu, ev⟩ (.inl ⟨_, a5, rfl, _, rfl⟩) ⟨k _ _ D.TIz D.TITO D.TIi1 D.TIi2 y1, a3, a4, y5.at fun o e => k _ o D.l1z D.l1TO D.l1i1 D.l1i2 e, y6.at fun o e => k _ o D.l2z D.l2TO D.l2i1 D.l2i2 e, .inr ⟨s1.heap.objs.size, false, _, a1, a5, lt y0, n1, n2, Nat.ne_of_gt hds⟩⟩ fun c o hc e => ?_
        simp only [List.mem_cons, List.not_mem_nil, or_false, not_or] at hc
        exact k c o hc.1 hc.2.1 hc.2.2.1 hc.2.2.2 e
      · refine zp_item D y0 yG y1 y3 y4 y5 y6 eu ev fun h' a1 a3 a4 a5 k => ?_
        refine next s1.heap.objs.size _ _ h' s1.toks ⟨eu, ev⟩ (.inl ⟨_, a5, rfl, _, rfl⟩) ⟨k _ _ D.TIz D.TIi1 D.TIi2 y1, a3, a4, y5.at fun o e => k _ o D.l1z D.l1i1 D.l1i2 e, y6.at fun o e => k _ o D.l2z D.l2i1 D.l2i2 e, .inr ⟨G, true, og, a1, k _ _ r1 r2 r3 yG, r1, r2, r3, r4⟩⟩ fun c o hc e => ?_
        simp only [List.mem_cons, List.not_mem_nil, or_false, not_or] at hc
        exact k c o hc.1 hc.2.2.1 hc.2.2.2 e
    · obtain ⟨y1, y3, y4, y5, y6, y⟩ := st
      have eu : us[us.size]? = none := Array.getElem?_eq_none (Nat.le_refl _)
      rcases y with ⟨y0, a, b, y2⟩ | ⟨G, f, og, y0, yG, r1, r2, r3, r4⟩
      · refine RZ.pyNext_zipT_end hA D y0 y1 y2 y3 y4 y5 y6 (.inl eu) fun h' k => next h' s1.toks fun c o hc e => ?_
        simp only [List.mem_cons, List.not_mem_nil, or_false, not_or] at hc
        exact k c o hc.1 hc.2.1 hc.2.2.1 hc.2.2.2 e
      · refine zp_end hA D y0 yG y1 y3 y5 eu fun h' k => next h' s1.toks fun c o hc e => ?_
        simp only [List.mem_cons, List.not_mem_nil, or_false, not_or] at hc
        exact k c o hc.1 hc.2.2.1 e
theorem kv_zip {P : Program} {w : World} : ∀ {kvs : List (Key × V)} {its its2 : List Value}, Vals (kvs.map fun x => kV x.1) its → Vals (kvs.map (·.2)) its2 → ∃ prs : List (Key × Value), KV kvs prs ∧ prs.length = kvs.length ∧ ∀ (i : Nat) (key v : Value), its[i]? = some key → its2[i]? = some v → ∃ k, prs[i]? = some (k, v) ∧ (mixKind P w).is k key = true
  | [], _, _, r1, r2 => ⟨[], .nil, rfl, fun i key v e _ => by
      cases r1
      cases e⟩
  | (k, y) :: rest, _, _, r1, r2 => by
    rw [List.map_cons] at r1 r2
    cases r1 with
    | cons a1 t1 =>
      cases r2 with
      | cons a2 t2 =>
        obtain ⟨prs, r, hl, hp⟩ := kv_zip (P := P) (w := w) t1 t2
        refine ⟨(k, _) :: prs, .cons ⟨rfl, a2⟩ r, by rw [List.length_cons, List.length_cons, hl], fun i key v e e2 => ?_⟩
        cases i with
        | zero =>
          rw [List.getElem?_cons_zero] at e e2
          cases e
          cases e2
          exact ⟨k, rfl, kV_is a1⟩
        | succ i =>
          rw [List.getElem?_cons_succ] at e e2
          exact hp i key v e e2
def tDz (K : PySem.W.Frag) (ta : TA) : TE := fun σ H Q => ta σ H fun vs H1 => ∃ (a b : Addr) (kvs : List (Key × V)), vs = [.ref a, .ref b] ∧ SqT K H1 a (kvs.map fun x => kV x.1) ∧ SqT K H1 b (kvs.map (·.2)) ∧ ∀ p, H1 p = none → Q (.ref p) (upd H1 p (.dK (mergeK [] kvs)))
theorem pe_dictZip {X : Cx} {e e2 : Expr} {ta : TA} {p p2 pos pos2 : Pos} (hgd : Gl X "dict") (hmd : X.mg "dict" = none) (hg : Gl X "zip") (hm : X.mg "zip" = none) (hcalm : X.calm = true) (ha : PA X [e, e2] ta)
    (na : starEach [.Call (.Name "zip" p2) [e, e2] [] pos2] X.env = (false, eval (.Call (.Name "zip" p2) [e, e2] [] pos2) X.env) :: starEach [] X.env := by rfl)
    (hs : starEach [e, e2] X.env = (false, eval e X.env) :: starEach [e2] X.env := by rfl) (hpl : (backTo pos2 (starEach [e2] X.env)).any (·.1) = false := by rfl) :
    PE X (.Call (.Name "dict" p) [.Call (.Name "zip" p2) [e, e2] [] pos2] [] pos) (tDz X.K ta) := by
  refine ⟨fun pins s σ H Q I h => ?_⟩
  refine Call_ (ld_blt I hgd hmd PyProof.Rows.boot_dict (PyProof.Rows.callWith_type1 (args_cons (Call_ (ld_blt I hg hm PyProof.Rows.boot_zip (PyProof.Rows.callWith_type1 (thn (ha.run pos2 pins s σ H _ I h) fun us s1 ⟨vs, H1, I1, r1, q1⟩ => ?_) hs hpl))) na) na))
  obtain ⟨a, b, kvs, rfl, ha1, hb1, q⟩ := q1
  cases r1 with
  | cons ra rr =>
    cases rr with
    | cons rb rr =>
      cases rr
      cases ra
      cases rb
      obtain ⟨its, v1, p1, hz1⟩ := I1.tuple ha1
      obtain ⟨its2, v2, p2', hz2⟩ := I1.tuple hb1
      obtain ⟨o1, ho1, y1⟩ := id p1
      obtain ⟨o2, ho2, y2⟩ := id p2'
      obtain ⟨prs, rel, hl, hp⟩ := kv_zip (P := X.prog) (w := X.w) v1 v2
      have l1 : its.length = kvs.length := by
        have := v1.length
        rw [List.length_map] at this
        exact this.symm
      have l2 : its2.length = kvs.length := by
        have := v2.length
        rw [List.length_map] at this
        exact this.symm
      rw [List.length_map] at hz1
      refine RZ.call_zipT (show s1.heap.IsTuple a its.toArray from p1) (show s1.heap.IsTuple b its2.toArray from p2') fun h' hz hTI hTO t1 t2 hsz hk => args_nil ?_
      have D := PySem.W.ktu_apart s1.heap.objs.size a b (Heap.lt_size ho1) (Heap.lt_size ho2)
      refine PySem.call_dict_pairs (knd := mixKind X.prog X.w) (kvs := prs) (zipT_arg _ _ _ _ _ a b D its.toArray its2.toArray (by rw [List.size_toArray, List.size_toArray, l1, l2])) (I1.ok.hd hcalm) ⟨hz, hTI, ⟨_, _, hTO⟩, t1, t2, ⟨o1, hk _ _ ho1, y1⟩, ⟨o2, hk _ _ ho2, y2⟩⟩ ⟨?_, fun i key v e => ?_⟩ ?_ fun h2 tk hd hk2 => ?_
      · rw [hl, List.size_toArray, l1]
      · exact hp i key v (by simpa using e.1) (by simpa using e.2)
      · rw [List.size_toArray, l1]
        exact hz1
      · have keep : ∀ c o, s1.heap.get? c = some o → h2.get? c = some o := fun c o e => by
          have hlt := Heap.lt_size e
          refine hk2 c o (fun hm => ?_) (hk c o e)
          simp only [List.mem_cons, List.not_mem_nil, or_false] at hm
          rcases hm with z | z | z | z
          · exact Nat.not_lt.mpr (Nat.le_add_right _ _) (z ▸ hlt)
          · exact Nat.not_lt.mpr (Nat.le_add_right _ _) (z ▸ hlt)
          · exact Nat.not_lt.mpr (Nat.le_refl _) (z ▸ hlt)
          · exact Nat.not_lt.mpr (Nat.le_add_right _ _) (z ▸ hlt)
        have hle : s1.heap.objs.size ≤ h'.objs.size := by
          rw [hsz]
          exact Nat.le_add_right _ _
        have hm : (h'.objs.size == sysModules) = false := beq_eq_false_iff_ne.mpr (Nat.ne_of_gt (Nat.lt_of_lt_of_le I1.big hle))
        have hlen : (mergeK [] kvs).length ≤ sizeLine := by
          refine Nat.le_trans (length_mergeK kvs []) ?_
          rw [List.length_nil, Nat.zero_add]
          exact hz1
        exact ⟨.ref h'.objs.size, upd H1 h'.objs.size (.dK (mergeK [] kvs)), I1.laid (t' := tk) keep hle (show ObjOk X.prog X.w _ _ _ (.dK (mergeK [] kvs)) from ⟨hlen, hm, merged [] prs, KV.merge rel .nil, hd⟩), rfl, q _ (I1.hok.fresh hle)⟩
end Pf


namespace Pf
open PySem PySem.Spec PyProof.Rows L2
/-! ### sum(lists, start) -/
abbrev LiO (its : List Value) (n : Nat) : Obj := { cls := .type "list", dict := none, data := .seq its.toArray n, slots := #[] }
section
variable {P : Program} {w : World} {A : Around} {R : Result → Shared → Prop} {I l S : Addr} {items : Array Value}
theorem suml_loop (hh : A.in1.handled = none) (nIS : I ≠ S) (nIl : l ≠ I) (nSl : l ≠ S) : ∀ (rest : List (Addr × List Value)) (i : Nat) (s : Shared) (t : Addr) (acc : List Value) (c1 ct : Nat), items.size = i + rest.length → s.heap.IsListIter I l i → s.heap.IsList l items →
    (∀ (j : Nat) (x : Addr × List Value), rest[j]? = some x → items[i + j]? = some (.ref x.1) ∧ x.1 ≠ I ∧ x.1 ≠ S ∧ ∃ c, s.heap.get? x.1 = some (LiO x.2 c)) → s.heap.get? S = some (LiO [.ref t] c1) → s.heap.get? t = some (LiO acc ct) → t ≠ I → t ≠ S →
    acc.length + (rest.map (·.2)).flatten.length ≤ sizeLine →
    (∀ h' tk t' c', h'.get? t' = some (LiO (acc ++ (rest.map (·.2)).flatten) c') → (rest = [] → t' = t) → (rest ≠ [] → s.heap.objs.size ≤ t') → (∀ b o, b ≠ I → b ≠ S → s.heap.get? b = some o → h'.get? b = some o) → R (.ok (.ret (.ref t'))) { s with heap := h', toks := tk }) →
    codeAny (model P w) A (.builtin "sum.loop" ⟨[.ref I, .ref S, rawInt 2, rawInt 0], []⟩) R s
  | [], i, s, t, acc, c1, ct, hn, it, hl, _, hS, ht, _, _, _, hR => by
    refine codeAny_builtin F.entry_sum_loop ?_; rw [Around.under_plainId F.plain_sum_loop _]
    show wpAny _ A.in1 (seqItems? (.ref S) >>= _) _ _ _
    refine wpAny_bind (wpAny_seqItems hS rfl ?_)
    show wpAny _ A.in1 (tryCatch (pyNext (.ref I)) _ >>= _) _ _ _
    refine wpAny_bind (wpAny_tryCatch (wpAny_pyNext_list_end hh it hl (Array.getElem?_eq_none (by rw [hn]; exact Nat.le_refl _)) fun h' he => ?_))
    exact wpAny_pure (hR h' s.toks t ct (by rw [List.map_nil, List.flatten_nil, List.append_nil]; exact he t _ (by assumption) ht) (fun _ => rfl) (fun z => absurd rfl z) fun b o n1 _ e => he b o n1 e)
  | (b, ys) :: rest, i, s, t, acc, c1, ct, hn, it, hl, hx, hS, ht, ntI, ntS, hz, hR => by
    obtain ⟨e0, nbI, nbS, cb, hb⟩ := hx 0 (b, ys) rfl
    rw [List.map_cons, List.flatten_cons] at hR
    rw [List.map_cons, List.flatten_cons, List.length_append] at hz
    have hz : acc.length + (ys.length + (rest.map (·.2)).flatten.length) ≤ sizeLine := hz
    refine codeAny_builtin F.entry_sum_loop ?_; rw [Around.under_plainId F.plain_sum_loop _]
    show wpAny _ A.in1 (seqItems? (.ref S) >>= _) _ _ _
    refine wpAny_bind (wpAny_seqItems hS rfl ?_)
    show wpAny _ A.in1 (tryCatch (pyNext (.ref I)) _ >>= _) _ _ _
    refine wpAny_bind (wpAny_tryCatch (wpAny_pyNext_list_item it hl e0 fun h1 it1 s1 => ?_))
    have hS1 := s1.extBut _ _ nIS.symm hS
    have ht1 := s1.extBut _ _ ntI ht
    have hb1 := s1.extBut _ _ nbI hb
    show wpAny _ A.in1 ((holding [Value.ref b] (binaryOp .Add (.ref t) (.ref b))).attempt >>= _) _ _ _
    refine wpAny_bind (wpAny_attempt (wpAny_holding (PySem.P.add_list (n := ct) (n2 := cb) ht1 hb1 ?_ (by rw [List.size_toArray, List.size_toArray]; show acc.length + ys.length ≤ _; omega))))
    have ea : acc.toArray ++ ys.toArray = (acc ++ ys).toArray := by simp
    rw [ea]
    have sz1 : h1.objs.size = s.heap.objs.size := s1.1
    generalize hh2 : h1.push { cls := Value.type "list", data := Data.seq (acc ++ ys).toArray } = h2
    have up2 : ∀ c o, h1.get? c = some o → h2.get? c = some o := fun c o e => hh2 ▸ Heap.get?_push_of_some _ e
    have new2 : h2.get? h1.objs.size = some (LiO (acc ++ ys) 0) := hh2 ▸ Heap.get?_push_size _ rfl
    have sz2 : h2.objs.size = h1.objs.size + 1 := hh2 ▸ Heap.size_push ..
    have ltS : S < h1.objs.size := Heap.lt_size hS1
    have ltI : I < h1.objs.size := by
      obtain ⟨_, e, _⟩ := it1
      exact Heap.lt_size e
    show wpAny _ A.in1 (updateSeq S (fun _ => #[.ref h1.objs.size]) >>= _) _ _ _
    refine wpAny_bind (wpAny_updateSeq (up2 _ _ hS1) rfl ?_)
    have hS3 := Heap.get?_update_self (Obj.mapSeq fun _ => #[Value.ref h1.objs.size]) (up2 _ _ hS1) rfl
    refine wpAny_bind (wpAny_letGo ?_)
    refine wpAny_bind (wpAny_updateSeq hS3 rfl (wpAny_pure ⟨plainId_quiet F.plain_sum_loop _, ?_⟩))
    have hS4 := Heap.get?_update_self (Obj.mapSeq fun _ => #[Value.ref h1.objs.size]) hS3 rfl
    have up4 : ∀ c o, c ≠ S → h2.get? c = some o → ((h2.update S (Obj.mapSeq fun _ => #[Value.ref h1.objs.size])).update S (Obj.mapSeq fun _ => #[Value.ref h1.objs.size])).get? c = some o := fun c o n e => (Heap.get?_update_other _ _ n.symm).trans ((Heap.get?_update_other _ _ n.symm).trans e)
    have all : ∀ c o, c ≠ I → c ≠ S → s.heap.get? c = some o → ((h2.update S (Obj.mapSeq fun _ => #[Value.ref h1.objs.size])).update S (Obj.mapSeq fun _ => #[Value.ref h1.objs.size])).get? c = some o := fun c o n1 n2 e => up4 c o n2 (up2 _ _ (s1.extBut _ _ n1 e))
    refine suml_loop hh nIS nIl nSl rest (i + 1) { s with heap := (h2.update S (Obj.mapSeq fun _ => #[Value.ref h1.objs.size])).update S (Obj.mapSeq fun _ => #[Value.ref h1.objs.size]) } h1.objs.size (acc ++ ys) _ 0 ?_ ?_ ?_ (fun j x hj => ?_) hS4 (up4 _ _ (Nat.ne_of_gt ltS) new2) (Nat.ne_of_gt ltI) (Nat.ne_of_gt ltS) ?_ fun h' tk t' c' g1 g2 g3 g4 => ?_
    · rw [hn, List.length_cons]
      omega
    · exact it1.at fun o e => up4 _ _ nIS (up2 _ _ e)
    · exact hl.at fun o e => all _ _ nIl nSl e
    · obtain ⟨y1, y2, y3, c, y4⟩ := hx (j + 1) x hj
      exact ⟨by rw [show i + 1 + j = i + (j + 1) by omega]; exact y1, y2, y3, c, all _ _ y2 y3 y4⟩
    · rw [List.length_append]
      omega
    · refine hR h' tk t' c' (by rw [← List.append_assoc]; exact g1) (fun z => nomatch z) (fun _ => ?_) fun b o n1 n2 e => g4 b o n1 n2 (all _ _ n1 n2 e)
      cases hr : rest with
      | nil =>
        rw [g2 hr, sz1]
        exact Nat.le_refl _
      | cons y r =>
        have := g3 (by rw [hr]; intro z; cases z)
        have e4 : ((h2.update S (Obj.mapSeq fun _ => #[Value.ref h1.objs.size])).update S (Obj.mapSeq fun _ => #[Value.ref h1.objs.size])).objs.size = h2.objs.size := by
          rw [Heap.size_update, Heap.size_update]
        exact Nat.le_trans (by rw [← sz1, ← Nat.lt_succ_iff]; show h1.objs.size < _; rw [e4, sz2]; exact Nat.lt_succ_of_le (Nat.le_succ _)) this
end
theorem sub_ls : isSubtype (.type "list") (.type "str") = pure false := by rw [isSubtype_type]; kernel_rfl
theorem sub_lb : isSubtype (.type "list") (.type "bytes") = pure false := by rw [isSubtype_type]; kernel_rfl
theorem sub_la : isSubtype (.type "list") (.type "bytearray") = pure false := by rw [isSubtype_type]; kernel_rfl
theorem args_sum2 (a b : Value) : argsOk "sum" ⟨[a, b], []⟩ := by unfold argsOk; kernel_rfl
theorem lists_of {X : Cx} {pins : List (Addr × Obj)} {σ : L2.St} {H : Hp} {s : Shared} (I : Inv X pins σ H s) : ∀ {ls : List (Addr × List V)}, (∀ x ∈ ls, H x.1 = some (.lst x.2)) → ∃ rest : List (Addr × List Value), rest.map (·.1) = ls.map (·.1) ∧ Vals (ls.map (·.2)).flatten (rest.map (·.2)).flatten ∧ ∀ x ∈ rest, ∃ c, s.heap.get? x.1 = some (LiO x.2 c)
  | [], _ => ⟨[], rfl, .nil, fun x h => by cases h⟩
  | (a, ys) :: ls, h => by
    obtain ⟨rest, r1, r2, r3⟩ := lists_of I (ls := ls) fun x hx => h x (List.mem_cons_of_mem _ hx)
    obtain ⟨_, its, n, r, _, e⟩ := I.lstM (h (a, ys) (List.mem_cons_self ..))
    refine ⟨(a, its) :: rest, by rw [List.map_cons, List.map_cons, r1], ?_, fun x hx => ?_⟩
    · rw [List.map_cons, List.map_cons, List.flatten_cons, List.flatten_cons]
      exact r.append r2
    · rcases List.mem_cons.mp hx with rfl | hx
      · exact ⟨n, e⟩
      · exact r3 x hx
def rSumL (K : PySem.W.Frag) : List V → Hp → VK → Prop := fun vs H Q => ∃ (a b : Addr) (ls : List (Addr × List V)) (xs : List V), vs = [.ref a, .ref b] ∧ SqL K H a (ls.map fun x => .ref x.1) ∧ (∀ x ∈ ls, H x.1 = some (.lst x.2)) ∧ H b = some (.lst xs) ∧ xs.length + (ls.map (·.2)).flatten.length ≤ sizeLine ∧
  (ls = [] → Q (.ref b) H) ∧ (ls ≠ [] → ∀ p, H p = none → Q (.ref p) (upd H p (.lst (xs ++ (ls.map (·.2)).flatten))))
theorem cr_sumL (K : PySem.W.Frag) {X : Cx} (hcalm : X.calm = true) (hK : X.K = K := by rfl) : CallR X (.builtin "sum") (rSumL K) := by
  subst hK
  intro pins s σ H vs us Q I r h
  obtain ⟨a, b, ls, xs, rfl, ha, hls, hb, hz, q0, q1⟩ := h
  cases r with
  | cons ra rr =>
    cases rr with
    | cons rb rr =>
      cases rr
      cases ra
      cases rb
      obtain ⟨its, v1, pl, _⟩ := I.list ha
      obtain ⟨rest, r1, r2, r3⟩ := lists_of I hls
      obtain ⟨_, bs, nb, vb, _, eb⟩ := I.lstM hb
      have hl : s.heap.IsList a its.toArray := pl.isList
      have ei : its = rest.map fun x => Value.ref x.1 := by
        have e1 : (ls.map fun x => V.ref x.1) = (ls.map (·.1)).map V.ref := by rw [List.map_map]; rfl
        rw [e1] at v1
        rw [refs_at v1, ← r1, List.map_map]
        rfl
      refine call_function_tree F.kind_sum F.plain_sum F.entry_sum (args_sum2 _ _) ?_
      unfold Builtin.«sum»; simp only [List.length_cons, List.length_nil]; rw [if_neg (by decide)]
      refine wpAny_bind (wpAny_of_eq (show Builtin.Builtins.bindParams "sum" ["start"] 0 ⟨[.ref b], []⟩ = pure [some (.ref b)] from rfl) ?_)
      refine wpAny_bind (wpAny_pyIter_list hl ?_)
      have tb : ∀ tk, Shared.TypeIs { s with heap := s.heap.push { cls := .type "list_iterator", data := .fields #[.ref a, .int 0 0] }, toks := tk } (.ref b) "list" := fun _ => ⟨_, Heap.get?_push_of_some _ eb, rfl⟩
      refine wpAny_bind (wpAny_pure ?_)
      simp only [List.forIn_cons, List.forIn_nil]
      refine wpAny_bind (wpAny_bind (wpAny_bind (wpAny_isInstance (T := "list") (b := false) (tb _) sub_ls ?_))); simp only [Bool.false_eq_true, if_false]
      refine wpAny_pure (wpAny_bind (wpAny_bind (wpAny_isInstance (T := "list") (b := false) (tb _) sub_lb ?_))); simp only [Bool.false_eq_true, if_false]
      refine wpAny_pure (wpAny_bind (wpAny_bind (wpAny_isInstance (T := "list") (b := false) (tb _) sub_la ?_))); simp only [Bool.false_eq_true, if_false]
      refine wpAny_pure (wpAny_pure (wpAny_bind (wpAny_newObj_type (wpAny_pure ⟨plainId_quiet F.plain_sum_loop _, ?_⟩))))
      have lt : ∀ {c o}, s.heap.get? c = some o → c < s.heap.objs.size := fun e => Heap.lt_size e
      have la : a < s.heap.objs.size := pl.lt
      have lb : b < s.heap.objs.size := lt eb
      have sz : (s.heap.push { cls := .type "list_iterator", data := .fields #[.ref a, .int 0 0] }).objs.size = s.heap.objs.size + 1 := Heap.size_push ..
      have up : ∀ c o, s.heap.get? c = some o → ((s.heap.push { cls := .type "list_iterator", data := .fields #[.ref a, .int 0 0] }).push (LiO [.ref b] 0)).get? c = some o := fun c o e => Heap.get?_push_of_some _ (Heap.get?_push_of_some _ e)
      have off : ∀ {c}, c < s.heap.objs.size + 1 → c ≠ (s.heap.push { cls := .type "list_iterator", data := .fields #[.ref a, .int 0 0] }).objs.size := fun h => by
        rw [sz]
        exact Nat.ne_of_lt h
      refine suml_loop (P := X.prog) (w := X.w) (A := X.A) (I := s.heap.objs.size) (l := a) (S := (s.heap.push { cls := .type "list_iterator", data := .fields #[.ref a, .int 0 0] }).objs.size) (items := its.toArray) (I.ok.hd hcalm) (off (Nat.lt_succ_self _)) (Nat.ne_of_lt la) (off (Nat.lt_succ_of_lt la)) rest 0 { s with heap := (s.heap.push { cls := .type "list_iterator", data := .fields #[.ref a, .int 0 0] }).push (LiO [.ref b] 0) } b bs 0 nb ?_ ⟨_, Heap.get?_push_of_some _ (Heap.get?_push_size _ rfl), rfl, rfl⟩ (hl.at fun o e => up _ _ e) (fun j x hj => ?_) ?_ (up _ _ eb) (Nat.ne_of_lt lb) (off (Nat.lt_succ_of_lt lb)) ?_ fun h' tk t' c' g1 g2 g3 g4 => ?_
      · rw [List.size_toArray, ei, List.length_map, Nat.zero_add]
      · obtain ⟨c, hc⟩ := r3 x (List.mem_of_getElem? hj)
        have lx := lt hc
        refine ⟨?_, Nat.ne_of_lt lx, off (Nat.lt_succ_of_lt lx), c, up _ _ hc⟩
        rw [Nat.zero_add, List.getElem?_toArray, ei, List.getElem?_map, hj]
        rfl
      · exact Heap.get?_push_size _ rfl
      · have := r2.length
        have := vb.length
        omega
      · have keep : ∀ c o, s.heap.get? c = some o → h'.get? c = some o := fun c o e => g4 c o (Nat.ne_of_lt (lt e)) (off (Nat.lt_succ_of_lt (lt e))) (up c o e)
        cases hr : ls with
        | nil =>
          have hrest : rest = [] := by
            rw [hr] at r1
            cases rest with
            | nil => rfl
            | cons y z => cases r1
          rw [g2 hrest]
          exact ⟨.ref b, H, I.kept keep, rfl, q0 hr⟩
        | cons y z =>
          have hrest : rest ≠ [] := fun e => by
            rw [e, hr] at r1
            cases r1
          have hle : s.heap.objs.size ≤ t' := Nat.le_trans (by rw [Heap.size_push, Heap.size_push]; omega) (g3 hrest)
          refine ⟨.ref t', upd H t' (.lst (xs ++ (ls.map (·.2)).flatten)), I.laid keep hle (show ObjOk X.prog X.w _ _ _ (.lst (xs ++ (ls.map (·.2)).flatten)) from ⟨?_, bs ++ (rest.map (·.2)).flatten, c', vb.append r2, g1⟩), rfl, q1 (by rw [hr]; intro e; cases e) _ (I.hok.fresh hle)⟩
          rw [List.length_append]
          exact hz
/-! ### tuple(xs) of a list, its object known; dict(ps) of such a tuple of pairs -/
def rTupleFz (K : PySem.W.Frag) : List V → Hp → VK → Prop := fun xs H Q => ∃ p ys, xs = [.ref p] ∧ SqL K H p ys ∧ ∀ (l : Addr) (o : Obj), H l = none → o.dict = none → Q (.ref l) (upd H l (.frz o (.tup ys)))
theorem tupleFz (K : PySem.W.Frag) {X : Cx} (hK : X.K = K := by rfl) : CallR X (.type "tuple") (rTupleFz K) := by
  subst hK
  intro pins s σ H vs us Q I r h
  obtain ⟨p, ys, rfl, hs, q⟩ := h
  obtain ⟨u, rfl, rfl⟩ := vals1 r
  obtain ⟨its, rv, pl, hz⟩ := I.list hs
  refine call_tuple_list pl.isList (fun h' hk => ?_) (by rw [List.size_toArray, ← rv.length]; exact hz)
  have I1 : Inv X pins σ H { s with heap := h' } := I.kept (t' := s.toks) hk
  refine ⟨.ref h'.objs.size, _, I1.laid (t' := s.toks) (o := .frz { cls := .type "tuple", data := .seq its.toArray } (.tup ys)) (fun b o e => Heap.get?_push_of_some _ e) (Nat.le_refl _) ?_, rfl, q _ _ (I1.hok.fresh (Nat.le_refl _)) rfl⟩
  exact ⟨Heap.get?_push_size _ rfl, hz, its, rv, IsTup.new _ _⟩
theorem trips {X : Cx} {pins : List (Addr × Obj)} {σ : L2.St} {H : Hp} {s : Shared} (I : Inv X pins σ H s) : ∀ {ps : List Addr} {kvs : List (Key × V)}, Paired (fun p kv => SqT X.K H p [kV kv.1, kv.2]) ps kvs →
    ∃ tr : List (Key × Value × Value), tr.length = ps.length ∧ KV kvs (tr.map fun t => (t.1, t.2.2)) ∧ ∀ (j : Nat) (t : Key × Value × Value), tr[j]? = some t → ∃ b : Addr, ps[j]? = some b ∧ IsTup s.heap b #[t.2.1, t.2.2] ∧ (mixKind X.prog X.w).is t.1 t.2.1 = true
  | _, _, .nil => ⟨[], rfl, .nil, fun j t e => by simp at e⟩
  | _, _, .cons (a := p) (b := kv) h t => by
    obtain ⟨tr, hl, r, hp⟩ := trips I t
    obtain ⟨its, rv, ht, _⟩ := I.tuple h
    obtain ⟨u, y, ei, ru, ry⟩ := vals2 rv
    subst ei
    refine ⟨(kv.1, u, y) :: tr, by rw [List.length_cons, List.length_cons, hl], .cons ⟨rfl, ry⟩ r, fun j t e => ?_⟩
    cases j with
    | zero =>
      rw [List.getElem?_cons_zero] at e
      cases e
      exact ⟨p, rfl, ht, kV_is ru⟩
    | succ j =>
      rw [List.getElem?_cons_succ] at e
      obtain ⟨b, e1, e2⟩ := hp j t e
      exact ⟨b, by rw [List.getElem?_cons_succ]; exact e1, e2⟩
def rDictT (K : PySem.W.Frag) : List V → Hp → VK → Prop := fun xs H Q => ∃ (a : Addr) (o : Obj) (ps : List Addr) (kvs : List (Key × V)), xs = [.ref a] ∧ H a = some (.frz o (.tup (ps.map V.ref))) ∧ o.dict = none ∧ Paired (fun p kv => SqT K H p [kV kv.1, kv.2]) ps kvs ∧ ∀ p, H p = none → Q (.ref p) (upd H p (.dK (mergeK [] kvs)))
theorem dictT (K : PySem.W.Frag) {X : Cx} (hcalm : X.calm = true := by rfl) (hK : X.K = K := by rfl) : CallR X (.type "dict") (rDictT K) := by
  subst hK
  intro pins s σ H xs us Q I r h
  obtain ⟨a, o, ps, kvs, rfl, ha, hd, hp, q⟩ := h
  obtain ⟨u, rfl, rfl⟩ := vals1 r
  obtain ⟨e, hz, its, rv, o', e', hc, n, hdat⟩ := I.hok a _ ha
  have eo : o' = o := by
    rw [e] at e'
    exact (Option.some.inj e').symm
  subst eo
  obtain ⟨tr, hl, rel, htr⟩ := trips I hp
  have ei : its = ps.map Value.ref := refs_at rv
  rw [List.length_map] at hz
  refine PySem.call_dict_pairs (knd := mixKind X.prog X.w) (kvs := tr.map fun t => (t.1, t.2.2)) (PairArg.tuple a its.toArray (fun j => ps.getD j 0) (tr.map fun t => (t.2.1, t.2.2))) (I.ok.hd hcalm) ⟨⟨o', n, e, hc, hd, hdat⟩, ?_, fun j k v hj => ?_⟩ ⟨?_, fun i key v hi => ?_⟩ ?_ fun h' tk hd' k => ?_
  · rw [List.size_toArray, ei, List.length_map, List.length_map, hl]
  · rw [List.getElem?_map] at hj
    cases ht : tr[j]? with
    | none =>
      rw [ht] at hj
      cases hj
    | some t =>
      rw [ht] at hj
      cases hj
      obtain ⟨b, e1, e2, _⟩ := htr j t ht
      have eb : ps.getD j 0 = b := by
        rw [List.getD_eq_getElem?_getD, e1]
        rfl
      refine ⟨?_, .inl ?_⟩
      · rw [List.getElem?_toArray, ei, List.getElem?_map, e1]
        show some (Value.ref b) = some (Value.ref (ps.getD j 0))
        rw [eb]
      · show s.heap.IsTuple (ps.getD j 0) _
        rw [eb]
        exact e2
  · rw [List.length_map, List.length_map]
  · have hi : (tr.map fun t => (t.2.1, t.2.2))[i]? = some (key, v) := hi
    rw [List.getElem?_map] at hi
    cases ht : tr[i]? with
    | none =>
      rw [ht] at hi
      cases hi
    | some t =>
      rw [ht] at hi
      cases hi
      obtain ⟨b, _, _, e3⟩ := htr i t ht
      exact ⟨t.1, by rw [List.getElem?_map, ht]; rfl, e3⟩
  · rw [List.length_map, hl]
    exact hz
  · have hm : (s.heap.objs.size == sysModules) = false := beq_eq_false_iff_ne.mpr (Nat.ne_of_gt I.big)
    have hkl : kvs.length = ps.length := by
      have := rel.length
      rw [List.length_map, hl] at this
      exact this
    have hlen : (mergeK [] kvs).length ≤ sizeLine := by
      refine Nat.le_trans (length_mergeK kvs []) ?_
      rw [List.length_nil, Nat.zero_add, hkl]
      exact hz
    exact ⟨.ref s.heap.objs.size, upd H s.heap.objs.size (.dK (mergeK [] kvs)), I.laid (t' := tk) (fun b o e => k b o (fun z => nomatch z) e) (Nat.le_refl _) (show ObjOk X.prog X.w _ _ _ (.dK (mergeK [] kvs)) from ⟨hlen, hm, merged [] _, KV.merge rel .nil, hd'⟩), rfl, q _ (I.hok.fresh (Nat.le_refl _))⟩
end Pf


namespace Pf
open PySem PySem.Spec PyProof.Rows L2
theorem sum_len_le {m : Nat} : ∀ {ys : List Str}, (∀ y ∈ ys, y.length ≤ m) → (ys.map (·.length)).sum ≤ ys.length * m
  | [], _ => Nat.zero_le _
  | y :: r, h => by
    have h1 := h y (List.mem_cons_self ..)
    have h2 := sum_len_le (ys := r) fun x hx => h x (List.mem_cons_of_mem _ hx)
    rw [List.map_cons, List.sum_cons, List.length_cons, Nat.succ_mul]
    omega
theorem fits_join {ys : List Str} {k m : Nat} (hk : ys.length ≤ k) (h : ∀ y ∈ ys, y.length ≤ m) (hm : k * m ≤ 1000000) : (ys.map (·.length)).sum + ys.length * ("" : Str).length ≤ 16777216 := by
  have h1 := sum_len_le h
  have h2 : ys.length * m ≤ k * m := Nat.mul_le_mul_right m hk
  have h3 : ("" : Str).length = 0 := by decide +kernel
  rw [h3, Nat.mul_zero]
  omega
def Of (L x : Str) : Prop := ∀ c ∈ x.cps.toList, c ∈ L.cps.toList
theorem Of.small {L x : Str} (h : Of L x) (hs : Small L) : Small x := fun c hc => hs c (h c hc)
theorem Of.app {L a b : Str} (ha : Of L a) (hb : Of L b) : Of L (a ++ b) := fun c h => by
  rw [Str.cps_append, Array.toList_append, List.mem_append] at h
  exact h.elim (ha c) (hb c)
theorem of_nil (L : Str) : Of L "" := by
  have : ("" : Str).cps.toList = [] := by decide +kernel
  intro c hc
  rw [this] at hc
  cases hc
theorem sjoin_of {L : Str} : ∀ {ys : List Str}, (∀ y ∈ ys, Of L y) → Of L (Str.join "" ys)
  | [], _ => of_nil L
  | [y], h => h y (List.mem_cons_self ..)
  | y :: z :: r, h => ((h y (List.mem_cons_self ..)).app (of_nil L)).app (sjoin_of (ys := z :: r) fun x hx => h x (List.mem_cons_of_mem _ hx))
theorem cutS_of {L x : Str} (h : Of L x) (lo hi : Option Int) : Of L (cutS x lo hi) := fun c hc => by
  unfold cutS at hc
  exact h c (List.mem_of_mem_drop (List.mem_of_mem_take hc))
theorem cutS_one (x : Str) : (cutS x none (some 1)).length ≤ 1 := by
  show (((x.cps.toList.drop (HT.sIx x.length 0 none)).take (HT.sIx x.length x.length (some 1) - HT.sIx x.length 0 none)).toArray).size ≤ 1
  rw [List.size_toArray, List.length_take]
  have : HT.sIx x.length x.length (some ((1 : Nat) : Int)) = min 1 x.length := HT.sIx_nat _ _ _
  have h2 : HT.sIx x.length x.length (some (1 : Int)) = min 1 x.length := this
  rw [h2]
  omega
def evL (x : Str) (i : Nat) : List Str := (x.cps.toList.take i).flatMap fun a => x.cps.toList.map fun b => (⟨#[a]⟩ ++ ⟨#[b]⟩ : Str)
theorem none_of {p : Addr} {H H' : Hp} (k : Kp p H H') {b : Addr} (nb : b ≠ p) (h : H' b = none) : H b = none := by
  cases e : H b with
  | none => rfl
  | some o =>
    rw [k b o nb e] at h
    cases h
theorem sgn_at0 {x : Str} {i : Int} (h0 : 0 ≤ i) (h1 : i < x.length) : atI x.cps.toList i = some (x.cps.toList.getD i.toNat 0) := by
  have h2 : i < x.cps.toList.length := by
    rw [Array.length_toList]
    exact h1
  rw [atI_get h0 h2]
  congr 1
  rw [List.getD_eq_getElem?_getD, List.getElem?_eq_getElem (by omega)]
  rfl
def abc : Str := "abcdefghijklmnopqrstuvwxyz"
def letN (f k : Nat) : Nat := abc.cps.toList.getD ((f + 3 * k) % 26) 0
theorem letN_nd : ∀ f < 26, ((List.range 6).map (letN f)).Nodup := by decide +kernel
theorem letN_sm : ∀ f < 26, ∀ k < 6, letN f k ∈ abc.cps.toList := by decide +kernel
theorem abc_sm : Small abc := by unfold Small; decide +kernel
theorem letN_ix {f k : Nat} : ((f : Int) + 3 * (0 + (k : Int))) % 26 = (((f + 3 * k) % 26 : Nat) : Int) := by
  push_cast
  omega
theorem join_cps : ∀ ys : List Str, (Str.join "" ys).cps.toList = ys.flatMap fun y => y.cps.toList
  | [] => by
    show ("" : Str).cps.toList = []
    decide +kernel
  | [y] => by
    show y.cps.toList = _
    simp
  | y :: z :: r => by
    have e : ("" : Str).cps.toList = [] := by decide +kernel
    have := join_cps (z :: r)
    show ((y ++ "") ++ Str.join "" (z :: r) : Str).cps.toList = _
    rw [Str.cps_append, Array.toList_append, this, Str.cps_append, Array.toList_append, e, List.append_nil]
    simp
theorem flat_one (xs : List Nat) : (xs.map fun k => (⟨#[k]⟩ : Str)).flatMap (fun y => y.cps.toList) = xs := by
  induction xs with
  | nil => rfl
  | cons x r ih => rw [List.map_cons, List.flatMap_cons, ih]; rfl
theorem pair_inj {a b c d : Nat} (h : (⟨#[a]⟩ ++ ⟨#[b]⟩ : Str) = ⟨#[c]⟩ ++ ⟨#[d]⟩) : a = c ∧ b = d := by
  have h := congrArg (fun z : Str => z.cps.toList) h
  simp only [Str.cps_append, Array.toList_append] at h
  simpa using h
def OfP (r : Rl) : Prop := (∀ y ∈ r.prs, Of r.letters y.1) ∧ ∀ y ∈ r.stk, Of r.letters y.1 ∧ Of r.letters y.2.1
theorem evL_of {x : Str} {i : Nat} {t : Str} (h : t ∈ evL x i) : Of x t := by
  unfold evL at h
  obtain ⟨a, ha, h⟩ := List.mem_flatMap.mp h
  obtain ⟨b, hb, rfl⟩ := List.mem_map.mp h
  have ha := List.mem_of_mem_take ha
  intro c hc
  rw [Str.cps_append, Array.toList_append, List.mem_append] at hc
  rcases hc with hc | hc
  · have : c = a := by simpa using hc
    rw [this]
    exact ha
  · have : c = b := by simpa using hc
    rw [this]
    exact hb
theorem evL_nd {x : Str} (h : x.cps.toList.Nodup) (n : Nat) : (evL x n).Nodup := by
  unfold evL
  have h' : (x.cps.toList.take n).Nodup := List.Sublist.nodup (List.take_sublist _ _) h
  refine List.pairwise_flatMap.mpr ⟨fun a _ => ?_, h'.imp fun {a c} hac y hy z hz => ?_⟩
  · rw [List.pairwise_map]
    exact h.imp fun {b d} hbd e => hbd (pair_inj e).2
  · obtain ⟨b, _, rfl⟩ := List.mem_map.mp hy
    obtain ⟨d, _, rfl⟩ := List.mem_map.mp hz
    exact fun e => hac (pair_inj e).1
theorem rep_ints : (List.replicate (9 : Int).toNat [V.int 0]).flatten = ([0, 0, 0, 0, 0, 0, 0, 0, 0] : List Int).map V.int := by decide
def NineAt (H : Hp) (v : V) : Prop := ∃ (a : Addr) (ns : List Int), v = .ref a ∧ H a = some (.tup (ns.map V.int)) ∧ ns.length = 9 ∧ ∀ x ∈ ns, -99 ≤ x ∧ x ≤ 99
theorem NineAt.mono {H H' : Hp} {v : V} (h : NineAt H v) (k : TupK H H') : NineAt H' v := by
  obtain ⟨a, ns, e, h1, h2⟩ := h
  exact ⟨a, ns, e, k.1 _ _ h1, h2⟩
section
variable {P : Program} {w : World} {K : PySem.W.Frag} {mg : Str → Option Value} {base : Heap}
abbrev s_law_rules : Stmt := topS 46
theorem sc_law_rules : FnScope ["_law_pen_here", "_law_first", "_law_many", "_law_k", "_law_letters_so", "_law_texts", "_law_one", "_law_pairs_so", "_law_sums", "_law_rows", "_law_stacks_so", "_law_two", "_law_both", "_law_key"] ["_law_pen_here"] (defScope s_law_rules) :=
  ⟨rfl, rfl, rfl, by decide +kernel, rfl, by decide +kernel, by decide +kernel⟩
def spRules : Sp := fun vs H Q _ => ∃ (p c : Addr) (n : Nat), vs = [.ref p] ∧ Pen H p c n ∧ n + 300 < 1000000 ∧
  ∀ v r H', RulesAt H' v r → RlOk r → OfP r → Kp p H H' → Pen H' p c (n + 300) → Q v H'
theorem ok_rules {f : Addr} {fd : FuncData} (F : Fun K "_law_rules" "_law_rules" s_law_rules f fd) (c_law_draw : CDraw P w K mg base) (c_law_pick : CPick P w K mg base) (c_law_worth : CWorth P w K mg base)
    (mlen : mg "len" = none) (mint : mg "int" = none) (mtuple : mg "tuple" = none) (mrange : mg "range" = none) (msorted : mg "sorted" = none) : FnOk P w K mg base CX0 4 f fd ["_law_pen_here"] spRules := by
  refine F.ok sc_law_rules (fun vs H Q E h => ?_) (fun cdv A outer s H vs Q E hr h => ?_)
  · obtain ⟨p, c, n, rfl, _⟩ := h
    rfl
  · obtain ⟨p, c, n, rfl, hP, hn, q⟩ := h
    refine ⟨_, (pss_cons (ps_set (i := 1) sc_law_rules.nd rfl (.inr rfl) (pe_ca c_law_draw (hr.mono (by decide)) (by rfl) (pa_cons (pv 0) (pa_cons pe_int pa_nil))))
      (pss_cons (ps_set (i := 2) sc_law_rules.nd rfl (.inl rfl) (pe_ca c_law_pick (hr.mono (by decide)) (by rfl) (pa_cons (pv 0) (pa_cons (pe_lst (pa_cons pe_int (pa_cons pe_int (pa_cons pe_int (pa_cons pe_int (pa_cons pe_int (pa_cons pe_int pa_nil))))))) pa_nil))))
      (pss_cons (ps_set (i := 4) sc_law_rules.nd rfl (.inl rfl) (pe_join pe_str (pe_callB cr_sortedS (by rfl) msorted (by decide +kernel) (pa_cons (pe_lc (own := [("_law_k", 3)]) (g := gName 3) (by rfl) sc_law_rules.nd (pi_range1 (by rfl) mrange (pa_cons (pv 2) pa_nil)) (blkOk_by (own := [("_law_k", 3)]) (N := ["_law_pen_here", "_law_first", "_law_many", "_law_k", "_law_letters_so", "_law_texts", "_law_one", "_law_pairs_so", "_law_sums", "_law_rows", "_law_stacks_so", "_law_two", "_law_both", "_law_key"]) (sc := defScope s_law_rules) (by decide +kernel)) (fun _ _ _ _ _ => (pg_name (i := 3) sc_law_rules.nd rfl (.inl rfl))) (fun _ _ _ _ _ => pts_nil) (fun _ _ _ _ _ => (pe_ix ix_str pe_str (pe_op op_mod (pe_op op_add (pv 1) (pe_op op_mul pe_int (pv 3))) pe_int) (fun _ _ => rfl)))) pa_nil))))
      (pss_cons (ps_set (i := 5) sc_law_rules.nd rfl (.inl rfl) (pe_lst pa_nil))
      (pss_cons (ps_for PassesOwn.never rfl (pi_str (pv 4)) (pg_name (i := 6) sc_law_rules.nd rfl (.inr rfl)) (pss_one (ps_set (i := 5) sc_law_rules.nd rfl (.inl rfl) (pe_op op_cat (pv 5) (pe_lc (own := [("_law_two", 11)]) (g := gName 11) (by rfl) sc_law_rules.nd (pi_str (pv 4)) (blkOk_by (own := [("_law_two", 11)]) (N := ["_law_pen_here", "_law_first", "_law_many", "_law_k", "_law_letters_so", "_law_texts", "_law_one", "_law_pairs_so", "_law_sums", "_law_rows", "_law_stacks_so", "_law_two", "_law_both", "_law_key"]) (sc := defScope s_law_rules) (by decide +kernel)) (fun _ _ _ _ _ => (pg_name (i := 11) sc_law_rules.nd rfl (.inl rfl))) (fun _ _ _ _ _ => pts_nil) (fun _ _ _ _ _ => (pe_op op_add_str (pv 6) (pv 11))))))))
      (pss_cons (ps_set (i := 5) sc_law_rules.nd rfl (.inl rfl) (pe_slice (slL K) (pe_lc (own := [("_law_two", 11)]) (g := gName 11) (by rfl) sc_law_rules.nd (pi_list (pv 5)) (blkOk_by (own := [("_law_two", 11)]) (N := ["_law_pen_here", "_law_first", "_law_many", "_law_k", "_law_letters_so", "_law_texts", "_law_one", "_law_pairs_so", "_law_sums", "_law_rows", "_law_stacks_so", "_law_two", "_law_both", "_law_key"]) (sc := defScope s_law_rules) (by decide +kernel)) (fun _ _ _ _ _ => (pg_name (i := 11) sc_law_rules.nd rfl (.inl rfl))) (fun _ _ _ _ _ => (pts_one (pt_cmpR op_gt (pe_ca c_law_draw (hr.mono (by decide)) (by rfl) (pa_cons (pv 0) (pa_cons pe_int pa_nil))) pe_int (nomark _)))) (fun _ _ _ _ _ => (pv 11))) po_none (po_some pe_int)))
      (pss_cons (ps_set (i := 7) sc_law_rules.nd rfl (.inl rfl) (pe_callTy (tupleFz K) (by rfl) mtuple (by decide +kernel) (pa_cons (pe_lc (own := [("_law_both", 12)]) (g := gName 12) (by rfl) sc_law_rules.nd (pi_list (pv 5)) (blkOk_by (own := [("_law_both", 12)]) (N := ["_law_pen_here", "_law_first", "_law_many", "_law_k", "_law_letters_so", "_law_texts", "_law_one", "_law_pairs_so", "_law_sums", "_law_rows", "_law_stacks_so", "_law_two", "_law_both", "_law_key"]) (sc := defScope s_law_rules) (by decide +kernel)) (fun _ _ _ _ _ => (pg_name (i := 12) sc_law_rules.nd rfl (.inl rfl))) (fun _ _ _ _ _ => pts_nil) (fun _ _ _ _ _ => (pe_tup (pa_cons (pv 12) (pa_cons (pe_ca c_law_worth (hr.mono (by decide)) (by rfl) (pa_cons (pv 0) pa_nil)) pa_nil))))) pa_nil)))
      (pss_cons (ps_set (i := 8) sc_law_rules.nd rfl (.inl rfl) (pe_lst (pa_cons (pe_tup (pa_cons (pe_op op_sub pe_int pe_int) (pa_cons pe_int (pa_cons pe_int (pa_cons pe_int (pa_cons pe_int (pa_cons pe_int (pa_cons pe_int (pa_cons pe_int (pa_cons pe_int pa_nil)))))))))) (pa_cons (pe_op (repT K) (pe_tup (pa_cons pe_int pa_nil)) pe_int) (pa_cons (pe_callTy (tupleOf K) (by rfl) mtuple (by decide +kernel) (pa_cons (pe_lc (own := [("_law_k", 3)]) (g := gName 3) (by rfl) sc_law_rules.nd (pi_range1 (by rfl) mrange (pa_cons pe_int pa_nil)) (blkOk_by (own := [("_law_k", 3)]) (N := ["_law_pen_here", "_law_first", "_law_many", "_law_k", "_law_letters_so", "_law_texts", "_law_one", "_law_pairs_so", "_law_sums", "_law_rows", "_law_stacks_so", "_law_two", "_law_both", "_law_key"]) (sc := defScope s_law_rules) (by decide +kernel)) (fun _ _ _ _ _ => (pg_name (i := 3) sc_law_rules.nd rfl (.inl rfl))) (fun _ _ _ _ _ => pts_nil) (fun _ _ _ _ _ => (pe_ca c_law_worth (hr.mono (by decide)) (by rfl) (pa_cons (pv 0) pa_nil)))) pa_nil)) pa_nil)))))
      (pss_cons (ps_set (i := 9) sc_law_rules.nd rfl (.inr rfl) pe_dnewT)
      (pss_cons (ps_for PassesOwn.never rfl (pi_range1 (by rfl) mrange (pa_cons (pe_op op_mul (pe_ca c_law_pick (hr.mono (by decide)) (by rfl) (pa_cons (pv 0) (pa_cons (pe_lst (pa_cons pe_int (pa_cons pe_int (pa_cons pe_int (pa_cons pe_int pa_nil))))) pa_nil))) (pe_callTy call_int1 (by rfl) mint (by decide +kernel) (pa_cons (pe_cmpR (neD K hr.units) (pv 5) (pe_lst pa_nil) (nomark _)) pa_nil))) pa_nil)) (pg_name (i := 3) sc_law_rules.nd rfl (.inl rfl)) (pss_one (ps_dput (hu_of hr) (pv 9) (pe_tup (pa_cons (pe_ca c_law_pick (hr.mono (by decide)) (by rfl) (pa_cons (pv 0) (pa_cons (pv 5) pa_nil))) (pa_cons (pe_ca c_law_pick (hr.mono (by decide)) (by rfl) (pa_cons (pv 0) (pa_cons (pv 5) pa_nil))) pa_nil))) (pe_ca c_law_worth (hr.mono (by decide)) (by rfl) (pa_cons (pv 0) pa_nil)) rfl)))
      (pss_cons (ps_set (i := 10) sc_law_rules.nd rfl (.inl rfl) (pe_callTy (tupleOf K) (by rfl) mtuple (by decide +kernel) (pa_cons (pe_lc (own := [("_law_key", 13)]) (g := gName 13) (by rfl) sc_law_rules.nd (pi_list (pe_callB (cr_sortKT K rfl hr.units) (by rfl) msorted (by decide +kernel) (pa_cons (pv 9) pa_nil))) (blkOk_by (own := [("_law_key", 13)]) (N := ["_law_pen_here", "_law_first", "_law_many", "_law_k", "_law_letters_so", "_law_texts", "_law_one", "_law_pairs_so", "_law_sums", "_law_rows", "_law_stacks_so", "_law_two", "_law_both", "_law_key"]) (sc := defScope s_law_rules) (by decide +kernel)) (fun _ _ _ _ _ => (pg_name (i := 13) sc_law_rules.nd rfl (.inl rfl))) (fun _ _ _ _ _ => pts_nil) (fun _ _ _ _ _ => (pe_op (catT K) (pv 13) (pe_tup (pa_cons (pe_dget (hu_of hr) (pv 9) (pv 13) (fun _ _ => rfl)) pa_nil))))) pa_nil)))
      (pss_one (ps_ret (pe_tup (pa_cons (pv 4) (pa_cons (pv 7) (pa_cons (pe_ca c_law_pick (hr.mono (by decide)) (by rfl) (pa_cons (pv 0) (pa_cons (pe_lst (pa_cons pe_int (pa_cons pe_int (pa_cons pe_int (pa_cons pe_int (pa_cons pe_int pa_nil)))))) pa_nil))) (pa_cons (pe_ca c_law_pick (hr.mono (by decide)) (by rfl) (pa_cons (pv 0) (pa_cons (pe_op op_cat (pv 8) (pe_slice (slL K) (pv 8) (po_some pe_int) po_none)) pa_nil))) (pa_cons (pv 10) pa_nil))))))))))))))))))), ?_⟩
    -- letters
    refine ⟨_, rfl, p, c, 26, n, rfl, hP, by omega, by decide, by decide, fun r1 Ha r1a r1b ka hPa => ?_⟩
    refine ⟨_, rfl, szL (show 6 ≤ 1000000 by decide), fun l2 hl2 => ?_⟩
    refine ⟨p, c, .ref l2, [2, 2, 3, 4, 1, 6].map V.int, n + 1, rfl, .inl ⟨l2, rfl, upd_same⟩, (fun z => (hPa.ne hl2).1 (by injection z)), (show 0 < 6 by decide), (show 6 < 1000000 by decide), hPa.new hl2, by omega, fun x Hb hx kb hPb => ?_⟩
    obtain ⟨mn, hmn, rfl⟩ := List.mem_map.mp hx
    have hmn2 : 1 ≤ mn ∧ mn ≤ 6 := by
      simp only [List.mem_cons, List.not_mem_nil, or_false] at hmn
      omega
    obtain ⟨f0, rfl⟩ := Int.eq_ofNat_of_zero_le r1a
    have hf26 : f0 < 26 := by omega
    have kpb : Kp p H Hb := (ka.trans (Kp.new hl2)).trans kb
    refine ⟨⟨_, rfl⟩, _, rfl, mn, rfl, by omega, by omega, fun D hD => lc_range (lo := 0) (n := mn.toNat) (fun i H4 => H4 D = some (.lst (((List.range i).map fun k => (⟨#[letN f0 k]⟩ : Str)).map V.str)) ∧ Ext Hb H4) ⟨upd_same, Ext.new hD⟩ (fun i H4 hi hv => ?_) (fun H4 hv => ?_)⟩
    · obtain ⟨hL4, k4⟩ := hv
      have hix : ((f0 : Int) + 3 * (0 + (i : Int))) % 26 = (((f0 + 3 * i) % 26 : Nat) : Int) := letN_ix
      have hlt : ((f0 : Int) + 3 * (0 + (i : Int))) % 26 < abc.length := by
        have e : abc.length = 26 := by decide +kernel
        rw [e]
        omega
      have hat := sgn_at0 (x := abc) (i := ((f0 : Int) + 3 * (0 + (i : Int))) % 26) (by omega) hlt
      rw [show (((f0 : Int) + 3 * (0 + (i : Int))) % 26).toNat = (f0 + 3 * i) % 26 by rw [hix]; rfl] at hat
      refine ⟨rfl, _, rfl, _, rfl, 3, _, rfl, rfl, .inl ⟨by decide, by decide⟩, _, _, rfl, rfl, _, 26, rfl, rfl, (show (0 : Int) < 26 by decide), abc, _, _, rfl, rfl, szL (by decide +kernel), hat, _, hL4, szLt ?_, ?_, k4.put hD⟩
      · rw [List.length_map, List.length_map, List.length_range]
        omega
      · rw [upd_same, List.range_succ, List.map_append, List.map_append]
        rfl
    obtain ⟨hL4, k4⟩ := hv
    refine ⟨D, _, rfl, SqL.of hL4, ?_, fun ut ss perm _ hss => ?_⟩
    · rw [List.length_map, List.length_range]
      omega
    have hut1 : ∀ y ∈ ut, y.length ≤ 1 := fun y hy => by
      obtain ⟨k, _, rfl⟩ := List.mem_map.mp (perm.mem_iff.mp hy)
      exact Nat.le_refl _
    have hutl : ut.length = mn.toNat := by rw [perm.length_eq, List.length_map, List.length_range]
    refine ⟨"", ss, ut, rfl, rfl, .inl (SqL.of upd_same), fits_join (k := 20) (m := 1) (by omega) hut1 (by decide), ?_⟩
    rw [join_str]
    have hcp : (Str.join "" ut).cps.toList.Perm ((List.range mn.toNat).map (letN f0)) := by
      rw [join_cps]
      have h1 := perm.flatMap_right (fun y : Str => y.cps.toList)
      have h2 : ((List.range mn.toNat).map fun k => (⟨#[letN f0 k]⟩ : Str)) = ((List.range mn.toNat).map (letN f0)).map fun k => (⟨#[k]⟩ : Str) := by rw [List.map_map]; rfl
      rw [h2, flat_one] at h1
      exact h1
    have hsub6 : ((List.range mn.toNat).map (letN f0)).Sublist ((List.range 6).map (letN f0)) := (List.range_sublist.mpr (by omega)).map _
    have hnd : (Str.join "" ut).cps.toList.Nodup := hcp.nodup_iff.mpr (hsub6.nodup (letN_nd f0 hf26))
    have hlen : (Str.join "" ut).length = mn.toNat := by
      have := hcp.length_eq
      rw [List.length_map, List.length_range, Array.length_toList] at this
      exact this
    have hsm : Small (Str.join "" ut) := fun c hc => by
      obtain ⟨k, hk, rfl⟩ := List.mem_map.mp (hsub6.subset (hcp.mem_iff.mp hc))
      exact abc_sm _ (letN_sm f0 hf26 k (List.mem_range.mp hk))
    have e5 := Ext.new (o := .lst (ut.map V.str)) hss
    have hP1 := (hPb.ext k4).ext e5
    have kp1 := (kpb.trans (Kp.ext k4)).trans (Kp.ext e5)
    generalize upd H4 ss (.lst (ut.map V.str)) = H1 at hP1 kp1 ⊢
    generalize Str.join "" ut = sg at hnd hlen hsm ⊢
    have hs6 : sg.length ≤ 6 := by omega
    have hs1 : 1 ≤ sg.length := by omega
    have hev := evL_nd hnd sg.cps.size
    clear hcp hsub6 hut1 hL4 k4 kpb ka kb hPa hPb hP hss e5 perm hutl
    -- texts
    refine ⟨Nat.zero_le _, fun e0 he0 => ?_⟩
    refine ⟨_, rfl, _, rfl, for_str (fun i σ H2 => ∃ (l : Addr) (y3 : Option V) (ts : List Str), σ = [some (.ref p), some (.int f0), some (.int mn), none, some (.str sg), some (.ref l), y3, none, none, none, none, none, none, none] ∧ l ≠ p ∧ Ext H1 H2 ∧ H2 l = some (.lst (ts.map V.str)) ∧ ts.length ≤ 6 * i ∧ (∀ t ∈ ts, Two t) ∧ ts = evL sg i)
      ⟨e0, none, [], rfl, (hP1.ne he0).1, Ext.new he0, upd_same, by decide, (fun t h => by cases h), by unfold evL; rw [List.take_zero]; rfl⟩ (fun i ch σ H2 hi hv => ?_) (fun σ H2 hv => ?_)⟩
    · obtain ⟨l, y3, ts, rfl, nl, k2, hL, hts, ht2, hte⟩ := hv
      have hi6 : i < sg.length := (Array.getElem?_eq_some_iff.mp hi).1
      refine ⟨_, rfl, _, rfl, _, rfl, fun D hD => lc_str (fun j H3 => ∃ zs : List Str, zs.length = j ∧ (∀ t ∈ zs, Two t) ∧ Ext H2 H3 ∧ H3 D = some (.lst (zs.map V.str)) ∧ zs = (sg.cps.toList.take j).map fun b => (⟨#[ch]⟩ ++ ⟨#[b]⟩ : Str)) ⟨[], rfl, (fun t h => by cases h), Ext.new hD, upd_same, by rw [List.take_zero]; rfl⟩ (fun j cj H3 hj hv => ?_) (fun H3 hv => ?_)⟩
      · obtain ⟨zs, hzs, hz2, k3, hL3, hze⟩ := hv
        have hj6 : j < sg.length := (Array.getElem?_eq_some_iff.mp hj).1
        refine ⟨rfl, _, rfl, _, rfl, _, _, rfl, rfl, szL (show 1 + 1 ≤ 1000000 by decide), _, hL3, szLt ?_, zs ++ [⟨#[ch]⟩ ++ ⟨#[cj]⟩], ?_, fun t ht => ?_, k3.put hD, ?_, ?_⟩
        · rw [List.length_map]
          omega
        · rw [List.length_append, List.length_singleton]
          omega
        · rcases List.mem_append.mp ht with ht | ht
          · exact hz2 t ht
          · rw [List.mem_singleton.mp ht]
            exact ⟨rfl, (Small.one (hsm.at hi)).app (Small.one (hsm.at hj))⟩
        · rw [upd_same, List.map_append]
          rfl
        · have hj' : sg.cps.toList[j]? = some cj := by
            rw [Array.getElem?_toList]
            exact hj
          rw [List.take_add_one, hj', List.map_append, hze]
          rfl
      · obtain ⟨zs, hzs, hz2, k3, hL3, hze⟩ := hv
        have hzs : zs.length ≤ 6 := by
          have : sg.cps.size ≤ 6 := hs6
          omega
        refine ⟨l, D, _, _, rfl, rfl, k3 _ _ hL, hL3, szL ?_, fun l2 hl2 => ⟨l2, _, ts ++ zs, rfl, (((hP1.ext k2).ext k3).ne hl2).1, (k2.trans k3).trans (Ext.new hl2), ?_, ?_, fun t ht => ?_, ?_⟩⟩
        · rw [List.length_map, List.length_map]
          omega
        · rw [upd_same, List.map_append]
        · rw [List.length_append]
          omega
        · rcases List.mem_append.mp ht with ht | ht
          · exact ht2 t ht
          · exact hz2 t ht
        · have hi' : sg.cps.toList[i]? = some ch := by
            rw [Array.getElem?_toList]
            exact hi
          rw [List.take_of_length_le (by rw [Array.length_toList]; exact Nat.le_refl _)] at hze
          rw [hte, hze]
          unfold evL
          rw [List.take_add_one, hi', List.flatMap_append]
          simp
    obtain ⟨le, y3, ts, rfl, nle, k2, hLe, hts, ht2, hte⟩ := hv
    have htn : ts.Nodup := by
      rw [hte]
      exact hev
    have hts16 : ts.length ≤ 36 := by
      have : sg.cps.size ≤ 6 := hs6
      omega
    have hP2 := hP1.ext k2
    have kp2 : Kp p H H2 := kp1.trans (Kp.ext k2)
    clear hts k2 kp1 hP1
    -- some
    refine ⟨_, rfl, le, rfl, ⟨_, SqL.of hLe⟩, fun D hD => lc_list (K := K) (xs := ts.map V.str) (fun i H5 => ∃ us : List Str, us.length ≤ i ∧ (∀ t ∈ us, Two t) ∧ H5 D = some (.lst (us.map V.str)) ∧ Kp p H2 H5 ∧ Pen H5 p c (n + 2 + i) ∧ us.Sublist (ts.take i))
      ⟨[], Nat.zero_le _, (fun t h => by cases h), upd_same, Kp.new hD, (hP2.new hD).mono (by omega), List.nil_sublist _⟩ (fun i H5 _ ⟨us, _, _, _, k, _⟩ => SqL.of (k _ _ nle hLe)) (fun i u H5 hi hv => ?_) (fun H5 hv => ?_)⟩
    · obtain ⟨us, hul, hu2, hL5, k5, hP5, hsub⟩ := hv
      have hil : i < ts.length := by
        have := (List.getElem?_eq_some_iff.mp hi).1
        rw [List.length_map] at this
        exact this
      obtain ⟨t, hti, rfl⟩ : ∃ t, ts[i]? = some t ∧ u = .str t := by
        rw [List.getElem?_map, List.getElem?_eq_getElem hil] at hi
        exact ⟨ts[i], List.getElem?_eq_getElem hil, (Option.some.inj hi).symm⟩
      have ht := List.mem_of_getElem? hti
      refine ⟨rfl, _, rfl, p, c, 4, _, rfl, hP5, by omega, by decide, by decide, fun r6 H6 r6a r6b k6 hP6 => ⟨_, _, rfl, rfl, _, rfl, ite2 (fun e => ?_) (fun e => ?_)⟩⟩
      · have nD := hP2.ne hD
        refine ⟨_, rfl, _, k6 _ _ nD.1 hL5, szLt ?_, us ++ [t], ?_, fun x hx => ?_, ?_, (k5.trans k6).put hD, (hP6.put nD.1 nD.2).mono (by omega), ?_⟩
        · rw [List.length_map]
          omega
        · rw [List.length_append, List.length_singleton]
          omega
        · rcases List.mem_append.mp hx with hx | hx
          · exact hu2 x hx
          · rw [List.mem_singleton.mp hx]
            exact ht2 t ht
        · rw [upd_same, List.map_append]
          rfl
        · rw [List.take_add_one, hti]
          exact hsub.append (List.Sublist.refl _)
      · refine ⟨us, by omega, hu2, k6 _ _ (hP2.ne hD).1 hL5, k5.trans k6, hP6.mono (by omega), ?_⟩
        rw [List.take_add_one]
        exact hsub.trans (List.sublist_append_left _ _)
    obtain ⟨us0, hul, hu2, hL5, k5, hP5, hsub⟩ := hv
    rw [List.length_map] at hul hP5
    refine ⟨12, rfl, D, _, rfl, SqL.of hL5, fun so hso => ?_⟩
    have ecut : cutV (us0.map V.str) none (some 12) = (us0.take 12).map V.str := by
      have := cut_to (xs := us0.map V.str) (k := 12)
      rw [List.map_take]
      exact this
    rw [ecut]
    obtain ⟨us, eus⟩ : ∃ us, us = us0.take 12 := ⟨_, rfl⟩
    rw [← eus]
    have husub : us.Sublist us0 := by
      rw [eus]
      exact List.take_sublist _ _
    have hu12 : us.length ≤ 12 := by
      rw [eus, List.length_take]
      omega
    have hut : ∀ t ∈ us, Two t := fun t ht => hu2 t (husub.subset ht)
    have hofu : ∀ t ∈ us, Of sg t := fun t ht => by
      have h3 := List.mem_of_mem_take (hsub.subset (husub.subset ht))
      rw [hte] at h3
      exact evL_of h3
    have hun : us.Nodup := List.Sublist.nodup (husub.trans (hsub.trans (List.take_sublist _ _))) htn
    have nso := hP5.ne hso
    have hP6 := (hP5.new (o := .lst (us.map V.str)) hso).mono (show n + 2 + ts.length ≤ n + 38 by omega)
    have kp6 : Kp p H (upd H5 so (.lst (us.map V.str))) := (kp2.trans k5).trans (Kp.new hso)
    have hS6 : (upd H5 so (.lst (us.map V.str))) so = some (.lst (us.map V.str)) := upd_same
    generalize upd H5 so (.lst (us.map V.str)) = H6 at hP6 kp6 hS6 ⊢
    clear hP5 hso k5 hL5 kp2 hP2 hD hLe nle
    -- couples
    refine ⟨_, rfl, so, rfl, ⟨_, SqL.of hS6⟩, fun D8 hD8 => lc_list (K := K) (xs := us.map V.str) (fun i H9 => ∃ (vs : List V) (prs : List (Str × Int)), vs.length = i ∧ H9 D8 = some (.lst vs) ∧ Paired (PairAt H9) vs prs ∧ (∀ x ∈ prs, Two x.1 ∧ -99 ≤ x.2 ∧ x.2 ≤ 99) ∧ Kp p H6 H9 ∧ Pen H9 p c (n + 38 + 4 * i) ∧ prs.map (·.1) = us.take i)
      ⟨[], [], rfl, upd_same, .nil, (fun t h => by cases h), Kp.new hD8, (hP6.new hD8), by rw [List.take_zero]; rfl⟩ (fun i H9 _ ⟨_, _, _, _, _, _, k, _⟩ => SqL.of (k _ _ nso.1 hS6)) (fun i u H9 hi hv => ?_) (fun H9 hv => ?_)⟩
    · obtain ⟨vs, prs, hvl, hL9, hPr, hOk, k9, hP9, hpu⟩ := hv
      have hil : i < us.length := by
        have := (List.getElem?_eq_some_iff.mp hi).1
        rw [List.length_map] at this
        exact this
      obtain ⟨t, hti, rfl⟩ : ∃ t, us[i]? = some t ∧ u = .str t := by
        rw [List.getElem?_map, List.getElem?_eq_getElem hil] at hi
        exact ⟨us[i], List.getElem?_eq_getElem hil, (Option.some.inj hi).symm⟩
      have ht := List.mem_of_getElem? hti
      refine ⟨rfl, _, rfl, _, rfl, p, c, _, rfl, hP9, by omega, fun i5 H10 i5a i5b k10 hP10 => ⟨szL (show 2 ≤ 1000000 by decide), fun t1 ht1 => ?_⟩⟩
      have nD := hP6.ne hD8
      have hL10 : H10 D8 = some (.lst vs) := k10 _ _ nD.1 hL9
      have e1 := Ext.new (o := .tup [.str t, .int i5]) ht1
      have hL11 := e1 _ _ hL10
      have nDt : D8 ≠ t1 := ne_of_none hL10 ht1
      refine ⟨vs, hL11, szLt (by omega), vs ++ [.ref t1], prs ++ [(t, i5)], ?_, upd_same, ?_, fun x hx => ?_, ?_, ?_, ?_⟩
      · rw [List.length_append, List.length_singleton]
        omega
      · refine (paired_imp (fun _ _ => PairAt.mono _ _ _ _ (((TupK.of k10 hP9).trans (TupK.ext e1)).trans (TupK.lst hL11))) hPr).snoc ⟨t1, rfl, ?_⟩
        rw [upd_ne nDt.symm, upd_same]
      · rcases List.mem_append.mp hx with hx | hx
        · exact hOk x hx
        · rw [List.mem_singleton.mp hx]
          exact ⟨hut t ht, i5a, i5b⟩
      · exact ((k9.trans k10).trans (Kp.ext e1)).put hD8
      · exact ((hP10.ext e1).put nD.1 nD.2).mono (by omega)
      · rw [List.take_add_one, hti, List.map_append, hpu]
        rfl
    obtain ⟨vs, prs, hvl, hL9, hPr, hOk, k9, hP9, hpu⟩ := hv
    have hpn : (prs.map (·.1)).Nodup := by
      rw [hpu, List.take_of_length_le (by rw [List.length_map]; exact Nat.le_refl _)]
      exact hun
    rw [List.length_map] at hvl hP9
    refine ⟨D8, _, rfl, SqL.of hL9, fun tp oz htp hoz => ?_⟩
    have hTp : FrzOf PairAt (upd H9 tp (.frz oz (.tup vs))) (.ref tp) prs := ⟨tp, oz, vs, rfl, upd_same, hoz, paired_imp (fun _ _ => PairAt.mono _ _ _ _ (TupK.new htp)) hPr⟩
    have hprl : prs.length ≤ 12 := by
      rw [← paired_len hPr]
      omega
    have hP10 := (hP9.new (o := .frz oz (.tup vs)) htp).mono (show n + 38 + 4 * us.length ≤ n + 86 by omega)
    have k610 : Kp p H6 (upd H9 tp (.frz oz (.tup vs))) := k9.trans (Kp.new htp)
    have kp10 : Kp p H (upd H9 tp (.frz oz (.tup vs))) := kp6.trans k610
    have hS10 := k610 _ _ nso.1 hS6
    generalize upd H9 tp (.frz oz (.tup vs)) = H10 at hTp hP10 kp10 hS10 ⊢
    have hofp : ∀ y ∈ prs, Of sg y.1 := fun y hy => by
      have h1 : y.1 ∈ prs.map (·.1) := List.mem_map.mpr ⟨y, hy, rfl⟩
      rw [hpu] at h1
      exact hofu _ (List.mem_of_mem_take h1)
    clear hPr hL9 k9 hP9 k610 htp hvl hpu
    -- sums
    refine ⟨0, 3, rfl, rfl, szL (show 9 ≤ 1000000 by decide), fun ta hta => ?_⟩
    have xa := Ext.new (o := .tup [.int (0 - 3), .int 1, .int 0, .int 2, .int 0, .int 0, .int 3, .int 0, .int 0]) hta
    refine ⟨szL (show 1 ≤ 1000000 by decide), fun tb htb => ?_⟩
    have xb := Ext.new (o := .tup [.int 0]) htb
    refine ⟨tb, 9, _, rfl, rfl, SqT.of upd_same, (fun z => by cases z), by decide, by decide, (show 1 ≤ 1000 by decide), fun tc htc => ?_⟩
    rw [rep_ints]
    have xc := Ext.new (o := .tup (([0, 0, 0, 0, 0, 0, 0, 0, 0] : List Int).map V.int)) htc
    have hA1 : NineAt (upd (upd (upd H10 ta (.tup [.int (0 - 3), .int 1, .int 0, .int 2, .int 0, .int 0, .int 3, .int 0, .int 0])) tb (.tup [.int 0])) tc (.tup (([0, 0, 0, 0, 0, 0, 0, 0, 0] : List Int).map V.int))) (.ref ta) := ⟨ta, [-3, 1, 0, 2, 0, 0, 3, 0, 0], rfl, xc _ _ (xb _ _ upd_same), rfl, by decide⟩
    have hA2 : NineAt (upd (upd (upd H10 ta (.tup [.int (0 - 3), .int 1, .int 0, .int 2, .int 0, .int 0, .int 3, .int 0, .int 0])) tb (.tup [.int 0])) tc (.tup (([0, 0, 0, 0, 0, 0, 0, 0, 0] : List Int).map V.int))) (.ref tc) := ⟨tc, [0, 0, 0, 0, 0, 0, 0, 0, 0], rfl, upd_same, rfl, by decide⟩
    have hP11 := hP10.ext ((xa.trans xb).trans xc)
    have k1011 : Kp p H10 _ := Kp.ext ((xa.trans xb).trans xc)
    have hS11 := k1011 _ _ nso.1 hS10
    generalize upd (upd (upd H10 ta (.tup [.int (0 - 3), .int 1, .int 0, .int 2, .int 0, .int 0, .int 3, .int 0, .int 0])) tb (.tup [.int 0])) tc (.tup (([0, 0, 0, 0, 0, 0, 0, 0, 0] : List Int).map V.int)) = H11 at hA1 hA2 hP11 k1011 hS11 ⊢
    refine ⟨9, rfl, by decide, by decide, fun D22 hD22 => lc_range (lo := 0) (n := 9) (fun i H22 => ∃ ns : List Int, ns.length = i ∧ (∀ x ∈ ns, -99 ≤ x ∧ x ≤ 99) ∧ H22 D22 = some (.lst (ns.map V.int)) ∧ Kp p H11 H22 ∧ Pen H22 p c (n + 86 + 4 * i)) ⟨[], rfl, (fun x h => by cases h), upd_same, Kp.new hD22, (hP11.new hD22).mono (by omega)⟩ (fun i H22 hi hv => ?_) (fun H22 hv => ?_)⟩
    · obtain ⟨ns, hns, hnb, hL22, k22, hP22⟩ := hv
      have nD := hP11.ne hD22
      refine ⟨rfl, _, rfl, p, c, _, rfl, hP22, by omega, fun w H23 wa wb k23 hP23 => ⟨_, k23 _ _ nD.1 hL22, szLt ?_, ns ++ [w], ?_, fun x hx => ?_, ?_, (k22.trans k23).put hD22, (hP23.put nD.1 nD.2).mono (by omega)⟩⟩
      · rw [List.length_map]
        omega
      · rw [List.length_append, List.length_singleton]
        omega
      · rcases List.mem_append.mp hx with hx | hx
        · exact hnb x hx
        · rw [List.mem_singleton.mp hx]
          exact ⟨wa, wb⟩
      · rw [upd_same, List.map_append]
        rfl
    obtain ⟨ns, hns, hnb, hL22, k22, hP22⟩ := hv
    refine ⟨D22, _, rfl, .inl ⟨SqL.of hL22, fun tl htl => ?_⟩⟩
    have x23 := Ext.new (o := .tup (ns.map V.int)) htl
    have hA3 : NineAt (upd H22 tl (.tup (ns.map V.int))) (.ref tl) := ⟨tl, ns, rfl, upd_same, hns, hnb⟩
    refine ⟨szL (show 3 ≤ 1000000 by decide), fun su hsu => ?_⟩
    have x24 := Ext.new (o := .lst [.ref ta, .ref tc, .ref tl]) hsu
    have nsu := ((hP22.ext x23).ne hsu)
    have hP12 := (hP22.ext x23).ext x24
    have k1112 : Kp p H11 _ := k22.trans (Kp.ext (x23.trans x24))
    have tk1112 : TupK H11 _ := TupK.of k1112 hP11
    have hSu : (upd (upd H22 tl (.tup (ns.map V.int))) su (.lst [.ref ta, .ref tc, .ref tl])) su = some (.lst [.ref ta, .ref tc, .ref tl]) := upd_same
    have hSums : ∀ v ∈ [V.ref ta, .ref tc, .ref tl], NineAt (upd (upd H22 tl (.tup (ns.map V.int))) su (.lst [.ref ta, .ref tc, .ref tl])) v := by
      intro v hv
      simp only [List.mem_cons, List.not_mem_nil, or_false] at hv
      rcases hv with rfl | rfl | rfl
      · exact hA1.mono tk1112
      · exact hA2.mono tk1112
      · exact hA3.mono (TupK.ext x24)
    have k1012 := k1011.trans k1112
    have hS12 := k1112 _ _ nso.1 hS11
    generalize upd (upd H22 tl (.tup (ns.map V.int))) su (.lst [.ref ta, .ref tc, .ref tl]) = H12 at hP12 k1012 hS12 hSu hSums ⊢
    clear hA1 hA2 hA3 tk1112 k1112 k1011 hS11 hL22 k22 x23 x24 hns hnb xa xb xc
    -- rows
    refine fun st hst => ?_
    have nst := hP12.ne hst
    have hP13 := hP12.new (o := .dT []) hst
    have k1013 : Kp p H10 (upd H12 st (.dT [])) := k1012.trans (Kp.new hst)
    have hS13 := k1013 _ _ nso.1 hS10
    have hSu13 := Ext.new (o := .dT []) hst _ _ hSu
    have hSums13 : ∀ v ∈ [V.ref ta, .ref tc, .ref tl], NineAt (upd H12 st (.dT [])) v := fun v hv => (hSums v hv).mono (TupK.new hst)
    have hD13 : (upd H12 st (.dT [])) st = some (.dT []) := upd_same
    generalize upd H12 st (.dT []) = H13 at hP13 k1013 hS13 hD13 hSu13 hSums13 ⊢
    refine ⟨_, rfl, szL (show 4 ≤ 1000000 by decide), fun l14 hl14 => ?_⟩
    refine ⟨p, c, .ref l14, [0, 1, 4, 12].map V.int, _, rfl, .inl ⟨l14, rfl, upd_same⟩, (fun z => (hP13.ne hl14).1 (by injection z)), (show 0 < 4 by decide), (show 4 < 1000000 by decide), hP13.new hl14, by omega, fun x H14 hx k14 hP14 => ?_⟩
    obtain ⟨y, hy, rfl⟩ := List.mem_map.mp hx
    have hy2 : 0 ≤ y ∧ y ≤ 12 := by
      simp only [List.mem_cons, List.not_mem_nil, or_false] at hy
      omega
    have k1314 : Kp p H13 H14 := (Kp.new hl14).trans k14
    have hS14 := k1314 _ _ nso.1 hS13
    have hD14 := k1314 _ _ nst.1 hD13
    have hSu14 := k1314 _ _ nsu.1 hSu13
    refine ⟨_, rfl, Nat.zero_le _, fun d15 hd15 => ?_⟩
    have x15 := Ext.new (o := .lst []) hd15
    refine ⟨.list (us.map PyData.str), .list [], .lst (SqL.of (x15 _ _ hS14)) (dpStrs us), .lst (SqL.of upd_same) .nil, (sm_strs (n := 36) (m := 2) (by omega) (fun t ht => ⟨(hut t ht).2, Nat.le_of_eq (hut t ht).1⟩) (by decide)).shaped (by decide), by decide, .inr ⟨_, rfl, y, _, rfl, rfl, .inl ⟨by omega, by omega⟩, ?_⟩⟩
    obtain ⟨cnt, hcnt, cnt0, cnt12, cntU⟩ : ∃ cnt : Int, cnt = y * (if (!PyData.eqv (.list (us.map PyData.str)) (.list [])) = true then 1 else 0) ∧ 0 ≤ cnt ∧ cnt ≤ 12 ∧ (0 < cnt → 0 < us.length) := by
      refine ⟨_, rfl, ?_⟩
      cases us with
      | nil =>
        have : (!PyData.eqv (.list (([] : List Str).map PyData.str)) (.list [])) = false := by simp [PyData.eqv, PyData.eqvAll]
        rw [this]
        simp
      | cons y z =>
        have : (!PyData.eqv (.list ((y :: z).map PyData.str)) (.list [])) = true := by simp [PyData.eqv, PyData.eqvAll]
        rw [this, if_pos rfl, Int.mul_one, List.length_cons]
        omega
    refine ⟨cnt, congrArg (fun z => [V.int z]) hcnt.symm, by omega, by omega, for_range (lo := 0) (n := cnt.toNat) (fun i σ H16 => ∃ (y9 : Option V) (es : List (Str × Str × Int)), σ = [some (.ref p), some (.int f0), some (.int mn), y9, some (.str sg), some (.ref so), y3, some (.ref tp), some (.ref su), some (.ref st), none, none, none, none] ∧ H16 st = some (.dT (es.map encE)) ∧ es.length ≤ i ∧ (es.map fun x => (x.1, x.2.1)).Nodup ∧ (∀ x ∈ es, (Two x.1 ∧ Two x.2.1 ∧ -99 ≤ x.2.2 ∧ x.2.2 ≤ 99) ∧ Of sg x.1 ∧ Of sg x.2.1) ∧ H16 so = some (.lst (us.map V.str)) ∧ H16 su = some (.lst [.ref ta, .ref tc, .ref tl]) ∧ TupK H14 H16 ∧ Kp p H H16 ∧ Pen H16 p c (n + 123 + 6 * i))
      ⟨_, [], rfl, x15 _ _ hD14, Nat.zero_le _, List.nodup_nil, (fun x h => by cases h), x15 _ _ hS14, x15 _ _ hSu14, TupK.ext x15, ((kp10.trans k1013).trans k1314).trans (Kp.ext x15), (hP14.ext x15).mono (by omega)⟩ (fun i σ H16 hi hv => ?_) (fun σ H16 hv => ?_)⟩
    · obtain ⟨y9, es, rfl, hD16, hel, hnd, hok, hS16, hSu16, tk16, k16, hP16⟩ := hv
      have hu0 : 0 < us.length := cntU (by omega)
      have hul : (us.map V.str).length = us.length := List.length_map ..
      have nsop : V.ref so ≠ .ref p := fun z => nso.1 (by injection z)
      refine ⟨_, rfl, p, c, _, rfl, hP16, by omega, fun w H17 wa wb k17 hP17 => ?_⟩
      have hS17 := k17 _ _ nso.1 hS16
      have hD17 := k17 _ _ nst.1 hD16
      have hSu17 := k17 _ _ nsu.1 hSu16
      refine ⟨_, rfl, _, rfl, _, rfl, p, c, .ref so, us.map V.str, _, rfl, .inl ⟨so, rfl, hS17⟩, nsop, by omega, by omega, hP17, by omega, fun v1 H18 hv1 k18 hP18 => ?_⟩
      have hS18 := k18 _ _ nso.1 hS17
      have hD18 := k18 _ _ nst.1 hD17
      have hSu18 := k18 _ _ nsu.1 hSu17
      obtain ⟨t1, ht1, rfl⟩ := List.mem_map.mp hv1
      refine ⟨_, rfl, _, rfl, p, c, .ref so, us.map V.str, _, rfl, .inl ⟨so, rfl, hS18⟩, nsop, by omega, by omega, hP18, by omega, fun v2 H19 hv2 k19 hP19 => ?_⟩
      have hS19 := k19 _ _ nso.1 hS18
      have hD19 := k19 _ _ nst.1 hD18
      have hSu19 := k19 _ _ nsu.1 hSu18
      obtain ⟨t2, ht2', rfl⟩ := List.mem_map.mp hv2
      refine ⟨szL (show 2 ≤ 1000000 by decide), fun tk htk => ?_⟩
      have x20 := Ext.new (o := .tup [.str t1, .str t2]) htk
      have hT20 : (upd H19 tk (.tup [.str t1, .str t2])) tk = some (.tup [.str t1, .str t2]) := upd_same
      have hP20 := hP19.ext x20
      have hD20 := x20 _ _ hD19
      have hS20 := x20 _ _ hS19
      have hSu20 := x20 _ _ hSu19
      refine ⟨st, _, rfl, DPut.t (k := [.inr t1, .inr t2]) hD20 hT20 (szLt ?_), ?_⟩
      · rw [List.length_map]
        omega
      · rw [put_enc]
        generalize upd H19 tk (.tup [.str t1, .str t2]) = H20 at hT20 hP20 hD20 hS20 hSu20 x20 ⊢
        have tkd : TupK H20 (upd H20 st (.dT ((putE es t1 t2 w).map encE))) := ⟨fun b xs e => by rw [upd_ne (ne_of e hD20 (by intro z; cases z))]; exact e, fun b o u e => by rw [upd_ne (ne_of e hD20 (by intro z; cases z))]; exact e⟩
        refine ⟨_, putE es t1 t2 w, rfl, upd_same, ?_, putE_keys _ _ _ _ hnd, putE_all hok ⟨⟨hut t1 ht1, hut t2 ht2', wa, wb⟩, hofu t1 ht1, hofu t2 ht2'⟩, ?_, ?_, ?_, ?_, ?_⟩
        · have := putE_len es t1 t2 w
          omega
        · rw [upd_ne (ne_of hS20 hD20 (by intro z; cases z))]
          exact hS20
        · rw [upd_ne (ne_of hSu20 hD20 (by intro z; cases z))]
          exact hSu20
        · exact ((((tk16.trans (TupK.of k17 hP16)).trans (TupK.of k18 hP17)).trans (TupK.of k19 hP18)).trans (TupK.ext x20)).trans tkd
        · have hst0 : H st = none := none_of ((kp10.trans k1012)) nst.1 hst
          exact ((((k16.trans k17).trans k18).trans k19).trans (Kp.ext x20)).put hst0
        · exact (hP20.put nst.1 nst.2).mono (by omega)
    · obtain ⟨y9, es, rfl, hD16, hel, hnd, hok, hS16, hSu16, tk16, k16, hP16⟩ := hv
      have hes12 : es.length ≤ 12 := by omega
      -- piles
      refine ⟨_, rfl, st, _, rfl, .inl hD16, fun bs hkeys => ?_⟩
      obtain ⟨bes, hb1, hb2, hb3⟩ := keys_zip hkeys
      refine ⟨_, fun x => x.1, fun x => .tuple [.str x.2.1, .str x.2.2.1], bes, hb1.symm, fun x hx => ⟨.tup (SqT.of (hb3 x hx)) (.cons (.str _) (.cons (.str _) .nil)), by simp [PyData.depth, PyData.depthAll]⟩, ?_, .inl ?_, fun ls hls2 => ?_⟩
      · intro d1 h1 d2 h2
        obtain ⟨x1, _, rfl⟩ := List.mem_map.mp h1
        obtain ⟨x2, _, rfl⟩ := List.mem_map.mp h2
        simp [PySem.W.alike, PySem.W.alikeAll]
      · intro d1 h1
        obtain ⟨x1, _, rfl⟩ := List.mem_map.mp h1
        exact ⟨_, _, rfl⟩
      · obtain ⟨S, hS⟩ : ∃ S, S = bes.mergeSort (PySem.W.dataLe false fun x => PyData.tuple [.str x.2.1, .str x.2.2.1]) := ⟨_, rfl⟩
        rw [← hS]
        have hperm : S.Perm bes := hS ▸ List.mergeSort_perm _ _
        have hSl : S.length ≤ 12 := by
          rw [hperm.length_eq]
          have := congrArg List.length hb2
          rw [List.length_map] at this
          omega
        have e17 := Ext.new (o := .lst (S.map fun x => V.ref x.1)) hls2
        refine ⟨ls, rfl, ⟨_, SqL.of upd_same⟩, fun D hD => lc_list (K := K) (xs := S.map fun x => V.ref x.1) (fun i H18 => ∃ (vs : List V) (stk : List (Str × Str × Int)), H18 D = some (.lst vs) ∧ Paired (StackAt H18) vs stk ∧ stk = (S.take i).map (·.2) ∧ Ext (upd H16 ls (.lst (S.map fun x => V.ref x.1))) H18)
          ⟨[], [], upd_same, .nil, rfl, Ext.new hD⟩ (fun i H18 _ ⟨_, _, _, _, _, k⟩ => SqL.of (k _ _ upd_same)) (fun i u H18 hi hv => ?_) (fun H18 hv => ?_)⟩
        · obtain ⟨vs, stk, hL18, hPr18, hstk, k18⟩ := hv
          rw [List.getElem?_map] at hi
          obtain ⟨x, hx, rfl⟩ : ∃ x, S[i]? = some x ∧ u = V.ref x.1 := by
            cases e : S[i]? with
            | none => rw [e] at hi; cases hi
            | some x => rw [e] at hi; exact ⟨x, rfl, (Option.some.inj hi).symm⟩
          have hxm : x ∈ bes := hperm.mem_iff.mp (List.mem_of_getElem? hx)
          have hxe : x.2 ∈ es := hb2 ▸ List.mem_map.mpr ⟨x, hxm, rfl⟩
          have hb18 := k18 _ _ (e17 _ _ (hb3 x hxm))
          have hD18 := k18 _ _ (e17 _ _ hD16)
          have hdg : DGet H18 st (.ref x.1) (some (.int x.2.2.2)) := val_enc hnd hxe ▸ DGet.t (k := [.inr x.2.1, .inr x.2.2.1]) hD18 hb18
          refine ⟨rfl, _, rfl, _, rfl, _, rfl, st, _, rfl, hdg, szL (show 1 ≤ 1000000 by decide), fun t1 ht1 => ?_⟩
          have e19 := Ext.new (o := .tup [.int x.2.2.2]) ht1
          refine ⟨x.1, t1, _, _, rfl, rfl, SqT.of (e19 _ _ hb18), SqT.of upd_same, (fun z => by cases z), szL (show 2 + 1 ≤ 1000000 by decide), (fun z => by cases z), fun _ t2 ht2 => ?_⟩
          have e20 := e19.trans (Ext.new (o := .tup [.str x.2.1, .str x.2.2.1, .int x.2.2.2]) ht2)
          have hL20 := e20 _ _ hL18
          have nDt : t2 ≠ D := by
            intro z
            rw [← z] at hL20
            rw [upd_same] at hL20
            cases hL20
          have hvl : vs.length ≤ 12 := by
            rw [paired_len hPr18, hstk, List.length_map, List.length_take]
            omega
          refine ⟨vs, hL20, szLt (by omega), vs ++ [.ref t2], stk ++ [x.2], upd_same, ?_, ?_, (k18.trans e20).put hD⟩
          · refine (paired_imp (fun _ _ => StackAt.mono _ _ _ _ ((TupK.ext e20).trans (TupK.lst hL20))) hPr18).snoc ⟨t2, rfl, ?_⟩
            rw [upd_ne nDt, upd_same]
          · rw [List.take_add_one, hx, List.map_append, hstk]
            rfl
        · obtain ⟨vs, stk, hL18, hPr18, hstk, k18⟩ := hv
          rw [List.length_map, List.take_of_length_le (Nat.le_refl _)] at hstk
          have hkeys2 : (stk.map fun x => (x.1, x.2.1)).Nodup := by
            rw [hstk, List.map_map]
            have : (S.map ((fun x : Str × Str × Int => (x.1, x.2.1)) ∘ fun x : Addr × Str × Str × Int => x.2)).Perm (es.map fun x => (x.1, x.2.1)) := by
              rw [← hb2, List.map_map]
              exact hperm.map _
            exact this.nodup_iff.mpr hnd
          have hstE : ∀ x ∈ stk, x ∈ es := fun x hx => by
            rw [hstk] at hx
            obtain ⟨y, hy, rfl⟩ := List.mem_map.mp hx
            exact hb2 ▸ List.mem_map.mpr ⟨y, hperm.mem_iff.mp hy, rfl⟩
          have hst12 : stk.length ≤ 12 := by
            rw [hstk, List.length_map]
            exact hSl
          refine ⟨D, _, rfl, .inl ⟨SqL.of hL18, fun tr htr => ?_⟩⟩
          have e21 := (e17.trans k18).trans (Ext.new (o := .tup vs) htr)
          have hTr : TupOf StackAt (upd H18 tr (.tup vs)) (.ref tr) stk := ⟨tr, vs, rfl, upd_same, paired_imp (fun _ _ => StackAt.mono _ _ _ _ (TupK.new htr)) hPr18⟩
          have hP21 := hP16.ext e21
          have k21 := k16.trans (Kp.ext e21)
          have tk21 := tk16.trans (TupK.ext e21)
          have hSu21 := e21 _ _ hSu16
          generalize upd H18 tr (.tup vs) = H21 at hTr hP21 k21 tk21 hSu21 ⊢
          -- span, loops, and the whole
          have tkA : TupK H13 H21 := (TupK.of k1314 hP13).trans tk21
          refine ⟨_, rfl, _, rfl, _, rfl, szL (show 5 ≤ 1000000 by decide), fun l22 hl22 => ?_⟩
          refine ⟨p, c, .ref l22, [0, 1, 0, 3, 2].map V.int, _, rfl, .inl ⟨l22, rfl, upd_same⟩, (fun z => (hP21.ne hl22).1 (by injection z)), (show 0 < 5 by decide), (show 5 < 1000000 by decide), hP21.new hl22, by omega, fun x H22 hx k22 hP22 => ?_⟩
          obtain ⟨z, hz, rfl⟩ := List.mem_map.mp hx
          have hz2 : 0 ≤ z ∧ z ≤ 3 := by
            simp only [List.mem_cons, List.not_mem_nil, or_false] at hz
            omega
          have k2122 : Kp p H21 H22 := (Kp.new hl22).trans k22
          have hSu22 := k2122 _ _ nsu.1 hSu21
          refine ⟨_, rfl, _, rfl, _, rfl, 2, rfl, su, _, rfl, SqL.of hSu22, fun l23 hl23 => ?_⟩
          have ec : cutV [V.ref ta, .ref tc, .ref tl] (some 2) none = [.ref tl] := cut_from (k := 2)
          rw [ec]
          have x23 := Ext.new (o := .lst [.ref tl]) hl23
          refine ⟨su, l23, _, _, rfl, rfl, x23 _ _ hSu22, upd_same, szL (show 3 + 1 ≤ 1000000 by decide), fun l24 hl24 => ?_⟩
          have x24 := Ext.new (o := .lst ([V.ref ta, V.ref tc, V.ref tl] ++ [V.ref tl])) hl24
          have hP24 := (hP22.ext x23).ext x24
          refine ⟨p, c, .ref l24, [V.ref ta, V.ref tc, V.ref tl] ++ [V.ref tl], _, rfl, .inl ⟨l24, rfl, upd_same⟩, (fun z => ((hP22.ext x23).ne hl24).1 (by injection z)), (show 0 < 4 by decide), (show 4 < 1000000 by decide), hP24, by omega, fun v H25 hv k25 hP25 => ?_⟩
          have k2125 : Kp p H21 H25 := ((k2122.trans (Kp.ext x23)).trans (Kp.ext x24)).trans k25
          have hvs : NineAt H25 v := by
            have hv2 : v ∈ [V.ref ta, .ref tc, .ref tl] := by
              rcases List.mem_append.mp hv with h | h
              · exact h
              · rw [List.mem_singleton.mp h]
                simp
            exact (hSums13 v hv2).mono (tkA.trans (TupK.of k2125 hP21))
          obtain ⟨tn, ns, rfl, hTn, hns, hnb⟩ := hvs
          refine ⟨_, rfl, szL (show 5 ≤ 1000000 by decide), fun tR htR => ?_⟩
          have xR := Ext.new (o := .tup [.str sg, .ref tp, .int z, .ref tn, .ref tr]) htR
          have kR := k2125.trans (Kp.ext xR)
          have tkR : TupK H10 _ := ((TupK.of k1013 hP10).trans tkA).trans (TupK.of kR hP21)
          exact q _ ⟨sg, prs, z, _, stk⟩ _ ⟨tR, .ref tp, .ref tn, .ref tr, rfl, upd_same, FrzOf.mono PairAt.mono _ _ _ _ tkR hTp, ⟨tn, _, rfl, xR _ _ hTn, paired_ints ns⟩, TupOf.mono StackAt.mono _ _ _ _ (TupK.of kR hP21) hTr⟩
            ⟨hs6, hs1, hsm, hprl, hOk, hz2.1, hz2.2, hns, hnb, hst12, fun x hx => (hok x (hstE x hx)).1, hkeys2, hpn⟩ ⟨hofp, fun x hx => (hok x (hstE x hx)).2⟩ (k21.trans kR) ((hP25.ext xR).mono (by omega))
abbrev CRules (P : Program) (w : World) (K : PySem.W.Frag) (mg : Str → Option Value) (base : Heap) : Prop := Ca P w K mg base 4 "_law_rules" ["_law_pen_here"] spRules
end
end Pf


namespace Pf
open PySem PySem.Spec PyProof.Rows L2
def sgn (x : Str) (i : Int) : Str := ⟨#[x.cps.toList.getD i.toNat 0]⟩
theorem sgn_at {x : Str} {i : Int} (h0 : 0 ≤ i) (h1 : i < x.length) : atI x.cps.toList i = some (x.cps.toList.getD i.toNat 0) := by
  have h2 : i < x.cps.toList.length := by
    rw [Array.length_toList]
    exact h1
  rw [atI_get h0 h2, List.getD_eq_getElem?_getD, List.getElem?_eq_getElem (by omega)]
  rfl
def tx2 (x : Str) (p : Int × Int) : Str := sgn x p.1 ++ sgn x p.2
def pwV : List (Str × Int) → Str → V
  | [], _ => .non
  | (t, x) :: r, b => if t = b then .int x else pwV r b
theorem pwV_at {prs : List (Str × Int)} {i : Nat} {t : Str} {x : Int} (h : prs[i]? = some (t, x)) (b : Str) : pwV (prs.drop i) b = if t = b then .int x else pwV (prs.drop (i + 1)) b := by
  obtain ⟨hi, e⟩ := List.getElem?_eq_some_iff.mp h
  rw [List.drop_eq_getElem_cons hi, e, pwV]
theorem pwV_end {prs : List (Str × Int)} {i : Nat} (h : prs.length ≤ i) (b : Str) : pwV (prs.drop i) b = .non := by
  rw [List.drop_eq_nil_of_le h, pwV]
theorem pwV_is : ∀ (prs : List (Str × Int)) (b : Str), (!decide (pwV prs b = .non)) = decide (b ∈ prs.map (·.1))
  | [], _ => rfl
  | (t, x) :: r, b => by
    rw [pwV, List.map_cons]
    by_cases e : t = b
    · rw [if_pos e, decide_eq_false (fun z => by cases z), decide_eq_true (by rw [e]; exact List.mem_cons_self ..)]
      rfl
    · rw [if_neg e, pwV_is r b]
      refine decide_eq_decide.mpr ⟨fun h => List.mem_cons_of_mem _ h, fun h => ?_⟩
      rcases List.mem_cons.mp h with h | h
      · exact absurd h.symm e
      · exact h
def mayC (r : Rl) (x : Str) (i j : Int) : Bool := decide (r.span < j - i) && decide (tx2 x (i, j) ∈ r.prs.map (·.1))
def encP (x : Str × Int) : Key × V := (.inr x.1, .int x.2)
theorem val_isSome : ∀ (prs : List (Str × Int)) (b : Str), (valV (prs.map encP) (.inr b)).isSome = decide (b ∈ prs.map (·.1))
  | [], _ => rfl
  | (t, x) :: r, b => by
    rw [List.map_cons, List.map_cons]
    by_cases e : t = b
    · rw [valV_pos (show (encP (t, x)).1 = Sum.inr b by rw [e]; rfl), decide_eq_true (by rw [e]; exact List.mem_cons_self ..)]
      rfl
    · rw [valV_neg (show ¬ (encP (t, x)).1 = Sum.inr b from fun z => e (Sum.inr.inj z)), val_isSome r b]
      refine decide_eq_decide.mpr ⟨fun h => List.mem_cons_of_mem _ h, fun h => ?_⟩
      rcases List.mem_cons.mp h with h | h
      · exact absurd h.symm e
      · exact h
theorem merge_nd : ∀ (kvs acc : List (Key × V)), ((acc ++ kvs).map (·.1)).Nodup → mergeK acc kvs = acc ++ kvs
  | [], acc, _ => by rw [List.append_nil]; rfl
  | (k, v) :: r, acc, h => by
    have hno : (acc.any fun kv => decide (kv.1 = k)) = false := by
      rw [List.any_eq_false]
      intro kv hkv e
      have e := of_decide_eq_true e
      rw [List.map_append, List.map_cons] at h
      have := (List.nodup_append.mp h).2.2 kv.1 (List.mem_map.mpr ⟨kv, hkv, rfl⟩) k (List.mem_cons_self ..)
      exact this e
    have e1 : putK acc k v = acc ++ [(k, v)] := by
      unfold putK
      rw [hno, if_neg Bool.false_ne_true]
    show mergeK (putK acc k v) r = _
    rw [e1, merge_nd r (acc ++ [(k, v)]) (by rw [List.append_assoc]; exact h), List.append_assoc]
    rfl
theorem merge_prs {prs : List (Str × Int)} (h : (prs.map (·.1)).Nodup) : mergeK [] (prs.map encP) = prs.map encP := by
  rw [merge_nd, List.nil_append]
  rw [List.nil_append, List.map_map]
  have e : ((fun x : Key × V => x.1) ∘ encP) = (fun x : Str × Int => (Sum.inr x.1 : Key)) := rfl
  rw [e]
  have e2 : (prs.map fun x : Str × Int => (Sum.inr x.1 : Key)) = (prs.map (·.1)).map Sum.inr := by
    rw [List.map_map]
    rfl
  rw [e2]
  exact List.Pairwise.map _ (fun a b z y => z (Sum.inr.inj y)) h
section
variable {P : Program} {w : World} {K : PySem.W.Frag} {mg : Str → Option Value} {base : Heap}
abbrev s_pair_worth : Stmt := topS 10
theorem sc_pair_worth : FnScope ["rules", "both", "text", "worth"] ["rules", "both"] (defScope s_pair_worth) :=
  ⟨rfl, rfl, rfl, by decide +kernel, rfl, by decide +kernel, by decide +kernel⟩
def spPW : Sp := fun vs H Q _ => ∃ (v : V) (r : Rl) (b : Str), vs = [v, .str b] ∧ RulesW H v r ∧ Q (pwV r.prs b) H
theorem ok_pw {f : Addr} {fd : FuncData} {k : Nat} (F : Fun K "pair_worth" "pair_worth" s_pair_worth f fd) : FnOk P w K mg base CX0 (k + 1) f fd ["rules", "both"] spPW := by
  refine F.ok sc_pair_worth (fun vs H Q E h => ?_) (fun cdv A outer s H vs Q E hr h => ?_)
  · obtain ⟨v, r, b, rfl, _⟩ := h
    rfl
  · obtain ⟨v, r, b, rfl, ⟨a, vp, vl, vs, rfl, hA, ⟨ap, us, rfl, hp, hR⟩, _, _⟩, q⟩ := h
    refine ⟨_, (pss_cons (ps_for PassesOwn.never rfl (pi_tup (pe_ix (ixT K) (pv 0) pe_int (fun _ _ => rfl))) (pg_tup rfl (pgs_cons (pg_name (i := 2) sc_pair_worth.nd rfl (.inl rfl)) (pgs_cons (pg_name (i := 3) sc_pair_worth.nd rfl (.inl rfl)) pgs_nil))) (pss_one (ps_if (pt_cmpR op_eq (pv 2) (pv 1) (nomark _)) (pss_one (ps_ret (pv 3))) pss_nil)))
      (pss_one (ps_ret pe_non))), ?_⟩
    have hlen := paired_len hR
    refine ⟨_, rfl, a, _, 1, _, rfl, rfl, SqT.of hA, rfl, ap, rfl, ⟨_, SqT.w hp⟩, for_tup (xs := us) (fun i σ H2 => ∃ (y2 y3 : Option V), σ = [some (.ref a), some (.str b), y2, y3] ∧ H2 = H ∧ pwV (r.prs.drop i) b = pwV r.prs b)
      ⟨none, none, rfl, rfl, rfl⟩ (fun i σ H2 _ ⟨y2, y3, _, e, _⟩ => SqT.w (by rw [e]; exact hp)) (fun i u σ H2 hi hv => ?_) (fun σ H2 hv => ?_)⟩
    · obtain ⟨y2, y3, rfl, rfl, hd⟩ := hv
      obtain ⟨⟨t, x⟩, hx, a1, rfl, ha1⟩ := paired_get hR hi
      rw [pwV_at hx] at hd
      refine ⟨a1, _, rfl, SqT.of ha1, rfl, _, _, rfl, _, _, rfl, rfl, ?_⟩
      refine ⟨_, rfl, _, rfl, rfl, _, rfl, ite2 (fun e => ?_) (fun e => ?_)⟩
      · have e2 : t = b := V.str.inj (of_decide_eq_true e)
        rw [if_pos e2] at hd
        refine ⟨_, rfl, ?_⟩
        show Q (.int x) _
        rw [hd]
        exact q
      · have e2 : ¬ t = b := fun z => e (decide_eq_true (congrArg V.str z))
        rw [if_neg e2] at hd
        exact ⟨_, _, rfl, rfl, hd⟩
    · obtain ⟨y2, y3, rfl, rfl, hd⟩ := hv
      rw [pwV_end (by omega)] at hd
      show Q .non _
      rw [hd]
      exact q
abbrev CPW (P : Program) (w : World) (K : PySem.W.Frag) (mg : Str → Option Value) (base : Heap) : Prop := Ca P w K mg base 1 "pair_worth" ["rules", "both"] spPW
abbrev s_text_of : Stmt := topS 16
theorem sc_text_of : FnScope ["string", "pair"] ["string", "pair"] (defScope s_text_of) :=
  ⟨rfl, rfl, rfl, by decide +kernel, rfl, by decide +kernel, by decide +kernel⟩
def spTextOf : Sp := fun vs H Q _ => ∃ (x : Str) (t : Addr) (y : Int × Int), vs = [.str x, .ref t] ∧ H t = some (.tup [.int y.1, .int y.2]) ∧ x.length ≤ 1000 ∧ 0 ≤ y.1 ∧ y.1 < x.length ∧ 0 ≤ y.2 ∧ y.2 < x.length ∧ Q (.str (tx2 x y)) H
theorem ok_text_of {f : Addr} {fd : FuncData} {k : Nat} (F : Fun K "text_of" "text_of" s_text_of f fd) : FnOk P w K mg base CX0 (k + 1) f fd ["string", "pair"] spTextOf := by
  refine F.ok sc_text_of (fun vs H Q E h => ?_) (fun cdv A outer s H vs Q E hr h => ?_)
  · obtain ⟨x, t, y, rfl, _⟩ := h
    rfl
  · obtain ⟨x, t, y, rfl, hT, hx, i0, i1, j0, j1, q⟩ := h
    refine ⟨_, (pss_one (ps_ret (pe_op op_add_str (pe_ix ix_str (pv 0) (pe_ix (ixT K) (pv 1) pe_int (fun _ _ => rfl)) (fun _ _ => rfl)) (pe_ix ix_str (pv 0) (pe_ix (ixT K) (pv 1) pe_int (fun _ _ => rfl)) (fun _ _ => rfl))))), ?_⟩
    refine ⟨_, rfl, _, rfl, t, _, 0, _, rfl, rfl, SqT.of hT, rfl, x, y.1, _, rfl, rfl, szL (by omega), sgn_at i0 i1, ?_⟩
    refine ⟨_, rfl, _, rfl, t, _, 1, _, rfl, rfl, SqT.of hT, rfl, x, y.2, _, rfl, rfl, szL (by omega), sgn_at j0 j1, ?_⟩
    exact ⟨_, _, rfl, rfl, szL (show 1 + 1 ≤ 1000000 by decide), q⟩
abbrev CTx (P : Program) (w : World) (K : PySem.W.Frag) (mg : Str → Option Value) (base : Heap) : Prop := Ca P w K mg base 1 "text_of" ["string", "pair"] spTextOf
abbrev s_may_pair : Stmt := topS 17
theorem sc_may_pair : FnScope ["rules", "string", "i", "j"] ["rules", "string", "i", "j"] (defScope s_may_pair) :=
  ⟨rfl, rfl, rfl, by decide +kernel, rfl, by decide +kernel, by decide +kernel⟩
def spMP : Sp := fun vs H Q _ => ∃ (v : V) (r : Rl) (x : Str) (i j : Int), vs = [v, .str x, .int i, .int j] ∧ RulesW H v r ∧ x.length ≤ 1000 ∧ 0 ≤ i ∧ i < j ∧ j < x.length ∧ ∀ H', Ext H H' → Q (.bl (mayC r x i j)) H'
theorem ok_mp {f : Addr} {fd : FuncData} (F : Fun K "may_pair" "may_pair" s_may_pair f fd) (ctext_of : CTx P w K mg base) (cpair_worth : CPW P w K mg base) (mlen : mg "len" = none) : FnOk P w K mg base CX0 2 f fd ["rules", "string", "i", "j"] spMP := by
  refine F.ok sc_may_pair (fun vs H Q E h => ?_) (fun cdv A outer s H vs Q E hr h => ?_)
  · obtain ⟨v, r, x, i, j, rfl, _⟩ := h
    rfl
  · obtain ⟨v, r, x, i, j, rfl, hR, hx, e1, e2, e3, q⟩ := h
    obtain ⟨a, vp, vl, vs, rfl, hA, hp, hl, hs⟩ := id hR
    refine ⟨_, (pss_cons (ps_if (pt_not (pt_chain3 op_le op_lt op_lt pe_int (pv 2) (pv 3) (pe_callB call_len_str (by rfl) mlen (by decide +kernel) (pa_cons (pv 1) pa_nil)))) (pss_one (ps_ret pe_bl)) pss_nil)
      (pss_cons (ps_if (pt_cmpR op_lt (pe_op op_sub (pe_op op_sub (pv 3) (pv 2)) pe_int) (pe_ix (ixT K) (pv 0) pe_int (fun _ _ => rfl)) (nomark _)) (pss_one (ps_ret pe_bl)) pss_nil)
      (pss_one (ps_ret (pe_cmpR op_notN (pe_ca cpair_worth (hr.mono (by decide)) (by rfl) (pa_cons (pv 0) (pa_cons (pe_ca ctext_of (hr.mono (by decide)) (by rfl) (pa_cons (pv 1) (pa_cons (pe_tup (pa_cons (pv 2) (pa_cons (pv 3) pa_nil))) pa_nil))) pa_nil))) pe_non (nomark _)))))), ?_⟩
    refine ⟨_, rfl, 0, i, rfl, rfl, _, rfl, ?_⟩
    rw [decide_eq_true e1]
    refine iteT ⟨_, rfl, i, j, rfl, rfl, _, rfl, ?_⟩
    rw [decide_eq_true e2]
    refine iteT ⟨_, rfl, x, rfl, szL (by omega), _, _, rfl, rfl, _, rfl, ?_⟩
    rw [decide_eq_true e3]
    refine iteF ⟨_, rfl, _, rfl, _, _, rfl, rfl, _, 1, rfl, rfl, _, rfl, a, _, 2, _, rfl, rfl, SqT.of hA, rfl, _, _, rfl, rfl, _, rfl, ite2 (fun e4 => ?_) (fun e4 => ?_)⟩
    · have e4 : j - i - 1 < r.span := of_decide_eq_true e4
      have e : mayC r x i j = false := by
        unfold mayC
        rw [decide_eq_false (show ¬ r.span < j - i by omega), Bool.false_and]
      have := q H Ext.refl
      rw [e] at this
      exact this
    · have e4 : ¬ j - i - 1 < r.span := fun z => e4 (decide_eq_true z)
      refine ⟨_, rfl, _, rfl, _, rfl, _, rfl, szL (show 2 ≤ 1000000 by decide), fun t ht => ?_⟩
      refine ⟨x, t, (i, j), rfl, upd_same, hx, e1, (show i < x.length by omega), (show 0 ≤ j by omega), e3, ?_⟩
      refine ⟨_, r, _, rfl, RulesW.mono _ _ _ _ (TupK.new ht) hR, rfl, ?_⟩
      have e : mayC r x i j = !decide (pwV r.prs (tx2 x (i, j)) = .non) := by
        unfold mayC
        rw [decide_eq_true (show r.span < j - i by omega), Bool.true_and, pwV_is]
      have := q _ (Ext.new (o := .tup [.int i, .int j]) ht)
      rw [e] at this
      exact this
abbrev CMP (P : Program) (w : World) (K : PySem.W.Frag) (mg : Str → Option Value) (base : Heap) : Prop := Ca P w K mg base 2 "may_pair" ["rules", "string", "i", "j"] spMP
abbrev s_is_string : Stmt := topS 14
theorem sc_is_string : FnScope ["rules", "thing", "letter"] ["rules", "thing"] (defScope s_is_string) :=
  ⟨rfl, rfl, rfl, by decide +kernel, rfl, by decide +kernel, by decide +kernel⟩
def spIS : Sp := fun vs H Q _ => ∃ (v : V) (r : Rl) (x : Str), vs = [v, .str x] ∧ RulesW H v r ∧ x.length ≤ 12 ∧ Of r.letters x ∧ ∀ H', Ext H H' → Q (.bl true) H'
theorem ok_is {f : Addr} {fd : FuncData} {k : Nat} (F : Fun K "is_string" "is_string" s_is_string f fd) {tM : Tok} (gMOST_PLACES : mg "MOST_PLACES" = some (.int 12 tM)) (misinstance : mg "isinstance" = none) (mstr : mg "str" = none) (mlen : mg "len" = none) (mall : mg "all" = none) : FnOk P w K mg base CX0 (k + 1) f fd ["rules", "thing"] spIS := by
  refine F.ok sc_is_string (fun vs H Q E h => ?_) (fun cdv A outer s H vs Q E hr h => ?_)
  · obtain ⟨v, r, x, rfl, _⟩ := h
    rfl
  · obtain ⟨v, r, x, rfl, hR, hx, hof, q⟩ := h
    obtain ⟨a, vp, vl, vs, rfl, hA, hp, hl, hs⟩ := id hR
    refine ⟨_, (pss_cons (ps_if (PW.pt (pw_or (pt_not (pt_val (pe_callB (isi1 K) (by rfl) misinstance (by decide +kernel) (pa_cons (pv 1) (pa_cons (pe_bltn (v := .ty "str") (by rfl) mstr (by decide +kernel) rfl) pa_nil))))) (pw_or1 (pt_cmpR op_gt (pe_callB call_len_str (by rfl) mlen (by decide +kernel) (pa_cons (pv 1) pa_nil)) (pe_glob (v := .int 12) (by rfl) gMOST_PLACES ⟨_, rfl⟩) (nomark _))))) (pss_one (ps_ret pe_bl)) pss_nil)
      (pss_one (ps_ret (pe_callB (cr_all rfl) (by rfl) mall (by decide +kernel) (pa_cons (pe_lc (own := [("letter", 2)]) (g := gName 2) (by rfl) sc_is_string.nd (pi_str (pv 1)) (blkOk_by (own := [("letter", 2)]) (N := ["rules", "thing", "letter"]) (sc := defScope s_is_string) (by decide +kernel)) (fun _ _ _ _ _ => (pg_name (i := 2) sc_is_string.nd rfl (.inl rfl))) (fun _ _ _ _ _ => pts_nil) (fun _ _ _ _ _ => (pe_cmpR op_in_sign (pv 2) (pe_ix (ixT K) (pv 0) pe_int (fun _ _ => rfl)) (by rfl)))) pa_nil))))), ?_⟩
    refine ⟨_, rfl, .str x, .ty "str", _, _, true, rfl, .ty _, .base (.str x), kit_ty (by decide +kernel), true, rfl, iteF ?_⟩
    refine ⟨_, rfl, x, rfl, szL (by omega), _, _, rfl, rfl, _, rfl, ?_⟩
    rw [decide_eq_false (show ¬ (x.length : Int) > 12 by omega)]
    refine iteF ⟨_, rfl, _, rfl, fun D hD => lc_str (fun i H2 => H2 D = some (.lst ((List.replicate i true).map V.bl)) ∧ Ext H H2) ⟨upd_same, Ext.new hD⟩ (fun i ch H2 hi hv => ?_) (fun H2 hv => ?_)⟩
    · obtain ⟨hL, k2⟩ := hv
      have hi12 : i < x.length := (Array.getElem?_eq_some_iff.mp hi).1
      have hm : ch ∈ r.letters.cps.toList := hof ch (Array.mem_toList_iff.mpr (Array.mem_of_getElem? hi))
      refine ⟨rfl, _, rfl, _, rfl, a, _, 0, _, rfl, rfl, SqT.of (k2 _ _ hA), rfl, ch, r.letters, rfl, rfl, _, hL, szLt ?_, ?_, k2.put hD⟩
      · rw [List.length_map, List.length_replicate]
        omega
      · rw [upd_same, List.replicate_succ', List.map_append, decide_eq_true hm]
        rfl
    · obtain ⟨hL, k2⟩ := hv
      refine ⟨D, _, rfl, SqL.of hL, ?_⟩
      have : (List.replicate x.cps.size true).all id = true := by
        rw [List.all_replicate]
        simp
      rw [this]
      exact q _ k2
abbrev CIS (P : Program) (w : World) (K : PySem.W.Frag) (mg : Str → Option Value) (base : Heap) : Prop := Ca P w K mg base 1 "is_string" ["rules", "thing"] spIS
abbrev s_need_string : Stmt := topS 15
theorem sc_need_string : FnScope ["rules", "thing"] ["rules", "thing"] (defScope s_need_string) :=
  ⟨rfl, rfl, rfl, by decide +kernel, rfl, by decide +kernel, by decide +kernel⟩
def spNS : Sp := fun vs H Q _ => ∃ (v : V) (r : Rl) (x : Str), vs = [v, .str x] ∧ RulesW H v r ∧ x.length ≤ 12 ∧ Of r.letters x ∧ ∀ H', Ext H H' → Q .non H'
theorem ok_ns {f : Addr} {fd : FuncData} (F : Fun K "need_string" "need_string" s_need_string f fd) (cis_string : CIS P w K mg base) : FnOk P w K mg base CX0 2 f fd ["rules", "thing"] spNS := by
  refine F.ok sc_need_string (fun vs H Q E h => ?_) (fun cdv A outer s H vs Q E hr h => ?_)
  · obtain ⟨v, r, x, rfl, _⟩ := h
    rfl
  · obtain ⟨v, r, x, rfl, hR, hx, hof, q⟩ := h
    refine ⟨_, (pss_one (ps_if (pt_not (pt_val (pe_ca cis_string (hr.mono (by decide)) (by rfl) (pa_cons (pv 0) (pa_cons (pv 1) pa_nil))))) (pss_one ps_never) pss_nil)), ?_⟩
    exact ⟨_, rfl, _, rfl, v, r, x, rfl, hR, hx, hof, fun H' k => ⟨_, rfl, iteF (q H' k)⟩⟩
abbrev CNS (P : Program) (w : World) (K : PySem.W.Frag) (mg : Str → Option Value) (base : Heap) : Prop := Ca P w K mg base 2 "need_string" ["rules", "thing"] spNS
abbrev s_law_fits : Stmt := topS 48
theorem sc_law_fits : FnScope ["_law_given", "_law_writ_here", "_law_i", "_law_j"] ["_law_given", "_law_writ_here", "_law_i", "_law_j"] (defScope s_law_fits) :=
  ⟨rfl, rfl, rfl, by decide +kernel, rfl, by decide +kernel, by decide +kernel⟩
def spMay : Sp := fun vs H Q _ => ∃ (v : V) (r : Rl) (x : Str) (i j : Int), vs = [v, .str x, .int i, .int j] ∧ RulesAt H v r ∧ RlOk r ∧ x.length ≤ 1000 ∧ 0 ≤ i ∧ i < x.length ∧ 0 ≤ j ∧ j < x.length ∧ ∀ H', Ext H H' → Q (.bl (mayC r x i j)) H'
theorem ok_may {f : Addr} {fd : FuncData} {k : Nat} (F : Fun K "_law_fits" "_law_fits" s_law_fits f fd) (mdict : mg "dict" = none) : FnOk P w K mg base CX0 (k + 1) f fd ["_law_given", "_law_writ_here", "_law_i", "_law_j"] spMay := by
  refine F.ok sc_law_fits (fun vs H Q E h => ?_) (fun cdv A outer s H vs Q E hr h => ?_)
  · obtain ⟨v, r, x, i, j, rfl, _⟩ := h
    rfl
  · obtain ⟨v, r, x, i, j, rfl, hR, ok, hx, i0, i1, j0, j1, q⟩ := h
    obtain ⟨a, vp, vl, vs, rfl, hA, ⟨ap, oz, pus, rfl, hp, hoz, hRp⟩, _, _⟩ := id hR
    refine ⟨_, (pss_one (ps_ret (pe_and (pe_cmpR op_gt (pe_op op_sub (pv 3) (pv 2)) (pe_ix (ixT K) (pv 0) pe_int (fun _ _ => rfl)) (nomark _)) (pe_one (pe_cmp (pc_din (hu_of hr) (pe_op op_add_str (pe_ix ix_str (pv 1) (pv 2) (fun _ _ => rfl)) (pe_ix ix_str (pv 1) (pv 3) (fun _ _ => rfl))) (pe_callTy (dictT K) (by rfl) mdict (by decide +kernel) (pa_cons (pe_ix (ixT K) (pv 0) pe_int (fun _ _ => rfl)) pa_nil))) rfl))))), ?_⟩
    refine ⟨_, rfl, _, rfl, _, _, rfl, rfl, _, rfl, a, _, 2, _, rfl, rfl, SqT.of hA, rfl, _, _, rfl, rfl, _, rfl, ite2 (fun e => ?_) (fun e => ?_)⟩
    · have e : decide (r.span < j - i) = true := e
      obtain ⟨pas, hpas, hpp⟩ : ∃ pas : List Addr, pus = pas.map V.ref ∧ Paired (fun p kv => SqT K H p [kV kv.1, kv.2]) pas (r.prs.map encP) := by
        have aux : ∀ {us : List V} {ps : List (Str × Int)}, Paired (PairAt H) us ps → ∃ pas : List Addr, us = pas.map V.ref ∧ Paired (fun p kv => SqT K H p [kV kv.1, kv.2]) pas (ps.map encP) := by
          intro us ps h
          induction h with
          | nil => exact ⟨[], rfl, .nil⟩
          | cons h t ih =>
            obtain ⟨pas, e, hpp⟩ := ih
            obtain ⟨a1, e1, h1⟩ := h
            exact ⟨a1 :: pas, by rw [e1, e]; rfl, .cons (SqT.of h1) hpp⟩
        exact aux hRp
      refine ⟨_, rfl, _, rfl, x, i, _, rfl, rfl, szL (by omega), sgn_at i0 i1, _, rfl, _, rfl, x, j, _, rfl, rfl, szL (by omega), sgn_at j0 j1, _, _, rfl, rfl, szL (show 1 + 1 ≤ 1000000 by decide), ?_⟩
      refine ⟨_, rfl, a, _, 1, _, rfl, rfl, SqT.of hA, rfl, ap, oz, pas, r.prs.map encP, rfl, by rw [← hpas]; exact hp, hoz, hpp, fun d hd => ?_⟩
      rw [merge_prs ok.pn]
      refine ⟨d, _, rfl, DGet.k (k := .inr (tx2 x (i, j))) upd_same, ?_⟩
      rw [val_isSome]
      have := q _ (Ext.new (o := .dK (r.prs.map encP)) hd)
      unfold mayC at this
      rw [e, Bool.true_and] at this
      exact this
    · have e : decide (r.span < j - i) = false := Bool.eq_false_iff.mpr e
      have := q H Ext.refl
      unfold mayC at this
      rw [e, Bool.false_and] at this
      exact this
abbrev CMay (P : Program) (w : World) (K : PySem.W.Frag) (mg : Str → Option Value) (base : Heap) : Prop := Ca P w K mg base 1 "_law_fits" ["_law_given", "_law_writ_here", "_law_i", "_law_j"] spMay
abbrev s_law_writ : Stmt := topS 47
theorem sc_law_writ : FnScope ["_law_pen_here", "_law_given", "_law_many", "_law_one", "_law_k"] ["_law_pen_here", "_law_given", "_law_many"] (defScope s_law_writ) :=
  ⟨rfl, rfl, rfl, by decide +kernel, rfl, by decide +kernel, by decide +kernel⟩
theorem Of.one {L : Str} {ch : Nat} (h : ch ∈ L.cps.toList) : Of L ⟨#[ch]⟩ := fun c hc => by
  have : c = ch := by simpa using hc
  rw [this]
  exact h
def spWrit : Sp := fun vs H Q _ => ∃ (p c : Addr) (v : V) (r : Rl) (m : Int) (n : Nat), vs = [.ref p, v, .int m] ∧ RulesAt H v r ∧ RlOk r ∧ 0 ≤ m ∧ m ≤ 20 ∧ Pen H p c n ∧ n + 100 < 1000000 ∧
  ∀ (x : Str) H', (x.length : Int) = m → Of r.letters x → Kp p H H' → Pen H' p c (n + 100) → Q (.str x) H'
theorem ok_writ {f : Addr} {fd : FuncData} (F : Fun K "_law_writ" "_law_writ" s_law_writ f fd) (c_law_pick : CPick P w K mg base) (mrange : mg "range" = none) : FnOk P w K mg base CX0 3 f fd ["_law_pen_here", "_law_given", "_law_many"] spWrit := by
  refine F.ok sc_law_writ (fun vs H Q E h => ?_) (fun cdv A outer s H vs Q E hr h => ?_)
  · obtain ⟨p, c, v, r, m, n, rfl, _⟩ := h
    rfl
  · obtain ⟨p, c, v, r, m, n, rfl, ⟨a, vp, vl, vs, rfl, hA, hpp, hl, hs⟩, ok, m0, m1, hP, hn, q⟩ := h
    refine ⟨_, (pss_cons (ps_set (i := 3) sc_law_writ.nd rfl (.inr rfl) (pe_ca c_law_pick (hr.mono (by decide)) (by rfl) (pa_cons (pv 0) (pa_cons (pe_ix (ixT K) (pv 1) pe_int (fun _ _ => rfl)) pa_nil))))
      (pss_one (ps_ret (pe_join pe_str (pe_lc (own := [("_law_k", 4)]) (g := gName 4) (by rfl) sc_law_writ.nd (pi_range1 (by rfl) mrange (pa_cons (pv 2) pa_nil)) (blkOk_by (own := [("_law_k", 4)]) (N := ["_law_pen_here", "_law_given", "_law_many", "_law_one", "_law_k"]) (sc := defScope s_law_writ) (by decide +kernel)) (fun _ _ _ _ _ => (pg_name (i := 4) sc_law_writ.nd rfl (.inl rfl))) (fun _ _ _ _ _ => pts_nil) (fun _ _ _ _ _ => (pe_ca c_law_pick (hr.mono (by decide)) (by rfl) (pa_cons (pv 0) (pa_cons (pe_lst (pa_cons (pv 3) (pa_cons (pe_ca c_law_pick (hr.mono (by decide)) (by rfl) (pa_cons (pv 0) (pa_cons (pe_ix (ixT K) (pv 1) pe_int (fun _ _ => rfl)) pa_nil))) (pa_cons (pe_ca c_law_pick (hr.mono (by decide)) (by rfl) (pa_cons (pv 0) (pa_cons (pe_ix (ixT K) (pv 1) pe_int (fun _ _ => rfl)) pa_nil))) pa_nil)))) pa_nil))))))))), ?_⟩
    have hl6 := ok.let6
    have hl1 := ok.let1
    have hll : (r.letters.cps.toList.map fun c => V.str ⟨#[c]⟩).length = r.letters.length := by
      rw [List.length_map, Array.length_toList]
      rfl
    refine ⟨_, rfl, _, rfl, a, _, 0, _, rfl, rfl, SqT.of hA, rfl, p, c, .str r.letters, _, n, rfl, .inr (.inr ⟨_, rfl, rfl⟩), (fun z => by cases z), by omega, by omega, hP, by omega, fun x1 H1 hx1 k1 hP1 => ?_⟩
    obtain ⟨c1, hc1, rfl⟩ := List.mem_map.mp hx1
    have hA1 := k1 _ _ (hP.tup hA) hA
    refine ⟨⟨_, rfl⟩, _, rfl, m, rfl, by omega, by omega, fun D hD => lc_range (lo := 0) (n := m.toNat) (fun i H4 => ∃ ys : List Str, ys.length = i ∧ (∀ y ∈ ys, y.length = 1 ∧ Of r.letters y) ∧ H4 D = some (.lst (ys.map V.str)) ∧ Kp p H1 H4 ∧ Pen H4 p c (n + 1 + 3 * i)) ⟨[], rfl, (fun y h => by cases h), upd_same, Kp.new hD, (hP1.new hD)⟩ (fun i H4 hi hv => ?_) (fun H4 hv => ?_)⟩
    · obtain ⟨ys, hyl, hyo, hL4, k4, hP4⟩ := hv
      have hA4 := k4 _ _ (hP1.tup hA1) hA1
      refine ⟨rfl, _, rfl, _, rfl, _, rfl, _, rfl, a, _, 0, _, rfl, rfl, SqT.of hA4, rfl, p, c, .str r.letters, _, _, rfl, .inr (.inr ⟨_, rfl, rfl⟩), (fun z => by cases z), by omega, by omega, hP4, by omega, fun x5 H5 hx5 k5 hP5 => ?_⟩
      obtain ⟨c5, hc5, rfl⟩ := List.mem_map.mp hx5
      have hA5 := k5 _ _ (hP4.tup hA4) hA4
      refine ⟨_, rfl, _, rfl, a, _, 0, _, rfl, rfl, SqT.of hA5, rfl, p, c, .str r.letters, _, _, rfl, .inr (.inr ⟨_, rfl, rfl⟩), (fun z => by cases z), by omega, by omega, hP5, by omega, fun x6 H6 hx6 k6 hP6 => ?_⟩
      obtain ⟨c6, hc6, rfl⟩ := List.mem_map.mp hx6
      refine ⟨szL (show 3 ≤ 1000000 by decide), fun l7 hl7 => ?_⟩
      refine ⟨p, c, .ref l7, [V.str ⟨#[c1]⟩, .str ⟨#[c5]⟩, .str ⟨#[c6]⟩], _, rfl, .inl ⟨l7, rfl, upd_same⟩, (fun z => (hP6.ne hl7).1 (by injection z)), (show 0 < 3 by decide), (show 3 < 1000000 by decide), hP6.new hl7, by omega, fun x8 H8 hx8 k8 hP8 => ?_⟩
      obtain ⟨ch, hch, rfl⟩ : ∃ ch ∈ r.letters.cps.toList, x8 = V.str ⟨#[ch]⟩ := by
        simp only [List.mem_cons, List.not_mem_nil, or_false] at hx8
        rcases hx8 with rfl | rfl | rfl
        · exact ⟨c1, hc1, rfl⟩
        · exact ⟨c5, hc5, rfl⟩
        · exact ⟨c6, hc6, rfl⟩
      have nD := hP1.ne hD
      have kk : Kp p H4 H8 := ((k5.trans k6).trans (Kp.new hl7)).trans k8
      refine ⟨_, kk _ _ nD.1 hL4, szLt ?_, ys ++ [⟨#[ch]⟩], ?_, fun y hy => ?_, ?_, (k4.trans kk).put hD, (hP8.put nD.1 nD.2)⟩
      · rw [List.length_map]
        omega
      · rw [List.length_append, List.length_singleton]
        omega
      · rcases List.mem_append.mp hy with hy | hy
        · exact hyo y hy
        · rw [List.mem_singleton.mp hy]
          exact ⟨rfl, Of.one hch⟩
      · rw [upd_same, List.map_append]
        rfl
    obtain ⟨ys, hyl, hyo, hL4, k4, hP4⟩ := hv
    refine ⟨"", D, ys, rfl, rfl, .inl (SqL.of hL4), fits_join (k := 20) (m := 1) (by omega) (fun y hy => Nat.le_of_eq (hyo y hy).1) (by decide), ?_⟩
    rw [join_str]
    have hj2 := sjoin_of (L := r.letters) fun y hy => (hyo y hy).2
    have hj1 : (Str.join "" ys).length = ys.length := by
      have h1 : (Str.join "" ys).length = (Str.join "" ys).cps.toList.length := by rw [Array.length_toList]; rfl
      rw [h1, join_cps]
      have h2 : ∀ zs : List Str, (∀ y ∈ zs, y.length = 1) → (zs.flatMap fun y => y.cps.toList).length = zs.length := by
        intro zs
        induction zs with
        | nil => intro _; rfl
        | cons z r ih =>
          intro h
          have h3 : z.cps.toList.length = 1 := by
            rw [Array.length_toList]
            exact h z (List.mem_cons_self ..)
          rw [List.flatMap_cons, List.length_append, List.length_cons, ih fun y hy => h y (List.mem_cons_of_mem _ hy), h3]
          omega
      exact h2 ys fun y hy => (hyo y hy).1
    exact q _ _ (by omega) hj2 (k1.trans k4) (hP4.mono (by omega))
abbrev CWrit (P : Program) (w : World) (K : PySem.W.Frag) (mg : Str → Option Value) (base : Heap) : Prop := Ca P w K mg base 3 "_law_writ" ["_law_pen_here", "_law_given", "_law_many"] spWrit
end
end Pf


namespace Pf
open PySem PySem.Spec PyProof.Rows L2
/-! ### loops: what is asked -/
def swI : List (Str × Str × Int) → Str → Str → Int
  | [], _, _ => 0
  | (t, u, x) :: r, o, n => if t = o ∧ u = n then x else swI r o n
theorem swI_at {stk : List (Str × Str × Int)} {i : Nat} {t u : Str} {x : Int} (h : stk[i]? = some (t, u, x)) (o n : Str) : swI (stk.drop i) o n = if t = o ∧ u = n then x else swI (stk.drop (i + 1)) o n := by
  obtain ⟨hi, e⟩ := List.getElem?_eq_some_iff.mp h
  rw [List.drop_eq_getElem_cons hi, e, swI]
theorem swI_end {stk : List (Str × Str × Int)} {i : Nat} (h : stk.length ≤ i) (o n : Str) : swI (stk.drop i) o n = 0 := by
  rw [List.drop_eq_nil_of_le h, swI]
theorem swI_bound {stk : List (Str × Str × Int)} (h : ∀ y ∈ stk, -99 ≤ y.2.2 ∧ y.2.2 ≤ 99) (o n : Str) : -99 ≤ swI stk o n ∧ swI stk o n ≤ 99 := by
  induction stk with
  | nil => exact ⟨by show -99 ≤ (0 : Int); decide, by show (0 : Int) ≤ 99; decide⟩
  | cons y r ih =>
    rw [swI]
    by_cases e : y.1 = o ∧ y.2.1 = n
    · rw [if_pos e]
      exact h y (List.mem_cons_self ..)
    · rw [if_neg e]
      exact ih fun z hz => h z (List.mem_cons_of_mem _ hz)
inductive Sep2 : Int → Int → List (Int × Int) → Prop
  | nil {lo hi : Int} : lo ≤ hi → Sep2 lo hi []
  | cons {lo hi p q : Int} {ks : List (Int × Int)} : lo ≤ p → p ≤ q → Sep2 (q + 1) hi ks → Sep2 lo hi ((p, q) :: ks)
def wid (ks : List (Int × Int)) : Int := (ks.map fun y => y.2 - y.1 + 1).sum
theorem Sep2.wid {lo hi : Int} {ks : List (Int × Int)} (h : Sep2 lo hi ks) : 0 ≤ wid ks ∧ wid ks ≤ hi - lo := by
  induction h with
  | nil h => exact ⟨Int.le_refl _, by show (0 : Int) ≤ _; omega⟩
  | @cons lo hi p q ks h1 h2 _ ih =>
    have e : Pf.wid ((p, q) :: ks) = (q - p + 1) + Pf.wid ks := by
      unfold Pf.wid
      rw [List.map_cons, List.sum_cons]
    rw [e]
    omega
def freeI (one : Int × Int) (ks : List (Int × Int)) : Int := one.2 - one.1 - 1 - wid ks
theorem free_sep {one : Int × Int} {ks : List (Int × Int)} (h : Sep2 (one.1 + 1) one.2 ks) : 0 ≤ freeI one ks ∧ freeI one ks ≤ one.2 - one.1 - 1 := by
  have := h.wid
  unfold freeI
  omega
def lo (r : Rl) (i : Nat) : Int := r.loops.getD i 0
def kindN (free : Int) (n : Nat) : Str := if n = 0 then "lone" else if 1 < n then "forked" else if 0 < free then "inner" else "stacked"
def lpW (r : Rl) (x : Str) (one : Int × Int) (ks : List (Int × Int)) : Int :=
  if ks.length = 0 then lo r 6 + freeI one ks * lo r 7 else if 1 < ks.length then lo r 3 + (ks.length * lo r 4 + freeI one ks * lo r 5) else if 0 < freeI one ks then lo r 1 + freeI one ks * lo r 2 else lo r 0 + swI r.stk (tx2 x one) (tx2 x (ks.headD (0, 0)))
def LN : List Str := ["stacked", "inner", "inner free", "forked", "branch", "fork free", "lone", "lone free", "open"]
theorem LN_nd : LN.Nodup := by decide +kernel
def dLo (cs : List Int) : List (Key × V) := (LN.zip cs).map fun x => (.inr x.1, .int x.2)
theorem val_zip : ∀ {ns : List Str} {cs : List Int} {i : Nat} {n : Str} {c : Int}, ns.Nodup → ns[i]? = some n → cs[i]? = some c → valV ((ns.zip cs).map fun x => ((.inr x.1 : Key), V.int x.2)) (.inr n) = some (.int c)
  | [], _, i, _, _, _, h, _ => by simp at h
  | _ :: _, [], i, _, _, _, _, h => by simp at h
  | a :: ns, b :: cs, 0, n, c, _, h, h2 => by
    rw [List.getElem?_cons_zero] at h h2
    cases h
    cases h2
    rw [List.zip_cons_cons, List.map_cons, valV_pos rfl]
  | a :: ns, b :: cs, i + 1, n, c, hn, h, h2 => by
    rw [List.getElem?_cons_succ] at h h2
    have hne : ¬ (Sum.inr a : Key) = Sum.inr n := fun z => by
      have z := Sum.inr.inj z
      rw [z] at hn
      exact (List.nodup_cons.mp hn).1 (List.mem_of_getElem? h)
    rw [List.zip_cons_cons, List.map_cons, valV_neg hne]
    exact val_zip (List.nodup_cons.mp hn).2 h h2
theorem dLo_keys : ∀ {ns : List Str} {cs : List Int}, ns.length = cs.length → ((ns.zip cs).map fun x => ((.inr x.1 : Key), V.int x.2)).map (·.1) = ns.map Sum.inr
  | [], _, _ => rfl
  | _ :: _, [], h => by cases h
  | a :: ns, b :: cs, h => by
    rw [List.zip_cons_cons, List.map_cons, List.map_cons, List.map_cons, dLo_keys (Nat.succ.inj h)]
theorem dLo_merge {cs : List Int} (h : cs.length = 9) : mergeK [] (dLo cs) = dLo cs := by
  rw [merge_nd, List.nil_append]
  rw [List.nil_append]
  unfold dLo
  rw [dLo_keys (by rw [h]; rfl)]
  show (LN.map (Sum.inr : Str → Key)).Nodup
  decide +kernel
theorem get_lo {H : Hp} {d : Addr} {cs : List Int} (h : H d = some (.dK (dLo cs))) (hc : cs.length = 9) {i : Nat} {n : Str} (hn : LN[i]? = some n) : DGet H d (.str n) (some (.int (cs.getD i 0))) := by
  have hi : i < 9 := (List.getElem?_eq_some_iff.mp hn).1
  have e : cs[i]? = some (cs.getD i 0) := by
    rw [List.getD_eq_getElem?_getD, List.getElem?_eq_getElem (by omega)]
    rfl
  have := val_zip (cs := cs) LN_nd hn e
  exact this ▸ DGet.k (k := .inr n) h
theorem dLo_vals : ∀ {ns : List Str} {cs : List Int}, ns.length = cs.length → ((ns.zip cs).map fun x => ((.inr x.1 : Key), V.int x.2)).map (·.2) = cs.map V.int
  | [], [], _ => rfl
  | [], _ :: _, h => by cases h
  | _ :: _, [], h => by cases h
  | a :: ns, b :: cs, h => by
    rw [List.zip_cons_cons, List.map_cons, List.map_cons, List.map_cons, dLo_vals (Nat.succ.inj h)]
theorem dLo_kV : ∀ {ns : List Str} {cs : List Int}, ns.length = cs.length → (((ns.zip cs).map fun x => ((.inr x.1 : Key), V.int x.2)).map fun x => kV x.1) = ns.map V.str
  | [], _, _ => rfl
  | _ :: _, [], h => by cases h
  | a :: ns, b :: cs, h => by
    rw [List.zip_cons_cons, List.map_cons, List.map_cons, List.map_cons, dLo_kV (Nat.succ.inj h)]
    rfl
theorem ints_of {H : Hp} : ∀ {vs : List V} {ns : List Int}, Paired (IntAt H) vs ns → vs = ns.map V.int
  | _, _, .nil => rfl
  | _, _, .cons h t => by
    have h : _ = V.int _ := h
    rw [List.map_cons, ← ints_of t, h]
theorem lo_bound {r : Rl} (ok : RlOk r) {i : Nat} (hi : i < 9) : -99 ≤ lo r i ∧ lo r i ≤ 99 := by
  have h : i < r.loops.length := by
    rw [ok.lo9]
    exact hi
  have e : lo r i = r.loops[i] := by
    unfold lo
    rw [List.getD_eq_getElem?_getD, List.getElem?_eq_getElem h]
    rfl
  rw [e]
  exact ok.lo _ (List.getElem_mem h)
section
variable {P : Program} {w : World} {K : PySem.W.Frag} {mg : Str → Option Value} {base : Heap}
theorem sumI (K : PySem.W.Frag) {X : Cx} (hc : X.calm = true := by rfl) (h : X.K = K := by rfl) : CallR X (.builtin "sum") (rSum K) := h ▸ cr_sum hc
abbrev s_stack_worth : Stmt := topS 11
theorem sc_stack_worth : FnScope ["rules", "outer", "within", "text", "inner", "worth"] ["rules", "outer", "within"] (defScope s_stack_worth) :=
  ⟨rfl, rfl, rfl, by decide +kernel, rfl, by decide +kernel, by decide +kernel⟩
def spSW : Sp := fun vs H Q _ => ∃ (v : V) (r : Rl) (o n : Str), vs = [v, .str o, .str n] ∧ RulesW H v r ∧ Q (.int (swI r.stk o n)) H
theorem ok_sw {f : Addr} {fd : FuncData} {k : Nat} (F : Fun K "stack_worth" "stack_worth" s_stack_worth f fd) : FnOk P w K mg base CX0 (k + 1) f fd ["rules", "outer", "within"] spSW := by
  refine F.ok sc_stack_worth (fun vs H Q E h => ?_) (fun cdv A outer s H vs Q E hr h => ?_)
  · obtain ⟨v, r, o, n, rfl, _⟩ := h
    rfl
  · obtain ⟨v, r, o, n, rfl, ⟨a, vp, vl, vs, rfl, hA, _, _, ⟨as, us, rfl, hp, hR⟩⟩, q⟩ := h
    refine ⟨_, (pss_cons (ps_for PassesOwn.never rfl (pi_tup (pe_ix (ixT K) (pv 0) pe_int (fun _ _ => rfl))) (pg_tup rfl (pgs_cons (pg_name (i := 3) sc_stack_worth.nd rfl (.inl rfl)) (pgs_cons (pg_name (i := 4) sc_stack_worth.nd rfl (.inl rfl)) (pgs_cons (pg_name (i := 5) sc_stack_worth.nd rfl (.inl rfl)) pgs_nil)))) (pss_one (ps_if (PW.pt (pw_and (pt_cmpR op_eq (pv 3) (pv 1) (nomark _)) (pw_and1 (pt_cmpR op_eq (pv 4) (pv 2) (nomark _))))) (pss_one (ps_ret (pv 5))) pss_nil)))
      (pss_one (ps_ret pe_int))), ?_⟩
    have hlen := paired_len hR
    refine ⟨_, rfl, a, _, 4, _, rfl, rfl, SqT.of hA, rfl, as, rfl, ⟨_, SqT.of hp⟩, for_tup (xs := us) (fun i σ H2 => ∃ (y2 y3 y4 : Option V), σ = [some (.ref a), some (.str o), some (.str n), y2, y3, y4] ∧ H2 = H ∧ swI (r.stk.drop i) o n = swI r.stk o n)
      ⟨none, none, none, rfl, rfl, rfl⟩ (fun i σ H2 _ ⟨y2, y3, y4, _, e, _⟩ => SqT.of (by rw [e]; exact hp)) (fun i u σ H2 hi hv => ?_) (fun σ H2 hv => ?_)⟩
    · obtain ⟨y2, y3, y4, rfl, rfl, hd⟩ := hv
      obtain ⟨⟨t, t2, x⟩, hx, a1, rfl, ha1⟩ := paired_get hR hi
      rw [swI_at hx] at hd
      refine ⟨a1, _, rfl, SqT.of ha1, rfl, _, _, rfl, _, _, rfl, _, _, rfl, rfl, ?_⟩
      refine ⟨_, rfl, _, rfl, rfl, _, rfl, ite2 (fun e => ?_) (fun e => ?_)⟩
      · have e2 : t = o := V.str.inj (of_decide_eq_true e)
        refine ⟨_, rfl, _, rfl, rfl, _, rfl, ite2 (fun e3 => ?_) (fun e3 => ?_)⟩
        · have e4 : t2 = n := V.str.inj (of_decide_eq_true e3)
          rw [if_pos ⟨e2, e4⟩] at hd
          refine ⟨_, rfl, ?_⟩
          show Q (.int x) _
          rw [hd]
          exact q
        · have e4 : ¬ (t = o ∧ t2 = n) := fun z => e3 (decide_eq_true (congrArg V.str z.2))
          rw [if_neg e4] at hd
          exact ⟨_, _, _, rfl, rfl, hd⟩
      · have e4 : ¬ (t = o ∧ t2 = n) := fun z => e (decide_eq_true (congrArg V.str z.1))
        rw [if_neg e4] at hd
        exact ⟨_, _, _, rfl, rfl, hd⟩
    · obtain ⟨y2, y3, y4, rfl, rfl, hd⟩ := hv
      rw [swI_end (by omega)] at hd
      show Q (.int 0) _
      rw [hd]
      exact q
abbrev s_loop_worths : Stmt := topS 19
theorem sc_loop_worths : FnScope ["rules"] ["rules"] (defScope s_loop_worths) :=
  ⟨rfl, rfl, rfl, by decide +kernel, rfl, by decide +kernel, by decide +kernel⟩
def spLW : Sp := fun vs H Q _ => ∃ (v : V) (r : Rl), vs = [v] ∧ RulesW H v r ∧ r.loops.length = 9 ∧ ∀ d, H d = none → Q (.ref d) (upd H d (.dK (dLo r.loops)))
theorem ok_lw {f : Addr} {fd : FuncData} {k : Nat} {aLOOPS : Addr} (F : Fun K "loop_worths" "loop_worths" s_loop_worths f fd) (gLOOPS : mg "LOOPS" = some (.ref aLOOPS)) (hL : ∀ H : Hp, SqT K H aLOOPS (LN.map V.str)) (mdict : mg "dict" = none) (mzip : mg "zip" = none) : FnOk P w K mg base CX0 (k + 1) f fd ["rules"] spLW := by
  refine F.ok sc_loop_worths (fun vs H Q E h => ?_) (fun cdv A outer s H vs Q E hr h => ?_)
  · obtain ⟨v, r, rfl, _⟩ := h
    rfl
  · obtain ⟨v, r, rfl, ⟨a, vp, vl, vs, rfl, hA, _, ⟨al, us, rfl, hl, hR⟩, _⟩, h9, q⟩ := h
    refine ⟨_, (pss_one (ps_ret (pe_dictZip (by rfl) mdict (by rfl) mzip rfl (pa_cons (pe_glob (v := .ref aLOOPS) (by rfl) gLOOPS rfl) (pa_cons (pe_ix (ixT K) (pv 0) pe_int (fun _ _ => rfl)) pa_nil))))), ?_⟩
    have e9 : LN.length = r.loops.length := by
      rw [h9]
      rfl
    refine ⟨_, rfl, a, _, 3, _, rfl, rfl, SqT.of hA, rfl, aLOOPS, al, dLo r.loops, rfl, ?_, ?_, fun d hd => ?_⟩
    · unfold dLo
      rw [dLo_kV e9]
      exact hL H
    · unfold dLo
      rw [dLo_vals e9, ← ints_of hR]
      exact SqT.of hl
    · rw [dLo_merge h9]
      exact q d hd
abbrev s_kind_of : Stmt := topS 20
theorem sc_kind_of : FnScope ["free", "branches"] ["free", "branches"] (defScope s_kind_of) :=
  ⟨rfl, rfl, rfl, by decide +kernel, rfl, by decide +kernel, by decide +kernel⟩
def spKO : Sp := fun vs H Q _ => ∃ (fr : Int) (n : Nat), vs = [.int fr, .int (n : Nat)] ∧ Q (.str (kindN fr n)) H
theorem ok_ko {f : Addr} {fd : FuncData} {k : Nat} (F : Fun K "kind_of" "kind_of" s_kind_of f fd) : FnOk P w K mg base CX0 (k + 1) f fd ["free", "branches"] spKO := by
  refine F.ok sc_kind_of (fun vs H Q E h => ?_) (fun cdv A outer s H vs Q E hr h => ?_)
  · obtain ⟨fr, n, rfl, _⟩ := h
    rfl
  · obtain ⟨fr, n, rfl, q⟩ := h
    refine ⟨_, (pss_cons (ps_if (pt_cmpR op_eq (pv 1) pe_int (nomark _)) (pss_one (ps_ret pe_str)) pss_nil)
      (pss_cons (ps_if (pt_cmpR op_gt (pv 1) pe_int (nomark _)) (pss_one (ps_ret pe_str)) pss_nil)
      (pss_one (ps_ret (pe_ifExp (pt_cmpR op_gt (pv 0) pe_int (nomark _)) pe_str pe_str))))), ?_⟩
    unfold kindN at q
    refine ⟨_, rfl, rfl, _, rfl, ite2 (fun e => ?_) (fun e => ?_)⟩
    · have e : n = 0 := by
        have := V.int.inj (of_decide_eq_true e)
        omega
      rw [if_pos e] at q
      exact q
    · have e : ¬ n = 0 := fun z => e (decide_eq_true (by rw [z]; rfl))
      rw [if_neg e] at q
      refine ⟨_, rfl, _, _, rfl, rfl, _, rfl, ite2 (fun e1 => ?_) (fun e1 => ?_)⟩
      · have e1 : (1 : Int) < n := of_decide_eq_true e1
        rw [if_pos (by omega)] at q
        exact q
      · have e1 : ¬ (1 : Int) < n := fun z => e1 (decide_eq_true z)
        rw [if_neg (by omega)] at q
        refine ⟨_, rfl, _, _, rfl, rfl, _, rfl, ite2 (fun e2 => ?_) (fun e2 => ?_)⟩
        · have e2 : 0 < fr := of_decide_eq_true e2
          rw [if_pos e2] at q
          exact q
        · have e2 : ¬ 0 < fr := fun z => e2 (decide_eq_true z)
          rw [if_neg e2] at q
          exact q
end
def InX (x : Str) (qs : List (Int × Int)) : Prop := ∀ y ∈ qs, 0 ≤ y.1 ∧ y.1 < x.length ∧ 0 ≤ y.2 ∧ y.2 < x.length
theorem dget_ne {H H' : Hp} {d : Addr} {cs : List Int} (k : Ext H H') (h : H d = some (.dK (dLo cs))) : H' d = some (.dK (dLo cs)) := k _ _ h
theorem k_ne {a b : Str} (h : (a == b) = false) : (decide ((V.str a : V) = V.str b)) = false := decide_eq_false fun z => by
  have z := V.str.inj z
  rw [z] at h
  simp at h
section
variable {P : Program} {w : World} {K : PySem.W.Frag} {mg : Str → Option Value} {base : Heap}
abbrev CSW (P : Program) (w : World) (K : PySem.W.Frag) (mg : Str → Option Value) (base : Heap) : Prop := Ca P w K mg base 1 "stack_worth" ["rules", "outer", "within"] spSW
abbrev CLW (P : Program) (w : World) (K : PySem.W.Frag) (mg : Str → Option Value) (base : Heap) : Prop := Ca P w K mg base 1 "loop_worths" ["rules"] spLW
abbrev CKO (P : Program) (w : World) (K : PySem.W.Frag) (mg : Str → Option Value) (base : Heap) : Prop := Ca P w K mg base 1 "kind_of" ["free", "branches"] spKO
abbrev s_loop_within : Stmt := topS 21
theorem sc_loop_within : FnScope ["rules", "string", "pair", "within", "free", "kind", "told", "worth", "p", "q"] ["rules", "string", "pair", "within"] (defScope s_loop_within) :=
  ⟨rfl, rfl, rfl, by decide +kernel, rfl, by decide +kernel, by decide +kernel⟩
def spLoopW : Sp := fun vs H Q _ => ∃ (v : V) (r : Rl) (x : Str) (t l : Addr) (one : Int × Int) (us : List V) (ks : List (Int × Int)), vs = [v, .str x, .ref t, .ref l] ∧ RulesW H v r ∧ RlOk r ∧ x.length ≤ 1000 ∧ H t = some (.tup [.int one.1, .int one.2]) ∧ H l = some (.lst us) ∧ Paired (TwoAt H) us ks ∧ ks.length ≤ 1000 ∧ InX x [one] ∧ InX x ks ∧ 0 ≤ freeI one ks ∧ freeI one ks ≤ 1000 ∧
  ∀ (a : Addr) (H' : Hp), H' a = some (.tup [.str (kindN (freeI one ks) ks.length), .int (freeI one ks), .int (lpW r x one ks)]) → Ext H H' → Q (.ref a) H'
theorem ok_loopw {f : Addr} {fd : FuncData} (F : Fun K "loop_within" "loop_within" s_loop_within f fd) (cstack_worth : CSW P w K mg base) (ctext_of : CTx P w K mg base) (cloop_worths : CLW P w K mg base) (ckind_of : CKO P w K mg base) (msum : mg "sum" = none) (mlen : mg "len" = none) : FnOk P w K mg base CX0 2 f fd ["rules", "string", "pair", "within"] spLoopW := by
  refine F.ok sc_loop_within (fun vs H Q E h => ?_) (fun cdv A outer s H vs Q E hr h => ?_)
  · obtain ⟨v, r, x, t, l, one, us, ks, rfl, _⟩ := h
    rfl
  · obtain ⟨v, r, x, t, l, one, us, ks, rfl, hRu, ok, hx, hT, hL, hPk, hkl, hin1, hink, hf0, hf1, q⟩ := h
    refine ⟨_, (pss_cons (ps_set (i := 4) sc_loop_within.nd rfl (.inl rfl) (pe_op op_sub (pe_op op_sub (pe_op op_sub (pe_ix (ixT K) (pv 2) pe_int (fun _ _ => rfl)) (pe_ix (ixT K) (pv 2) pe_int (fun _ _ => rfl))) pe_int) (pe_callB (sumI K) (by rfl) msum (by decide +kernel) (pa_cons (pe_lc (own := [("p", 8), ("q", 9)]) (g := gTup K 2 (gCons (gName 8) (gCons (gName 9) gNil))) (by rfl) sc_loop_within.nd (pi_list (pv 3)) (blkOk_by (own := [("p", 8), ("q", 9)]) (N := ["rules", "string", "pair", "within", "free", "kind", "told", "worth", "p", "q"]) (sc := defScope s_loop_within) (by decide +kernel)) (fun _ _ _ _ _ => (pgT K rfl (pgs_cons (pg_name (i := 8) sc_loop_within.nd rfl (.inl rfl)) (pgs_cons (pg_name (i := 9) sc_loop_within.nd rfl (.inl rfl)) pgs_nil)))) (fun _ _ _ _ _ => pts_nil) (fun _ _ _ _ _ => (pe_op op_add (pe_op op_sub (pv 9) (pv 8)) pe_int))) pa_nil))))
      (pss_cons (ps_set (i := 5) sc_loop_within.nd rfl (.inl rfl) (pe_ca ckind_of (hr.mono (by decide)) (by rfl) (pa_cons (pv 4) (pa_cons (pe_callB (lenQ K) (by rfl) mlen (by decide +kernel) (pa_cons (pv 3) pa_nil)) pa_nil))))
      (pss_cons (ps_set (i := 6) sc_loop_within.nd rfl (.inl rfl) (pe_ca cloop_worths (hr.mono (by decide)) (by rfl) (pa_cons (pv 0) pa_nil)))
      (pss_cons (ps_set (i := 7) sc_loop_within.nd rfl (.inl rfl) (pe_dget (hu_of hr) (pv 6) (pv 5) (fun _ _ => rfl)))
      (pss_cons (ps_if (pt_cmpR op_eq (pv 5) pe_str (nomark _)) (pss_one (ps_aug (i := 7) sc_loop_within.nd rfl (.inl rfl) (pe_op op_mul (pv 4) (pe_dget (hu_of hr) (pv 6) pe_str (fun _ _ => rfl))) ip_add)) (pss_one (ps_if (pt_cmpR op_eq (pv 5) pe_str (nomark _)) (pss_one (ps_aug (i := 7) sc_loop_within.nd rfl (.inl rfl) (pe_op op_mul (pv 4) (pe_dget (hu_of hr) (pv 6) pe_str (fun _ _ => rfl))) ip_add)) (pss_one (ps_if (pt_cmpR op_eq (pv 5) pe_str (nomark _)) (pss_one (ps_aug (i := 7) sc_loop_within.nd rfl (.inl rfl) (pe_ca cstack_worth (hr.mono (by decide)) (by rfl) (pa_cons (pv 0) (pa_cons (pe_ca ctext_of (hr.mono (by decide)) (by rfl) (pa_cons (pv 1) (pa_cons (pv 2) pa_nil))) (pa_cons (pe_ca ctext_of (hr.mono (by decide)) (by rfl) (pa_cons (pv 1) (pa_cons (pe_ix (ixL K) (pv 3) pe_int (fun _ _ => rfl)) pa_nil))) pa_nil)))) ip_add)) (pss_one (ps_aug (i := 7) sc_loop_within.nd rfl (.inl rfl) (pe_op op_add (pe_op op_mul (pe_callB (lenQ K) (by rfl) mlen (by decide +kernel) (pa_cons (pv 3) pa_nil)) (pe_dget (hu_of hr) (pv 6) pe_str (fun _ _ => rfl))) (pe_op op_mul (pv 4) (pe_dget (hu_of hr) (pv 6) pe_str (fun _ _ => rfl)))) ip_add)))))))
      (pss_one (ps_ret (pe_tup (pa_cons (pv 5) (pa_cons (pv 4) (pa_cons (pv 7) pa_nil))))))))))), ?_⟩
    have hul := paired_len hPk
    have in1 := hin1 one (List.mem_singleton.mpr rfl)
    -- free
    refine ⟨_, rfl, t, _, 1, _, rfl, rfl, SqT.of hT, rfl, _, rfl, t, _, 0, _, rfl, rfl, SqT.of hT, rfl, _, _, rfl, rfl, _, 1, rfl, rfl, _, rfl, l, rfl, ⟨_, SqL.of hL⟩, fun D hD => lc_list (K := K) (xs := us) (fun i H2 => H2 D = some (.lst (((ks.take i).map fun y => y.2 - y.1 + 1).map V.int)) ∧ Ext H H2)
      ⟨upd_same, Ext.new hD⟩ (fun i H2 _ ⟨_, k⟩ => SqL.of (k _ _ hL)) (fun i u H2 hi hv => ?_) (fun H2 hv => ?_)⟩
    · obtain ⟨hL2, k2⟩ := hv
      obtain ⟨y, hy, a1, rfl, ha1⟩ := paired_get hPk hi
      have hil : i < us.length := (List.getElem?_eq_some_iff.mp hi).1
      refine ⟨a1, _, rfl, SqT.of (k2 _ _ ha1), rfl, _, _, rfl, _, _, rfl, rfl, rfl, _, rfl, _, rfl, _, _, rfl, rfl, _, 1, rfl, rfl, _, hL2, szLt ?_, ?_, k2.put hD⟩
      · rw [List.length_map, List.length_map, List.length_take]
        omega
      · rw [upd_same, List.take_add_one, hy, List.map_append, List.map_append]
        rfl
    · obtain ⟨hL2, k2⟩ := hv
      rw [List.take_of_length_le (by omega)] at hL2
      refine ⟨D, _, rfl, SqL.of hL2, _, _, rfl, rfl, ?_⟩
      have hf0' : 0 ≤ one.2 - one.1 - 1 - (ks.map fun y => y.2 - y.1 + 1).sum := hf0
      have hf1' : one.2 - one.1 - 1 - (ks.map fun y => y.2 - y.1 + 1).sum ≤ 1000 := hf1
      -- kind
      refine ⟨_, rfl, _, rfl, l, us, rfl, .inl (SqL.of (k2 _ _ hL)), freeI one ks, us.length, rfl, ?_⟩
      rw [hul]
      -- told
      refine ⟨_, rfl, v, r, rfl, RulesW.mono _ _ _ _ (TupK.ext k2) hRu, ok.lo9, fun d hd => ?_⟩
      have e3 := Ext.new (o := .dK (dLo r.loops)) hd
      have hd3 : (upd H2 d (.dK (dLo r.loops))) d = some (.dK (dLo r.loops)) := upd_same
      have k3 := k2.trans e3
      have fin : ∀ (wo : Int) (H9 : Hp), wo = lpW r x one ks → Ext (upd H2 d (.dK (dLo r.loops))) H9 → ∀ p, H9 p = none → Q (.ref p) (upd H9 p (.tup [.str (kindN (freeI one ks) ks.length), .int (freeI one ks), .int wo])) := fun wo H9 e k9 p hp => by
        rw [e]
        exact q p _ upd_same ((k3.trans k9).trans (Ext.new hp))
      have l0 := lo_bound ok (show 0 < 9 by decide)
      have l1 := lo_bound ok (show 1 < 9 by decide)
      have l2 := lo_bound ok (show 2 < 9 by decide)
      have l4 := lo_bound ok (show 4 < 9 by decide)
      have l5 := lo_bound ok (show 5 < 9 by decide)
      have l7 := lo_bound ok (show 7 < 9 by decide)
      by_cases c0 : ks.length = 0
      · have ek : kindN (freeI one ks) ks.length = "lone" := by
          unfold kindN
          rw [if_pos c0]
        rw [ek] at fin ⊢
        refine ⟨_, rfl, _, rfl, d, _, rfl, get_lo hd3 ok.lo9 (i := 6) (by decide +kernel), ?_⟩
        refine ⟨_, rfl, rfl, _, rfl, iteT ?_⟩
        refine ⟨_, rfl, _, rfl, _, rfl, d, _, rfl, get_lo hd3 ok.lo9 (i := 7) (by decide +kernel), _, _, rfl, rfl, .inl ⟨by omega, by omega⟩, _, _, rfl, rfl, ?_⟩
        refine ⟨_, rfl, _, rfl, _, rfl, szL (show 3 ≤ 1000000 by decide), fun p hp => fin _ _ ?_ Ext.refl p hp⟩
        unfold lpW
        rw [if_pos c0]
        rfl
      · by_cases c1 : 1 < ks.length
        · have ek : kindN (freeI one ks) ks.length = "forked" := by
            unfold kindN
            rw [if_neg c0, if_pos c1]
          rw [ek] at fin ⊢
          refine ⟨_, rfl, _, rfl, d, _, rfl, get_lo hd3 ok.lo9 (i := 3) (by decide +kernel), ?_⟩
          refine ⟨_, rfl, rfl, _, rfl, ?_⟩
          rw [k_ne (by decide +kernel)]
          refine iteF ⟨_, rfl, rfl, _, rfl, ?_⟩
          rw [k_ne (by decide +kernel)]
          refine iteF ⟨_, rfl, rfl, _, rfl, ?_⟩
          rw [k_ne (by decide +kernel)]
          refine iteF ⟨_, rfl, _, rfl, l, us, rfl, .inl (SqL.of (k3 _ _ hL)), _, rfl, d, _, rfl, get_lo hd3 ok.lo9 (i := 4) (by decide +kernel), _, _, rfl, rfl, .inl ⟨by omega, by omega⟩, ?_⟩
          refine ⟨_, rfl, _, rfl, d, _, rfl, get_lo hd3 ok.lo9 (i := 5) (by decide +kernel), _, _, rfl, rfl, .inl ⟨by omega, by omega⟩, _, _, rfl, rfl, _, _, rfl, rfl, ?_⟩
          refine ⟨_, rfl, _, rfl, _, rfl, szL (show 3 ≤ 1000000 by decide), fun p hp => fin _ _ ?_ Ext.refl p hp⟩
          unfold lpW
          rw [if_neg c0, if_pos c1, hul]
          rfl
        · by_cases c2 : 0 < freeI one ks
          · have ek : kindN (freeI one ks) ks.length = "inner" := by
              unfold kindN
              rw [if_neg c0, if_neg c1, if_pos c2]
            rw [ek] at fin ⊢
            refine ⟨_, rfl, _, rfl, d, _, rfl, get_lo hd3 ok.lo9 (i := 1) (by decide +kernel), ?_⟩
            refine ⟨_, rfl, rfl, _, rfl, ?_⟩
            rw [k_ne (by decide +kernel)]
            refine iteF ⟨_, rfl, rfl, _, rfl, iteT ?_⟩
            refine ⟨_, rfl, _, rfl, _, rfl, d, _, rfl, get_lo hd3 ok.lo9 (i := 2) (by decide +kernel), _, _, rfl, rfl, .inl ⟨by omega, by omega⟩, _, _, rfl, rfl, ?_⟩
            refine ⟨_, rfl, _, rfl, _, rfl, szL (show 3 ≤ 1000000 by decide), fun p hp => fin _ _ ?_ Ext.refl p hp⟩
            unfold lpW
            rw [if_neg c0, if_neg c1, if_pos c2]
            rfl
          · have ek : kindN (freeI one ks) ks.length = "stacked" := by
              unfold kindN
              rw [if_neg c0, if_neg c1, if_neg c2]
            rw [ek] at fin ⊢
            refine ⟨_, rfl, _, rfl, d, _, rfl, get_lo hd3 ok.lo9 (i := 0) (by decide +kernel), ?_⟩
            refine ⟨_, rfl, rfl, _, rfl, ?_⟩
            rw [k_ne (by decide +kernel)]
            refine iteF ⟨_, rfl, rfl, _, rfl, ?_⟩
            rw [k_ne (by decide +kernel)]
            refine iteF ⟨_, rfl, rfl, _, rfl, iteT ?_⟩
            have c3 : 0 < us.length := by omega
            obtain ⟨y, hy, a1, ev, ha1⟩ := paired_get hPk (List.getElem?_eq_getElem c3)
            have iny := hink y (List.mem_of_getElem? hy)
            have hat : atI us 0 = some (.ref a1) := by
              rw [atI_get (by decide) (by omega), ← ev]
              rfl
            refine ⟨_, rfl, _, rfl, _, rfl, _, rfl, x, t, one, rfl, k3 _ _ hT, hx, in1.1, in1.2.1, in1.2.2.1, in1.2.2.2, ?_⟩
            refine ⟨_, rfl, _, rfl, l, us, _, _, rfl, rfl, SqL.of (k3 _ _ hL), hat, x, a1, y, rfl, k3 _ _ ha1, hx, iny.1, iny.2.1, iny.2.2.1, iny.2.2.2, ?_⟩
            refine ⟨v, r, _, _, rfl, RulesW.mono _ _ _ _ (TupK.ext k3) hRu, _, _, rfl, rfl, ?_⟩
            refine ⟨_, rfl, _, rfl, _, rfl, szL (show 3 ≤ 1000000 by decide), fun p hp => fin _ _ ?_ Ext.refl p hp⟩
            have eh : ks.headD (0, 0) = y := by
              cases ks with
              | nil => cases hy
              | cons z zs =>
                rw [List.getElem?_cons_zero] at hy
                cases hy
                rfl
            unfold lpW
            rw [if_neg c0, if_neg c1, if_neg c2, eh]
            rfl
abbrev CLoopW (P : Program) (w : World) (K : PySem.W.Frag) (mg : Str → Option Value) (base : Heap) : Prop := Ca P w K mg base 2 "loop_within" ["rules", "string", "pair", "within"] spLoopW
end
end Pf


namespace Pf
open PySem PySem.Spec PyProof.Rows L2
/-! ### rows and ways -/
abbrev Rw : Type := Str × Int × Int
abbrev Wy : Type := Int × List Rw
def RwAt (H : Hp) (v : V) (y : Rw) : Prop := ∃ a, v = .ref a ∧ H a = some (.tup [.str y.1, .int y.2.1, .int y.2.2])
theorem RwAt.mono : Mono RwAt := fun H H' v x k ⟨a, e, h⟩ => ⟨a, e, k _ _ h⟩
def WyAt (H : Hp) (v : V) (y : Wy) : Prop := ∃ a t vs, v = .ref a ∧ H a = some (.tup [.int y.1, .ref t]) ∧ H t = some (.tup vs) ∧ Paired (RwAt H) vs y.2
theorem WyAt.mono : Mono WyAt := fun H H' v x k ⟨a, t, vs, e, h1, h2, h3⟩ => ⟨a, t, vs, e, k _ _ h1, k _ _ h2, paired_imp (fun _ _ => RwAt.mono _ _ _ _ k) h3⟩
def brY (b i j : Int) (t : Nat) : Wy := (b, [("shut", i, i + 1 + t), ("one", i + 1 + t + 1, j)])
def brW (b i j : Int) : List Wy := (List.range (j - (i + 1)).toNat).map (brY b i j)
def fstY (r : Rl) (kd : Str) (i j : Int) : Wy := (lo r 5, [(kd, i + 1, j)])
def fstW (r : Rl) (kd : Str) (i j : Int) : List Wy := if i < j then [fstY r kd i j] else []
def oneY (r : Rl) (i j : Int) (t : Nat) : Wy := (lo r 4 + (j - (i + 1 + t)) * lo r 5, [("shut", i, i + 1 + t)])
def oneW (r : Rl) (i j : Int) : List Wy := (fstW r "one" i j ++ (List.range (j + 1 - (i + 1)).toNat).map (oneY r i j)) ++ brW (lo r 4) i j
def twoW (r : Rl) (i j : Int) : List Wy := fstW r "two" i j ++ brW (lo r 4) i j
def openY (r : Rl) (i z : Int) (t : Nat) : Wy := (lo r 8, [("shut", i, i + 1 + t), ("open", i + 1 + t + 1, z)])
def openW (r : Rl) (i z : Int) : List Wy := if z < i then [((0 : Int), ([] : List Rw))] else ((0 : Int), [(("open" : Str), i + 1, z)]) :: (List.range (z + 1 - (i + 1)).toNat).map (openY r i z)
theorem br_len (b i j : Int) (h : j ≤ 100) (h0 : 0 ≤ i) : (brW b i j).length ≤ 100 := by
  unfold brW
  rw [List.length_map, List.length_range]
  omega
theorem fst_len (r : Rl) (kd : Str) (i j : Int) : (fstW r kd i j).length ≤ 1 := by
  unfold fstW
  split
  · exact Nat.le_refl _
  · exact Nat.zero_le _
/-- a list that grows turn by turn of a range -/
theorem range_snoc {β : Type} (f : Nat → β) (t : Nat) : (List.range (t + 1)).map f = (List.range t).map f ++ [f t] := by
  rw [List.range_succ, List.map_append]
  rfl
section
variable {P : Program} {w : World} {K : PySem.W.Frag} {mg : Str → Option Value} {base : Heap}
abbrev WsOut (H : Hp) (L : List Wy) (Q : VK) : Prop := ∀ (l : Addr) (us : List V) (H' : Hp), H l = none → H' l = some (.lst us) → Paired (WyAt H') us L → Ext H H' → Q (.ref l) H'
abbrev s_branch_ways : Stmt := topS 28
theorem sc_branch_ways : FnScope ["branch", "i", "j", "k"] ["branch", "i", "j"] (defScope s_branch_ways) :=
  ⟨rfl, rfl, rfl, by decide +kernel, rfl, by decide +kernel, by decide +kernel⟩
def spBr : Sp := fun vs H Q _ => ∃ (b i j : Int), vs = [.int b, .int i, .int j] ∧ 0 ≤ i ∧ i ≤ 100 ∧ -1 ≤ j ∧ j ≤ 100 ∧ WsOut H (brW b i j) Q
theorem ok_br {f : Addr} {fd : FuncData} {k : Nat} (F : Fun K "branch_ways" "branch_ways" s_branch_ways f fd) (mrange : mg "range" = none) : FnOk P w K mg base CX0 (k + 1) f fd ["branch", "i", "j"] spBr := by
  refine F.ok sc_branch_ways (fun vs H Q E h => ?_) (fun cdv A outer s H vs Q E hr h => ?_)
  · obtain ⟨b, i, j, rfl, _⟩ := h
    rfl
  · obtain ⟨b, i, j, rfl, i0, i1, j0, j1, q⟩ := h
    refine ⟨_, (pss_one (ps_ret (pe_lc (own := [("k", 3)]) (g := gName 3) (by rfl) sc_branch_ways.nd (pi_range2 (by rfl) mrange (pa_cons (pe_op op_add (pv 1) pe_int) (pa_cons (pv 2) pa_nil))) (blkOk_by (own := [("k", 3)]) (N := ["branch", "i", "j", "k"]) (sc := defScope s_branch_ways) (by decide +kernel)) (fun _ _ _ _ _ => (pg_name (i := 3) sc_branch_ways.nd rfl (.inl rfl))) (fun _ _ _ _ _ => pts_nil) (fun _ _ _ _ _ => (pe_tup (pa_cons (pv 0) (pa_cons (pe_tup (pa_cons (pe_tup (pa_cons pe_str (pa_cons (pv 1) (pa_cons (pv 3) pa_nil)))) (pa_cons (pe_tup (pa_cons pe_str (pa_cons (pe_op op_add (pv 3) pe_int) (pa_cons (pv 2) pa_nil)))) pa_nil))) pa_nil))))))), ?_⟩
    refine ⟨_, rfl, i, 1, rfl, rfl, _, rfl, i + 1, j, rfl, ⟨by omega, by omega, by omega, by omega⟩, fun D hD => lc_range (lo := i + 1) (n := (j - (i + 1)).toNat) (fun t H2 => GenL WyAt D H ((List.range t).map (brY b i j)) H2)
      (genl_new hD) (fun t H2 ht hv => ?_) (fun H2 hv => ?_)⟩
    · refine ⟨rfl, _, rfl, _, rfl, _, rfl, szL (show 3 ≤ 1000000 by decide), fun t1 ht1 => ?_⟩
      refine ⟨_, rfl, i + 1 + t, 1, rfl, rfl, _, rfl, szL (show 3 ≤ 1000000 by decide), fun t2 ht2 => ⟨szL (show 2 ≤ 1000000 by decide), fun t3 ht3 => ⟨szL (show 2 ≤ 1000000 by decide), fun t4 ht4 => ?_⟩⟩⟩
      have x1 := Ext.new (o := .tup [.str "shut", .int i, .int (i + 1 + (t : Nat))]) ht1
      have x2 := Ext.new (o := .tup [.str "one", .int (i + 1 + (t : Nat) + 1), .int j]) ht2
      have x3 := Ext.new (o := .tup [.ref t1, .ref t2]) ht3
      have x4 := Ext.new (o := .tup [.int b, .ref t3]) ht4
      rw [range_snoc]
      exact genl_step WyAt.mono hD hv ((x1.trans x2).trans (x3.trans x4)) ⟨t4, t3, [.ref t1, .ref t2], rfl, upd_same, x4 _ _ upd_same, .cons ⟨t1, rfl, x4 _ _ (x3 _ _ (x2 _ _ upd_same))⟩ (.cons ⟨t2, rfl, x4 _ _ (x3 _ _ upd_same)⟩ .nil)⟩ (by rw [List.length_map, List.length_range]; omega)
    · obtain ⟨us, hL, hP, k⟩ := hv
      exact q D us H2 hD hL hP k
abbrev CBr (P : Program) (w : World) (K : PySem.W.Frag) (mg : Str → Option Value) (base : Heap) : Prop := Ca P w K mg base 1 "branch_ways" ["branch", "i", "j"] spBr
abbrev s_two_ways : Stmt := topS 27
theorem sc_two_ways : FnScope ["rules", "i", "j", "told", "ways"] ["rules", "i", "j"] (defScope s_two_ways) :=
  ⟨rfl, rfl, rfl, by decide +kernel, rfl, by decide +kernel, by decide +kernel⟩
def spTwo : Sp := fun vs H Q _ => ∃ (v : V) (r : Rl) (i j : Int), vs = [v, .int i, .int j] ∧ RulesW H v r ∧ RlOk r ∧ 0 ≤ i ∧ i ≤ 100 ∧ -1 ≤ j ∧ j ≤ 100 ∧ WsOut H (twoW r i j) Q
theorem ok_two {f : Addr} {fd : FuncData} (F : Fun K "two_ways" "two_ways" s_two_ways f fd) (cloop_worths : CLW P w K mg base) (cbranch_ways : CBr P w K mg base) : FnOk P w K mg base CX0 2 f fd ["rules", "i", "j"] spTwo := by
  refine F.ok sc_two_ways (fun vs H Q E h => ?_) (fun cdv A outer s H vs Q E hr h => ?_)
  · obtain ⟨v, r, i, j, rfl, _⟩ := h
    rfl
  · obtain ⟨v, r, i, j, rfl, hR, ok, i0, i1, j0, j1, q⟩ := h
    refine ⟨_, (pss_cons (ps_set (i := 3) sc_two_ways.nd rfl (.inl rfl) (pe_ca cloop_worths (hr.mono (by decide)) (by rfl) (pa_cons (pv 0) pa_nil)))
      (pss_cons (ps_set (i := 4) sc_two_ways.nd rfl (.inl rfl) (pe_lst pa_nil))
      (pss_cons (ps_if (pt_cmpR op_lt (pv 1) (pv 2) (nomark _)) (pss_one (ps_expr (pe_bm PySem.F.plainAttrs_list PySem.F.slot_list_append PySem.F.type_list_append mt_append (pv 4) (pa_cons (pe_tup (pa_cons (pe_dget (hu_of hr) (pv 3) pe_str (fun _ _ => rfl)) (pa_cons (pe_tup (pa_cons (pe_tup (pa_cons pe_str (pa_cons (pe_op op_add (pv 1) pe_int) (pa_cons (pv 2) pa_nil)))) pa_nil)) pa_nil))) pa_nil)))) pss_nil)
      (pss_one (ps_ret (pe_op op_cat (pv 4) (pe_ca cbranch_ways (hr.mono (by decide)) (by rfl) (pa_cons (pe_dget (hu_of hr) (pv 3) pe_str (fun _ _ => rfl)) (pa_cons (pv 1) (pa_cons (pv 2) pa_nil)))))))))), ?_⟩
    refine ⟨_, rfl, v, r, rfl, hR, ok.lo9, fun d hd => ⟨Nat.zero_le _, fun l hl => ?_⟩⟩
    have x1 := Ext.new (o := .dK (dLo r.loops)) hd
    have hd1 : (upd H d (.dK (dLo r.loops))) d = some (.dK (dLo r.loops)) := upd_same
    have hlH := x1.none hl
    generalize upd H d (.dK (dLo r.loops)) = H1 at x1 hd1 hl ⊢
    have brx : ∀ {H2 : Hp}, GenL WyAt l H1 (fstW r "two" i j) H2 → ∀ {Q2 : VK}, (∀ (m : Addr) (us : List V) (H' : Hp), H m = none → H' m = some (.lst us) → Paired (WyAt H') us (twoW r i j) → Ext H H' → Q2 (.ref m) H') → ∀ (l2 : Addr) (us2 : List V) (H3 : Hp), H2 l2 = none → H3 l2 = some (.lst us2) → Paired (WyAt H3) us2 (brW (lo r 4) i j) → Ext H2 H3 → rCat (.ref l) (.ref l2) H3 Q2 := fun {H2} hg {Q2} q2 l2 us2 H3 h1 h2 h3 h4 => by
      obtain ⟨us, hL, hP, k2⟩ := hg
      have n1 := paired_len hP
      have n2 := paired_len h3
      have n3 := fst_len r "two" i j
      have n4 := br_len (lo r 4) i j j1 i0
      refine ⟨l, l2, us, us2, rfl, rfl, h4 _ _ hL, h2, szL (by omega), fun m hm => ?_⟩
      have xm := Ext.new (o := .lst (us ++ us2)) hm
      exact q2 m _ _ ((x1.trans (k2.trans h4)).none hm) upd_same (paired_app (paired_imp (fun _ _ => WyAt.mono _ _ _ _ (TupK.ext (h4.trans xm))) hP) (paired_imp (fun _ _ => WyAt.mono _ _ _ _ (TupK.ext xm)) h3)) ((x1.trans (k2.trans h4)).trans xm)
    refine ⟨_, rfl, _, rfl, _, _, rfl, rfl, _, rfl, ite2 (fun e => ?_) (fun e => ?_)⟩
    · have e : i < j := of_decide_eq_true e
      have ef : fstW r "two" i j = [fstY r "two" i j] := by
        unfold fstW
        rw [if_pos e]
      have hg0 : GenL WyAt l H1 [] (upd H1 l (.lst [])) := genl_new hl
      have x2 := Ext.new (o := .lst []) hl
      refine ⟨_, rfl, .inl ⟨rfl, _, SqL.of upd_same⟩, _, rfl, d, _, rfl, get_lo (x2 _ _ hd1) ok.lo9 (i := 5) (by decide +kernel), _, rfl, i, 1, rfl, rfl, _, rfl, szL (show 3 ≤ 1000000 by decide), fun t1 ht1 => ⟨szL (show 1 ≤ 1000000 by decide), fun t2 ht2 => ⟨szL (show 2 ≤ 1000000 by decide), fun t3 ht3 => ?_⟩⟩⟩
      have y1 := Ext.new (o := .tup [.str "two", .int (i + 1), .int j]) ht1
      have y2 := Ext.new (o := .tup [.ref t1]) ht2
      have y3 := Ext.new (o := .tup [.int (lo r 5), .ref t2]) ht3
      try delta tNil
      refine app_ok WyAt.mono hl hg0 (y1.trans (y2.trans y3)) (b := fstY r "two" i j) ⟨t3, t2, [.ref t1], rfl, upd_same, y3 _ _ upd_same, .cons ⟨t1, rfl, y3 _ _ (y2 _ _ upd_same)⟩ .nil⟩ (by decide) fun H2 hg => ?_
      rw [List.nil_append, ← ef] at hg
      refine ⟨_, rfl, _, rfl, d, _, rfl, get_lo (hg.ext _ _ hd1) ok.lo9 (i := 4) (by decide +kernel), _, rfl, _, rfl, lo r 4, i, j, rfl, i0, i1, j0, j1, brx hg q⟩
    · have e : ¬ i < j := fun z => e (decide_eq_true z)
      have ef : fstW r "two" i j = [] := by
        unfold fstW
        rw [if_neg e]
      have hg : GenL WyAt l H1 (fstW r "two" i j) (upd H1 l (.lst [])) := ef ▸ genl_new hl
      refine ⟨_, rfl, _, rfl, d, _, rfl, get_lo (hg.ext _ _ hd1) ok.lo9 (i := 4) (by decide +kernel), _, rfl, _, rfl, lo r 4, i, j, rfl, i0, i1, j0, j1, brx hg q⟩
abbrev CTwo (P : Program) (w : World) (K : PySem.W.Frag) (mg : Str → Option Value) (base : Heap) : Prop := Ca P w K mg base 2 "two_ways" ["rules", "i", "j"] spTwo
abbrev s_one_ways : Stmt := topS 26
theorem sc_one_ways : FnScope ["rules", "i", "j", "told", "ways", "k"] ["rules", "i", "j"] (defScope s_one_ways) :=
  ⟨rfl, rfl, rfl, by decide +kernel, rfl, by decide +kernel, by decide +kernel⟩
def spOne : Sp := fun vs H Q _ => ∃ (v : V) (r : Rl) (i j : Int), vs = [v, .int i, .int j] ∧ RulesW H v r ∧ RlOk r ∧ 0 ≤ i ∧ i ≤ 100 ∧ -1 ≤ j ∧ j ≤ 100 ∧ WsOut H (oneW r i j) Q
theorem ok_one {f : Addr} {fd : FuncData} (F : Fun K "one_ways" "one_ways" s_one_ways f fd) (cloop_worths : CLW P w K mg base) (cbranch_ways : CBr P w K mg base) (mrange : mg "range" = none) : FnOk P w K mg base CX0 2 f fd ["rules", "i", "j"] spOne := by
  refine F.ok sc_one_ways (fun vs H Q E h => ?_) (fun cdv A outer s H vs Q E hr h => ?_)
  · obtain ⟨v, r, i, j, rfl, _⟩ := h
    rfl
  · obtain ⟨v, r, i, j, rfl, hR, ok, i0, i1, j0, j1, q⟩ := h
    refine ⟨_, (pss_cons (ps_set (i := 3) sc_one_ways.nd rfl (.inl rfl) (pe_ca cloop_worths (hr.mono (by decide)) (by rfl) (pa_cons (pv 0) pa_nil)))
      (pss_cons (ps_set (i := 4) sc_one_ways.nd rfl (.inl rfl) (pe_lst pa_nil))
      (pss_cons (ps_if (pt_cmpR op_lt (pv 1) (pv 2) (nomark _)) (pss_one (ps_expr (pe_bm PySem.F.plainAttrs_list PySem.F.slot_list_append PySem.F.type_list_append mt_append (pv 4) (pa_cons (pe_tup (pa_cons (pe_dget (hu_of hr) (pv 3) pe_str (fun _ _ => rfl)) (pa_cons (pe_tup (pa_cons (pe_tup (pa_cons pe_str (pa_cons (pe_op op_add (pv 1) pe_int) (pa_cons (pv 2) pa_nil)))) pa_nil)) pa_nil))) pa_nil)))) pss_nil)
      (pss_cons (ps_for PassesOwn.never rfl (pi_range2 (by rfl) mrange (pa_cons (pe_op op_add (pv 1) pe_int) (pa_cons (pe_op op_add (pv 2) pe_int) pa_nil))) (pg_name (i := 5) sc_one_ways.nd rfl (.inl rfl)) (pss_one (ps_expr (pe_bm PySem.F.plainAttrs_list PySem.F.slot_list_append PySem.F.type_list_append mt_append (pv 4) (pa_cons (pe_tup (pa_cons (pe_op op_add (pe_dget (hu_of hr) (pv 3) pe_str (fun _ _ => rfl)) (pe_op op_mul (pe_op op_sub (pv 2) (pv 5)) (pe_dget (hu_of hr) (pv 3) pe_str (fun _ _ => rfl)))) (pa_cons (pe_tup (pa_cons (pe_tup (pa_cons pe_str (pa_cons (pv 1) (pa_cons (pv 5) pa_nil)))) pa_nil)) pa_nil))) pa_nil)))))
      (pss_one (ps_ret (pe_op op_cat (pv 4) (pe_ca cbranch_ways (hr.mono (by decide)) (by rfl) (pa_cons (pe_dget (hu_of hr) (pv 3) pe_str (fun _ _ => rfl)) (pa_cons (pv 1) (pa_cons (pv 2) pa_nil))))))))))), ?_⟩
    refine ⟨_, rfl, v, r, rfl, hR, ok.lo9, fun d hd => ⟨Nat.zero_le _, fun l hl => ?_⟩⟩
    have x1 := Ext.new (o := .dK (dLo r.loops)) hd
    have hd1 : (upd H d (.dK (dLo r.loops))) d = some (.dK (dLo r.loops)) := upd_same
    have hlH := x1.none hl
    generalize upd H d (.dK (dLo r.loops)) = H1 at x1 hd1 hl ⊢
    have l4 := lo_bound ok (show 4 < 9 by decide)
    have l5 := lo_bound ok (show 5 < 9 by decide)
    have n3 := fst_len r "one" i j
    refine ⟨_, rfl, _, rfl, _, _, rfl, rfl, _, rfl, ite2 (fun e => ?_) (fun e => ?_)⟩
    · have e : i < j := of_decide_eq_true e
      have ef : fstW r "one" i j = [fstY r "one" i j] := by
        unfold fstW
        rw [if_pos e]
      have hg0 : GenL WyAt l H1 [] (upd H1 l (.lst [])) := genl_new hl
      have x2 := Ext.new (o := .lst []) hl
      refine ⟨_, rfl, .inl ⟨rfl, _, SqL.of upd_same⟩, _, rfl, d, _, rfl, get_lo (x2 _ _ hd1) ok.lo9 (i := 5) (by decide +kernel), _, rfl, i, 1, rfl, rfl, _, rfl, szL (show 3 ≤ 1000000 by decide), fun t1 ht1 => ⟨szL (show 1 ≤ 1000000 by decide), fun t2 ht2 => ⟨szL (show 2 ≤ 1000000 by decide), fun t3 ht3 => ?_⟩⟩⟩
      have y1 := Ext.new (o := .tup [.str "one", .int (i + 1), .int j]) ht1
      have y2 := Ext.new (o := .tup [.ref t1]) ht2
      have y3 := Ext.new (o := .tup [.int (lo r 5), .ref t2]) ht3
      try delta tNil
      refine app_ok WyAt.mono hl hg0 (y1.trans (y2.trans y3)) (b := fstY r "one" i j) ⟨t3, t2, [.ref t1], rfl, upd_same, y3 _ _ upd_same, .cons ⟨t1, rfl, y3 _ _ (y2 _ _ upd_same)⟩ .nil⟩ (by decide) fun H2 hg => ?_
      rw [List.nil_append, ← ef] at hg
      have hgx : GenL WyAt l H1 (fstW r "one" i j ++ (List.range 0).map (oneY r i j)) _ := (List.append_nil (fstW r "one" i j)).symm ▸ hg
      refine ⟨_, rfl, i, 1, rfl, rfl, _, rfl, j, 1, rfl, rfl, i + 1, j + 1, rfl, ⟨by omega, by omega, by omega, by omega⟩, for_range (lo := i + 1) (n := (j + 1 - (i + 1)).toNat) (fun t σ H2 => ∃ y5 : Option V, σ = [some v, some (.int i), some (.int j), some (.ref d), some (.ref l), y5] ∧ GenL WyAt l H1 (fstW r "one" i j ++ (List.range t).map (oneY r i j)) H2)
        ⟨none, rfl, hgx⟩ (fun t σ H2 ht hv => ?_) (fun σ H2 hv => ?_)⟩
      · obtain ⟨y5, rfl, hg⟩ := hv
        obtain ⟨us2, hsq⟩ := hg.sq (K := K)
        have hd2 := hg.ext _ _ hd1
        refine ⟨_, rfl, .inl ⟨rfl, _, hsq⟩, _, rfl, d, _, rfl, get_lo hd2 ok.lo9 (i := 4) (by decide +kernel), _, rfl, _, rfl, j, i + 1 + t, rfl, rfl, _, rfl, d, _, rfl, get_lo hd2 ok.lo9 (i := 5) (by decide +kernel), j - (i + 1 + t), lo r 5, rfl, rfl, .inl ⟨by omega, by omega⟩, _, _, rfl, rfl, _, rfl, _, rfl, szL (show 3 ≤ 1000000 by decide), fun t1 ht1 => ⟨szL (show 1 ≤ 1000000 by decide), fun t2 ht2 => ⟨szL (show 2 ≤ 1000000 by decide), fun t3 ht3 => ?_⟩⟩⟩
        have y1 := Ext.new (o := .tup [.str "shut", .int i, .int (i + 1 + (t : Nat))]) ht1
        have y2 := Ext.new (o := .tup [.ref t1]) ht2
        have y3 := Ext.new (o := .tup [.int (lo r 4 + (j - (i + 1 + (t : Nat))) * lo r 5), .ref t2]) ht3
        try delta tNil
        refine app_ok WyAt.mono hl hg (y1.trans (y2.trans y3)) (b := oneY r i j t) ⟨t3, t2, [.ref t1], rfl, upd_same, y3 _ _ upd_same, .cons ⟨t1, rfl, y3 _ _ (y2 _ _ upd_same)⟩ .nil⟩ (by rw [List.length_append, List.length_map, List.length_range]; omega) fun H3 hg3 => ?_
        refine ⟨_, rfl, ?_⟩
        rw [range_snoc, ← List.append_assoc]
        exact hg3
      · obtain ⟨y5, rfl, hg⟩ := hv
        refine ⟨_, rfl, _, rfl, d, _, rfl, get_lo (hg.ext _ _ hd1) ok.lo9 (i := 4) (by decide +kernel), _, rfl, _, rfl, lo r 4, i, j, rfl, i0, i1, j0, j1, fun l2 us2 H3 h1 h2 h3 h4 => ?_⟩
        obtain ⟨us, hL, hP, k2⟩ := hg
        have n1 := paired_len hP
        have n2 := paired_len h3
        have n4 := br_len (lo r 4) i j j1 i0
        rw [List.length_append, List.length_map, List.length_range] at n1
        refine ⟨l, l2, us, us2, rfl, rfl, h4 _ _ hL, h2, szL (by omega), fun m hm => ?_⟩
        have xm := Ext.new (o := .lst (us ++ us2)) hm
        exact q m _ _ ((x1.trans (k2.trans h4)).none hm) upd_same (paired_app (paired_imp (fun _ _ => WyAt.mono _ _ _ _ (TupK.ext (h4.trans xm))) hP) (paired_imp (fun _ _ => WyAt.mono _ _ _ _ (TupK.ext xm)) h3)) ((x1.trans (k2.trans h4)).trans xm)
    · have e : ¬ i < j := fun z => e (decide_eq_true z)
      have ef : fstW r "one" i j = [] := by
        unfold fstW
        rw [if_neg e]
      have hg : GenL WyAt l H1 (fstW r "one" i j) (upd H1 l (.lst [])) := ef ▸ genl_new hl
      have hgx : GenL WyAt l H1 (fstW r "one" i j ++ (List.range 0).map (oneY r i j)) _ := (List.append_nil (fstW r "one" i j)).symm ▸ hg
      refine ⟨_, rfl, i, 1, rfl, rfl, _, rfl, j, 1, rfl, rfl, i + 1, j + 1, rfl, ⟨by omega, by omega, by omega, by omega⟩, for_range (lo := i + 1) (n := (j + 1 - (i + 1)).toNat) (fun t σ H2 => ∃ y5 : Option V, σ = [some v, some (.int i), some (.int j), some (.ref d), some (.ref l), y5] ∧ GenL WyAt l H1 (fstW r "one" i j ++ (List.range t).map (oneY r i j)) H2)
        ⟨none, rfl, hgx⟩ (fun t σ H2 ht hv => ?_) (fun σ H2 hv => ?_)⟩
      · obtain ⟨y5, rfl, hg⟩ := hv
        obtain ⟨us2, hsq⟩ := hg.sq (K := K)
        have hd2 := hg.ext _ _ hd1
        refine ⟨_, rfl, .inl ⟨rfl, _, hsq⟩, _, rfl, d, _, rfl, get_lo hd2 ok.lo9 (i := 4) (by decide +kernel), _, rfl, _, rfl, j, i + 1 + t, rfl, rfl, _, rfl, d, _, rfl, get_lo hd2 ok.lo9 (i := 5) (by decide +kernel), j - (i + 1 + t), lo r 5, rfl, rfl, .inl ⟨by omega, by omega⟩, _, _, rfl, rfl, _, rfl, _, rfl, szL (show 3 ≤ 1000000 by decide), fun t1 ht1 => ⟨szL (show 1 ≤ 1000000 by decide), fun t2 ht2 => ⟨szL (show 2 ≤ 1000000 by decide), fun t3 ht3 => ?_⟩⟩⟩
        have y1 := Ext.new (o := .tup [.str "shut", .int i, .int (i + 1 + (t : Nat))]) ht1
        have y2 := Ext.new (o := .tup [.ref t1]) ht2
        have y3 := Ext.new (o := .tup [.int (lo r 4 + (j - (i + 1 + (t : Nat))) * lo r 5), .ref t2]) ht3
        try delta tNil
        refine app_ok WyAt.mono hl hg (y1.trans (y2.trans y3)) (b := oneY r i j t) ⟨t3, t2, [.ref t1], rfl, upd_same, y3 _ _ upd_same, .cons ⟨t1, rfl, y3 _ _ (y2 _ _ upd_same)⟩ .nil⟩ (by rw [List.length_append, List.length_map, List.length_range]; omega) fun H3 hg3 => ?_
        refine ⟨_, rfl, ?_⟩
        rw [range_snoc, ← List.append_assoc]
        exact hg3
      · obtain ⟨y5, rfl, hg⟩ := hv
        refine ⟨_, rfl, _, rfl, d, _, rfl, get_lo (hg.ext _ _ hd1) ok.lo9 (i := 4) (by decide +kernel), _, rfl, _, rfl, lo r 4, i, j, rfl, i0, i1, j0, j1, fun l2 us2 H3 h1 h2 h3 h4 => ?_⟩
        obtain ⟨us, hL, hP, k2⟩ := hg
        have n1 := paired_len hP
        have n2 := paired_len h3
        have n4 := br_len (lo r 4) i j j1 i0
        rw [List.length_append, List.length_map, List.length_range] at n1
        refine ⟨l, l2, us, us2, rfl, rfl, h4 _ _ hL, h2, szL (by omega), fun m hm => ?_⟩
        have xm := Ext.new (o := .lst (us ++ us2)) hm
        exact q m _ _ ((x1.trans (k2.trans h4)).none hm) upd_same (paired_app (paired_imp (fun _ _ => WyAt.mono _ _ _ _ (TupK.ext (h4.trans xm))) hP) (paired_imp (fun _ _ => WyAt.mono _ _ _ _ (TupK.ext xm)) h3)) ((x1.trans (k2.trans h4)).trans xm)
abbrev COne (P : Program) (w : World) (K : PySem.W.Frag) (mg : Str → Option Value) (base : Heap) : Prop := Ca P w K mg base 2 "one_ways" ["rules", "i", "j"] spOne
abbrev s_open_ways : Stmt := topS 29
theorem sc_open_ways : FnScope ["rules", "i", "last", "worth", "ways", "k"] ["rules", "i", "last"] (defScope s_open_ways) :=
  ⟨rfl, rfl, rfl, by decide +kernel, rfl, by decide +kernel, by decide +kernel⟩
def spOpen : Sp := fun vs H Q _ => ∃ (v : V) (r : Rl) (i z : Int), vs = [v, .int i, .int z] ∧ RulesW H v r ∧ RlOk r ∧ 0 ≤ i ∧ i ≤ 100 ∧ -1 ≤ z ∧ z ≤ 100 ∧ WsOut H (openW r i z) Q
theorem ok_open {f : Addr} {fd : FuncData} (F : Fun K "open_ways" "open_ways" s_open_ways f fd) (cloop_worths : CLW P w K mg base) (mrange : mg "range" = none) : FnOk P w K mg base CX0 2 f fd ["rules", "i", "last"] spOpen := by
  refine F.ok sc_open_ways (fun vs H Q E h => ?_) (fun cdv A outer s H vs Q E hr h => ?_)
  · obtain ⟨v, r, i, z, rfl, _⟩ := h
    rfl
  · obtain ⟨v, r, i, z, rfl, hR, ok, i0, i1, z0, z1, q⟩ := h
    refine ⟨_, (pss_cons (ps_if (pt_cmpR op_gt (pv 1) (pv 2) (nomark _)) (pss_one (ps_ret (pe_lst (pa_cons (pe_tup (pa_cons pe_int (pa_cons (pe_tup pa_nil) pa_nil))) pa_nil)))) pss_nil)
      (pss_cons (ps_set (i := 3) sc_open_ways.nd rfl (.inl rfl) (pe_dget (hu_of hr) (pe_ca cloop_worths (hr.mono (by decide)) (by rfl) (pa_cons (pv 0) pa_nil)) pe_str (fun _ _ => rfl)))
      (pss_cons (ps_set (i := 4) sc_open_ways.nd rfl (.inl rfl) (pe_lst (pa_cons (pe_tup (pa_cons pe_int (pa_cons (pe_tup (pa_cons (pe_tup (pa_cons pe_str (pa_cons (pe_op op_add (pv 1) pe_int) (pa_cons (pv 2) pa_nil)))) pa_nil)) pa_nil))) pa_nil)))
      (pss_cons (ps_for PassesOwn.never rfl (pi_range2 (by rfl) mrange (pa_cons (pe_op op_add (pv 1) pe_int) (pa_cons (pe_op op_add (pv 2) pe_int) pa_nil))) (pg_name (i := 5) sc_open_ways.nd rfl (.inl rfl)) (pss_one (ps_expr (pe_bm PySem.F.plainAttrs_list PySem.F.slot_list_append PySem.F.type_list_append mt_append (pv 4) (pa_cons (pe_tup (pa_cons (pv 3) (pa_cons (pe_tup (pa_cons (pe_tup (pa_cons pe_str (pa_cons (pv 1) (pa_cons (pv 5) pa_nil)))) (pa_cons (pe_tup (pa_cons pe_str (pa_cons (pe_op op_add (pv 5) pe_int) (pa_cons (pv 2) pa_nil)))) pa_nil))) pa_nil))) pa_nil)))))
      (pss_one (ps_ret (pv 4))))))), ?_⟩
    refine ⟨_, rfl, _, rfl, _, _, rfl, rfl, _, rfl, ite2 (fun e => ?_) (fun e => ?_)⟩
    · have e : z < i := of_decide_eq_true e
      have eo : openW r i z = [((0 : Int), ([] : List Rw))] := by
        unfold openW
        rw [if_pos e]
      rw [eo] at q
      refine ⟨Nat.zero_le _, fun t1 ht1 => ⟨szL (show 2 ≤ 1000000 by decide), fun t2 ht2 => ⟨szL (show 1 ≤ 1000000 by decide), fun l hl => ?_⟩⟩⟩
      have y1 := Ext.new (o := .tup []) ht1
      have y2 := Ext.new (o := .tup [.int 0, .ref t1]) ht2
      have y3 := Ext.new (o := .lst [.ref t2]) hl
      exact q l [.ref t2] _ ((y1.trans y2).none hl) upd_same (.cons ⟨t2, t1, [], rfl, y3 _ _ upd_same, y3 _ _ (y2 _ _ upd_same), .nil⟩ .nil) (y1.trans (y2.trans y3))
    · have e : ¬ z < i := fun c => e (decide_eq_true c)
      have eo : openW r i z = ((0 : Int), [(("open" : Str), i + 1, z)]) :: (List.range (z + 1 - (i + 1)).toNat).map (openY r i z) := by
        unfold openW
        rw [if_neg e]
      rw [eo] at q
      refine ⟨_, rfl, v, r, rfl, hR, ok.lo9, fun d hd => ?_⟩
      have x1 := Ext.new (o := .dK (dLo r.loops)) hd
      refine ⟨d, _, rfl, get_lo upd_same ok.lo9 (i := 8) (by decide +kernel), ?_⟩
      refine ⟨_, rfl, i, 1, rfl, rfl, _, rfl, szL (show 3 ≤ 1000000 by decide), fun t1 ht1 => ⟨szL (show 1 ≤ 1000000 by decide), fun t2 ht2 => ⟨szL (show 2 ≤ 1000000 by decide), fun t3 ht3 => ⟨szL (show 1 ≤ 1000000 by decide), fun l hl => ?_⟩⟩⟩⟩
      have y1 := Ext.new (o := .tup [.str "open", .int (i + 1), .int z]) ht1
      have y2 := Ext.new (o := .tup [.ref t1]) ht2
      have y3 := Ext.new (o := .tup [.int 0, .ref t2]) ht3
      have y4 := Ext.new (o := .lst [.ref t3]) hl
      have y13 := x1.trans (y1.trans (y2.trans y3))
      have hlH := y13.none hl
      refine ⟨_, rfl, i, 1, rfl, rfl, _, rfl, z, 1, rfl, rfl, i + 1, z + 1, rfl, ⟨by omega, by omega, by omega, by omega⟩, for_range (lo := i + 1) (n := (z + 1 - (i + 1)).toNat) (fun t σ H2 => ∃ y5 : Option V, σ = [some v, some (.int i), some (.int z), some (.int (lo r 8)), some (.ref l), y5] ∧ GenL WyAt l H (((0 : Int), [(("open" : Str), i + 1, z)]) :: (List.range t).map (openY r i z)) H2)
        ⟨none, rfl, [.ref t3], upd_same, .cons ⟨t3, t2, [.ref t1], rfl, y4 _ _ upd_same, y4 _ _ (y3 _ _ upd_same), .cons ⟨t1, rfl, y4 _ _ (y3 _ _ (y2 _ _ upd_same))⟩ .nil⟩ .nil, y13.trans y4⟩ (fun t σ H2 ht hv => ?_) (fun σ H2 hv => ?_)⟩
      · obtain ⟨y5, rfl, hg⟩ := hv
        obtain ⟨us2, hsq⟩ := hg.sq (K := K)
        refine ⟨_, rfl, .inl ⟨rfl, _, hsq⟩, _, rfl, _, rfl, _, rfl, szL (show 3 ≤ 1000000 by decide), fun s1 hs1 => ⟨_, rfl, i + 1 + t, 1, rfl, rfl, _, rfl, szL (show 3 ≤ 1000000 by decide), fun s2 hs2 => ⟨szL (show 2 ≤ 1000000 by decide), fun s3 hs3 => ⟨szL (show 2 ≤ 1000000 by decide), fun s4 hs4 => ?_⟩⟩⟩⟩
        have u1 := Ext.new (o := .tup [.str "shut", .int i, .int (i + 1 + (t : Nat))]) hs1
        have u2 := Ext.new (o := .tup [.str "open", .int (i + 1 + (t : Nat) + 1), .int z]) hs2
        have u3 := Ext.new (o := .tup [.ref s1, .ref s2]) hs3
        have u4 := Ext.new (o := .tup [.int (lo r 8), .ref s3]) hs4
        try delta tNil
        refine app_ok WyAt.mono hlH hg ((u1.trans u2).trans (u3.trans u4)) (b := openY r i z t) ⟨s4, s3, [.ref s1, .ref s2], rfl, upd_same, u4 _ _ upd_same, .cons ⟨s1, rfl, u4 _ _ (u3 _ _ (u2 _ _ upd_same))⟩ (.cons ⟨s2, rfl, u4 _ _ (u3 _ _ upd_same)⟩ .nil)⟩ (by rw [List.length_cons, List.length_map, List.length_range]; omega) fun H3 hg3 => ?_
        refine ⟨_, rfl, ?_⟩
        rw [range_snoc]
        exact hg3
      · obtain ⟨y5, rfl, us, hL, hP, k2⟩ := hv
        exact ⟨_, rfl, q l us H2 hlH hL hP k2⟩
abbrev COpen (P : Program) (w : World) (K : PySem.W.Frag) (mg : Str → Option Value) (base : Heap) : Prop := Ca P w K mg base 2 "open_ways" ["rules", "i", "last"] spOpen
end
end Pf


namespace Pf
open PySem PySem.Spec PyProof.Rows L2
/-! ### ways of shut rows -/
def pwI : List (Str × Int) → Str → Int
  | [], _ => 0
  | (t, x) :: r, b => if t = b then x else pwI r b
theorem pwV_int : ∀ {prs : List (Str × Int)} {b : Str}, b ∈ prs.map (·.1) → pwV prs b = .int (pwI prs b)
  | [], _, h => by cases h
  | (t, x) :: r, b, h => by
    rw [pwV, pwI]
    by_cases e : t = b
    · rw [if_pos e, if_pos e]
    · rw [if_neg e, if_neg e]
      rcases List.mem_cons.mp h with z | z
      · exact absurd z.symm e
      · exact pwV_int z
theorem pwI_bound {prs : List (Str × Int)} (h : ∀ y ∈ prs, -99 ≤ y.2 ∧ y.2 ≤ 99) (b : Str) : -99 ≤ pwI prs b ∧ pwI prs b ≤ 99 := by
  induction prs with
  | nil => exact ⟨by show -99 ≤ (0 : Int); decide, by show (0 : Int) ≤ 99; decide⟩
  | cons y r ih =>
    rw [pwI]
    by_cases e : y.1 = b
    · rw [if_pos e]
      exact h y (List.mem_cons_self ..)
    · rw [if_neg e]
      exact ih fun z hz => h z (List.mem_cons_of_mem _ hz)
theorem may_mem {r : Rl} {x : Str} {i j : Int} (h : mayC r x i j = true) : tx2 x (i, j) ∈ r.prs.map (·.1) := by
  unfold mayC at h
  exact of_decide_eq_true (Bool.and_eq_true _ _ ▸ h).2
def shY (r : Rl) (x : Str) (i j : Int) (p q : Int) : Wy := (pwI r.prs (tx2 x (i, j)) + lpW r x (i, j) [(p, q)], [("shut", p, q)])
def shZ (r : Rl) (x : Str) (i j : Int) : Wy := (pwI r.prs (tx2 x (i, j)) + lpW r x (i, j) [], [])
def shF (r : Rl) (x : Str) (i j : Int) : Wy := (pwI r.prs (tx2 x (i, j)) + lo r 3, [("two", i + 1, j - 1)])
def shR (r : Rl) (x : Str) (i j : Int) (a : Nat) : List Wy := (List.range (j - (i + 1 + a + 1)).toNat).map fun b : Nat => shY r x i j (i + 1 + a) (i + 1 + a + 1 + (b : Int))
def shI (r : Rl) (x : Str) (i j : Int) (n : Nat) : List Wy := (List.range n).flatMap (shR r x i j)
theorem shI_succ (r : Rl) (x : Str) (i j : Int) (n : Nat) : shI r x i j (n + 1) = shI r x i j n ++ shR r x i j n := by
  unfold shI
  rw [List.range_succ, List.flatMap_append]
  simp
theorem shI_len {r : Rl} {x : Str} {i j : Int} (i0 : 0 ≤ i) (j1 : j ≤ 100) : ∀ n : Nat, (shI r x i j n).length ≤ 100 * n
  | 0 => Nat.le_refl _
  | n + 1 => by
    have := shI_len (r := r) (x := x) i0 j1 n
    rw [shI_succ, List.length_append]
    unfold shR
    rw [List.length_map, List.length_range]
    omega
def shutW (r : Rl) (x : Str) (i j : Int) : List Wy := if mayC r x i j = true then (shZ r x i j :: shI r x i j (j - (i + 1)).toNat) ++ (if i + 1 < j then [shF r x i j] else []) else []
section
variable {P : Program} {w : World} {K : PySem.W.Frag} {mg : Str → Option Value} {base : Heap}
abbrev s_shut_ways : Stmt := topS 25
theorem sc_shut_ways : FnScope ["rules", "string", "i", "j", "pair", "worth", "ways", "p", "q", "loop"] ["rules", "string", "i", "j"] (defScope s_shut_ways) :=
  ⟨rfl, rfl, rfl, by decide +kernel, rfl, by decide +kernel, by decide +kernel⟩
def spShut : Sp := fun vs H Q _ => ∃ (v : V) (r : Rl) (x : Str) (i j : Int), vs = [v, .str x, .int i, .int j] ∧ RulesW H v r ∧ RlOk r ∧ x.length ≤ 100 ∧ 0 ≤ i ∧ i < j ∧ j < x.length ∧ WsOut H (shutW r x i j) Q
theorem ok_shut {f : Addr} {fd : FuncData} (F : Fun K "shut_ways" "shut_ways" s_shut_ways f fd) (cmay_pair : CMP P w K mg base) (cpair_worth : CPW P w K mg base) (ctext_of : CTx P w K mg base) (cloop_within : CLoopW P w K mg base) (cloop_worths : CLW P w K mg base) (mrange : mg "range" = none) : FnOk P w K mg base CX0 3 f fd ["rules", "string", "i", "j"] spShut := by
  refine F.ok sc_shut_ways (fun vs H Q E h => ?_) (fun cdv A outer s H vs Q E hr h => ?_)
  · obtain ⟨v, r, x, i, j, rfl, _⟩ := h
    rfl
  · obtain ⟨v, r, x, i, j, rfl, hR, ok, hx, i0, ij, jx, q⟩ := h
    refine ⟨_, (pss_cons (ps_if (pt_not (pt_val (pe_ca cmay_pair (hr.mono (by decide)) (by rfl) (pa_cons (pv 0) (pa_cons (pv 1) (pa_cons (pv 2) (pa_cons (pv 3) pa_nil))))))) (pss_one (ps_ret (pe_lst pa_nil))) pss_nil)
      (pss_cons (ps_set (i := 4) sc_shut_ways.nd rfl (.inl rfl) (pe_tup (pa_cons (pv 2) (pa_cons (pv 3) pa_nil))))
      (pss_cons (ps_set (i := 5) sc_shut_ways.nd rfl (.inl rfl) (pe_ca cpair_worth (hr.mono (by decide)) (by rfl) (pa_cons (pv 0) (pa_cons (pe_ca ctext_of (hr.mono (by decide)) (by rfl) (pa_cons (pv 1) (pa_cons (pv 4) pa_nil))) pa_nil))))
      (pss_cons (ps_set (i := 6) sc_shut_ways.nd rfl (.inl rfl) (pe_lst (pa_cons (pe_tup (pa_cons (pe_op op_add (pv 5) (pe_ix (ixT K) (pe_ca cloop_within (hr.mono (by decide)) (by rfl) (pa_cons (pv 0) (pa_cons (pv 1) (pa_cons (pv 4) (pa_cons (pe_lst pa_nil) pa_nil))))) pe_int (fun _ _ => rfl))) (pa_cons (pe_tup pa_nil) pa_nil))) pa_nil)))
      (pss_cons (ps_for PassesOwn.never rfl (pi_range2 (by rfl) mrange (pa_cons (pe_op op_add (pv 2) pe_int) (pa_cons (pv 3) pa_nil))) (pg_name (i := 7) sc_shut_ways.nd rfl (.inl rfl)) (pss_one (ps_for PassesOwn.never rfl (pi_range2 (by rfl) mrange (pa_cons (pe_op op_add (pv 7) pe_int) (pa_cons (pv 3) pa_nil))) (pg_name (i := 8) sc_shut_ways.nd rfl (.inl rfl)) (pss_cons (ps_set (i := 9) sc_shut_ways.nd rfl (.inl rfl) (pe_ca cloop_within (hr.mono (by decide)) (by rfl) (pa_cons (pv 0) (pa_cons (pv 1) (pa_cons (pv 4) (pa_cons (pe_lst (pa_cons (pe_tup (pa_cons (pv 7) (pa_cons (pv 8) pa_nil))) pa_nil)) pa_nil))))))
      (pss_one (ps_expr (pe_bm PySem.F.plainAttrs_list PySem.F.slot_list_append PySem.F.type_list_append mt_append (pv 6) (pa_cons (pe_tup (pa_cons (pe_op op_add (pv 5) (pe_ix (ixT K) (pv 9) pe_int (fun _ _ => rfl))) (pa_cons (pe_tup (pa_cons (pe_tup (pa_cons pe_str (pa_cons (pv 7) (pa_cons (pv 8) pa_nil)))) pa_nil)) pa_nil))) pa_nil))))))))
      (pss_cons (ps_if (pt_cmpR op_lt (pe_op op_add (pv 2) pe_int) (pv 3) (nomark _)) (pss_one (ps_expr (pe_bm PySem.F.plainAttrs_list PySem.F.slot_list_append PySem.F.type_list_append mt_append (pv 6) (pa_cons (pe_tup (pa_cons (pe_op op_add (pv 5) (pe_dget (hu_of hr) (pe_ca cloop_worths (hr.mono (by decide)) (by rfl) (pa_cons (pv 0) pa_nil)) pe_str (fun _ _ => rfl))) (pa_cons (pe_tup (pa_cons (pe_tup (pa_cons pe_str (pa_cons (pe_op op_add (pv 2) pe_int) (pa_cons (pe_op op_sub (pv 3) pe_int) pa_nil)))) pa_nil)) pa_nil))) pa_nil)))) pss_nil)
      (pss_one (ps_ret (pv 6))))))))), ?_⟩
    refine ⟨_, rfl, _, rfl, _, rfl, _, rfl, v, r, x, i, j, rfl, hR, by omega, i0, ij, jx, fun H1 k1 => ⟨_, rfl, ?_⟩⟩
    by_cases em : mayC r x i j = true
    · rw [em]
      refine iteF ?_
      have hm := may_mem em
      have pb := pwI_bound (fun y hy => (ok.pr y hy).2) (tx2 x (i, j))
      unfold shutW at q
      rw [if_pos em] at q
      refine ⟨_, rfl, _, rfl, szL (show 2 ≤ 1000000 by decide), fun tp htp => ?_⟩
      have x2 := Ext.new (o := .tup [.int i, .int j]) htp
      have hT2 : (upd H1 tp (.tup [.int i, .int j])) tp = some (.tup [.int i, .int j]) := upd_same
      have k2 := k1.trans x2
      generalize upd H1 tp (.tup [.int i, .int j]) = H2 at x2 hT2 k2 ⊢
      have rulE : ∀ {H' : Hp}, Ext H H' → RulesW H' v r := fun k => RulesW.mono _ _ _ _ (TupK.ext k) hR
      refine ⟨_, rfl, _, rfl, _, rfl, x, tp, (i, j), rfl, hT2, by omega, i0, by show i < _; omega, by show 0 ≤ j; omega, jx, v, r, _, rfl, rulE k2, ?_⟩
      rw [pwV_int hm]
      have in1 : InX x [(i, j)] := fun y hy => by
        rw [List.mem_singleton] at hy
        subst hy
        exact ⟨i0, by show i < _; omega, by show 0 ≤ j; omega, jx⟩
      have f0 : freeI (i, j) [] = j - i - 1 := by
        show j - i - 1 - 0 = _
        omega
      refine ⟨_, rfl, _, rfl, _, rfl, _, rfl, Nat.zero_le _, fun l0 hl0 => ?_⟩
      have x3 := Ext.new (o := .lst []) hl0
      refine ⟨v, r, x, tp, l0, (i, j), [], [], rfl, rulE (k2.trans x3), ok, by omega, x3 _ _ hT2, upd_same, .nil, Nat.zero_le _, in1, (fun y hy => by cases hy), by omega, by omega, fun a H4 ha k4 => ?_⟩
      refine ⟨a, _, 2, _, rfl, rfl, SqT.of ha, rfl, _, _, rfl, rfl, Nat.zero_le _, fun t5 ht5 => ⟨szL (show 2 ≤ 1000000 by decide), fun t6 ht6 => ⟨szL (show 1 ≤ 1000000 by decide), fun l hl => ?_⟩⟩⟩
      have y5 := Ext.new (o := .tup []) ht5
      have y6 := Ext.new (o := .tup [.int (pwI r.prs (tx2 x (i, j)) + lpW r x (i, j) []), .ref t5]) ht6
      have y7 := Ext.new (o := .lst [.ref t6]) hl
      have k6 := ((k2.trans x3).trans k4).trans (y5.trans y6)
      have hlH := k6.none hl
      have hT7 := y7 _ _ (y6 _ _ (y5 _ _ (k4 _ _ (x3 _ _ hT2))))
      refine ⟨_, rfl, i, 1, rfl, rfl, _, rfl, i + 1, j, rfl, ⟨by omega, by omega, by omega, by omega⟩, for_range (lo := i + 1) (n := (j - (i + 1)).toNat) (fun a σ H8 => ∃ (y7 y8 y9 : Option V), σ = [some v, some (.str x), some (.int i), some (.int j), some (.ref tp), some (.int (pwI r.prs (tx2 x (i, j)))), some (.ref l), y7, y8, y9] ∧ H8 tp = some (.tup [.int i, .int j]) ∧ GenL WyAt l H (shZ r x i j :: shI r x i j a) H8)
        ⟨none, none, none, rfl, hT7, [.ref t6], upd_same, .cons ⟨t6, t5, [], rfl, y7 _ _ upd_same, y7 _ _ (y6 _ _ upd_same), .nil⟩ .nil, k6.trans y7⟩ (fun a σ H8 ha hv => ?_) (fun σ H8 hv => ?_)⟩
      · obtain ⟨z7, z8, z9, rfl, hT8, hg⟩ := hv
        refine ⟨_, rfl, i + 1 + a, 1, rfl, rfl, _, rfl, i + 1 + a + 1, j, rfl, ⟨by omega, by omega, by omega, by omega⟩, for_range (lo := i + 1 + a + 1) (n := (j - (i + 1 + a + 1)).toNat) (fun b σ H9 => ∃ (y8 y9 : Option V), σ = [some v, some (.str x), some (.int i), some (.int j), some (.ref tp), some (.int (pwI r.prs (tx2 x (i, j)))), some (.ref l), some (.int (i + 1 + (a : Nat))), y8, y9] ∧ H9 tp = some (.tup [.int i, .int j]) ∧ GenL WyAt l H ((shZ r x i j :: shI r x i j a) ++ (List.range b).map fun b : Nat => shY r x i j (i + 1 + (a : Int)) (i + 1 + (a : Int) + 1 + (b : Int))) H9)
          ⟨_, _, rfl, hT8, by rw [List.range_zero, List.map_nil, List.append_nil]; exact hg⟩ (fun b σ H9 hb hv => ?_) (fun σ H9 hv => ?_)⟩
        · obtain ⟨z8, z9, rfl, hT9, hg⟩ := hv
          have k9 := hg.ext
          refine ⟨_, rfl, _, rfl, _, rfl, _, rfl, _, rfl, szL (show 2 ≤ 1000000 by decide), fun s1 hs1 => ⟨szL (show 1 ≤ 1000000 by decide), fun s2 hs2 => ?_⟩⟩
          have u1 := Ext.new (o := .tup [.int (i + 1 + (a : Nat)), .int (i + 1 + (a : Nat) + 1 + (b : Nat))]) hs1
          have u2 := Ext.new (o := .lst [.ref s1]) hs2
          have u12 := u1.trans u2
          have fr : freeI (i, j) [(i + 1 + (a : Int), i + 1 + (a : Int) + 1 + (b : Int))] = j - i - 1 - (i + 1 + (a : Int) + 1 + (b : Int) - (i + 1 + (a : Int)) + 1 + 0) := rfl
          refine ⟨v, r, x, tp, s2, (i, j), [.ref s1], [(i + 1 + (a : Nat), i + 1 + (a : Nat) + 1 + (b : Nat))], rfl, rulE (k9.trans u12), ok, by omega, u12 _ _ hT9, upd_same, .cons ⟨s1, rfl, u2 _ _ upd_same⟩ .nil, (show 1 ≤ 1000 by decide), in1, (fun y hy => ?_), by omega, by omega, fun c H10 hc k10 => ?_⟩
          · rw [List.mem_singleton] at hy
            subst hy
            exact ⟨by show 0 ≤ i + 1 + (a : Int); omega, by show i + 1 + (a : Int) < _; omega, by show 0 ≤ i + 1 + (a : Int) + 1 + (b : Int); omega, by show i + 1 + (a : Int) + 1 + (b : Int) < _; omega⟩
          · obtain ⟨us9, hsq9⟩ := (hg.keep WyAt.mono (u12.trans k10)).sq (K := K)
            refine ⟨_, rfl, .inl ⟨rfl, _, hsq9⟩, _, rfl, _, rfl, c, _, 2, _, rfl, rfl, SqT.of hc, rfl, _, _, rfl, rfl, _, rfl, _, rfl, szL (show 3 ≤ 1000000 by decide), fun s3 hs3 => ⟨szL (show 1 ≤ 1000000 by decide), fun s4 hs4 => ⟨szL (show 2 ≤ 1000000 by decide), fun s5 hs5 => ?_⟩⟩⟩
            have u3 := Ext.new (o := .tup [.str "shut", .int (i + 1 + (a : Nat)), .int (i + 1 + (a : Nat) + 1 + (b : Nat))]) hs3
            have u4 := Ext.new (o := .tup [.ref s3]) hs4
            have u5 := Ext.new (o := .tup [.int (pwI r.prs (tx2 x (i, j)) + lpW r x (i, j) [(i + 1 + (a : Nat), i + 1 + (a : Nat) + 1 + (b : Nat))]), .ref s4]) hs5
            have uu := (u12.trans k10).trans (u3.trans (u4.trans u5))
            have hT10 := uu _ _ hT9
            have sl := shI_len (r := r) (x := x) i0 (show j ≤ 100 by omega) a
            try delta tNil
            obtain ⟨acc, a1, a2, a3⟩ := genl_step WyAt.mono hlH hg uu (v := .ref s5) (b := shY r x i j (i + 1 + (a : Nat)) (i + 1 + (a : Nat) + 1 + (b : Nat))) ⟨s5, s4, [.ref s3], rfl, upd_same, u5 _ _ upd_same, .cons ⟨s3, rfl, u5 _ _ (u4 _ _ upd_same)⟩ .nil⟩ (by rw [List.length_append, List.length_cons, List.length_map, List.length_range]; omega)
            refine ⟨l, acc, _, rfl, rfl, a1, a2, _, _, rfl, ?_, ?_⟩
            · rw [upd_ne (ne_of hT10 a1 (by intro z; cases z))]
              exact hT10
            · rw [range_snoc, ← List.append_assoc]
              exact a3
        · obtain ⟨z8, z9, rfl, hT9, hg⟩ := hv
          refine ⟨_, _, _, rfl, hT9, ?_⟩
          rw [shI_succ]
          exact hg
      · obtain ⟨z7, z8, z9, rfl, hT8, hg⟩ := hv
        have k8 := hg.ext
        have sl := shI_len (r := r) (x := x) i0 (show j ≤ 100 by omega) (j - (i + 1)).toNat
        refine ⟨_, rfl, i, 1, rfl, rfl, _, rfl, _, _, rfl, rfl, _, rfl, ite2 (fun e => ?_) (fun e => ?_)⟩
        · have e : i + 1 < j := of_decide_eq_true e
          rw [if_pos e] at q
          obtain ⟨us8, hsq8⟩ := hg.sq (K := K)
          refine ⟨_, rfl, .inl ⟨rfl, _, hsq8⟩, _, rfl, _, rfl, v, r, rfl, rulE k8, ok.lo9, fun d hd => ?_⟩
          have u1 := Ext.new (o := .dK (dLo r.loops)) hd
          refine ⟨d, _, rfl, get_lo upd_same ok.lo9 (i := 3) (by decide +kernel), _, _, rfl, rfl, _, rfl, i, 1, rfl, rfl, _, rfl, j, 1, rfl, rfl, szL (show 3 ≤ 1000000 by decide), fun s3 hs3 => ⟨szL (show 1 ≤ 1000000 by decide), fun s4 hs4 => ⟨szL (show 2 ≤ 1000000 by decide), fun s5 hs5 => ?_⟩⟩⟩
          have u3 := Ext.new (o := .tup [.str "two", .int (i + 1), .int (j - 1)]) hs3
          have u4 := Ext.new (o := .tup [.ref s3]) hs4
          have u5 := Ext.new (o := .tup [.int (pwI r.prs (tx2 x (i, j)) + lo r 3), .ref s4]) hs5
          try delta tNil
          refine app_ok WyAt.mono hlH hg (u1.trans (u3.trans (u4.trans u5))) (b := shF r x i j) ⟨s5, s4, [.ref s3], rfl, upd_same, u5 _ _ upd_same, .cons ⟨s3, rfl, u5 _ _ (u4 _ _ upd_same)⟩ .nil⟩ (by rw [List.length_cons]; omega) fun H9 hg9 => ?_
          obtain ⟨us, hL, hP, k9⟩ := hg9
          exact ⟨_, rfl, q l us H9 hlH hL hP k9⟩
        · have e : ¬ i + 1 < j := fun z => e (decide_eq_true z)
          rw [if_neg e, List.append_nil] at q
          obtain ⟨us, hL, hP, k9⟩ := hg
          exact ⟨_, rfl, q l us H8 hlH hL hP k9⟩
    · have em2 : mayC r x i j = false := by
        cases h : mayC r x i j with
        | true => exact absurd h em
        | false => rfl
      rw [em2]
      unfold shutW at q
      rw [if_neg em] at q
      refine iteT ⟨Nat.zero_le _, fun l hl => q l [] _ (k1.none hl) upd_same .nil (k1.trans (Ext.new hl))⟩
abbrev CShut (P : Program) (w : World) (K : PySem.W.Frag) (mg : Str → Option Value) (base : Heap) : Prop := Ca P w K mg base 3 "shut_ways" ["rules", "string", "i", "j"] spShut
abbrev s_ways_of : Stmt := topS 30
theorem sc_ways_of : FnScope ["rules", "string", "row", "kind", "i", "j"] ["rules", "string", "row"] (defScope s_ways_of) :=
  ⟨rfl, rfl, rfl, by decide +kernel, rfl, by decide +kernel, by decide +kernel⟩
def waysOf (r : Rl) (x : Str) (y : Rw) : List Wy := if y.1 = "shut" then shutW r x y.2.1 y.2.2 else if y.1 = "one" then oneW r y.2.1 y.2.2 else if y.1 = "two" then twoW r y.2.1 y.2.2 else openW r y.2.1 y.2.2
def RwOk (n : Int) (y : Rw) : Prop := 0 ≤ y.2.1 ∧ y.2.1 ≤ n ∧ -1 ≤ y.2.2 ∧ y.2.2 < n ∧ (y.1 = "shut" → y.2.1 < y.2.2)
def spWaysOf : Sp := fun vs H Q _ => ∃ (v : V) (r : Rl) (x : Str) (y : Rw) (t : V), vs = [v, .str x, t] ∧ RwAt H t y ∧ RulesW H v r ∧ RlOk r ∧ x.length ≤ 100 ∧ RwOk x.length y ∧ WsOut H (waysOf r x y) Q
theorem ok_wof {f : Addr} {fd : FuncData} (F : Fun K "ways_of" "ways_of" s_ways_of f fd) (cshut_ways : CShut P w K mg base) (cone_ways : COne P w K mg base) (ctwo_ways : CTwo P w K mg base) (copen_ways : COpen P w K mg base) : FnOk P w K mg base CX0 4 f fd ["rules", "string", "row"] spWaysOf := by
  refine F.ok sc_ways_of (fun vs H Q E h => ?_) (fun cdv A outer s H vs Q E hr h => ?_)
  · obtain ⟨v, r, x, y, t, rfl, _⟩ := h
    rfl
  · obtain ⟨v, r, x, ⟨kd, i, j⟩, t, rfl, ⟨a, rfl, hA⟩, hR, ok, hx, ⟨b1, b2, b3, b4, b5⟩, q⟩ := h
    refine ⟨_, (pss_cons (ps_asg (pv 2) (pg_tup rfl (pgs_cons (pg_name (i := 3) sc_ways_of.nd rfl (.inl rfl)) (pgs_cons (pg_name (i := 4) sc_ways_of.nd rfl (.inl rfl)) (pgs_cons (pg_name (i := 5) sc_ways_of.nd rfl (.inl rfl)) pgs_nil)))))
      (pss_cons (ps_if (pt_cmpR op_eq (pv 3) pe_str (nomark _)) (pss_one (ps_ret (pe_ca cshut_ways (hr.mono (by decide)) (by rfl) (pa_cons (pv 0) (pa_cons (pv 1) (pa_cons (pv 4) (pa_cons (pv 5) pa_nil))))))) pss_nil)
      (pss_cons (ps_if (pt_cmpR op_eq (pv 3) pe_str (nomark _)) (pss_one (ps_ret (pe_ca cone_ways (hr.mono (by decide)) (by rfl) (pa_cons (pv 0) (pa_cons (pv 4) (pa_cons (pv 5) pa_nil)))))) pss_nil)
      (pss_cons (ps_if (pt_cmpR op_eq (pv 3) pe_str (nomark _)) (pss_one (ps_ret (pe_ca ctwo_ways (hr.mono (by decide)) (by rfl) (pa_cons (pv 0) (pa_cons (pv 4) (pa_cons (pv 5) pa_nil)))))) pss_nil)
      (pss_one (ps_ret (pe_ca copen_ways (hr.mono (by decide)) (by rfl) (pa_cons (pv 0) (pa_cons (pv 4) (pa_cons (pv 5) pa_nil)))))))))), ?_⟩
    have b1 : 0 ≤ i := b1
    have b2 : i ≤ x.length := b2
    have b3 : -1 ≤ j := b3
    have b4 : j < x.length := b4
    have b5 : kd = "shut" → i < j := b5
    refine ⟨_, rfl, a, _, rfl, SqT.of hA, rfl, _, _, rfl, _, _, rfl, _, _, rfl, rfl, ?_⟩
    unfold waysOf at q
    refine ⟨_, rfl, rfl, _, rfl, ite2 (fun e => ?_) (fun e => ?_)⟩
    · have e : kd = "shut" := V.str.inj (of_decide_eq_true e)
      have q : WsOut H (shutW r x i j) Q := by
        rw [if_pos (show (kd, i, j).1 = "shut" from e)] at q
        exact q
      exact ⟨_, rfl, _, rfl, _, rfl, _, rfl, v, r, x, i, j, rfl, hR, ok, hx, b1, b5 e, b4, q⟩
    · have e : ¬ kd = "shut" := fun z => e (decide_eq_true (congrArg V.str z))
      rw [if_neg (show ¬ (kd, i, j).1 = "shut" from e)] at q
      refine ⟨_, rfl, rfl, _, rfl, ite2 (fun e1 => ?_) (fun e1 => ?_)⟩
      · have e1 : kd = "one" := V.str.inj (of_decide_eq_true e1)
        rw [if_pos (show (kd, i, j).1 = "one" from e1)] at q
        exact ⟨_, rfl, _, rfl, _, rfl, v, r, i, j, rfl, hR, ok, b1, by omega, b3, by omega, q⟩
      · have e1 : ¬ kd = "one" := fun z => e1 (decide_eq_true (congrArg V.str z))
        rw [if_neg (show ¬ (kd, i, j).1 = "one" from e1)] at q
        refine ⟨_, rfl, rfl, _, rfl, ite2 (fun e2 => ?_) (fun e2 => ?_)⟩
        · have e2 : kd = "two" := V.str.inj (of_decide_eq_true e2)
          rw [if_pos (show (kd, i, j).1 = "two" from e2)] at q
          exact ⟨_, rfl, _, rfl, _, rfl, v, r, i, j, rfl, hR, ok, b1, by omega, b3, by omega, q⟩
        · have e2 : ¬ kd = "two" := fun z => e2 (decide_eq_true (congrArg V.str z))
          rw [if_neg (show ¬ (kd, i, j).1 = "two" from e2)] at q
          exact ⟨_, rfl, _, rfl, _, rfl, v, r, i, j, rfl, hR, ok, b1, by omega, b3, by omega, q⟩
abbrev CWof (P : Program) (w : World) (K : PySem.W.Frag) (mg : Str → Option Value) (base : Heap) : Prop := Ca P w K mg base 4 "ways_of" ["rules", "string", "row"] spWaysOf
end
end Pf


namespace Pf
open PySem PySem.Spec PyProof.Rows L2
/-! ### tallies: how often a number stands in a list -/
def encN (x : Int × Nat) : Key × V := (.inl x.1, .int (x.2 : Nat))
def lkT : List (Int × Nat) → Int → Nat
  | [], _ => 0
  | x :: r, z => if x.1 = z then x.2 else lkT r z
structure TyAt (t : List (Int × Nat)) (M : List Int) : Prop where
  nd : (t.map (·.1)).Nodup
  pos : ∀ x ∈ t, 0 < x.2
  cnt : ∀ z, lkT t z = M.count z
def TyIs (kvs : List (Key × V)) (M : List Int) : Prop := ∃ t, kvs = t.map encN ∧ TyAt t M
theorem lk_val : ∀ (t : List (Int × Nat)) (z : Int), (∀ x ∈ t, 0 < x.2) → valV (t.map encN) (.inl z) = if lkT t z = 0 then none else some (.int (lkT t z : Nat))
  | [], z, _ => rfl
  | x :: r, z, h => by
    rw [List.map_cons, lkT]
    by_cases e : x.1 = z
    · have := h x (List.mem_cons_self ..)
      rw [if_pos e, if_neg (by omega), valV_pos (show (encN x).1 = .inl z from congrArg Sum.inl e)]
      rfl
    · rw [if_neg e, valV_neg (show ¬ (encN x).1 = .inl z from fun c => e (Sum.inl.inj c))]
      exact lk_val r z fun y hy => h y (List.mem_cons_of_mem _ hy)
theorem lk_no : ∀ {t : List (Int × Nat)} {z : Int}, z ∉ t.map (·.1) → lkT t z = 0
  | [], _, _ => rfl
  | x :: r, z, h => by
    rw [List.map_cons, List.mem_cons, not_or] at h
    rw [lkT, if_neg fun e => h.1 e.symm]
    exact lk_no h.2
def repN (x : Int × Nat) : List Int := List.replicate x.2 x.1
theorem cnt_rep (n : Nat) (a z : Int) : (List.replicate n a).count z = if a = z then n else 0 := by
  rw [List.count_replicate]
  by_cases e : a = z
  · rw [if_pos e, if_pos (by rw [e]; exact beq_self_eq_true _)]
  · rw [if_neg e, if_neg (by intro c; exact e (by simpa using c))]
theorem cnt_all : ∀ {t : List (Int × Nat)} (z : Int), (t.map (·.1)).Nodup → (t.flatMap repN).count z = lkT t z
  | [], _, _ => rfl
  | x :: r, z, h => by
    rw [List.map_cons, List.nodup_cons] at h
    rw [List.flatMap_cons, List.count_append, cnt_all z h.2, lkT]
    unfold repN
    rw [cnt_rep]
    by_cases e : x.1 = z
    · rw [if_pos e, if_pos e, lk_no (by rw [← e]; exact h.1), Nat.add_zero]
    · rw [if_neg e, if_neg e, Nat.zero_add]
theorem TyAt.perm {t : List (Int × Nat)} {M : List Int} (h : TyAt t M) : (t.flatMap repN).Perm M := List.perm_iff_count.mpr fun z => by rw [cnt_all z h.nd, h.cnt]
theorem len_rep : ∀ {t : List (Int × Nat)}, (∀ x ∈ t, 0 < x.2) → t.length ≤ (t.flatMap repN).length
  | [], _ => Nat.le_refl _
  | x :: r, h => by
    have h1 := h x (List.mem_cons_self ..)
    have h2 := len_rep fun y hy => h y (List.mem_cons_of_mem _ hy)
    rw [List.flatMap_cons, List.length_append, List.length_cons]
    have : (repN x).length = x.2 := List.length_replicate
    omega
theorem TyIs.len {kvs : List (Key × V)} {M : List Int} (h : TyIs kvs M) : kvs.length ≤ M.length := by
  obtain ⟨t, rfl, a⟩ := h
  rw [List.length_map, ← a.perm.length_eq]
  exact len_rep a.pos
theorem TyIs.same {kvs : List (Key × V)} {M N : List Int} (h : TyIs kvs M) (p : M.Perm N) : TyIs kvs N := by
  obtain ⟨t, e, a⟩ := h
  exact ⟨t, e, a.nd, a.pos, fun z => (a.cnt z).trans (p.count_eq z)⟩
theorem TyIs.nil : TyIs [] [] := ⟨[], rfl, List.nodup_nil, (fun x h => by cases h), fun _ => rfl⟩
theorem TyIs.get {kvs : List (Key × V)} {M : List Int} (h : TyIs kvs M) (z : Int) : (valV kvs (.inl z)).getD (.int 0) = .int (M.count z : Nat) := by
  obtain ⟨t, rfl, a⟩ := h
  rw [lk_val t z a.pos, a.cnt]
  by_cases e : M.count z = 0
  · rw [if_pos e, e]
    rfl
  · rw [if_neg e]
    rfl
def putN : List (Int × Nat) → Int → Nat → List (Int × Nat)
  | [], z, n => [(z, n)]
  | x :: r, z, n => if x.1 = z then (z, n) :: r else x :: putN r z n
theorem putN_keys : ∀ (t : List (Int × Nat)) (z : Int) (n : Nat) (y : Int), y ∈ (putN t z n).map (·.1) ↔ y = z ∨ y ∈ t.map (·.1)
  | [], z, n, y => by simp [putN]
  | x :: r, z, n, y => by
    rw [putN]
    by_cases e : x.1 = z
    · rw [if_pos e, List.map_cons, List.map_cons, List.mem_cons, List.mem_cons, e]
      exact ⟨fun h => h.elim .inl fun h => .inr (.inr h), fun h => h.elim .inl fun h => h.elim .inl .inr⟩
    · rw [if_neg e, List.map_cons, List.map_cons, List.mem_cons, List.mem_cons, putN_keys r z n y]
      exact ⟨fun h => h.elim (fun h => .inr (.inl h)) fun h => h.elim .inl fun h => .inr (.inr h), fun h => h.elim (fun h => .inr (.inl h)) fun h => h.elim .inl fun h => .inr (.inr h)⟩
theorem putN_nd : ∀ (t : List (Int × Nat)) (z : Int) (n : Nat), (t.map (·.1)).Nodup → ((putN t z n).map (·.1)).Nodup
  | [], z, n, _ => by simp [putN]
  | x :: r, z, n, h => by
    rw [List.map_cons, List.nodup_cons] at h
    rw [putN]
    by_cases e : x.1 = z
    · rw [if_pos e, List.map_cons, List.nodup_cons]
      exact ⟨by show z ∉ _; rw [← e]; exact h.1, h.2⟩
    · rw [if_neg e, List.map_cons, List.nodup_cons]
      refine ⟨fun c => ?_, putN_nd r z n h.2⟩
      rcases (putN_keys r z n x.1).mp c with c | c
      · exact e c
      · exact h.1 c
theorem putN_lk : ∀ (t : List (Int × Nat)) (z : Int) (n : Nat) (y : Int), lkT (putN t z n) y = if z = y then n else lkT t y
  | [], z, n, y => rfl
  | x :: r, z, n, y => by
    rw [putN]
    by_cases e : x.1 = z
    · rw [if_pos e, lkT, lkT]
      by_cases c : z = y
      · rw [if_pos c, if_pos c]
      · rw [if_neg c, if_neg c, if_neg (by rw [e]; exact c)]
    · rw [if_neg e, lkT, lkT, putN_lk r z n y]
      by_cases c : x.1 = y
      · rw [if_pos c, if_neg (fun d => e (c.trans d.symm)), if_pos c]
      · rw [if_neg c, if_neg c]
theorem putN_pos : ∀ (t : List (Int × Nat)) (z : Int) (n : Nat), (∀ x ∈ t, 0 < x.2) → 0 < n → ∀ x ∈ putN t z n, 0 < x.2
  | [], z, n, _, hn, x, hx => by
    rw [putN, List.mem_singleton] at hx
    rw [hx]
    exact hn
  | y :: r, z, n, h, hn, x, hx => by
    rw [putN] at hx
    by_cases e : y.1 = z
    · rw [if_pos e] at hx
      rcases List.mem_cons.mp hx with rfl | hx
      · exact hn
      · exact h x (List.mem_cons_of_mem _ hx)
    · rw [if_neg e] at hx
      rcases List.mem_cons.mp hx with rfl | hx
      · exact h _ (List.mem_cons_self ..)
      · exact putN_pos r z n (fun w hw => h w (List.mem_cons_of_mem _ hw)) hn x hx
theorem putN_enc (t : List (Int × Nat)) (z : Int) (n : Nat) (h : (t.map (·.1)).Nodup) : putK (t.map encN) (.inl z) (.int (n : Nat)) = (putN t z n).map encN := by
  have key : ∀ t : List (Int × Nat), (t.map (·.1)).Nodup → ((t.map encN).any fun kv => decide (kv.1 = .inl z)) = false → (putN t z n).map encN = t.map encN ++ [(.inl z, .int (n : Nat))] := by
    intro t
    induction t with
    | nil => intro _ _; rfl
    | cons x r ih =>
      intro h a
      rw [List.map_cons, List.nodup_cons] at h
      rw [List.map_cons, List.any_cons, Bool.or_eq_false_iff] at a
      have e : ¬ x.1 = z := fun c => by
        have := of_decide_eq_false a.1
        exact this (congrArg Sum.inl c)
      rw [putN, if_neg e, List.map_cons, ih h.2 a.2]
      rfl
  have key2 : ∀ t : List (Int × Nat), (t.map (·.1)).Nodup → ((t.map encN).any fun kv => decide (kv.1 = .inl z)) = true → (putN t z n).map encN = (t.map encN).map fun kv => if kv.1 = .inl z then (kv.1, .int (n : Nat)) else kv := by
    intro t
    induction t with
    | nil => intro _ a; cases a
    | cons x r ih =>
      intro h a
      rw [List.map_cons, List.nodup_cons] at h
      by_cases e : x.1 = z
      · rw [putN, if_pos e, List.map_cons, List.map_cons, List.map_cons, if_pos (show (encN x).1 = .inl z from congrArg Sum.inl e)]
        have er : ((r.map encN).map fun kv => if kv.1 = .inl z then (kv.1, V.int (n : Nat)) else kv) = r.map encN := by
          rw [List.map_map]
          refine List.map_congr_left fun y hy => ?_
          have : ¬ (encN y).1 = .inl z := fun c => h.1 (by rw [e, ← Sum.inl.inj c]; exact List.mem_map.mpr ⟨y, hy, rfl⟩)
          exact if_neg this
        rw [er]
        show _ :: _ = ((encN x).1, _) :: _
        rw [show (encN x).1 = (.inl z : Key) from congrArg Sum.inl e]
        rfl
      · rw [List.map_cons, List.any_cons, show decide ((encN x).1 = (.inl z : Key)) = false from decide_eq_false fun c => e (Sum.inl.inj c), Bool.false_or] at a
        rw [putN, if_neg e, List.map_cons, List.map_cons, List.map_cons, if_neg (show ¬ (encN x).1 = .inl z from fun c => e (Sum.inl.inj c)), ih h.2 a]
  unfold putK
  by_cases a : ((t.map encN).any fun kv => decide (kv.1 = .inl z)) = true
  · rw [if_pos a, key2 t h a]
  · rw [if_neg a, key t h (by cases q : (t.map encN).any fun kv => decide (kv.1 = .inl z) with | true => exact absurd q a | false => rfl)]
theorem TyIs.put {kvs : List (Key × V)} {M : List Int} (h : TyIs kvs M) {z : Int} {c : Nat} (hc : 0 < c) : TyIs (putK kvs (.inl z) (.int ((M.count z : Nat) + (c : Nat)))) (M ++ List.replicate c z) := by
  obtain ⟨t, rfl, a⟩ := h
  refine ⟨putN t z (M.count z + c), ?_, putN_nd _ _ _ a.nd, putN_pos _ _ _ a.pos (by omega), fun y => ?_⟩
  · rw [← putN_enc _ _ _ a.nd]
    rfl
  · rw [putN_lk, List.count_append, cnt_rep]
    by_cases e : z = y
    · rw [if_pos e, if_pos e, e]
    · rw [if_neg e, if_neg e, a.cnt]
      rfl
/-! ### the sums of two lists -/
def sums (A B : List Int) : List Int := A.flatMap fun a => B.map fun b => a + b
theorem sums_len (A B : List Int) : (sums A B).length = A.length * B.length := by
  unfold sums
  induction A with
  | nil => rw [List.length_nil, Nat.zero_mul]; rfl
  | cons a r ih => rw [List.flatMap_cons, List.length_append, ih, List.length_map, List.length_cons, Nat.succ_mul, Nat.add_comm]
theorem flat_perm {α β : Type} {f : α → List β} : ∀ {A B : List α}, A.Perm B → (A.flatMap f).Perm (B.flatMap f) := fun p => by
  induction p with
  | nil => exact .nil
  | cons x _ ih => rw [List.flatMap_cons, List.flatMap_cons]; exact ih.append_left _
  | swap x y l =>
    rw [List.flatMap_cons, List.flatMap_cons, List.flatMap_cons, List.flatMap_cons, ← List.append_assoc, ← List.append_assoc]
    exact List.Perm.append_right _ List.perm_append_comm
  | trans _ _ a b => exact a.trans b
theorem flat_perm2 {α β : Type} {f g : α → List β} : ∀ {A : List α}, (∀ a ∈ A, (f a).Perm (g a)) → (A.flatMap f).Perm (A.flatMap g)
  | [], _ => .nil
  | a :: r, h => by
    rw [List.flatMap_cons, List.flatMap_cons]
    exact (h a (List.mem_cons_self ..)).append (flat_perm2 fun b hb => h b (List.mem_cons_of_mem _ hb))
theorem sums_perm {A A' B B' : List Int} (p : A.Perm A') (q : B.Perm B') : (sums A B).Perm (sums A' B') :=
  (flat_perm p).trans (flat_perm2 fun a _ => q.map _)
/-- one entry of a tally against another tally -/
def sumR (x : Int × Nat) (t : List (Int × Nat)) : List Int := t.flatMap fun y => List.replicate (x.2 * y.2) (x.1 + y.1)
theorem flat_app {α β : Type} {f g : α → List β} : ∀ A : List α, (A.flatMap fun a => f a ++ g a).Perm (A.flatMap f ++ A.flatMap g)
  | [] => .nil
  | a :: r => by
    rw [List.flatMap_cons, List.flatMap_cons, List.flatMap_cons]
    refine ((flat_app r).append_left _).trans ?_
    rw [List.append_assoc, List.append_assoc]
    refine List.Perm.append_left _ ?_
    rw [← List.append_assoc, ← List.append_assoc]
    exact List.Perm.append_right _ List.perm_append_comm
theorem sumR_perm (k : Int) (t : List (Int × Nat)) : ∀ c : Nat, (sumR (k, c) t).Perm ((List.replicate c k).flatMap fun a => (t.flatMap repN).map fun b => a + b)
  | 0 => by
    have : sumR (k, 0) t = [] := by
      unfold sumR
      rw [List.flatMap_eq_nil_iff]
      intro y _
      rw [Nat.zero_mul]
      rfl
    rw [this]
    exact .nil
  | c + 1 => by
    rw [List.replicate_succ, List.flatMap_cons]
    have e : sumR (k, c + 1) t = t.flatMap fun y => List.replicate y.2 (k + y.1) ++ List.replicate (c * y.2) (k + y.1) := by
      unfold sumR
      rw [List.flatMap_def, List.flatMap_def]
      congr 1
      refine List.map_congr_left fun y _ => ?_
      show List.replicate ((c + 1) * y.2) _ = _
      rw [List.replicate_append_replicate, Nat.succ_mul, Nat.add_comm]
    have e2 : (t.flatMap repN).map (fun b => k + b) = t.flatMap fun y => List.replicate y.2 (k + y.1) := by
      rw [List.map_flatMap]
      rw [List.flatMap_def, List.flatMap_def]
      congr 1
      refine List.map_congr_left fun y _ => ?_
      unfold repN
      rw [List.map_replicate]
    rw [e, e2]
    exact (flat_app t).trans ((sumR_perm k t c).append_left _)
theorem sums_tally {t u : List (Int × Nat)} {A B : List Int} (ha : TyAt t A) (hb : TyAt u B) : (t.flatMap fun x => sumR x u).Perm (sums A B) := by
  refine List.Perm.trans ?_ (sums_perm ha.perm hb.perm)
  unfold sums
  rw [List.flatMap_assoc]
  exact flat_perm2 fun x _ => sumR_perm x.1 u x.2
end Pf


namespace Pf
open PySem PySem.Spec PyProof.Rows L2
theorem lk_at : ∀ {t : List (Int × Nat)} {i : Nat} {x : Int × Nat}, (t.map (·.1)).Nodup → t[i]? = some x → lkT t x.1 = x.2
  | [], i, x, _, h => by simp at h
  | y :: r, 0, x, _, h => by
    rw [List.getElem?_cons_zero] at h
    cases h
    rw [lkT, if_pos rfl]
  | y :: r, i + 1, x, hn, h => by
    rw [List.getElem?_cons_succ] at h
    rw [List.map_cons, List.nodup_cons] at hn
    rw [lkT, if_neg fun e => hn.1 (by rw [e]; exact List.mem_map.mpr ⟨x, List.mem_of_getElem? h, rfl⟩)]
    exact lk_at hn.2 h
theorem val_at {t : List (Int × Nat)} {M : List Int} (a : TyAt t M) {i : Nat} {x : Int × Nat} (h : t[i]? = some x) : valV (t.map encN) (.inl x.1) = some (.int (x.2 : Nat)) := by
  have := a.pos x (List.mem_of_getElem? h)
  rw [lk_val t x.1 a.pos, lk_at a.nd h, if_neg (by omega)]
theorem enc_at {t : List (Int × Nat)} {i : Nat} {k : Key} {v : V} (h : (t.map encN)[i]? = some (k, v)) : ∃ x, t[i]? = some x ∧ k = .inl x.1 := by
  rw [List.getElem?_map] at h
  cases e : t[i]? with
  | none => rw [e] at h; cases h
  | some x =>
    rw [e] at h
    cases h
    exact ⟨x, rfl, rfl⟩
theorem take_flat {α β : Type} {f : α → List β} {l : List α} {i : Nat} {x : α} (h : l[i]? = some x) : (l.take (i + 1)).flatMap f = (l.take i).flatMap f ++ f x := by
  rw [List.take_add_one, h, List.flatMap_append]
  simp
theorem cnt_le {t : List (Int × Nat)} {M : List Int} (a : TyAt t M) {i : Nat} {x : Int × Nat} (h : t[i]? = some x) : x.2 ≤ M.length := by
  rw [← lk_at a.nd h, a.cnt]
  exact List.count_le_length
/-- all stands but at a -/
def But (a : Addr) (H H' : Hp) : Prop := ∀ c o, c ≠ a → H c = some o → H' c = some o
theorem But.put {a q : Addr} {H H' : Hp} {o : HO} (k : But a H H') (h : H q = none) : But a H (upd H' q o) := fun c u n e => by
  rw [upd_ne (ne_of_none e h)]
  exact k c u n e
theorem But.back {a : Addr} {H H' : Hp} {o : HO} (k : But a H H') (h : H a = some o) : Ext H (upd H' a o) := fun c u e => by
  by_cases n : c = a
  · subst n
    rw [h] at e
    cases e
    exact upd_same
  · rw [upd_ne n]
    exact k c u n e
theorem But.lock {a : Addr} {H : Hp} {o : HO} : But a H (upd H a o) := fun c u n e => by
  rw [upd_ne n]
  exact e
section
variable {P : Program} {w : World} {K : PySem.W.Frag} {mg : Str → Option Value} {base : Heap}
end
end Pf


namespace Pf
open PySem PySem.Spec PyProof.Rows L2
/-! ### tallies of rows -/
def rk (y : Rw) : List Key := [.inr y.1, .inl y.2.1, .inl y.2.2]
theorem rk_kV (y : Rw) : (rk y).map kV = [.str y.1, .int y.2.1, .int y.2.2] := rfl
def TabE (H : Hp) (kvs : List (List Key × V)) (T : Rw → List Int) (y : Rw) : Prop := ∃ l ky, valV kvs (rk y) = some (.ref l) ∧ H l = some (.dK ky) ∧ TyIs ky (T y)
theorem TabE.ext {H H' : Hp} {kvs : List (List Key × V)} {T : Rw → List Int} {y : Rw} (k : Ext H H') (h : TabE H kvs T y) : TabE H' kvs T y := by
  obtain ⟨l, ky, e1, e2, e3⟩ := h
  exact ⟨l, ky, e1, k _ _ e2, e3⟩
def foldM (T : Rw → List Int) (w : Int) (rs : List Rw) : List Int := rs.foldl (fun acc r => sums acc (T r)) [w]
theorem foldM_snoc (T : Rw → List Int) (w : Int) (rs : List Rw) (r : Rw) : foldM T w (rs ++ [r]) = sums (foldM T w rs) (T r) := by
  unfold foldM
  rw [List.foldl_append]
  rfl
def wayM (T : Rw → List Int) (y : Wy) : List Int := foldM T y.1 y.2
/-- a way whose sums are few, its rows known -/
def WayOk (T : Rw → List Int) (y : Wy) : Prop := (∀ i, (foldM T y.1 (y.2.take i)).length < 1000000) ∧ ∀ r ∈ y.2, (T r).length ≤ 1000000
theorem TyIs.one (w : Int) : TyIs [(.inl w, .int 1)] [w] := TyIs.nil.put (z := w) (c := 1) (by decide)
section
variable {P : Program} {w : World} {K : PySem.W.Frag} {mg : Str → Option Value} {base : Heap}
end
end Pf


namespace Pf
open PySem PySem.Spec PyProof.Rows L2
/-! ### the rows in their turn -/
abbrev mkR (k : Str) (i j : Int) : Rw := (k, i, j)
def rowsJ (i : Int) (u : Nat) : List Rw := (if i < i + (u : Int) then [mkR "shut" i (i + (u : Int))] else []) ++ [mkR "one" i (i + (u : Int)), mkR "two" i (i + (u : Int))]
def rowsI (L : Nat) (i : Int) : List Rw := (List.range ((L : Int) - i).toNat).flatMap (rowsJ i) ++ [mkR "open" i ((L : Int) - 1)]
def rowsL (L : Nat) : List Rw := (List.range (L + 1)).flatMap fun t => rowsI L ((L : Int) + (t : Nat) * (-1))
theorem range_flat {β : Type} (f : Nat → List β) (t : Nat) : (List.range (t + 1)).flatMap f = (List.range t).flatMap f ++ f t := by
  rw [List.range_succ, List.flatMap_append]
  simp
theorem rowsJ_len (i : Int) (u : Nat) : (rowsJ i u).length ≤ 3 := by
  unfold rowsJ
  split
  · exact Nat.le_refl 3
  · exact (show 2 ≤ 3 by decide)
theorem flat_le {β : Type} {f : Nat → List β} {c : Nat} (h : ∀ t, (f t).length ≤ c) : ∀ n, ((List.range n).flatMap f).length ≤ c * n
  | 0 => Nat.le_refl _
  | n + 1 => by
    have h1 := flat_le h n
    have h2 := h n
    rw [range_flat, List.length_append, Nat.mul_succ]
    omega
theorem rowsI_len {L : Nat} {i : Int} (h : L ≤ 100) (h0 : 0 ≤ i) : (rowsI L i).length ≤ 301 := by
  unfold rowsI
  have := flat_le (fun t => rowsJ_len i t) ((L : Int) - i).toNat
  rw [List.length_append, List.length_singleton]
  omega
section
variable {P : Program} {w : World} {K : PySem.W.Frag} {mg : Str → Option Value} {base : Heap}
abbrev s_rows_in_turn : Stmt := topS 23
theorem sc_rows_in_turn : FnScope ["length", "rows", "i", "j"] ["length"] (defScope s_rows_in_turn) :=
  ⟨rfl, rfl, rfl, by decide +kernel, rfl, by decide +kernel, by decide +kernel⟩
def spRows : Sp := fun vs H Q _ => ∃ L : Nat, vs = [.int (L : Nat)] ∧ L ≤ 100 ∧ ∀ (l : Addr) (us : List V) (H' : Hp), H l = none → H' l = some (.lst us) → Paired (RwAt H') us (rowsL L) → Ext H H' → Q (.ref l) H'
theorem ok_rows {f : Addr} {fd : FuncData} {k : Nat} (F : Fun K "rows_in_turn" "rows_in_turn" s_rows_in_turn f fd) (mrange : mg "range" = none) : FnOk P w K mg base CX0 (k + 1) f fd ["length"] spRows := by
  refine F.ok sc_rows_in_turn (fun vs H Q E h => ?_) (fun cdv A outer s H vs Q E hr h => ?_)
  · obtain ⟨L, rfl, _⟩ := h
    rfl
  · obtain ⟨L, rfl, hL, q⟩ := h
    refine ⟨_, (pss_cons (ps_set (i := 1) sc_rows_in_turn.nd rfl (.inl rfl) (pe_lst pa_nil))
      (pss_cons (ps_for PassesOwn.never rfl (pi_range3 (by rfl) mrange (pa_cons (pv 0) (pa_cons (pe_un un_neg pe_int) (pa_cons (pe_un un_neg pe_int) pa_nil)))) (pg_name (i := 2) sc_rows_in_turn.nd rfl (.inl rfl)) (pss_cons (ps_for PassesOwn.never rfl (pi_range2 (by rfl) mrange (pa_cons (pv 2) (pa_cons (pv 0) pa_nil))) (pg_name (i := 3) sc_rows_in_turn.nd rfl (.inl rfl)) (pss_cons (ps_if (pt_cmpR op_lt (pv 2) (pv 3) (nomark _)) (pss_one (ps_expr (pe_bm PySem.F.plainAttrs_list PySem.F.slot_list_append PySem.F.type_list_append mt_append (pv 1) (pa_cons (pe_tup (pa_cons pe_str (pa_cons (pv 2) (pa_cons (pv 3) pa_nil)))) pa_nil)))) pss_nil)
      (pss_cons (ps_expr (pe_bm PySem.F.plainAttrs_list PySem.F.slot_list_append PySem.F.type_list_append mt_append (pv 1) (pa_cons (pe_tup (pa_cons pe_str (pa_cons (pv 2) (pa_cons (pv 3) pa_nil)))) pa_nil)))
      (pss_one (ps_expr (pe_bm PySem.F.plainAttrs_list PySem.F.slot_list_append PySem.F.type_list_append mt_append (pv 1) (pa_cons (pe_tup (pa_cons pe_str (pa_cons (pv 2) (pa_cons (pv 3) pa_nil)))) pa_nil)))))))
      (pss_one (ps_expr (pe_bm PySem.F.plainAttrs_list PySem.F.slot_list_append PySem.F.type_list_append mt_append (pv 1) (pa_cons (pe_tup (pa_cons pe_str (pa_cons (pv 2) (pa_cons (pe_op op_sub (pv 0) pe_int) pa_nil)))) pa_nil))))))
      (pss_one (ps_ret (pv 1))))), ?_⟩
    refine ⟨Nat.zero_le _, fun l hl => ?_⟩
    refine ⟨_, rfl, 1, rfl, 1, rfl, (L : Int), -1, -1, _, rfl, RgC.neg (by omega) (by omega) (by decide) (by decide), for_rangeC (lo := (L : Int)) (c := -1) (n := ((L : Int) - -1).toNat) (fun t σ H3 => ∃ (y2 y3 : Option V), σ = [some (.int L), some (.ref l), y2, y3] ∧ GenL RwAt l H ((List.range t).flatMap fun t => rowsI L ((L : Int) + (t : Nat) * (-1))) H3 ∧ ((List.range t).flatMap fun t => rowsI L ((L : Int) + (t : Nat) * (-1))).length ≤ 301 * t)
      ⟨none, none, rfl, genl_new hl, Nat.le_refl _⟩ (fun t σ H3 ht hv => ?_) (fun σ H3 hv => ?_)⟩
    · obtain ⟨y2, y3, rfl, hg, hb⟩ := hv
      obtain ⟨i, hi⟩ : ∃ i : Int, i = (L : Int) + (t : Nat) * (-1) := ⟨_, rfl⟩
      have hri := rowsI_len (L := L) (i := i) hL (by omega)
      rw [range_flat, ← hi]
      generalize (List.range t).flatMap (fun t => rowsI L ((L : Int) + (t : Nat) * (-1))) = pre at hg hb ⊢
      refine ⟨_, rfl, _, rfl, i, (L : Int), rfl, ⟨by omega, by omega, by omega, by omega⟩, for_range (lo := i) (n := ((L : Int) - i).toNat) (fun u σ H4 => ∃ y3 : Option V, σ = [some (.int L), some (.ref l), some (.int i), y3] ∧ GenL RwAt l H (pre ++ (List.range u).flatMap (rowsJ i)) H4)
        ⟨_, rfl, by rw [List.range_zero, List.flatMap_nil, List.append_nil]; exact hg⟩ (fun u σ H4 hu hv => ?_) (fun σ H4 hv => ?_)⟩
      · obtain ⟨z3, rfl, hg⟩ := hv
        have hfl := flat_le (fun t => rowsJ_len i t) u
        rw [range_flat]
        have two : ∀ {H5 : Hp} {pr : List Rw} (hg5 : GenL RwAt l H pr H5) (hpr : pr.length < 900000) (kd : Str) (t5 : Addr) (ht5 : H5 t5 = none) {Q5 : VK}, (∀ H6, GenL RwAt l H (pr ++ [mkR kd i (i + (u : Int))]) H6 → Q5 .non H6) → rAppend (.ref l) [.ref t5] (upd H5 t5 (.tup [.str kd, .int i, .int (i + (u : Int))])) Q5 := fun {H5 pr} hg5 hpr kd t5 ht5 {Q5} q5 =>
          app_ok RwAt.mono hl hg5 (Ext.new ht5) (b := mkR kd i (i + (u : Int))) ⟨t5, rfl, upd_same⟩ (by omega) q5
        refine ⟨_, rfl, _, rfl, _, _, rfl, rfl, _, rfl, ite2 (fun e => ?_) (fun e => ?_)⟩
        · have e : i < i + (u : Int) := of_decide_eq_true e
          have ej : rowsJ i u = [mkR "shut" i (i + (u : Int))] ++ [mkR "one" i (i + (u : Int)), mkR "two" i (i + (u : Int))] := by
            unfold rowsJ
            rw [if_pos e]
          obtain ⟨us5, hs5⟩ := hg.sq (K := K)
          refine ⟨_, rfl, .inl ⟨rfl, _, hs5⟩, _, rfl, _, rfl, szL (show 3 ≤ 1000000 by decide), fun t5 ht5 => ?_⟩
          try delta tNil
          refine two hg (by rw [List.length_append]; omega) "shut" t5 ht5 fun H6 hg6 => ?_
          obtain ⟨us6, hs6⟩ := hg6.sq (K := K)
          refine ⟨_, rfl, .inl ⟨rfl, _, hs6⟩, _, rfl, _, rfl, szL (show 3 ≤ 1000000 by decide), fun t6 ht6 => ?_⟩
          try delta tNil
          refine two hg6 (by rw [List.length_append, List.length_append, List.length_singleton]; omega) "one" t6 ht6 fun H7 hg7 => ?_
          obtain ⟨us7, hs7⟩ := hg7.sq (K := K)
          refine ⟨_, rfl, .inl ⟨rfl, _, hs7⟩, _, rfl, _, rfl, szL (show 3 ≤ 1000000 by decide), fun t7 ht7 => ?_⟩
          try delta tNil
          refine two hg7 (by rw [List.length_append, List.length_append, List.length_append, List.length_singleton, List.length_singleton]; omega) "two" t7 ht7 fun H8 hg8 => ⟨_, rfl, ?_⟩
          rw [ej]
          simp only [List.append_assoc] at hg8 ⊢
          exact hg8
        · have e : ¬ i < i + (u : Int) := fun z => e (decide_eq_true z)
          have ej : rowsJ i u = [mkR "one" i (i + (u : Int)), mkR "two" i (i + (u : Int))] := by
            unfold rowsJ
            rw [if_neg e]
            rfl
          obtain ⟨us6, hs6⟩ := hg.sq (K := K)
          refine ⟨_, rfl, .inl ⟨rfl, _, hs6⟩, _, rfl, _, rfl, szL (show 3 ≤ 1000000 by decide), fun t6 ht6 => ?_⟩
          try delta tNil
          refine two hg (by rw [List.length_append]; omega) "one" t6 ht6 fun H7 hg7 => ?_
          obtain ⟨us7, hs7⟩ := hg7.sq (K := K)
          refine ⟨_, rfl, .inl ⟨rfl, _, hs7⟩, _, rfl, _, rfl, szL (show 3 ≤ 1000000 by decide), fun t7 ht7 => ?_⟩
          try delta tNil
          refine two hg7 (by rw [List.length_append, List.length_append, List.length_singleton]; omega) "two" t7 ht7 fun H8 hg8 => ⟨_, rfl, ?_⟩
          rw [ej]
          simp only [List.append_assoc] at hg8 ⊢
          exact hg8
      · obtain ⟨z3, rfl, hg⟩ := hv
        have hfl := flat_le (fun t => rowsJ_len i t) ((L : Int) - i).toNat
        obtain ⟨us5, hs5⟩ := hg.sq (K := K)
        refine ⟨_, rfl, .inl ⟨rfl, _, hs5⟩, _, rfl, _, rfl, (L : Int), 1, rfl, rfl, szL (show 3 ≤ 1000000 by decide), fun t5 ht5 => ?_⟩
        try delta tNil
        refine app_ok RwAt.mono hl hg (Ext.new (o := .tup [.str "open", .int i, .int ((L : Int) - 1)]) ht5) (b := mkR "open" i ((L : Int) - 1)) ⟨t5, rfl, upd_same⟩ (by rw [List.length_append]; omega) fun H6 hg6 => ⟨_, _, rfl, ?_, ?_⟩
        · unfold rowsI
          rw [← List.append_assoc]
          exact hg6
        · rw [List.length_append]
          omega
    · obtain ⟨y2, y3, rfl, ⟨us, h1, h2, h3⟩, _⟩ := hv
      rw [show ((L : Int) - -1).toNat = L + 1 by omega] at h2
      exact ⟨_, rfl, q l us H3 hl h1 h2 h3⟩
abbrev CRows (P : Program) (w : World) (K : PySem.W.Frag) (mg : Str → Option Value) (base : Heap) : Prop := Ca P w K mg base 1 "rows_in_turn" ["length"] spRows
abbrev s_whole_row : Stmt := topS 24
theorem sc_whole_row : FnScope ["string"] ["string"] (defScope s_whole_row) :=
  ⟨rfl, rfl, rfl, by decide +kernel, rfl, by decide +kernel, by decide +kernel⟩
def spWhole : Sp := fun vs H Q _ => ∃ x : Str, vs = [.str x] ∧ x.length ≤ 100 ∧ ∀ t, H t = none → Q (.ref t) (upd H t (.tup [.str "open", .int 0, .int ((x.length : Int) - 1)]))
theorem ok_whole {f : Addr} {fd : FuncData} {k : Nat} (F : Fun K "whole_row" "whole_row" s_whole_row f fd) (mlen : mg "len" = none) : FnOk P w K mg base CX0 (k + 1) f fd ["string"] spWhole := by
  refine F.ok sc_whole_row (fun vs H Q E h => ?_) (fun cdv A outer s H vs Q E hr h => ?_)
  · obtain ⟨x, rfl, _⟩ := h
    rfl
  · obtain ⟨x, rfl, hx, q⟩ := h
    refine ⟨_, (pss_one (ps_ret (pe_tup (pa_cons pe_str (pa_cons pe_int (pa_cons (pe_op op_sub (pe_callB call_len_str (by rfl) mlen (by decide +kernel) (pa_cons (pv 0) pa_nil)) pe_int) pa_nil)))))), ?_⟩
    exact ⟨_, rfl, x, rfl, szL (by omega), (x.length : Int), 1, rfl, rfl, szL (show 3 ≤ 1000000 by decide), fun t ht => q t ht⟩
abbrev CWhole (P : Program) (w : World) (K : PySem.W.Frag) (mg : Str → Option Value) (base : Heap) : Prop := Ca P w K mg base 1 "whole_row" ["string"] spWhole
end
end Pf


namespace Pf
open PySem PySem.Spec PyProof.Rows L2
/-! ### the sum of a dict's values -/
theorem preSum_is (is : List Int) : ∀ n, n ≤ is.length → preSum (fun i => is.getD i 0) n = (is.take n).sum
  | 0, _ => by rw [List.take_zero]; rfl
  | n + 1, h => by
    have ih := preSum_is is n (by omega)
    have e : is[n]? = some (is.getD n 0) := by
      rw [List.getD_eq_getElem?_getD, List.getElem?_eq_getElem (by omega)]
      rfl
    rw [List.take_add_one, e, List.sum_append, ← ih]
    simp [preSum]
def tSumV (td : TE) : TE := fun σ H Q => td σ H fun x H1 => ∃ (a : Addr) (kvs : List (Key × V)) (is : List Int), x = V.ref a ∧ H1 a = some (.dK kvs) ∧ kvs.map (·.2) = is.map V.int ∧ Q (.int is.sum) H1
theorem pe_sumV {X : Cx} {o : Expr} {p pos apos mpos : Pos} {td : TE} (calm : X.calm = true) (gl : Gl X "sum") (free : X.mg "sum" = none) (ho : PE X o td) (b0 : attributeBase o "values" X.env (eval o X.env) = eval o X.env := by rfl) (l0 : (apos.endLine == mpos.line) = true := by rfl)
    (st : starEach [Expr.Call (.Attribute o "values" apos) [] [] mpos] X.env = [(false, eval (Expr.Call (.Attribute o "values" apos) [] [] mpos) X.env)] := by rfl) : PE X (.Call (.Name "sum" p) [.Call (.Attribute o "values" apos) [] [] mpos] [] pos) (tSumV td) := by
  refine ⟨fun pins s σ H Q I h => wpAny_Call_Name_kw (ld_blt I gl free (u := .builtin "sum") (by decide +kernel) ?_ (by decide) (by decide))⟩
  rw [st]
  refine PySem.callWith_builtin1 (wpAny_Call_method0_late b0 l0 (thn (ho.run pins s σ H _ I h) fun v s1 ⟨x, H1, I1, r1, a, kvs, is, ex, ha, hv, q⟩ => ?_))
  subst ex
  obtain rfl : v = Value.ref a := r1
  obtain ⟨_, nsys, vs, rel, dof⟩ := dk_of I1.hok ha
  obtain ⟨ep, dat⟩ := dof.dictAt
  obtain ⟨ob, es, hob, ex, _⟩ := id dat
  have low : a < s1.heap.objs.size := Heap.lt_size hob
  refine ⟨"dict", "dict.values", F.plainAttrs_dict, F.slot_dict_values, F.type_dict_values, ⟨ob, hob, ex.1⟩, fun b e => by cases e; exact ⟨ob, hob, ex.2.1⟩, Calls.callWith_builtin rfl (PySem.evalArgs_none ?_)⟩
  refine call_meetsIn F.slot_dict_values ⟨ob, hob, ex.1⟩ F.entry_dict_values (F.args_dict_values_1 _) (meets_dict_values (mixKind X.prog X.w) a nsys) ⟨⟨vs, dof⟩, ?_⟩
  have len : vs.length = is.length := by
    have e1 := congrArg List.length hv
    rw [List.length_map, List.length_map] at e1
    exact (KV.length rel).symm.trans e1
  have each : ∀ (i : Nat) (v : Value), (∃ k, vs[i]? = some (k, v)) → ∃ t, v = Value.int (is.getD i 0) t := fun i v ⟨k, hk⟩ => by
    obtain ⟨y, h1, h2⟩ := KV.at' rel hk
    have e1 : (kvs.map (·.2))[i]? = some y := by
      rw [List.getElem?_map, h1]
      rfl
    rw [hv, List.getElem?_map] at e1
    obtain ⟨j, hj, rfl⟩ := Option.map_eq_some_iff.mp e1
    obtain ⟨t, h3⟩ := h2
    refine ⟨t, ?_⟩
    rw [h3, List.getD_eq_getElem?_getD, hj]
    rfl
  have stay : ∀ b u, s1.heap.get? b = some u → (s1.heap.push { cls := .type "dict_values", data := .fields #[.ref a] }).get? b = some u := fun b u e => Heap.get?_push_of_some _ e
  have dat1 : (s1.heap.push { cls := .type "dict_values", data := .fields #[.ref a] }).DictAt (mixKind X.prog X.w) a vs ep := dat.keep stay
  have grown : (s1.heap.push { cls := .type "dict_values", data := .fields #[.ref a] }).objs.size = s1.heap.objs.size + 1 := Heap.size_push _ _
  refine call_sum_walkG (wpAny_pyIter_values (v := s1.heap.objs.size) (d := a) ⟨_, Heap.get?_push_size _ rfl, rfl, rfl⟩ dat1 ?_)
  refine ⟨_, _, _, _, _, _, fun i => is.getD i 0, rfl, Walks.dictValues (knd := mixKind X.prog X.w) (A := X.A.in1) (I.ok.hd calm) (s1.heap.push { cls := .type "dict_values", data := .fields #[.ref a] }).objs.size a (by rw [grown]; exact Nat.ne_of_lt (Nat.lt_succ_of_lt low)) vs ep,
    ⟨⟨_, Heap.get?_push_size _ rfl, rfl, rfl⟩, dat1.keep fun b u e => Heap.get?_push_of_some _ e⟩, fun b hb => ?_, each, fun h' tk t' hk => ?_⟩
  · show b < ((s1.heap.push _).push _).objs.size
    rw [Heap.size_push, Heap.size_push]
    rw [grown] at hb
    simp only [List.mem_cons, List.not_mem_nil, or_false] at hb
    rcases hb with rfl | rfl
    · exact Nat.lt_succ_self _
    · exact Nat.lt_succ_of_lt (Nat.lt_succ_of_lt low)
  · have e0 := preSum_is is vs.length (by omega)
    rw [len, List.take_length] at e0
    refine ⟨.int is.sum, H1, I1.kept (t' := tk) fun b u e => hk b u (fun hmem => ?_) (Heap.get?_push_of_some _ (stay b u e)), ⟨t', ?_⟩, q⟩
    · have e1 := List.mem_singleton.mp hmem
      have e2 := Heap.lt_size e
      rw [grown] at e1
      rw [e1] at e2
      exact absurd e2 (Nat.not_lt.mpr (Nat.le_succ _))
    · rw [len, e0]
end Pf


namespace Pf
open PySem PySem.Spec PyProof.Rows L2
/-! ### the table of tallies -/
def stepT (r : Rl) (x : Str) (T : Rw → List Int) (y : Rw) : Rw → List Int := fun z => if z = y then (waysOf r x y).flatMap (wayM T) else T z
def tabT (r : Rl) (x : Str) (rows : List Rw) : Rw → List Int := rows.foldl (stepT r x) fun _ => []
theorem tabT_snoc (r : Rl) (x : Str) (rows : List Rw) (y : Rw) : tabT r x (rows ++ [y]) = stepT r x (tabT r x rows) y := by
  unfold tabT
  rw [List.foldl_append]
  rfl
/-- each row's ways lead to rows before it, and their sums are few -/
def Good (r : Rl) (x : Str) (rows : List Rw) : Prop := ∀ k y, rows[k]? = some y → RwOk x.length y ∧ (∀ wy ∈ waysOf r x y, (∀ z ∈ wy.2, z ∈ rows.take k) ∧ WayOk (tabT r x (rows.take k)) wy) ∧ ((waysOf r x y).flatMap (wayM (tabT r x (rows.take k)))).length < 1000000
theorem rk_inj {y z : Rw} (h : rk y = rk z) : y = z := by
  unfold rk at h
  have h1 := List.cons.inj h
  have h2 := List.cons.inj h1.2
  have h3 := List.cons.inj h2.2
  exact Prod.ext (Sum.inr.inj h1.1) (Prod.ext (Sum.inl.inj h2.1) (Sum.inl.inj h3.1))
theorem rows_len {L : Nat} (h : L ≤ 100) : (rowsL L).length ≤ 301 * (L + 1) := by
  unfold rowsL
  have : ∀ n, n ≤ L + 1 → ((List.range n).flatMap fun t => rowsI L ((L : Int) + (t : Nat) * (-1))).length ≤ 301 * n := by
    intro n
    induction n with
    | zero => intro _; exact Nat.le_refl _
    | succ n ih =>
      intro hn
      have h1 := ih (by omega)
      have h2 := rowsI_len (L := L) (i := (L : Int) + (n : Nat) * (-1)) h (by omega)
      rw [range_flat, List.length_append]
      omega
  exact this (L + 1) (Nat.le_refl _)
section
variable {P : Program} {w : World} {K : PySem.W.Frag} {mg : Str → Option Value} {base : Heap}
end
end Pf


namespace Pf
open PySem PySem.Spec PyProof.Rows L2
abbrev Fo : Type := List (Int × Int)
/-! ### all foldings of a stretch, one behind another -/
def seg (r : Rl) (x : Str) (W : Nat → Int → List Fo) (n : Nat) (a : Int) (t : Nat) : List Fo :=
  if mayC r x a (a + 1 + t) = true then (W t (a + 1)).flatMap fun one => (W (n - 1 - t) (a + 2 + t)).map fun other => (a, a + 1 + t) :: (one ++ other) else []
def ws (r : Rl) (x : Str) : Nat → Nat → Int → List Fo
  | 0, _, _ => [[]]
  | _ + 1, 0, _ => [[]]
  | f + 1, n + 1, a => ws r x f n (a + 1) ++ (List.range n).flatMap fun t => seg r x (ws r x f) n a t
theorem seg_congr {r : Rl} {x : Str} {W W' : Nat → Int → List Fo} {n : Nat} {a : Int} {t : Nat} (ht : t < n) (h : ∀ m b, m < n → W m b = W' m b) : seg r x W n a t = seg r x W' n a t := by
  unfold seg
  rw [h t _ ht, h (n - 1 - t) _ (by omega)]
theorem flat_congr {α β : Type} {f g : α → List β} {l : List α} (h : ∀ y ∈ l, f y = g y) : l.flatMap f = l.flatMap g := by
  rw [List.flatMap_def, List.flatMap_def, List.map_congr_left h]
theorem ws_fuel (r : Rl) (x : Str) : ∀ (n f g : Nat) (a : Int), n ≤ f → n ≤ g → ws r x f n a = ws r x g n a := by
  intro n
  induction n using Nat.strongRecOn with
  | ind n ih =>
    intro f g a hf hg
    match n, f, g, hf, hg, ih with
    | 0, 0, 0, _, _, _ => rfl
    | 0, 0, g + 1, _, _, _ => rfl
    | 0, f + 1, 0, _, _, _ => rfl
    | 0, f + 1, g + 1, _, _, _ => rfl
    | n + 1, f + 1, g + 1, hf, hg, ih =>
      rw [ws, ws, ih n (by omega) f g (a + 1) (by omega) (by omega)]
      congr 1
      refine flat_congr fun t ht => ?_
      have ht := List.mem_range.mp ht
      exact seg_congr ht fun m b hm => ih m (by omega) f g b (by omega) (by omega)
def WA (r : Rl) (x : Str) (n : Nat) (a : Int) : List Fo := ws r x n n a
theorem WA_zero (r : Rl) (x : Str) (a : Int) : WA r x 0 a = [[]] := rfl
theorem WA_succ (r : Rl) (x : Str) (n : Nat) (a : Int) : WA r x (n + 1) a = WA r x n (a + 1) ++ (List.range n).flatMap fun t => seg r x (WA r x) n a t := by
  unfold WA
  rw [ws]
  congr 1
  refine flat_congr fun t ht => ?_
  have ht := List.mem_range.mp ht
  exact seg_congr ht fun m b hm => ws_fuel r x m n m b (by omega) (Nat.le_refl _)
theorem WA_one (r : Rl) (x : Str) (a : Int) : WA r x 1 a = [[]] := by
  rw [WA_succ, WA_zero]
  rfl
theorem WA_head (r : Rl) (x : Str) : ∀ (n : Nat) (a : Int), ∃ t, WA r x n a = [] :: t
  | 0, _ => ⟨[], rfl⟩
  | n + 1, a => by
    obtain ⟨t, e⟩ := WA_head r x n (a + 1)
    rw [WA_succ, e]
    exact ⟨_, rfl⟩
/-! ### how many, how long -/
def mz : Nat → Nat → Nat
  | 0, _ => 1
  | _ + 1, 0 => 1
  | f + 1, n + 1 => mz f n + ((List.range n).map fun t => mz f t * mz f (n - 1 - t)).sum
theorem sum_le {f g : Nat → Nat} : ∀ {l : List Nat}, (∀ t ∈ l, f t ≤ g t) → (l.map f).sum ≤ (l.map g).sum
  | [], _ => Nat.le_refl _
  | t :: r, h => by
    have h1 := h t (List.mem_cons_self ..)
    have h2 := sum_le (l := r) fun y hy => h y (List.mem_cons_of_mem _ hy)
    rw [List.map_cons, List.sum_cons, List.map_cons, List.sum_cons]
    omega
theorem flat_len {α β : Type} (f : α → List β) : ∀ l : List α, (l.flatMap f).length = (l.map fun y => (f y).length).sum
  | [] => rfl
  | y :: r => by
    rw [List.flatMap_cons, List.length_append, flat_len f r, List.map_cons, List.sum_cons]
theorem flat_const {α β : Type} {f : α → List β} {c : Nat} : ∀ {l : List α}, (∀ y ∈ l, (f y).length = c) → (l.flatMap f).length = l.length * c
  | [], _ => by rw [List.length_nil, Nat.zero_mul]; rfl
  | y :: r, h => by
    rw [List.flatMap_cons, List.length_append, h y (List.mem_cons_self ..), flat_const fun z hz => h z (List.mem_cons_of_mem _ hz), List.length_cons, Nat.succ_mul]
    omega
theorem seg_len {r : Rl} {x : Str} {W : Nat → Int → List Fo} {n : Nat} {a : Int} {t : Nat} : (seg r x W n a t).length ≤ (W t (a + 1)).length * (W (n - 1 - t) (a + 2 + t)).length := by
  unfold seg
  split
  · rw [flat_const (c := (W (n - 1 - t) (a + 2 + t)).length) fun y _ => List.length_map ..]
    exact Nat.le_refl _
  · exact Nat.zero_le _
theorem ws_len (r : Rl) (x : Str) : ∀ (f n : Nat) (a : Int), (ws r x f n a).length ≤ mz f n
  | 0, _, _ => Nat.le_refl _
  | _ + 1, 0, _ => Nat.le_refl _
  | f + 1, n + 1, a => by
    rw [ws, mz, List.length_append, flat_len]
    refine Nat.add_le_add (ws_len r x f n (a + 1)) (sum_le fun t _ => ?_)
    exact Nat.le_trans seg_len (Nat.mul_le_mul (ws_len r x f t _) (ws_len r x f _ _))
theorem WA_len (r : Rl) (x : Str) {n : Nat} (hn : n ≤ 12) (a : Int) : (WA r x n a).length ≤ 15511 := by
  have h1 := ws_len r x n n a
  have h2 : ∀ m : Nat, m < 13 → mz m m ≤ 15511 := by decide +kernel
  exact Nat.le_trans h1 (h2 n (by omega))
theorem WA_len10 (r : Rl) (x : Str) {n : Nat} (hn : n ≤ 10) (a : Int) : (WA r x n a).length ≤ 2188 := by
  have h1 := ws_len r x n n a
  have h2 : ∀ m : Nat, m < 11 → mz m m ≤ 2188 := by decide +kernel
  exact Nat.le_trans h1 (h2 n (by omega))
/-- each folding of a stretch: places within it, at most half as many pairs -/
theorem WA_in (r : Rl) (x : Str) : ∀ (n : Nat) (a : Int), ∀ q ∈ WA r x n a, (∀ y ∈ q, a ≤ y.1 ∧ y.1 < y.2 ∧ y.2 < a + n) ∧ 2 * q.length ≤ n := by
  intro n
  induction n using Nat.strongRecOn with
  | ind n ih =>
    intro a q hq
    match n, ih, hq with
    | 0, _, hq =>
      rw [WA_zero, List.mem_singleton] at hq
      subst hq
      exact ⟨(fun y hy => by cases hy), Nat.zero_le _⟩
    | n + 1, ih, hq =>
      rw [WA_succ] at hq
      rcases List.mem_append.mp hq with hq | hq
      · have := ih n (by omega) (a + 1) q hq
        exact ⟨fun y hy => by have := this.1 y hy; omega, by omega⟩
      · obtain ⟨t, ht, hq⟩ := List.mem_flatMap.mp hq
        have ht := List.mem_range.mp ht
        unfold seg at hq
        split at hq
        · obtain ⟨one, h1, hq⟩ := List.mem_flatMap.mp hq
          obtain ⟨other, h2, rfl⟩ := List.mem_map.mp hq
          have i1 := ih t (by omega) (a + 1) one h1
          have i2 := ih (n - 1 - t) (by omega) (a + 2 + t) other h2
          refine ⟨fun y hy => ?_, ?_⟩
          · rcases List.mem_cons.mp hy with rfl | hy
            · show a ≤ a ∧ a < a + 1 + t ∧ a + 1 + t < a + (n + 1 : Nat)
              omega
            · rcases List.mem_append.mp hy with hy | hy
              · have := i1.1 y hy
                omega
              · have := i2.1 y hy
                omega
          · rw [List.length_cons, List.length_append]
            omega
        · cases hq
/-! ### foldings in the heap, in a list -/
abbrev FoAt : Hp → V → Fo → Prop := TupOf TwoAt
theorem FoAt.mono : Mono FoAt := TupOf.mono TwoAt.mono
theorem paired_get2 {α β : Type} {R : α → β → Prop} {xs : List α} {ys : List β} {i : Nat} {x : α} (h : Paired R xs ys) (e : xs[i]? = some x) : ∃ y, ys[i]? = some y ∧ R x y := paired_get h e
section
variable {β : Type} {R : Hp → V → β → Prop} {D : Addr} {H H1 H4 : Hp} {bs : List β} {i n : Nat} {v : V} {b : β}
def GenP (R : Hp → V → β → Prop) (D : Addr) (H1 : Hp) (bs : List β) (i : Nat) (H : Hp) : Prop := ∃ vs, H D = some (.lst vs) ∧ Paired (R H) vs (bs.take i) ∧ Ext H1 H
theorem gen_new (hD : H1 D = none) : GenP R D H1 bs 0 (upd H1 D (.lst [])) := ⟨[], upd_same, by rw [List.take_zero]; exact .nil, Ext.new hD⟩
theorem GenP.ext (h : GenP R D H1 bs i H) : Ext H1 H := by
  obtain ⟨_, _, _, k⟩ := h
  exact k
theorem gen_step (m : Mono R) (hD : H1 D = none) (h : GenP R D H1 bs i H) (k : Ext H H4) (hv : R H4 v b) (hb : bs[i]? = some b) (hn : bs.length ≤ 1000000) : ∃ acc, H4 D = some (.lst acc) ∧ acc.length < sizeLine ∧ GenP R D H1 bs (i + 1) (upd H4 D (.lst (acc ++ [v]))) := by
  obtain ⟨vs, hL, hP, k1⟩ := h
  have hl := paired_len hP
  rw [List.length_take] at hl
  have hi := (List.getElem?_eq_some_iff.mp hb).1
  have hL4 := k _ _ hL
  refine ⟨vs, hL4, szLt (by omega), vs ++ [v], upd_same, ?_, (k1.trans k).put hD⟩
  rw [List.take_add_one, hb]
  exact paired_app (paired_imp (fun _ _ => m _ _ _ _ ((TupK.ext k).trans (TupK.lst hL4))) hP) (.cons (m _ _ _ _ (TupK.lst hL4) hv) .nil)
theorem gen_end (h : GenP R D H1 bs n H) (hn : bs.length ≤ n) : ∃ vs, H D = some (.lst vs) ∧ Paired (R H) vs bs ∧ Ext H1 H := by
  obtain ⟨vs, hL, hP, k⟩ := h
  rw [List.take_of_length_le hn] at hP
  exact ⟨vs, hL, hP, k⟩
end
section
variable {P : Program} {w : World} {K : PySem.W.Frag} {mg : Str → Option Value} {base : Heap}
/-! ### sorted -/
def dTwo (x : Int × Int) : PyData := .tuple [.int x.1, .int x.2]
def dFo (q : Fo) : PyData := .tuple (q.map dTwo)
theorem dpTwos {K : PySem.W.Frag} {H : Hp} : ∀ {vs : List V} {ps : List (Int × Int)}, Paired (TwoAt H) vs ps → DpAll K H vs (ps.map dTwo)
  | _, _, .nil => .nil
  | _, _, .cons ⟨_, e, h⟩ t => .cons (e ▸ .tup (SqT.of h) (.cons (.int _) (.cons (.int _) .nil))) (dpTwos t)
theorem dp_fo {K : PySem.W.Frag} {H : Hp} {v : V} {q : Fo} (h : FoAt H v q) : Dp K H v (dFo q) := by
  obtain ⟨a, vs, rfl, h1, h2⟩ := h
  exact .tup (SqT.of h1) (dpTwos h2)
theorem dpFos {K : PySem.W.Frag} {H : Hp} : ∀ {vs : List V} {L : List Fo}, Paired (FoAt H) vs L → DpAll K H vs (L.map dFo)
  | _, _, .nil => .nil
  | _, _, .cons h t => .cons (dp_fo h) (dpFos t)
theorem dep_twos : ∀ q : List (Int × Int), PyData.depthAll (q.map dTwo) ≤ 1
  | [] => by simp [PyData.depthAll]
  | y :: r => by
    rw [List.map_cons, PyData.depthAll]
    have := dep_twos r
    have h1 : (dTwo y).depth = 1 := by simp [dTwo, PyData.depth, PyData.depthAll]
    rw [h1]
    omega
theorem dep_fo (q : Fo) : (dFo q).depth ≤ 2 := by
  unfold dFo
  rw [PyData.depth]
  have := dep_twos q
  omega
theorem alike_twos : ∀ q s : List (Int × Int), PySem.W.alikeAll (q.map dTwo) (s.map dTwo) = true
  | [], _ => by simp [PySem.W.alikeAll]
  | _ :: _, [] => by simp [PySem.W.alikeAll]
  | y :: q, z :: s => by
    rw [List.map_cons, List.map_cons, PySem.W.alikeAll, alike_twos q s]
    simp [dTwo, PySem.W.alike, PySem.W.alikeAll]
def SF (L : List Fo) : List Fo := L.mergeSort (PySem.W.dataLe false dFo)
theorem sort_fos {K : PySem.W.Frag} {H : Hp} {l : Addr} {us : List V} {L : List Fo} {t : List Fo} {Q : VK} (hL : H l = some (.lst us)) (hP : Paired (FoAt H) us L) (h0 : L = [] :: t) (q : ∀ (p : Addr) (ws : List V) (H' : Hp), H p = none → H' p = some (.lst ws) → Paired (FoAt H') ws (SF L) → Ext H H' → Q (.ref p) H') : rSortE K [.ref l] H Q := by
  have hz := paired_len hP
  have e1 : (us.zip L).map (·.1) = us := List.map_fst_zip (by omega)
  have e2 : (us.zip L).map (·.2) = L := List.map_snd_zip (by omega)
  have hall : ∀ b ∈ us.zip L, FoAt H b.1 b.2 := by
    clear e1 e2 hz h0 q hL
    induction hP with
    | nil => intro b hb; cases hb
    | cons r _ ih =>
      intro b hb
      rw [List.zip_cons_cons] at hb
      rcases List.mem_cons.mp hb with rfl | hb
      · exact r
      · exact ih b hb
  have ed : (us.zip L).map (fun b => dFo b.2) = L.map dFo := by
    have := congrArg (List.map dFo) e2
    rw [List.map_map] at this
    exact this
  refine ⟨V × Fo, fun b => b.1, fun b => dFo b.2, l, us.zip L, t.map dFo, rfl, SqL.of (by rw [e1]; exact hL), fun b hb => ⟨dp_fo (hall b hb), Nat.le_trans (dep_fo _) (by decide)⟩, ?_, ?_, ?_, fun p hp => ?_⟩
  · intro d1 h1 d2 h2
    obtain ⟨b1, _, rfl⟩ := List.mem_map.mp h1
    obtain ⟨b2, _, rfl⟩ := List.mem_map.mp h2
    show PySem.W.alike (.tuple _) (.tuple _) = true
    rw [PySem.W.alike]
    exact alike_twos _ _
  · rw [ed, h0]
    rfl
  · intro e he
    obtain ⟨b1, _, rfl⟩ := List.mem_map.mp he
    exact ⟨_, rfl⟩
  · have x1 := Ext.new (o := .lst (((us.zip L).mergeSort (PySem.W.dataLe false fun b => dFo b.2)).map fun b => b.1)) hp
    refine q p _ _ hp upd_same ?_ x1
    have es : ((us.zip L).mergeSort (PySem.W.dataLe false fun b => dFo b.2)).map (·.2) = SF L := by
      have hm := List.map_mergeSort (r := PySem.W.dataLe false fun b : V × Fo => dFo b.2) (s := PySem.W.dataLe false dFo) (f := fun b : V × Fo => b.2) (l := us.zip L) (fun a _ b _ => rfl)
      rw [e2] at hm
      exact hm
    rw [← es]
    have hm : ∀ b ∈ (us.zip L).mergeSort (PySem.W.dataLe false fun b => dFo b.2), FoAt H b.1 b.2 := fun b hb => hall b ((List.mergeSort_perm _ _).mem_iff.mp hb)
    generalize (us.zip L).mergeSort (PySem.W.dataLe false fun b => dFo b.2) = S at hm x1
    have : ∀ {T : List (V × Fo)} {H2 : Hp}, (∀ b ∈ T, FoAt H b.1 b.2) → Ext H H2 → Paired (FoAt H2) (T.map (·.1)) (T.map (·.2)) := by
      intro T H2 hT hx
      induction T with
      | nil => exact .nil
      | cons b T ih => exact .cons (FoAt.mono _ _ _ _ (TupK.ext hx) (hT b (List.mem_cons_self ..))) (ih fun c hc => hT c (List.mem_cons_of_mem _ hc))
    exact this hm x1
end
end Pf


namespace Pf
open PySem PySem.Spec PyProof.Rows L2
/-! ### rows that lead to earlier ones, row by row -/
def OkRow (r : Rl) (x : Str) (kn : List Rw) (y : Rw) : Prop := RwOk x.length y ∧ (∀ wy ∈ waysOf r x y, (∀ z ∈ wy.2, z ∈ kn) ∧ WayOk (tabT r x kn) wy) ∧ ((waysOf r x y).flatMap (wayM (tabT r x kn))).length < 1000000
def GoodR (r : Rl) (x : Str) : List Rw → List Rw → Prop
  | _, [] => True
  | kn, y :: ys => OkRow r x kn y ∧ GoodR r x (kn ++ [y]) ys
theorem goodR_app {r : Rl} {x : Str} : ∀ {a kn b : List Rw}, GoodR r x kn a → GoodR r x (kn ++ a) b → GoodR r x kn (a ++ b)
  | [], kn, b, _, h => by rw [List.append_nil] at h; exact h
  | y :: a, kn, b, h1, h2 => by
    refine ⟨h1.1, goodR_app h1.2 ?_⟩
    rw [List.append_assoc]
    exact h2
theorem goodR_at {r : Rl} {x : Str} : ∀ {ys kn : List Rw}, GoodR r x kn ys → ∀ k y, ys[k]? = some y → OkRow r x (kn ++ ys.take k) y
  | [], _, _, k, y, e => by cases e
  | z :: ys, kn, h, 0, y, e => by
    rw [List.getElem?_cons_zero] at e
    cases e
    rw [List.take_zero, List.append_nil]
    exact h.1
  | z :: ys, kn, h, k + 1, y, e => by
    rw [List.getElem?_cons_succ] at e
    have := goodR_at h.2 k y e
    rw [List.append_assoc] at this
    exact this
theorem good_of {r : Rl} {x : Str} {rows : List Rw} (h : GoodR r x [] rows) : Good r x rows := fun k y e => by
  have := goodR_at h k y e
  rw [List.nil_append] at this
  exact this
/-- the whole row is among the rows -/
theorem whole_in (L : Nat) : mkR "open" 0 ((L : Int) - 1) ∈ rowsL L := by
  unfold rowsL
  refine List.mem_flatMap.mpr ⟨L, List.mem_range.mpr (by omega), ?_⟩
  have e : (L : Int) + (L : Nat) * (-1) = 0 := by omega
  rw [e]
  unfold rowsI
  exact List.mem_append_right _ (List.mem_singleton.mpr rfl)
end Pf


namespace Pf
open PySem PySem.Spec PyProof.Rows L2
/-! ### outermost pairs, pairs straight within -/
def topF (z : Int) : Fo → Fo
  | [] => []
  | p :: r => if z ≤ p.1 then p :: topF (p.2 + 1) r else topF z r
def tops : Fo → Fo
  | [] => []
  | p :: r => p :: topF (p.2 + 1) r
theorem topF_skip {z : Int} : ∀ {u w : Fo}, (∀ p ∈ u, p.1 < z) → topF z (u ++ w) = topF z w
  | [], _, _ => rfl
  | p :: u, w, h => by
    have := h p (List.mem_cons_self ..)
    rw [List.cons_append, topF, if_neg (by omega)]
    exact topF_skip fun q hq => h q (List.mem_cons_of_mem _ hq)
theorem topF_tops {z : Int} : ∀ {w : Fo}, (∀ p ∈ w, z ≤ p.1) → topF z w = tops w
  | [], _ => rfl
  | p :: w, h => by
    rw [topF, if_pos (h p (List.mem_cons_self ..))]
    rfl
theorem tops_pair {a k : Int} {u w : Fo} (hu : ∀ p ∈ u, p.1 < k + 1) (hw : ∀ p ∈ w, k + 1 ≤ p.1) : tops ((a, k) :: (u ++ w)) = (a, k) :: tops w := by
  rw [tops, topF_skip hu, topF_tops hw]
theorem tops_nil {w : Fo} : tops w = [] ↔ w = [] := by
  cases w with
  | nil => exact ⟨fun _ => rfl, fun _ => rfl⟩
  | cons p r => exact ⟨(fun h => by cases h), (fun h => by cases h)⟩
def nestB (one two : Int × Int) : Bool := decide (two.1 < one.1) && decide (one.2 < two.2)
def nn (u : Fo) : Fo := u.filter fun one => (u.filter (nestB one)).isEmpty
def withinC (w : Fo) (i j : Int) : Fo := w.filter fun p => decide (i < p.1) && decide (p.2 < j)
def strC (w : Fo) (i j : Int) : Fo := nn (withinC w i j)
theorem WA_cases {r : Rl} {x : Str} {n : Nat} {a : Int} {q : Fo} (h : q ∈ WA r x (n + 1) a) : q ∈ WA r x n (a + 1) ∨ ∃ t one other, t < n ∧ mayC r x a (a + 1 + (t : Nat)) = true ∧ one ∈ WA r x t (a + 1) ∧ other ∈ WA r x (n - 1 - t) (a + 2 + (t : Nat)) ∧ q = (a, a + 1 + (t : Nat)) :: (one ++ other) := by
  rw [WA_succ] at h
  rcases List.mem_append.mp h with h | h
  · exact .inl h
  · obtain ⟨t, ht, hq⟩ := List.mem_flatMap.mp h
    have ht := List.mem_range.mp ht
    unfold seg at hq
    split at hq
    · rename_i hm
      obtain ⟨one, h1, hq⟩ := List.mem_flatMap.mp hq
      obtain ⟨other, h2, rfl⟩ := List.mem_map.mp hq
      exact .inr ⟨t, one, other, ht, hm, h1, h2, rfl⟩
    · cases hq
theorem filter_none {α : Type} {f : α → Bool} {l : List α} (h : ∀ y ∈ l, f y = false) : l.filter f = [] := by
  rw [List.filter_eq_nil_iff]
  intro y hy
  rw [h y hy]
  exact Bool.false_ne_true
theorem filter_all {α : Type} {f : α → Bool} {l : List α} (h : ∀ y ∈ l, f y = true) : l.filter f = l := List.filter_eq_self.mpr h
/-- where a folding is a pair around one, and one behind -/
structure Cut (a k : Int) (u w : Fo) : Prop where
  ak : a < k
  ui : ∀ p ∈ u, a < p.1 ∧ p.1 < p.2 ∧ p.2 < k
  wi : ∀ p ∈ w, k < p.1 ∧ p.1 < p.2
theorem Cut.of {r : Rl} {x : Str} {n t : Nat} {a : Int} {one other : Fo} (h1 : one ∈ WA r x t (a + 1)) (h2 : other ∈ WA r x n (a + 2 + (t : Nat))) : Cut a (a + 1 + (t : Nat)) one other :=
  ⟨by omega, fun p hp => by have := (WA_in r x t (a + 1) one h1).1 p hp; omega, fun p hp => by have := (WA_in r x n (a + 2 + (t : Nat)) other h2).1 p hp; omega⟩
theorem Cut.tops {a k : Int} {u w : Fo} (c : Cut a k u w) : tops ((a, k) :: (u ++ w)) = (a, k) :: tops w :=
  tops_pair (fun p hp => by have := c.ui p hp; omega) (fun p hp => by have := c.wi p hp; omega)
theorem dand {p q : Prop} [Decidable p] [Decidable q] (h : p ∧ q) : (decide p && decide q) = true := by
  rw [decide_eq_true h.1, decide_eq_true h.2]
  rfl
theorem dnot {p q : Prop} [Decidable p] [Decidable q] (h : ¬ (p ∧ q)) : (decide p && decide q) = false := by
  by_cases hp : p
  · have hq : ¬ q := fun z => h ⟨hp, z⟩
    rw [decide_eq_false hq, Bool.and_false]
  · rw [decide_eq_false hp, Bool.false_and]
theorem Cut.nn {a k : Int} {u w : Fo} (c : Cut a k u w) : nn ((a, k) :: (u ++ w)) = (a, k) :: nn w := by
  have hak := c.ak
  have n0 : nestB (a, k) (a, k) = false := dnot (by simp)
  have n1 : u.filter (nestB (a, k)) = [] := filter_none fun p hp => dnot (by have := c.ui p hp; simp; omega)
  have n2 : w.filter (nestB (a, k)) = [] := filter_none fun p hp => dnot (by have := c.wi p hp; simp; omega)
  unfold Pf.nn
  rw [List.filter_cons_of_pos (by rw [List.filter_cons_of_neg (by rw [n0]; exact Bool.false_ne_true), List.filter_append, n1, n2]; rfl), List.filter_append]
  congr 1
  have e1 : u.filter (fun one => (((a, k) :: (u ++ w)).filter (nestB one)).isEmpty) = [] := filter_none fun p hp => by
    have h := c.ui p hp
    have m0 : nestB p (a, k) = true := dand (show a < p.1 ∧ p.2 < k by omega)
    rw [List.filter_cons_of_pos m0]
    rfl
  have e2 : w.filter (fun one => (((a, k) :: (u ++ w)).filter (nestB one)).isEmpty) = w.filter (fun one => (w.filter (nestB one)).isEmpty) := List.filter_congr fun p hp => by
    have h := c.wi p hp
    have m0 : nestB p (a, k) = false := dnot (show ¬ (a < p.1 ∧ p.2 < k) by omega)
    have m1 : u.filter (nestB p) = [] := filter_none fun q hq => dnot (by have := c.ui q hq; omega)
    rw [List.filter_cons_of_neg (by rw [m0]; exact Bool.false_ne_true), List.filter_append, m1, List.nil_append]
  rw [e1, e2, List.nil_append]
theorem nn_tops (r : Rl) (x : Str) : ∀ (n : Nat) (a : Int), ∀ q ∈ WA r x n a, nn q = tops q := by
  intro n
  induction n using Nat.strongRecOn with
  | ind n ih =>
    intro a q hq
    match n, ih, hq with
    | 0, _, hq =>
      rw [WA_zero, List.mem_singleton] at hq
      subst hq
      rfl
    | n + 1, ih, hq =>
      rcases WA_cases hq with h | ⟨t, one, other, ht, hm, h1, h2, rfl⟩
      · exact ih n (by omega) _ _ h
      · have c := Cut.of h1 h2
        rw [c.nn, c.tops, ih (n - 1 - t) (by omega) _ _ h2]
theorem Cut.str0 {a k : Int} {u w : Fo} (c : Cut a k u w) : withinC ((a, k) :: (u ++ w)) a k = u := by
  unfold withinC
  rw [List.filter_cons_of_neg (by rw [dnot (by simp)]; exact Bool.false_ne_true), List.filter_append, filter_all (fun p hp => dand (by have := c.ui p hp; omega)), filter_none (fun p hp => dnot (by have := c.wi p hp; omega)), List.append_nil]
theorem Cut.str1 {a k : Int} {u w : Fo} (c : Cut a k u w) {p : Int × Int} (hp : p ∈ u) : withinC ((a, k) :: (u ++ w)) p.1 p.2 = withinC u p.1 p.2 := by
  have h := c.ui p hp
  unfold withinC
  rw [List.filter_cons_of_neg (by rw [dnot (show ¬ (p.1 < a ∧ k < p.2) by omega)]; exact Bool.false_ne_true), List.filter_append, filter_none (l := w) (fun q hq => dnot (by have := c.wi q hq; omega)), List.append_nil]
theorem Cut.str2 {a k : Int} {u w : Fo} (c : Cut a k u w) {p : Int × Int} (hp : p ∈ w) : withinC ((a, k) :: (u ++ w)) p.1 p.2 = withinC w p.1 p.2 := by
  have h := c.wi p hp
  have hak := c.ak
  unfold withinC
  rw [List.filter_cons_of_neg (by rw [dnot (show ¬ (p.1 < a ∧ k < p.2) by omega)]; exact Bool.false_ne_true), List.filter_append, filter_none (l := u) (fun q hq => dnot (by have := c.ui q hq; omega)), List.nil_append]
/-! ### worths -/
def pV (r : Rl) (x : Str) (w : Fo) (p : Int × Int) : Int := pwI r.prs (tx2 x p) + lpW r x p (strC w p.1 p.2)
def vin (r : Rl) (x : Str) (w : Fo) : Int := (w.map (pV r x w)).sum
def sV (r : Rl) (x : Str) (p : Int × Int) (w : Fo) : Int := pwI r.prs (tx2 x p) + lpW r x p (tops w) + vin r x w
theorem vin_pair {r : Rl} {x : Str} {n t : Nat} {a : Int} {one other : Fo} (h1 : one ∈ WA r x t (a + 1)) (h2 : other ∈ WA r x n (a + 2 + (t : Nat))) : vin r x ((a, a + 1 + (t : Nat)) :: (one ++ other)) = sV r x (a, a + 1 + (t : Nat)) one + vin r x other := by
  have c := Cut.of h1 h2
  have e0 : pV r x ((a, a + 1 + (t : Nat)) :: (one ++ other)) (a, a + 1 + (t : Nat)) = pwI r.prs (tx2 x (a, a + 1 + (t : Nat))) + lpW r x (a, a + 1 + (t : Nat)) (tops one) := by
    unfold pV strC
    rw [show withinC ((a, a + 1 + (t : Nat)) :: (one ++ other)) (a, a + 1 + (t : Nat)).1 (a, a + 1 + (t : Nat)).2 = one from c.str0, nn_tops r x t (a + 1) one h1]
  have e1 : one.map (pV r x ((a, a + 1 + (t : Nat)) :: (one ++ other))) = one.map (pV r x one) := List.map_congr_left fun p hp => by
    unfold pV strC
    rw [c.str1 hp]
  have e2 : other.map (pV r x ((a, a + 1 + (t : Nat)) :: (one ++ other))) = other.map (pV r x other) := List.map_congr_left fun p hp => by
    unfold pV strC
    rw [c.str2 hp]
  unfold vin sV
  rw [List.map_cons, List.sum_cons, List.map_append, List.sum_append, e0, e1, e2]
  unfold vin
  omega
theorem vin_nil (r : Rl) (x : Str) : vin r x [] = 0 := rfl
/-- the whole worth of a folding -/
def oV (r : Rl) (x : Str) (w : Fo) : Int := lo r 8 * (tops w).length + vin r x w
def fV (r : Rl) (x : Str) (n : Nat) (w : Fo) : Int := lo r 4 * (tops w).length + lo r 5 * ((n : Int) - wid (tops w)) + vin r x w
theorem wid_cons (p : Int × Int) (ks : Fo) : wid (p :: ks) = (p.2 - p.1 + 1) + wid ks := by
  unfold wid
  rw [List.map_cons, List.sum_cons]
/-! ### what rows stand for -/
def SS (r : Rl) (x : Str) (i j : Int) : List Int := if mayC r x i j = true then (WA r x (j - i - 1).toNat (i + 1)).map (sV r x (i, j)) else []
def SO (r : Rl) (x : Str) (n : Nat) (i : Int) : List Int := (WA r x n i).map (oV r x)
def S1 (r : Rl) (x : Str) (n : Nat) (i : Int) : List Int := ((WA r x n i).filter fun w => decide (0 < (tops w).length)).map (fV r x n)
def S2 (r : Rl) (x : Str) (n : Nat) (i : Int) : List Int := ((WA r x n i).filter fun w => decide (1 < (tops w).length)).map (fV r x n)
theorem sums_map {α β : Type} (A : List α) (B : List β) (f : α → Int) (g : β → Int) (c : Int) : sums (sums [c] (A.map f)) (B.map g) = A.flatMap fun a => B.map fun b => c + f a + g b := by
  unfold sums
  rw [List.flatMap_cons, List.flatMap_nil, List.append_nil, List.map_map, List.flatMap_map]
  refine flat_congr fun a _ => ?_
  rw [List.map_map]
  rfl
theorem sums_one (c : Int) (A : List Int) : sums [c] A = A.map fun b => c + b := by
  unfold sums
  rw [List.flatMap_cons, List.flatMap_nil, List.append_nil]
theorem map_seg {r : Rl} {x : Str} {W : Nat → Int → List Fo} {n : Nat} {a : Int} {t : Nat} {β : Type} (F : Fo → β) : (seg r x W n a t).map F = if mayC r x a (a + 1 + (t : Nat)) = true then (W t (a + 1)).flatMap fun one => (W (n - 1 - t) (a + 2 + (t : Nat))).map fun other => F ((a, a + 1 + (t : Nat)) :: (one ++ other)) else [] := by
  unfold seg
  split
  · rw [List.map_flatMap]
    refine flat_congr fun one _ => ?_
    rw [List.map_map]
    rfl
  · rfl
theorem SO_zero (r : Rl) (x : Str) (i : Int) : SO r x 0 i = [0] := by
  unfold SO
  rw [WA_zero]
  show [oV r x []] = [0]
  unfold oV
  rw [vin_nil]
  simp [tops]
theorem toN (a : Int) (t : Nat) : (a + 1 + (t : Nat) - a - 1).toNat = t := by omega
theorem SO_succ (r : Rl) (x : Str) (n : Nat) (i : Int) : SO r x (n + 1) i = SO r x n (i + 1) ++ (List.range n).flatMap fun t => sums (sums [lo r 8] (SS r x i (i + 1 + (t : Nat)))) (SO r x (n - 1 - t) (i + 2 + (t : Nat))) := by
  unfold SO
  rw [WA_succ, List.map_append, List.map_flatMap]
  congr 1
  refine flat_congr fun t ht => ?_
  rw [map_seg]
  unfold SS
  split
  · rw [toN, sums_map]
    refine flat_congr fun one h1 => List.map_congr_left fun other h2 => ?_
    have c := Cut.of h1 h2
    unfold oV
    rw [vin_pair h1 h2, c.tops, List.length_cons]
    have : lo r 8 * ((tops other).length + 1 : Nat) = lo r 8 * (tops other).length + lo r 8 := by
      rw [Int.natCast_add, Int.mul_add]
      simp
    omega
  · rfl
theorem flat_nil {α β : Type} (l : List α) : (l.flatMap fun _ => ([] : List β)) = [] := by
  induction l with
  | nil => rfl
  | cons _ _ ih => rw [List.flatMap_cons, ih]; rfl
theorem filter_seg {r : Rl} {x : Str} {n : Nat} {a : Int} {t : Nat} {β : Type} (F : Fo → β) (c : Nat) : ((seg r x (WA r x) n a t).filter fun w => decide (c < (tops w).length)).map F = if mayC r x a (a + 1 + (t : Nat)) = true then (WA r x t (a + 1)).flatMap fun one => ((WA r x (n - 1 - t) (a + 2 + (t : Nat))).filter fun other => decide (c < (tops other).length + 1)).map fun other => F ((a, a + 1 + (t : Nat)) :: (one ++ other)) else [] := by
  unfold seg
  split
  · rw [List.filter_flatMap, List.map_flatMap]
    refine flat_congr fun one h1 => ?_
    rw [List.filter_map, List.map_map]
    congr 1
    refine List.filter_congr fun other h2 => ?_
    show decide (c < (tops ((a, a + 1 + (t : Nat)) :: (one ++ other))).length) = _
    rw [(Cut.of h1 h2).tops, List.length_cons]
  · rfl
theorem fV_free (r : Rl) (x : Str) (n : Nat) (w : Fo) : fV r x (n + 1) w = lo r 5 + fV r x n w := by
  unfold fV
  have : lo r 5 * (((n + 1 : Nat) : Int) - wid (tops w)) = lo r 5 * ((n : Int) - wid (tops w)) + lo r 5 := by
    rw [show ((n + 1 : Nat) : Int) - wid (tops w) = ((n : Int) - wid (tops w)) + 1 by omega, Int.mul_add, Int.mul_one]
  omega
theorem fV_pair {r : Rl} {x : Str} {n t : Nat} {a : Int} {one other : Fo} (ht : t < n) (h1 : one ∈ WA r x t (a + 1)) (h2 : other ∈ WA r x (n - 1 - t) (a + 2 + (t : Nat))) : fV r x (n + 1) ((a, a + 1 + (t : Nat)) :: (one ++ other)) = lo r 4 + sV r x (a, a + 1 + (t : Nat)) one + fV r x (n - 1 - t) other := by
  unfold fV
  rw [vin_pair h1 h2, (Cut.of h1 h2).tops, List.length_cons, wid_cons]
  have e1 : lo r 4 * (((tops other).length + 1 : Nat) : Int) = lo r 4 * (tops other).length + lo r 4 := by
    rw [Int.natCast_add, Int.mul_add]
    simp
  have e2 : ((n + 1 : Nat) : Int) - ((a, a + 1 + (t : Nat)).2 - (a, a + 1 + (t : Nat)).1 + 1 + wid (tops other)) = ((n - 1 - t : Nat) : Int) - wid (tops other) := by
    show ((n + 1 : Nat) : Int) - ((a + 1 + (t : Nat)) - a + 1 + wid (tops other)) = _
    omega
  rw [e1, e2]
  omega
theorem S2_zero (r : Rl) (x : Str) (i : Int) : S2 r x 0 i = [] := rfl
theorem S1_zero (r : Rl) (x : Str) (i : Int) : S1 r x 0 i = [] := rfl
theorem S2_succ (r : Rl) (x : Str) (n : Nat) (i : Int) : S2 r x (n + 1) i = sums [lo r 5] (S2 r x n (i + 1)) ++ (List.range n).flatMap fun t => sums (sums [lo r 4] (SS r x i (i + 1 + (t : Nat)))) (S1 r x (n - 1 - t) (i + 2 + (t : Nat))) := by
  unfold S2
  rw [WA_succ, List.filter_append, List.map_append, sums_one, List.map_map]
  congr 1
  · exact List.map_congr_left fun w _ => fV_free r x n w
  · rw [List.filter_flatMap, List.map_flatMap]
    refine flat_congr fun t ht => ?_
    have ht := List.mem_range.mp ht
    rw [filter_seg]
    unfold SS S1
    split
    · rw [toN, sums_map]
      refine flat_congr fun one h1 => ?_
      rw [show (fun other : Fo => decide (1 < (tops other).length + 1)) = fun other : Fo => decide (0 < (tops other).length) from funext fun o => by simp]
      exact List.map_congr_left fun other h2 => fV_pair ht h1 (List.mem_filter.mp h2).1
    · rfl
end Pf


namespace Pf
open PySem PySem.Spec PyProof.Rows L2
/-! ### the folding without pairs stands once, first -/
theorem seg_ne {r : Rl} {x : Str} {W : Nat → Int → List Fo} {n : Nat} {a : Int} {t : Nat} : ∀ q ∈ seg r x W n a t, q ≠ [] := by
  intro q hq
  unfold seg at hq
  split at hq
  · obtain ⟨one, h1, hq⟩ := List.mem_flatMap.mp hq
    obtain ⟨other, h2, rfl⟩ := List.mem_map.mp hq
    intro z
    cases z
  · cases hq
theorem WA_split (r : Rl) (x : Str) : ∀ (n : Nat) (a : Int), WA r x n a = [] :: (WA r x n a).filter fun w => decide (0 < (tops w).length)
  | 0, _ => rfl
  | n + 1, a => by
    rw [WA_succ, List.filter_append]
    have e1 := WA_split r x n (a + 1)
    have e2 : ((List.range n).flatMap fun t => seg r x (WA r x) n a t).filter (fun w => decide (0 < (tops w).length)) = (List.range n).flatMap fun t => seg r x (WA r x) n a t := filter_all fun q hq => by
      obtain ⟨t, _, hq⟩ := List.mem_flatMap.mp hq
      have h := seg_ne q hq
      refine decide_eq_true ?_
      cases z : tops q with
      | nil => exact absurd (tops_nil.mp z) h
      | cons _ _ => exact Nat.succ_pos _
    rw [e2]
    generalize hX : (List.range n).flatMap (fun t => seg r x (WA r x) n a t) = X
    rw [← List.cons_append, ← e1]
theorem flat_single {α β : Type} (f : α → β) : ∀ l : List α, (l.flatMap fun y => [f y]) = l.map f
  | [] => rfl
  | y :: l => by
    rw [List.flatMap_cons, flat_single f l]
    rfl
theorem S1_succ (r : Rl) (x : Str) (n : Nat) (i : Int) : (S1 r x (n + 1) i).Perm (sums [lo r 5] (S1 r x n (i + 1)) ++ ((List.range n).flatMap (fun t => sums [lo r 4 + ((n - 1 - t : Nat) : Int) * lo r 5] (SS r x i (i + 1 + (t : Nat)))) ++ (List.range n).flatMap fun t => sums (sums [lo r 4] (SS r x i (i + 1 + (t : Nat)))) (S1 r x (n - 1 - t) (i + 2 + (t : Nat))))) := by
  have e : S1 r x (n + 1) i = sums [lo r 5] (S1 r x n (i + 1)) ++ (List.range n).flatMap fun t => ((seg r x (WA r x) n i t).filter fun w => decide (0 < (tops w).length)).map (fV r x (n + 1)) := by
    unfold S1
    rw [WA_succ, List.filter_append, List.map_append, sums_one, List.map_map]
    congr 1
    · exact List.map_congr_left fun w _ => fV_free r x n w
    · rw [List.filter_flatMap, List.map_flatMap]
  rw [e]
  refine List.Perm.append_left _ ?_
  refine (flat_perm2 (g := fun t => sums [lo r 4 + ((n - 1 - t : Nat) : Int) * lo r 5] (SS r x i (i + 1 + (t : Nat))) ++ sums (sums [lo r 4] (SS r x i (i + 1 + (t : Nat)))) (S1 r x (n - 1 - t) (i + 2 + (t : Nat)))) fun t ht => ?_).trans (flat_app _)
  have ht := List.mem_range.mp ht
  rw [filter_seg]
  unfold SS
  split
  · rw [toN, sums_one, List.map_map]
    unfold S1
    rw [sums_map]
    have e3 : ∀ one ∈ WA r x t (i + 1), (((WA r x (n - 1 - t) (i + 2 + (t : Nat))).filter fun other => decide (0 < (tops other).length + 1)).map fun other => fV r x (n + 1) ((i, i + 1 + (t : Nat)) :: (one ++ other))) =
        [lo r 4 + ((n - 1 - t : Nat) : Int) * lo r 5 + sV r x (i, i + 1 + (t : Nat)) one] ++ (((WA r x (n - 1 - t) (i + 2 + (t : Nat))).filter fun w => decide (0 < (tops w).length)).map fun b => lo r 4 + sV r x (i, i + 1 + (t : Nat)) one + fV r x (n - 1 - t) b) := fun one h1 => by
      rw [filter_all (fun q _ => decide_eq_true (Nat.succ_pos _))]
      conv => lhs; rw [WA_split r x (n - 1 - t)]
      rw [List.map_cons]
      have e4 : fV r x (n + 1) ((i, i + 1 + (t : Nat)) :: (one ++ [])) = lo r 4 + ((n - 1 - t : Nat) : Int) * lo r 5 + sV r x (i, i + 1 + (t : Nat)) one := by
        have h2 : ([] : Fo) ∈ WA r x (n - 1 - t) (i + 2 + (t : Nat)) := by
          rw [WA_split]
          exact List.mem_cons_self ..
        rw [fV_pair ht h1 h2]
        unfold fV
        rw [vin_nil]
        have z1 : (tops ([] : Fo)).length = 0 := rfl
        have z2 : wid (tops ([] : Fo)) = 0 := rfl
        rw [z1, z2, Int.sub_zero, Int.mul_comm (lo r 5)]
        simp
        omega
      rw [e4, List.singleton_append]
      congr 1
      exact List.map_congr_left fun other h2 => fV_pair ht h1 (List.mem_filter.mp h2).1
    rw [flat_congr e3]
    refine (flat_app _).trans ?_
    have e5 : ((WA r x t (i + 1)).flatMap fun one => [lo r 4 + ((n - 1 - t : Nat) : Int) * lo r 5 + sV r x (i, i + 1 + (t : Nat)) one]) = (WA r x t (i + 1)).map ((fun b => lo r 4 + ((n - 1 - t : Nat) : Int) * lo r 5 + b) ∘ sV r x (i, i + 1 + (t : Nat))) := by
      exact flat_single (fun one => lo r 4 + ((n - 1 - t : Nat) : Int) * lo r 5 + sV r x (i, i + 1 + (t : Nat)) one) _
    rw [e5]
  · rfl
/-! ### those with one outermost pair -/
def pq (m : Nat) (b : Int) : List (Int × Int) := (List.range m).flatMap fun a => (List.range (m - 1 - a)).map fun c : Nat => (b + (a : Nat), b + (a : Nat) + 1 + (c : Nat))
theorem pq_succ (m : Nat) (b : Int) : pq (m + 1) b = ((List.range m).map fun c : Nat => (b, b + 1 + (c : Nat))) ++ pq m (b + 1) := by
  unfold pq
  rw [List.range_succ_eq_map, List.flatMap_cons, List.flatMap_map]
  congr 1
  · have : m + 1 - 1 - 0 = m := by omega
    rw [this]
    refine List.map_congr_left fun c _ => ?_
    simp
  · refine flat_congr fun a _ => ?_
    have : m + 1 - 1 - (a + 1) = m - 1 - a := by omega
    show (List.range (m + 1 - 1 - (a + 1))).map _ = _
    rw [this]
    refine List.map_congr_left fun c _ => ?_
    refine Prod.ext ?_ ?_
    · show b + ((a + 1 : Nat) : Int) = b + 1 + (a : Nat)
      omega
    · show b + ((a + 1 : Nat) : Int) + 1 + (c : Nat) = b + 1 + (a : Nat) + 1 + (c : Nat)
      omega
def onesL (r : Rl) (x : Str) (p : Int × Int) : List Fo := if mayC r x p.1 p.2 = true then (WA r x (p.2 - p.1 - 1).toNat (p.1 + 1)).map fun w => p :: w else []
theorem seg_ones {r : Rl} {x : Str} {n : Nat} {a : Int} {t : Nat} : (seg r x (WA r x) n a t).filter (fun w => decide ((tops w).length = 1)) = onesL r x (a, a + 1 + (t : Nat)) := by
  unfold seg onesL
  show _ = if mayC r x a (a + 1 + (t : Nat)) = true then (WA r x (a + 1 + (t : Nat) - a - 1).toNat (a + 1)).map _ else []
  split
  · rw [toN, List.filter_flatMap]
    have : ∀ one ∈ WA r x t (a + 1), ((WA r x (n - 1 - t) (a + 2 + (t : Nat))).map fun other => (a, a + 1 + (t : Nat)) :: (one ++ other)).filter (fun w => decide ((tops w).length = 1)) = [(a, a + 1 + (t : Nat)) :: one] := fun one h1 => by
      rw [List.filter_map]
      have e : (WA r x (n - 1 - t) (a + 2 + (t : Nat))).filter ((fun w => decide ((tops w).length = 1)) ∘ fun other => (a, a + 1 + (t : Nat)) :: (one ++ other)) = (WA r x (n - 1 - t) (a + 2 + (t : Nat))).filter fun other => decide ((tops other).length = 0) := List.filter_congr fun other h2 => by
        show decide ((tops ((a, a + 1 + (t : Nat)) :: (one ++ other))).length = 1) = _
        rw [(Cut.of h1 h2).tops, List.length_cons]
        simp
      rw [e, WA_split]
      have e2 : (([] : Fo) :: ((WA r x (n - 1 - t) (a + 2 + (t : Nat))).filter fun w => decide (0 < (tops w).length))).filter (fun other => decide ((tops other).length = 0)) = [[]] := by
        rw [List.filter_cons_of_pos (by rfl)]
        rw [filter_none fun q hq => by
          have := of_decide_eq_true (List.mem_filter.mp hq).2
          exact decide_eq_false (by omega)]
      rw [e2]
      show [(a, a + 1 + (t : Nat)) :: (one ++ [])] = _
      rw [List.append_nil]
    rw [flat_congr this]
    exact flat_single _ _
  · rfl
theorem ones_perm (r : Rl) (x : Str) : ∀ (n : Nat) (a : Int), ((WA r x n a).filter fun w => decide ((tops w).length = 1)).Perm ((pq n a).flatMap (onesL r x))
  | 0, _ => .nil
  | n + 1, a => by
    rw [WA_succ, List.filter_append, pq_succ, List.flatMap_append, List.flatMap_map, List.filter_flatMap, flat_congr fun t _ => seg_ones]
    exact ((ones_perm r x n (a + 1)).append_right _).trans List.perm_append_comm
theorem parts3 {α : Type} (f : α → Nat) : ∀ L : List α, L.Perm ((L.filter fun w => decide (f w = 0)) ++ ((L.filter fun w => decide (f w = 1)) ++ L.filter fun w => decide (1 < f w)))
  | [] => .nil
  | y :: L => by
    have ih := parts3 f L
    by_cases h0 : f y = 0
    · rw [List.filter_cons_of_pos (p := fun w => decide (f w = 0)) (decide_eq_true h0), List.filter_cons_of_neg (p := fun w => decide (f w = 1)) (by simp; omega), List.filter_cons_of_neg (p := fun w => decide (1 < f w)) (by simp; omega)]
      exact ih.cons _
    · by_cases h1 : f y = 1
      · rw [List.filter_cons_of_neg (p := fun w => decide (f w = 0)) (by simp; omega), List.filter_cons_of_pos (p := fun w => decide (f w = 1)) (decide_eq_true h1), List.filter_cons_of_neg (p := fun w => decide (1 < f w)) (by simp; omega)]
        exact (ih.cons _).trans (List.perm_middle.symm)
      · rw [List.filter_cons_of_neg (p := fun w => decide (f w = 0)) (by simp; omega), List.filter_cons_of_neg (p := fun w => decide (f w = 1)) (by simp; omega), List.filter_cons_of_pos (p := fun w => decide (1 < f w)) (decide_eq_true (by omega))]
        refine (ih.cons _).trans ?_
        rw [← List.append_assoc, ← List.append_assoc]
        exact List.perm_middle.symm
theorem zero_WA (r : Rl) (x : Str) (n : Nat) (a : Int) : ((WA r x n a).filter fun w => decide ((tops w).length = 0)) = [[]] := by
  rw [WA_split, List.filter_cons_of_pos (by rfl)]
  rw [filter_none fun q hq => by
    have := of_decide_eq_true (List.mem_filter.mp hq).2
    exact decide_eq_false (by omega)]
theorem SS_perm {r : Rl} {x : Str} {i j : Int} (hm : mayC r x i j = true) (m : Nat) (hj : j = i + 1 + (m : Nat)) : (SS r x i j).Perm ([pwI r.prs (tx2 x (i, j)) + lpW r x (i, j) []] ++ ((pq m (i + 1)).flatMap (fun p => sums [pwI r.prs (tx2 x (i, j)) + lpW r x (i, j) [p]] (SS r x p.1 p.2)) ++ sums [pwI r.prs (tx2 x (i, j)) + lo r 3] (S2 r x m (i + 1)))) := by
  have e : SS r x i j = (WA r x m (i + 1)).map (sV r x (i, j)) := by
    unfold SS
    rw [if_pos hm]
    congr 2
    omega
  rw [e]
  refine ((parts3 (fun w => (tops w).length) (WA r x m (i + 1))).map _).trans ?_
  rw [List.map_append, List.map_append, zero_WA]
  refine List.Perm.append ?_ (List.Perm.append ?_ ?_)
  · show [sV r x (i, j) []].Perm _
    unfold sV
    rw [vin_nil, Int.add_zero]
    exact .refl _
  · refine ((ones_perm r x m (i + 1)).map _).trans ?_
    rw [List.map_flatMap]
    refine flat_perm2 fun p hp => ?_
    unfold onesL SS
    split
    · rw [List.map_map, sums_one, List.map_map]
      rw [List.map_congr_left (g := (fun b => pwI r.prs (tx2 x (i, j)) + lpW r x (i, j) [p] + b) ∘ sV r x (p.1, p.2))]
      intro w hw
      show sV r x (i, j) (p :: w) = pwI r.prs (tx2 x (i, j)) + lpW r x (i, j) [p] + sV r x (p.1, p.2) w
      obtain ⟨a, ha, hp⟩ := List.mem_flatMap.mp hp
      obtain ⟨c, hc, rfl⟩ := List.mem_map.mp hp
      have hw' : w ∈ WA r x c (i + 1 + (a : Nat) + 1) := by
        have : (i + 1 + (a : Nat) + 1 + (c : Nat) - (i + 1 + (a : Nat)) - 1).toNat = c := by omega
        rw [← this]
        exact hw
      have h2 : ([] : Fo) ∈ WA r x 0 (i + 1 + (a : Nat) + 2 + (c : Nat)) := List.mem_cons_self ..
      have e1 := vin_pair hw' h2
      have e2 := (Cut.of hw' h2).tops
      rw [List.append_nil] at e1 e2
      show pwI r.prs (tx2 x (i, j)) + lpW r x (i, j) (tops ((i + 1 + (a : Nat), i + 1 + (a : Nat) + 1 + (c : Nat)) :: w)) + vin r x ((i + 1 + (a : Nat), i + 1 + (a : Nat) + 1 + (c : Nat)) :: w) = _
      rw [e1, e2, vin_nil, Int.add_zero]
      rfl
    · exact .nil
  · unfold S2
    rw [sums_one, List.map_map, List.map_congr_left]
    intro w hw
    have h1 := of_decide_eq_true (List.mem_filter.mp hw).2
    show sV r x (i, j) w = pwI r.prs (tx2 x (i, j)) + lo r 3 + fV r x m w
    unfold sV fV lpW
    rw [if_neg (by omega), if_pos h1]
    have : freeI (i, j) (tops w) = (m : Int) - wid (tops w) := by
      unfold freeI
      show j - i - 1 - _ = _
      omega
    rw [this, Int.mul_comm ((tops w).length : Int), Int.mul_comm ((m : Int) - wid (tops w))]
    omega
end Pf


namespace Pf
open PySem PySem.Spec PyProof.Rows L2
def SM (r : Rl) (x : Str) (y : Rw) : List Int := if y.1 = "shut" then SS r x y.2.1 y.2.2 else if y.1 = "one" then S1 r x (y.2.2 - y.2.1 + 1).toNat y.2.1 else if y.1 = "two" then S2 r x (y.2.2 - y.2.1 + 1).toNat y.2.1 else SO r x (y.2.2 - y.2.1 + 1).toNat y.2.1
theorem ne_os : ¬ (("one" : Str) = "shut") := by decide +kernel
theorem ne_ts : ¬ (("two" : Str) = "shut") := by decide +kernel
theorem ne_to : ¬ (("two" : Str) = "one") := by decide +kernel
theorem ne_ps : ¬ (("open" : Str) = "shut") := by decide +kernel
theorem ne_po : ¬ (("open" : Str) = "one") := by decide +kernel
theorem ne_pt : ¬ (("open" : Str) = "two") := by decide +kernel
theorem SM_shut (r : Rl) (x : Str) (i j : Int) : SM r x ("shut", i, j) = SS r x i j := if_pos rfl
theorem SM_one (r : Rl) (x : Str) (i j : Int) (n : Nat) (h : (j - i + 1).toNat = n) : SM r x ("one", i, j) = S1 r x n i := by
  rw [← h]
  exact (if_neg ne_os).trans (if_pos rfl)
theorem SM_two (r : Rl) (x : Str) (i j : Int) (n : Nat) (h : (j - i + 1).toNat = n) : SM r x ("two", i, j) = S2 r x n i := by
  rw [← h]
  exact (if_neg ne_ts).trans ((if_neg ne_to).trans (if_pos rfl))
theorem SM_open (r : Rl) (x : Str) (i j : Int) (n : Nat) (h : (j - i + 1).toNat = n) : SM r x ("open", i, j) = SO r x n i := by
  rw [← h]
  exact (if_neg ne_ps).trans ((if_neg ne_po).trans (if_neg ne_pt))
theorem ways_shut (r : Rl) (x : Str) (i j : Int) : waysOf r x ("shut", i, j) = shutW r x i j := if_pos rfl
theorem ways_one (r : Rl) (x : Str) (i j : Int) : waysOf r x ("one", i, j) = oneW r i j := (if_neg ne_os).trans (if_pos rfl)
theorem ways_two (r : Rl) (x : Str) (i j : Int) : waysOf r x ("two", i, j) = twoW r i j := (if_neg ne_ts).trans ((if_neg ne_to).trans (if_pos rfl))
theorem ways_open (r : Rl) (x : Str) (i j : Int) : waysOf r x ("open", i, j) = openW r i j := (if_neg ne_ps).trans ((if_neg ne_po).trans (if_neg ne_pt))
theorem way0 (T : Rw → List Int) (c : Int) : wayM T (c, []) = [c] := rfl
theorem way1 (T : Rw → List Int) (c : Int) (y : Rw) : wayM T (c, [y]) = sums [c] (T y) := rfl
theorem way2 (T : Rw → List Int) (c : Int) (y z : Rw) : wayM T (c, [y, z]) = sums (sums [c] (T y)) (T z) := rfl
theorem sums_nil (A : List Int) : sums A [] = [] := flat_nil A
theorem sums_zero (A : List Int) : sums [0] A = A := by
  rw [sums_one]
  simp
theorem flat_last {β : Type} {f : Nat → List β} : ∀ {n : Nat}, (∀ t, n = t + 1 → f t = []) → (List.range n).flatMap f = (List.range (n - 1)).flatMap f
  | 0, _ => rfl
  | n + 1, h => by
    rw [range_flat, h n rfl, List.append_nil]
    rfl
theorem open_core (r : Rl) (x : Str) (i z : Int) : (openW r i z).flatMap (wayM (SM r x)) = SM r x ("open", i, z) := by
  unfold openW
  split
  · rw [SM_open r x i z 0 (by omega), SO_zero]
    rfl
  · rw [SM_open r x i z ((z - i).toNat + 1) (by omega), SO_succ, List.flatMap_cons, way1, sums_zero, SM_open r x (i + 1) z (z - i).toNat (by omega), List.flatMap_map]
    congr 1
    rw [show (z + 1 - (i + 1)).toNat = (z - i).toNat by omega]
    refine flat_congr fun t ht => ?_
    have ht := List.mem_range.mp ht
    show wayM (SM r x) (lo r 8, [("shut", i, i + 1 + (t : Nat)), ("open", i + 1 + (t : Nat) + 1, z)]) = _
    rw [way2, SM_shut, SM_open r x _ z ((z - i).toNat - 1 - t) (by omega), show i + 1 + (t : Nat) + 1 = i + 2 + (t : Nat) by omega]
theorem br_core (r : Rl) (x : Str) (i j : Int) (n : Nat) (h : (j - i).toNat = n) : (brW (lo r 4) i j).flatMap (wayM (SM r x)) = (List.range n).flatMap fun t => sums (sums [lo r 4] (SS r x i (i + 1 + (t : Nat)))) (S1 r x (n - 1 - t) (i + 2 + (t : Nat))) := by
  rw [flat_last fun t e => by
    rw [show n - 1 - t = 0 by omega, S1_zero, sums_nil]]
  unfold brW
  rw [List.flatMap_map, show (j - (i + 1)).toNat = n - 1 by omega]
  refine flat_congr fun t ht => ?_
  have ht := List.mem_range.mp ht
  show wayM (SM r x) (lo r 4, [("shut", i, i + 1 + (t : Nat)), ("one", i + 1 + (t : Nat) + 1, j)]) = _
  rw [way2, SM_shut, SM_one r x _ j (n - 1 - t) (by omega), show i + 1 + (t : Nat) + 1 = i + 2 + (t : Nat) by omega]
theorem two_core (r : Rl) (x : Str) (i j : Int) (hij : i ≤ j) : (twoW r i j).flatMap (wayM (SM r x)) = SM r x ("two", i, j) := by
  unfold twoW fstW
  rw [List.flatMap_append, br_core r x i j _ rfl, SM_two r x i j ((j - i).toNat + 1) (by omega), S2_succ]
  congr 1
  split
  · show wayM (SM r x) (lo r 5, [("two", i + 1, j)]) ++ [] = _
    rw [way1, SM_two r x (i + 1) j (j - i).toNat (by omega), List.append_nil]
  · rw [show (j - i).toNat = 0 by omega, S2_zero, sums_nil]
    rfl
theorem one_core (r : Rl) (x : Str) (i j : Int) (hij : i ≤ j) : ((oneW r i j).flatMap (wayM (SM r x))).Perm (SM r x ("one", i, j)) := by
  unfold oneW fstW
  rw [List.flatMap_append, List.flatMap_append, br_core r x i j _ rfl, SM_one r x i j ((j - i).toNat + 1) (by omega)]
  refine List.Perm.trans ?_ (S1_succ r x (j - i).toNat i).symm
  rw [List.append_assoc, List.flatMap_map, show (j + 1 - (i + 1)).toNat = (j - i).toNat by omega]
  have e1 : (if i < j then [fstY r "one" i j] else []).flatMap (wayM (SM r x)) = sums [lo r 5] (S1 r x (j - i).toNat (i + 1)) := by
    split
    · show wayM (SM r x) (lo r 5, [("one", i + 1, j)]) ++ [] = _
      rw [way1, SM_one r x (i + 1) j (j - i).toNat (by omega), List.append_nil]
    · rw [show (j - i).toNat = 0 by omega, S1_zero, sums_nil]
      rfl
  have e2 : ((List.range (j - i).toNat).flatMap fun t => wayM (SM r x) (oneY r i j t)) = (List.range (j - i).toNat).flatMap (fun t => sums [lo r 4 + (((j - i).toNat - 1 - t : Nat) : Int) * lo r 5] (SS r x i (i + 1 + (t : Nat)))) := flat_congr fun t ht => by
    have ht := List.mem_range.mp ht
    show wayM (SM r x) (lo r 4 + (j - (i + 1 + (t : Nat))) * lo r 5, [("shut", i, i + 1 + (t : Nat))]) = _
    rw [way1, SM_shut, show (((j - i).toNat - 1 - t : Nat) : Int) = j - (i + 1 + (t : Nat)) by omega]
  rw [e1, e2]
theorem shut_core (r : Rl) (x : Str) (i j : Int) (hij : i < j) : ((shutW r x i j).flatMap (wayM (SM r x))).Perm (SM r x ("shut", i, j)) := by
  rw [SM_shut]
  unfold shutW
  by_cases hm : mayC r x i j = true
  · rw [if_pos hm]
    refine List.Perm.trans ?_ (SS_perm hm (j - i - 1).toNat (by omega)).symm
    rw [List.flatMap_append, List.flatMap_cons, List.append_assoc]
    have e1 : wayM (SM r x) (shZ r x i j) = [pwI r.prs (tx2 x (i, j)) + lpW r x (i, j) []] := rfl
    have e2 : (shI r x i j (j - (i + 1)).toNat).flatMap (wayM (SM r x)) = (pq (j - i - 1).toNat (i + 1)).flatMap fun p => sums [pwI r.prs (tx2 x (i, j)) + lpW r x (i, j) [p]] (SS r x p.1 p.2) := by
      unfold shI pq
      rw [List.flatMap_assoc, List.flatMap_assoc, show (j - (i + 1)).toNat = (j - i - 1).toNat by omega]
      refine flat_congr fun a ha => ?_
      have ha := List.mem_range.mp ha
      unfold shR
      rw [List.flatMap_map, List.flatMap_map, show (j - (i + 1 + (a : Nat) + 1)).toNat = (j - i - 1).toNat - 1 - a by omega]
      refine flat_congr fun c _ => ?_
      show wayM (SM r x) (pwI r.prs (tx2 x (i, j)) + lpW r x (i, j) [(i + 1 + (a : Nat), i + 1 + (a : Nat) + 1 + (c : Nat))], [("shut", i + 1 + (a : Nat), i + 1 + (a : Nat) + 1 + (c : Nat))]) = _
      rw [way1, SM_shut]
    have e3 : (if i + 1 < j then [shF r x i j] else []).flatMap (wayM (SM r x)) = sums [pwI r.prs (tx2 x (i, j)) + lo r 3] (S2 r x (j - i - 1).toNat (i + 1)) := by
      split
      · show wayM (SM r x) (pwI r.prs (tx2 x (i, j)) + lo r 3, [("two", i + 1, j - 1)]) ++ [] = _
        rw [way1, SM_two r x (i + 1) (j - 1) (j - i - 1).toNat (by omega), List.append_nil]
      · rw [show (j - i - 1).toNat = 0 by omega, S2_zero, sums_nil]
        rfl
    rw [e1, e2, e3]
  · rw [if_neg hm]
    unfold SS
    rw [if_neg hm]
    exact .nil
/-! ### which rows there are, and which lead to which -/
inductive Vr (L : Nat) : Rw → Prop
  | shut {i j : Int} : 0 ≤ i → i < j → j < L → Vr L ("shut", i, j)
  | one {i j : Int} : 0 ≤ i → i ≤ j → j < L → Vr L ("one", i, j)
  | two {i j : Int} : 0 ≤ i → i ≤ j → j < L → Vr L ("two", i, j)
  | opn {i : Int} : 0 ≤ i → i ≤ L → Vr L ("open", i, (L : Int) - 1)
theorem core {r : Rl} {x : Str} {L : Nat} {y : Rw} (h : Vr L y) : ((waysOf r x y).flatMap (wayM (SM r x))).Perm (SM r x y) := by
  cases h with
  | shut _ h _ => rw [ways_shut]; exact shut_core r x _ _ h
  | one _ h _ => rw [ways_one]; exact one_core r x _ _ h
  | two _ h _ => rw [ways_two, two_core r x _ _ h]
  | opn _ _ => rw [ways_open, open_core]
theorem foldM_perm {T S : Rw → List Int} : ∀ {rs : List Rw} {A B : List Int}, (∀ z ∈ rs, (T z).Perm (S z)) → A.Perm B → (rs.foldl (fun acc r => sums acc (T r)) A).Perm (rs.foldl (fun acc r => sums acc (S r)) B)
  | [], _, _, _, p => p
  | z :: rs, A, B, h, p => foldM_perm (rs := rs) (fun y hy => h y (List.mem_cons_of_mem _ hy)) (sums_perm p (h z (List.mem_cons_self ..)))
theorem core_of {r : Rl} {x : Str} {L : Nat} {y : Rw} {T : Rw → List Int} (h : Vr L y) (hT : ∀ wy ∈ waysOf r x y, ∀ z ∈ wy.2, (T z).Perm (SM r x z)) : ((waysOf r x y).flatMap (wayM T)).Perm (SM r x y) :=
  (flat_perm2 fun wy hw => foldM_perm (hT wy hw) (.refl _)).trans (core h)
theorem Vr.ok {L : Nat} {y : Rw} (h : Vr L y) : RwOk L y := by
  cases h with
  | @shut i j h1 h2 h3 => exact ⟨h1, by show i ≤ (L : Int); omega, by show -1 ≤ j; omega, h3, fun _ => h2⟩
  | @one i j h1 h2 h3 => exact ⟨h1, by show i ≤ (L : Int); omega, by show -1 ≤ j; omega, h3, fun z => absurd z ne_os⟩
  | @two i j h1 h2 h3 => exact ⟨h1, by show i ≤ (L : Int); omega, by show -1 ≤ j; omega, h3, fun z => absurd z ne_ts⟩
  | opn h1 h2 => exact ⟨h1, h2, by show -1 ≤ (L : Int) - 1; omega, by show (L : Int) - 1 < L; omega, fun z => absurd z ne_ps⟩
theorem SM_len {r : Rl} {x : Str} {L : Nat} {y : Rw} (hL : L ≤ 12) (h : Vr L y) : (SM r x y).length ≤ 15511 := by
  cases h with
  | @shut i j h1 h2 h3 =>
    rw [SM_shut]
    unfold SS
    split
    · rw [List.length_map]
      exact WA_len r x (by omega) _
    · exact Nat.zero_le _
  | @one i j h1 h2 h3 =>
    rw [SM_one r x i j _ rfl]
    unfold S1
    rw [List.length_map]
    exact Nat.le_trans (List.length_filter_le _ _) (WA_len r x (by omega) _)
  | @two i j h1 h2 h3 =>
    rw [SM_two r x i j _ rfl]
    unfold S2
    rw [List.length_map]
    exact Nat.le_trans (List.length_filter_le _ _) (WA_len r x (by omega) _)
  | @opn i h1 h2 =>
    rw [SM_open r x i _ _ rfl]
    unfold SO
    rw [List.length_map]
    exact WA_len r x (by omega) _
/-- where the rows of ways stand -/
def LeadTo (L : Nat) (i k : Int) (z : Rw) : Prop := (Vr L z ∧ i < z.2.1) ∨ ∃ q, i < q ∧ q ≤ k ∧ z = mkR "shut" i q
theorem lead_shut {r : Rl} {x : Str} {L : Nat} {i j : Int} (h0 : 0 ≤ i) (h1 : i < j) (h2 : j < L) : ∀ wy ∈ shutW r x i j, ∀ z ∈ wy.2, Vr L z ∧ i < z.2.1 := by
  intro wy hw z hz
  unfold shutW at hw
  split at hw
  · rcases List.mem_append.mp hw with hw | hw
    · rcases List.mem_cons.mp hw with rfl | hw
      · cases hz
      · unfold shI at hw
        obtain ⟨a, ha, hw⟩ := List.mem_flatMap.mp hw
        unfold shR at hw
        obtain ⟨c, hc, rfl⟩ := List.mem_map.mp hw
        have ha := List.mem_range.mp ha
        have hc := List.mem_range.mp hc
        obtain rfl := List.mem_singleton.mp (show z ∈ [(("shut" : Str), i + 1 + (a : Int), i + 1 + (a : Int) + 1 + (c : Int))] from hz)
        exact ⟨.shut (by omega) (by omega) (by omega), by show i < i + 1 + (a : Int); omega⟩
    · split at hw
      · obtain rfl := List.mem_singleton.mp hw
        obtain rfl := List.mem_singleton.mp (show z ∈ [(("two" : Str), i + 1, j - 1)] from hz)
        exact ⟨.two (by omega) (by omega) (by omega), by show i < i + 1; omega⟩
      · cases hw
  · cases hw
theorem lead_br {r : Rl} {L : Nat} {i j b : Int} (h0 : 0 ≤ i) (h1 : i ≤ j) (h2 : j < L) : ∀ wy ∈ brW b i j, ∀ z ∈ wy.2, LeadTo L i j z := by
  intro wy hw z hz
  unfold brW at hw
  obtain ⟨t, ht, rfl⟩ := List.mem_map.mp hw
  have ht := List.mem_range.mp ht
  rcases List.mem_cons.mp (show z ∈ [(("shut" : Str), i, i + 1 + (t : Int)), (("one" : Str), i + 1 + (t : Int) + 1, j)] from hz) with rfl | hz
  · exact .inr ⟨_, by omega, by omega, rfl⟩
  · obtain rfl := List.mem_singleton.mp hz
    exact .inl ⟨.one (by omega) (by omega) h2, by show i < i + 1 + (t : Int) + 1; omega⟩
theorem lead_two {r : Rl} {L : Nat} {i j : Int} (h0 : 0 ≤ i) (h1 : i ≤ j) (h2 : j < L) : ∀ wy ∈ twoW r i j, ∀ z ∈ wy.2, LeadTo L i j z := by
  intro wy hw z hz
  unfold twoW fstW at hw
  rcases List.mem_append.mp hw with hw | hw
  · split at hw
    · obtain rfl := List.mem_singleton.mp hw
      obtain rfl := List.mem_singleton.mp (show z ∈ [(("two" : Str), i + 1, j)] from hz)
      exact .inl ⟨.two (by omega) (by omega) h2, by show i < i + 1; omega⟩
    · cases hw
  · exact lead_br (r := r) h0 h1 h2 wy hw z hz
theorem lead_one {r : Rl} {L : Nat} {i j : Int} (h0 : 0 ≤ i) (h1 : i ≤ j) (h2 : j < L) : ∀ wy ∈ oneW r i j, ∀ z ∈ wy.2, LeadTo L i j z := by
  intro wy hw z hz
  unfold oneW fstW at hw
  rcases List.mem_append.mp hw with hw | hw
  · rcases List.mem_append.mp hw with hw | hw
    · split at hw
      · obtain rfl := List.mem_singleton.mp hw
        obtain rfl := List.mem_singleton.mp (show z ∈ [(("one" : Str), i + 1, j)] from hz)
        exact .inl ⟨.one (by omega) (by omega) h2, by show i < i + 1; omega⟩
      · cases hw
    · obtain ⟨t, ht, rfl⟩ := List.mem_map.mp hw
      have ht := List.mem_range.mp ht
      obtain rfl := List.mem_singleton.mp (show z ∈ [(("shut" : Str), i, i + 1 + (t : Int))] from hz)
      exact .inr ⟨_, by omega, by omega, rfl⟩
  · exact lead_br (r := r) h0 h1 h2 wy hw z hz
theorem lead_open {r : Rl} {L : Nat} {i : Int} (h0 : 0 ≤ i) (h1 : i ≤ L) : ∀ wy ∈ openW r i ((L : Int) - 1), ∀ z ∈ wy.2, LeadTo L i ((L : Int) - 1) z := by
  intro wy hw z hz
  unfold openW at hw
  split at hw
  · obtain rfl := List.mem_singleton.mp hw
    cases hz
  · rcases List.mem_cons.mp hw with rfl | hw
    · obtain rfl := List.mem_singleton.mp (show z ∈ [(("open" : Str), i + 1, (L : Int) - 1)] from hz)
      exact .inl ⟨.opn (by omega) (by omega), by show i < i + 1; omega⟩
    · obtain ⟨t, ht, rfl⟩ := List.mem_map.mp hw
      have ht := List.mem_range.mp ht
      rcases List.mem_cons.mp (show z ∈ [(("shut" : Str), i, i + 1 + (t : Int)), (("open" : Str), i + 1 + (t : Int) + 1, (L : Int) - 1)] from hz) with rfl | hz
      · exact .inr ⟨_, by omega, by omega, rfl⟩
      · obtain rfl := List.mem_singleton.mp hz
        exact .inl ⟨.opn (by omega) (by omega), by show i < i + 1 + (t : Int) + 1; omega⟩
/-! ### the rows in turn -/
def Lead (r : Rl) (x : Str) (L : Nat) : List Rw → List Rw → Prop
  | _, [] => True
  | kn, y :: ys => (Vr L y ∧ ∀ wy ∈ waysOf r x y, ∀ z ∈ wy.2, z ∈ kn) ∧ Lead r x L (kn ++ [y]) ys
theorem lead_app {r : Rl} {x : Str} {L : Nat} : ∀ {a kn b : List Rw}, Lead r x L kn a → Lead r x L (kn ++ a) b → Lead r x L kn (a ++ b)
  | [], kn, b, _, h => by rw [List.append_nil] at h; exact h
  | y :: a, kn, b, h1, h2 => by
    refine ⟨h1.1, lead_app h1.2 ?_⟩
    rw [List.append_assoc]
    exact h2
theorem ways_short {r : Rl} {x : Str} {L : Nat} {y : Rw} (h : Vr L y) : ∀ wy ∈ waysOf r x y, wy.2.length ≤ 2 := by
  intro wy hw
  have br : ∀ {b i j : Int}, ∀ wy ∈ brW b i j, wy.2.length ≤ 2 := fun wy hw => by
    unfold brW at hw
    obtain ⟨t, ht, rfl⟩ := List.mem_map.mp hw
    exact Nat.le_refl 2
  cases h with
  | shut _ _ _ =>
    rw [ways_shut] at hw
    unfold shutW at hw
    split at hw
    · rcases List.mem_append.mp hw with hw | hw
      · rcases List.mem_cons.mp hw with rfl | hw
        · exact Nat.zero_le _
        · unfold shI at hw
          obtain ⟨a, ha, hw⟩ := List.mem_flatMap.mp hw
          unfold shR at hw
          obtain ⟨c, hc, rfl⟩ := List.mem_map.mp hw
          exact (show 1 ≤ 2 by decide)
      · split at hw
        · obtain rfl := List.mem_singleton.mp hw
          exact (show 1 ≤ 2 by decide)
        · cases hw
    · cases hw
  | one _ _ _ =>
    rw [ways_one] at hw
    unfold oneW fstW at hw
    rcases List.mem_append.mp hw with hw | hw
    · rcases List.mem_append.mp hw with hw | hw
      · split at hw
        · obtain rfl := List.mem_singleton.mp hw
          exact (show 1 ≤ 2 by decide)
        · cases hw
      · obtain ⟨t, ht, rfl⟩ := List.mem_map.mp hw
        exact (show 1 ≤ 2 by decide)
    · exact br wy hw
  | two _ _ _ =>
    rw [ways_two] at hw
    unfold twoW fstW at hw
    rcases List.mem_append.mp hw with hw | hw
    · split at hw
      · obtain rfl := List.mem_singleton.mp hw
        exact (show 1 ≤ 2 by decide)
      · cases hw
    · exact br wy hw
  | opn _ _ =>
    rw [ways_open] at hw
    unfold openW at hw
    split at hw
    · obtain rfl := List.mem_singleton.mp hw
      exact Nat.zero_le _
    · rcases List.mem_cons.mp hw with rfl | hw
      · exact (show 1 ≤ 2 by decide)
      · obtain ⟨t, ht, rfl⟩ := List.mem_map.mp hw
        exact Nat.le_refl 2
theorem len_flat {α β : Type} {f : α → List β} : ∀ {l : List α} {y : α}, y ∈ l → (f y).length ≤ (l.flatMap f).length
  | [], _, h => by cases h
  | z :: l, y, h => by
    rw [List.flatMap_cons, List.length_append]
    rcases List.mem_cons.mp h with rfl | h
    · omega
    · have := len_flat (f := f) h
      omega
def KnP (r : Rl) (x : Str) (kn : List Rw) : Prop := ∀ z ∈ kn, (tabT r x kn z).Perm (SM r x z)
theorem okRow {r : Rl} {x : Str} {kn : List Rw} {y : Rw} (hx : x.length ≤ 12) (hv : Vr x.length y) (hk : KnP r x kn) (hV : ∀ z ∈ kn, Vr x.length z) (hin : ∀ wy ∈ waysOf r x y, ∀ z ∈ wy.2, z ∈ kn) : OkRow r x kn y ∧ KnP r x (kn ++ [y]) := by
  have hc := core_of (T := tabT r x kn) hv fun wy hw z hz => hk z (hin wy hw z hz)
  have hl := hc.length_eq
  have hl2 := SM_len (r := r) (x := x) hx hv
  have tl : ∀ z ∈ kn, (tabT r x kn z).length ≤ 15511 := fun z hz => by
    rw [(hk z hz).length_eq]
    exact SM_len hx (hV z hz)
  refine ⟨⟨hv.ok, fun wy hw => ⟨hin wy hw, fun i => ?_, fun z hz => ?_⟩, by omega⟩, fun z hz => ?_⟩
  · have h1 := len_flat (f := wayM (tabT r x kn)) hw
    have h2 := ways_short hv wy hw
    obtain ⟨c, rs⟩ := wy
    match i, rs, h1, h2, hin (c, rs) hw with
    | 0, _, _, _, _ =>
      rw [List.take_zero]
      exact (show 1 < 1000000 by decide)
    | 1, [], _, _, _ => exact (show 1 < 1000000 by decide)
    | 1, z :: rs, _, _, hi =>
      show (foldM (tabT r x kn) c [z]).length < 1000000
      have := tl z (hi z (List.mem_cons_self ..))
      show (sums [c] (tabT r x kn z)).length < 1000000
      rw [sums_len]
      show 1 * _ < _
      omega
    | i + 2, rs, h1, h2, _ =>
      rw [List.take_of_length_le (show rs.length ≤ i + 2 by exact Nat.le_trans h2 (by omega))]
      have h3 : (foldM (tabT r x kn) c rs).length ≤ _ := h1
      show (foldM (tabT r x kn) c rs).length < 1000000
      omega
  · have := tl z (hin wy hw z hz)
    omega
  · rw [tabT_snoc]
    unfold stepT
    by_cases e : z = y
    · rw [if_pos e, e]
      exact hc
    · rw [if_neg e]
      rcases List.mem_append.mp hz with hz | hz
      · exact hk z hz
      · exact absurd (List.mem_singleton.mp hz) e
theorem good_lead {r : Rl} {x : Str} (hx : x.length ≤ 12) : ∀ {ys kn : List Rw}, KnP r x kn → (∀ z ∈ kn, Vr x.length z) → Lead r x x.length kn ys → GoodR r x kn ys ∧ KnP r x (kn ++ ys)
  | [], kn, hk, _, _ => ⟨trivial, by rw [List.append_nil]; exact hk⟩
  | y :: ys, kn, hk, hV, h => by
    have h1 := okRow hx h.1.1 hk hV h.1.2
    have h2 := good_lead hx (ys := ys) h1.2 (fun z hz => by
      rcases List.mem_append.mp hz with hz | hz
      · exact hV z hz
      · rw [List.mem_singleton.mp hz]
        exact h.1.1) h.2
    refine ⟨⟨h1.1, h2.1⟩, ?_⟩
    have := h2.2
    rw [List.append_assoc] at this
    exact this
end Pf


namespace Pf
open PySem PySem.Spec PyProof.Rows L2
/-- what stands in a block up to a column -/
def Inner (i : Int) (u : Int) (kn : List Rw) : Prop := ∀ q : Int, q < i + u → (i < q → mkR "shut" i q ∈ kn) ∧ (i ≤ q → mkR "one" i q ∈ kn ∧ mkR "two" i q ∈ kn)
theorem lead_in {L : Nat} {i k : Int} {kn : List Rw} (h1 : ∀ z, Vr L z → i < z.2.1 → z ∈ kn) (h2 : ∀ q, i < q → q ≤ k → mkR "shut" i q ∈ kn) {z : Rw} (h : LeadTo L i k z) : z ∈ kn := by
  rcases h with ⟨h, g⟩ | ⟨q, g1, g2, rfl⟩
  · exact h1 z h g
  · exact h2 q g1 g2
theorem lead_col {r : Rl} {x : Str} {L : Nat} {i : Int} {u : Nat} {kn : List Rw} (i0 : 0 ≤ i) (hu : i + (u : Int) < L) (h1 : ∀ z, Vr L z → i < z.2.1 → z ∈ kn) (h2 : Inner i u kn) : Lead r x L kn (rowsJ i u) ∧ Inner i ((u + 1 : Nat) : Int) (kn ++ rowsJ i u) := by
  have up : ∀ {kn' : List Rw}, (∀ z ∈ kn, z ∈ kn') → ∀ z, Vr L z → i < z.2.1 → z ∈ kn' := fun h z hv hz => h z (h1 z hv hz)
  refine ⟨?_, fun q hq => ?_⟩
  · unfold rowsJ
    have tail : ∀ {kn' : List Rw}, (∀ z ∈ kn, z ∈ kn') → (∀ q, i < q → q ≤ i + (u : Int) → mkR "shut" i q ∈ kn') → Lead r x L kn' [mkR "one" i (i + (u : Int)), mkR "two" i (i + (u : Int))] := fun {kn'} hs hq => by
      refine ⟨⟨.one i0 (by omega) hu, fun wy hw z hz => ?_⟩, ⟨⟨.two i0 (by omega) hu, fun wy hw z hz => ?_⟩, trivial⟩⟩
      · rw [ways_one] at hw
        exact lead_in (up hs) hq (lead_one i0 (by omega) hu wy hw z hz)
      · rw [ways_two] at hw
        exact List.mem_append_left _ (lead_in (up hs) hq (lead_two i0 (by omega) hu wy hw z hz))
    split
    · rename_i hlt
      refine ⟨⟨.shut i0 hlt hu, fun wy hw z hz => ?_⟩, ?_⟩
      · rw [ways_shut] at hw
        have := lead_shut i0 hlt hu wy hw z hz
        exact h1 z this.1 this.2
      · refine tail (fun z hz => List.mem_append_left _ hz) fun q g1 g2 => ?_
        by_cases e : q = i + (u : Int)
        · rw [e]
          exact List.mem_append_right _ (List.mem_singleton.mpr rfl)
        · exact List.mem_append_left _ ((h2 q (by omega)).1 g1)
    · exact tail (fun z hz => hz) fun q g1 g2 => absurd g1 (by omega)
  · by_cases e : q = i + (u : Int)
    · subst e
      unfold rowsJ
      refine ⟨fun g => List.mem_append_right _ (List.mem_append_left _ ?_), fun _ => ⟨List.mem_append_right _ (List.mem_append_right _ (List.mem_cons_self ..)), List.mem_append_right _ (List.mem_append_right _ (List.mem_cons_of_mem _ (List.mem_cons_self ..)))⟩⟩
      rw [if_pos g]
      exact List.mem_singleton.mpr rfl
    · have := h2 q (by omega)
      exact ⟨fun g => List.mem_append_left _ (this.1 g), fun g => ⟨List.mem_append_left _ (this.2 g).1, List.mem_append_left _ (this.2 g).2⟩⟩
theorem lead_cols {r : Rl} {x : Str} {L : Nat} {i : Int} {kn : List Rw} (i0 : 0 ≤ i) (h1 : ∀ z, Vr L z → i < z.2.1 → z ∈ kn) : ∀ u : Nat, i + (u : Int) ≤ L → Lead r x L kn ((List.range u).flatMap (rowsJ i)) ∧ Inner i u (kn ++ (List.range u).flatMap (rowsJ i))
  | 0, _ => ⟨trivial, fun q hq => ⟨fun g => absurd g (by omega), fun g => absurd g (by omega)⟩⟩
  | u + 1, hu => by
    have ih := lead_cols (r := r) (x := x) i0 h1 u (by omega)
    have h := lead_col (r := r) (x := x) i0 (by omega) (fun z hv hz => List.mem_append_left _ (h1 z hv hz)) ih.2
    rw [range_flat, ← List.append_assoc]
    exact ⟨lead_app ih.1 h.1, h.2⟩
theorem lead_block {r : Rl} {x : Str} {L : Nat} {i : Int} {kn : List Rw} (i0 : 0 ≤ i) (iL : i ≤ L) (h1 : ∀ z, Vr L z → i < z.2.1 → z ∈ kn) : Lead r x L kn (rowsI L i) ∧ ∀ z, Vr L z → i ≤ z.2.1 → z ∈ kn ++ rowsI L i := by
  have h := lead_cols (r := r) (x := x) i0 h1 ((L : Int) - i).toNat (by omega)
  have hq : ∀ q, i < q → q ≤ (L : Int) - 1 → mkR "shut" i q ∈ kn ++ (List.range ((L : Int) - i).toNat).flatMap (rowsJ i) := fun q g1 g2 => (h.2 q (by omega)).1 g1
  unfold rowsI
  refine ⟨lead_app h.1 ⟨⟨.opn i0 iL, fun wy hw z hz => ?_⟩, trivial⟩, fun z hv hz => ?_⟩
  · rw [ways_open] at hw
    exact lead_in (fun z hv hz => List.mem_append_left _ (h1 z hv hz)) hq (lead_open i0 iL wy hw z hz)
  · by_cases e : i < z.2.1
    · exact List.mem_append_left _ (h1 z hv e)
    · rw [← List.append_assoc]
      cases hv with
      | @shut a b g1 g2 g3 =>
        obtain rfl : a = i := by
          have : i ≤ a := hz
          have : ¬ i < a := e
          omega
        exact List.mem_append_left _ ((h.2 b (by omega)).1 g2)
      | @one a b g1 g2 g3 =>
        obtain rfl : a = i := by
          have : i ≤ a := hz
          have : ¬ i < a := e
          omega
        exact List.mem_append_left _ ((h.2 b (by omega)).2 g2).1
      | @two a b g1 g2 g3 =>
        obtain rfl : a = i := by
          have : i ≤ a := hz
          have : ¬ i < a := e
          omega
        exact List.mem_append_left _ ((h.2 b (by omega)).2 g2).2
      | @opn a g1 g2 =>
        obtain rfl : a = i := by
          have : i ≤ a := hz
          have : ¬ i < a := e
          omega
        exact List.mem_append_right _ (List.mem_singleton.mpr rfl)
theorem Vr.low {L : Nat} {z : Rw} (h : Vr L z) : 0 ≤ z.2.1 ∧ z.2.1 ≤ L := by
  have := h.ok
  exact ⟨this.1, this.2.1⟩
theorem lead_all (r : Rl) (x : Str) (L : Nat) : ∀ t : Nat, t ≤ L + 1 → Lead r x L [] ((List.range t).flatMap fun t => rowsI L ((L : Int) + (t : Nat) * (-1))) ∧ ∀ z, Vr L z → (L : Int) - t < z.2.1 → z ∈ (List.range t).flatMap fun t => rowsI L ((L : Int) + (t : Nat) * (-1))
  | 0, _ => ⟨trivial, fun z hv hz => absurd hz (by have := hv.low; omega)⟩
  | t + 1, ht => by
    have ih := lead_all r x L t (by omega)
    have h := lead_block (r := r) (x := x) (L := L) (i := (L : Int) + (t : Nat) * (-1)) (by omega) (by omega) (fun z hv hz => ih.2 z hv (by omega))
    rw [range_flat]
    refine ⟨lead_app ih.1 (by rw [List.nil_append]; exact h.1), fun z hv hz => h.2 z hv (by omega)⟩
theorem rows_good {r : Rl} {x : Str} (hx : x.length ≤ 12) : Good r x (rowsL x.length) ∧ (tabT r x (rowsL x.length) (mkR "open" 0 ((x.length : Int) - 1))).Perm ((WA r x x.length 0).map (oV r x)) := by
  have h := (lead_all r x x.length (x.length + 1) (Nat.le_refl _)).1
  have g := good_lead (r := r) hx (kn := []) (fun z hz => by cases hz) (fun z hz => by cases hz) h
  refine ⟨good_of g.1, ?_⟩
  have e := g.2 _ (whole_in x.length)
  rw [List.nil_append] at e
  refine e.trans ?_
  show (SM r x ("open", 0, (x.length : Int) - 1)).Perm _
  rw [SM_open r x 0 _ x.length (by omega)]
  exact .refl _
end Pf


namespace Pf
open PySem PySem.Spec PyProof.Rows L2
/-! ### all foldings of a stretch, told by what they are -/
structure Fo4 (r : Rl) (x : Str) (a b : Int) (q : Fo) : Prop where
  srt : q.Pairwise fun y z => y.1 < z.1
  inn : ∀ y ∈ q, a ≤ y.1 ∧ y.1 < y.2 ∧ y.2 < b
  may : ∀ y ∈ q, mayC r x y.1 y.2 = true
  sep : ∀ y ∈ q, ∀ z ∈ q, y.1 < z.1 → z.2 < y.2 ∨ y.2 < z.1
theorem fo4_of (r : Rl) (x : Str) : ∀ (n : Nat) (a : Int), ∀ q ∈ WA r x n a, Fo4 r x a (a + n) q := by
  intro n
  induction n using Nat.strongRecOn with
  | ind n ih =>
    intro a q hq
    match n, ih, hq with
    | 0, _, hq =>
      rw [WA_zero, List.mem_singleton] at hq
      subst hq
      exact ⟨.nil, (fun y hy => by cases hy), (fun y hy => by cases hy), (fun y hy => by cases hy)⟩
    | n + 1, ih, hq =>
      rcases WA_cases hq with h | ⟨t, one, other, ht, hm, h1, h2, rfl⟩
      · have := ih n (by omega) _ _ h
        exact ⟨this.srt, fun y hy => by have := this.inn y hy; omega, this.may, this.sep⟩
      · have f1 := ih t (by omega) _ _ h1
        have f2 := ih (n - 1 - t) (by omega) _ _ h2
        refine ⟨?_, fun y hy => ?_, fun y hy => ?_, fun y hy z hz hlt => ?_⟩
        · refine List.pairwise_cons.mpr ⟨fun z hz => ?_, List.pairwise_append.mpr ⟨f1.srt, f2.srt, fun y hy z hz => ?_⟩⟩
          · rcases List.mem_append.mp hz with hz | hz
            · have := f1.inn z hz
              show a < z.1
              omega
            · have := f2.inn z hz
              show a < z.1
              omega
          · have := f1.inn y hy
            have := f2.inn z hz
            omega
        · rcases List.mem_cons.mp hy with rfl | hy
          · show a ≤ a ∧ a < a + 1 + (t : Nat) ∧ a + 1 + (t : Nat) < a + (n + 1 : Nat)
            omega
          · rcases List.mem_append.mp hy with hy | hy
            · have := f1.inn y hy
              omega
            · have := f2.inn y hy
              omega
        · rcases List.mem_cons.mp hy with rfl | hy
          · exact hm
          · rcases List.mem_append.mp hy with hy | hy
            · exact f1.may y hy
            · exact f2.may y hy
        · rcases List.mem_cons.mp hy with rfl | hy
          · rcases List.mem_cons.mp hz with rfl | hz
            · omega
            · rcases List.mem_append.mp hz with hz | hz
              · have := f1.inn z hz
                left
                show z.2 < a + 1 + (t : Nat)
                omega
              · have := f2.inn z hz
                right
                show a + 1 + (t : Nat) < z.1
                omega
          · rcases List.mem_cons.mp hz with rfl | hz
            · have hlt : y.1 < a := hlt
              rcases List.mem_append.mp hy with hy | hy
              · have := f1.inn y hy
                omega
              · have := f2.inn y hy
                omega
            · rcases List.mem_append.mp hy with hy | hy
              · rcases List.mem_append.mp hz with hz | hz
                · exact f1.sep y hy z hz hlt
                · have := f1.inn y hy
                  have := f2.inn z hz
                  right
                  omega
              · rcases List.mem_append.mp hz with hz | hz
                · have := f1.inn z hz
                  have := f2.inn y hy
                  omega
                · exact f2.sep y hy z hz hlt
theorem split_at (k : Int) : ∀ {t : Fo}, t.Pairwise (fun y z => y.1 < z.1) → t = t.filter (fun z => decide (z.1 < k)) ++ t.filter fun z => decide (¬ z.1 < k)
  | [], _ => rfl
  | y :: t, h => by
    have hp := List.pairwise_cons.mp h
    by_cases c : y.1 < k
    · rw [List.filter_cons_of_pos (by simpa using c), List.filter_cons_of_neg (by simpa using c), List.cons_append, ← split_at k hp.2]
    · rw [List.filter_cons_of_neg (by simpa using c), List.filter_cons_of_pos (by simpa using c)]
      have e1 : t.filter (fun z => decide (z.1 < k)) = [] := filter_none fun z hz => decide_eq_false (by have := hp.1 z hz; omega)
      have e2 : t.filter (fun z => decide (¬ z.1 < k)) = t := filter_all fun z hz => decide_eq_true (by have := hp.1 z hz; omega)
      rw [e1, e2]
      rfl
theorem Fo4.sub {r : Rl} {x : Str} {a b a' b' : Int} {q q' : Fo} (h : Fo4 r x a b q) (hs : q'.Sublist q) (hin : ∀ y ∈ q', a' ≤ y.1 ∧ y.1 < y.2 ∧ y.2 < b') : Fo4 r x a' b' q' :=
  ⟨h.srt.sublist hs, hin, fun y hy => h.may y (hs.subset hy), fun y hy z hz => h.sep y (hs.subset hy) z (hs.subset hz)⟩
theorem of_fo4 (r : Rl) (x : Str) : ∀ (n : Nat) (a : Int) (q : Fo), Fo4 r x a (a + n) q → q ∈ WA r x n a := by
  intro n
  induction n using Nat.strongRecOn with
  | ind n ih =>
    intro a q hq
    match n, ih, hq with
    | 0, _, hq =>
      cases q with
      | nil => exact List.mem_cons_self ..
      | cons y t =>
        have := hq.inn y (List.mem_cons_self ..)
        omega
    | n + 1, ih, hq =>
      rw [WA_succ]
      cases q with
      | nil =>
        refine List.mem_append_left _ ?_
        obtain ⟨t, e⟩ := WA_head r x n (a + 1)
        rw [e]
        exact List.mem_cons_self ..
      | cons y t =>
        have hp := List.pairwise_cons.mp hq.srt
        have hy := hq.inn y (List.mem_cons_self ..)
        by_cases c : y.1 = a
        · obtain ⟨i, k⟩ := y
          have c : i = a := c
          subst c
          have hy : i ≤ i ∧ i < k ∧ k < i + ((n + 1 : Nat) : Int) := hy
          obtain ⟨m, hm⟩ : ∃ m : Nat, k = i + 1 + (m : Nat) := ⟨(k - i - 1).toNat, by omega⟩
          have s1 : (t.filter fun z => decide (z.1 < k)).Sublist t := List.filter_sublist
          have s2 : (t.filter fun z => decide (¬ z.1 < k)).Sublist t := List.filter_sublist
          have o1 := ih m (by omega) (i + 1) (t.filter fun z => decide (z.1 < k)) (hq.sub (s1.trans (List.sublist_cons_self ..)) fun z hz => by
            have hzt := s1.subset hz
            have hzk : z.1 < k := of_decide_eq_true (List.mem_filter.mp hz).2
            have h1 := hq.inn z (List.mem_cons_of_mem _ hzt)
            have h2 : i < z.1 := hp.1 z hzt
            have h3 : z.2 < k ∨ k < z.1 := hq.sep (i, k) (List.mem_cons_self ..) z (List.mem_cons_of_mem _ hzt) h2
            omega)
          have o2 := ih (n - 1 - m) (by omega) (i + 2 + (m : Nat)) (t.filter fun z => decide (¬ z.1 < k)) (hq.sub (s2.trans (List.sublist_cons_self ..)) fun z hz => by
            have hzt := s2.subset hz
            have hzk : ¬ z.1 < k := of_decide_eq_true (List.mem_filter.mp hz).2
            have h1 := hq.inn z (List.mem_cons_of_mem _ hzt)
            have h2 : i < z.1 := hp.1 z hzt
            have h3 : z.2 < k ∨ k < z.1 := hq.sep (i, k) (List.mem_cons_self ..) z (List.mem_cons_of_mem _ hzt) h2
            omega)
          refine List.mem_append_right _ (List.mem_flatMap.mpr ⟨m, List.mem_range.mpr (by omega), ?_⟩)
          have hmay : mayC r x i (i + 1 + (m : Nat)) = true := by
            rw [← hm]
            exact hq.may (i, k) (List.mem_cons_self ..)
          unfold seg
          rw [if_pos hmay]
          refine List.mem_flatMap.mpr ⟨_, o1, List.mem_map.mpr ⟨_, o2, ?_⟩⟩
          rw [← split_at k hp.2, hm]
        · refine List.mem_append_left _ (ih n (by omega) (a + 1) _ ⟨hq.srt, fun z hz => ?_, hq.may, hq.sep⟩)
          have h1 := hq.inn z hz
          rcases List.mem_cons.mp hz with rfl | hz
          · omega
          · have h2 := hp.1 z hz
            omega
theorem WA_iff (r : Rl) (x : Str) (n : Nat) (a : Int) (q : Fo) : q ∈ WA r x n a ↔ Fo4 r x a (a + n) q := ⟨fo4_of r x n a q, of_fo4 r x n a q⟩
/-- none stands twice -/
theorem WA_nd (r : Rl) (x : Str) : ∀ (n : Nat) (a : Int), (WA r x n a).Nodup := by
  intro n
  induction n using Nat.strongRecOn with
  | ind n ih =>
    intro a
    match n, ih with
    | 0, _ => exact List.pairwise_singleton _ _
    | n + 1, ih =>
      rw [WA_succ]
      refine List.pairwise_append.mpr ⟨ih n (by omega) (a + 1), List.pairwise_flatMap.mpr ⟨fun t ht => ?_, ?_⟩, fun q hq q' hq' => ?_⟩
      · have ht := List.mem_range.mp ht
        unfold seg
        split
        · refine List.pairwise_flatMap.mpr ⟨fun one h1 => List.pairwise_map.mpr ?_, ?_⟩
          · refine (ih (n - 1 - t) (by omega) (a + 2 + t)).imp fun hne e => hne ?_
            injection e with _ e
            exact List.append_cancel_left e
          · refine List.Pairwise.imp_of_mem (R := (· ≠ ·)) (fun {o1 o2} m1 m2 hne => ?_) (ih t (by omega) (a + 1))
            rintro u hu u' hu' rfl
            obtain ⟨w1, hw1, e1⟩ := List.mem_map.mp hu
            obtain ⟨w2, hw2, e2⟩ := List.mem_map.mp hu'
            rw [← e2] at e1
            injection e1 with _ e1
            refine hne ?_
            have g1 := fo4_of r x t (a + 1) o1 m1
            have g2 := fo4_of r x t (a + 1) o2 m2
            have v1 := fo4_of r x (n - 1 - t) (a + 2 + t) w1 hw1
            have v2 := fo4_of r x (n - 1 - t) (a + 2 + t) w2 hw2
            have c1 : (o1 ++ w1).filter (fun z => decide (z.1 < a + 1 + (t : Nat))) = o1 := by
              rw [List.filter_append, filter_all (fun z hz => decide_eq_true (by have := g1.inn z hz; omega)), filter_none (fun z hz => decide_eq_false (by have := v1.inn z hz; omega)), List.append_nil]
            have c2 : (o2 ++ w2).filter (fun z => decide (z.1 < a + 1 + (t : Nat))) = o2 := by
              rw [List.filter_append, filter_all (fun z hz => decide_eq_true (by have := g2.inn z hz; omega)), filter_none (fun z hz => decide_eq_false (by have := v2.inn z hz; omega)), List.append_nil]
            rw [← c1, ← c2, e1]
        · exact .nil
      · refine List.Pairwise.imp_of_mem (R := (· < ·)) (fun {t1 t2} _ _ hlt => ?_) List.pairwise_lt_range
        rintro u hu u' hu' rfl
        unfold seg at hu hu'
        split at hu
        · split at hu'
          · obtain ⟨o1, _, hu⟩ := List.mem_flatMap.mp hu
            obtain ⟨w1, _, e1⟩ := List.mem_map.mp hu
            obtain ⟨o2, _, hu'⟩ := List.mem_flatMap.mp hu'
            obtain ⟨w2, _, e2⟩ := List.mem_map.mp hu'
            rw [← e2] at e1
            injection e1 with e1 _
            have := congrArg Prod.snd e1
            have : a + 1 + (t1 : Int) = a + 1 + (t2 : Int) := this
            omega
          · cases hu'
        · cases hu
      · rintro rfl
        have h1 := fo4_of r x n (a + 1) q hq
        obtain ⟨t, _, hs⟩ := List.mem_flatMap.mp hq'
        unfold seg at hs
        split at hs
        · obtain ⟨o1, _, hs⟩ := List.mem_flatMap.mp hs
          obtain ⟨w1, _, rfl⟩ := List.mem_map.mp hs
          have := h1.inn (a, a + 1 + (t : Nat)) (List.mem_cons_self ..)
          have : a + 1 ≤ a := this.1
          omega
        · cases hs
/-! ### lists without one twice -/
theorem nd_count {α : Type} [DecidableEq α] {y : α} : ∀ {l : List α}, l.Nodup → y ∈ l → l.count y = 1
  | [], _, h => by cases h
  | z :: l, hl, h => by
    have hp := List.nodup_cons.mp hl
    by_cases e : z = y
    · subst e
      rw [List.count_cons_self, List.count_eq_zero.mpr hp.1]
    · rw [List.count_cons_of_ne (by simpa using e)]
      rcases List.mem_cons.mp h with h | h
      · exact absurd h.symm e
      · exact nd_count hp.2 h
theorem perm_nd {α : Type} [DecidableEq α] {l m : List α} (hl : l.Nodup) (hm : m.Nodup) (h : ∀ y, y ∈ l ↔ y ∈ m) : l.Perm m := List.perm_iff_count.mpr fun y => by
  by_cases c : y ∈ l
  · rw [nd_count hl c, nd_count hm ((h y).mp c)]
  · rw [List.count_eq_zero.mpr c, List.count_eq_zero.mpr fun z => c ((h y).mpr z)]
theorem len_nd {α : Type} [DecidableEq α] : ∀ {l m : List α}, l.Nodup → (∀ y ∈ l, y ∈ m) → l.length ≤ m.length
  | [], _, _, _ => Nat.zero_le _
  | y :: l, m, hl, h => by
    have hp := List.nodup_cons.mp hl
    have hy := h y (List.mem_cons_self ..)
    have := len_nd (l := l) (m := m.erase y) hp.2 fun z hz => (List.mem_erase_of_ne (fun e : z = y => hp.1 (by rw [← e]; exact hz))).mpr (h z (List.mem_cons_of_mem _ hz))
    rw [List.length_erase_of_mem hy] at this
    have : 0 < m.length := List.length_pos_of_mem hy
    rw [List.length_cons]
    omega
end Pf


/-! min(xs, default=d) of a list of whole numbers, which may be empty -/
namespace Pf
open PySem PySem.Spec PyProof.Rows L2
theorem minD_args (a v : Value) : argsOk "min" ⟨[a], [(Str.ofString "default", v)]⟩ := by unfold argsOk; kernel_rfl
section
variable {prog : Program} {w : World} {A : Around} {R : Result → Shared → Prop} {I S : Addr} {fp wr : List Addr} {n : Nat} {P : Nat → Value → Prop} {St : Nat → Heap → Prop} {d : Value} {bt : Nat → Nat → Bool}
abbrev mlName : (toString "min" ++ toString ".loop" : String) = "min.loop" := by decide
/-- what the loop holds behind j of them: the best so far, twice -/
def Hold (h : Heap) (S : Addr) (l : List Value) : Prop := ∃ c, h.get? S = some { cls := .type "list", dict := none, data := .seq l.toArray c, slots := #[] }
theorem minD_loop (W : Walks prog w A.in1 I fp wr n P St) (hcmp : CmpOf prog w A.in1 .Lt P bt) (hSf : S ∉ fp) : ∀ (k j : Nat) (s : Shared) (vb : Value), n = j + 1 + k → St (j + 1) s.heap → P (argBest bt j) vb → Hold s.heap S [vb, vb] →
    (∀ v h' tk, P (argBest bt (n - 1)) v → (∀ b o, b ∉ wr → b ≠ S → s.heap.get? b = some o → h'.get? b = some o) → R (.ok (.ret v)) { s with heap := h', toks := tk }) →
    codeAny (model prog w) A (.builtin "min.loop" ⟨[.ref I, .none, .ref S], [(Str.ofString "default", d)]⟩) R s := by
  have hSw : S ∉ wr := fun h => hSf (W.sub _ h)
  intro k
  induction k with
  | zero =>
    intro j s vb hn hst hb ⟨c, hS⟩ hR
    refine codeAny_builtin PySem.F.entry_min_loop ?_
    rw [Around.under_plainId PySem.F.plain_min_loop _]
    show wpAny _ A.in1 (seqItems? (.ref S) >>= _) _ _ s
    refine wpAny_bind (wpAny_seqItems hS rfl ?_)
    show wpAny _ A.in1 (tryCatch (pyNext (.ref I)) _ >>= _) _ _ s
    refine wpAny_bind (wpAny_tryCatch (W.done s _ _ ((show j + 1 = n by omega) ▸ hst) fun h' tk hk => ?_))
    show wpAny _ A.in1 (updateSeq S (fun _ => #[]) >>= _) _ _ _
    refine wpAny_bind (wpAny_updateSeq (hk S _ hSw hS) rfl (wpAny_bind (wpAny_letGo (wpAny_pure ?_))))
    exact hR vb _ tk ((show j = n - 1 by omega) ▸ hb) fun b o h1 h2 e => (Heap.get?_update_other _ _ (Ne.symm h2)).trans (hk b o h1 e)
  | succ k ih =>
    intro j s vb hn hst hb ⟨c, hS⟩ hR
    refine codeAny_builtin PySem.F.entry_min_loop ?_
    rw [Around.under_plainId PySem.F.plain_min_loop _]
    show wpAny _ A.in1 (seqItems? (.ref S) >>= _) _ _ s
    refine wpAny_bind (wpAny_seqItems hS rfl ?_)
    show wpAny _ A.in1 (tryCatch (pyNext (.ref I)) _ >>= _) _ _ s
    refine wpAny_bind (wpAny_tryCatch (W.item (j + 1) s _ _ (by omega) hst fun v h' tk hv hst' hk => ?_))
    have hS' := hk S _ hSw hS
    show wpAny _ A.in1 (tryCatch (holding [v, v] (richCompare .Lt v vb >>= _)) _ >>= _) _ _ _
    refine wpAny_bind (wpAny_tryCatch (wpAny_holding (wpAny_bind (hcmp (j + 1) (argBest bt j) v vb _ _ _ hv hb ?_))))
    refine wpAny_bind (wpAny_holding (wpAny_truthy_bool ?_))
    refine wpAny_bind (wpAny_letGo (wpAny_pure ?_))
    by_cases e : bt (j + 1) (argBest bt j) = true
    · rw [if_pos e]
      refine wpAny_bind (wpAny_updateSeq hS' rfl (wpAny_bind (wpAny_letGo ?_)))
      rw [mlName]
      refine wpAny_pure ⟨plainId_quiet PySem.F.plain_min_loop _, ih (j + 1) _ v (by omega) (W.frame _ _ _ hst' fun b hbf o e1 => ?_) ?_ ⟨_, Heap.get?_update_self _ hS' rfl⟩ fun v' h2 tk2 hv2 hk2 => ?_⟩
      · exact (Heap.get?_update_other _ _ (fun h : S = b => hSf (by rw [h]; exact hbf))).trans e1
      · unfold argBest
        rw [if_pos e]
        exact hv
      · exact hR v' h2 tk2 hv2 fun b o h1 h3 e1 => hk2 b o h1 h3 ((Heap.get?_update_other _ _ (Ne.symm h3)).trans (hk b o h1 e1))
    · rw [if_neg e]
      refine wpAny_bind (wpAny_letGo ?_)
      rw [mlName]
      refine wpAny_pure ⟨plainId_quiet PySem.F.plain_min_loop _, ih (j + 1) _ vb (by omega) hst' ?_ ⟨c, hS'⟩ fun v' h2 tk2 hv2 hk2 => ?_⟩
      · unfold argBest
        rw [if_neg e]
        exact hb
      · exact hR v' h2 tk2 hv2 fun b o h1 h3 e1 => hk2 b o h1 h3 (hk b o h1 e1)
/-- the first turn: the default where there is none -/
theorem minD_first (W : Walks prog w A.in1 I fp wr n P St) (hcmp : CmpOf prog w A.in1 .Lt P bt) (hSf : S ∉ fp) {s : Shared} (hst : St 0 s.heap) (hS : Hold s.heap S [])
    (h0 : n = 0 → ∀ h' tk, (∀ b o, b ∉ wr → b ≠ S → s.heap.get? b = some o → h'.get? b = some o) → R (.ok (.ret d)) { s with heap := h', toks := tk })
    (hR : 0 < n → ∀ v h' tk, P (argBest bt (n - 1)) v → (∀ b o, b ∉ wr → b ≠ S → s.heap.get? b = some o → h'.get? b = some o) → R (.ok (.ret v)) { s with heap := h', toks := tk }) :
    codeAny (model prog w) A (.builtin "min.loop" ⟨[.ref I, .none, .ref S], [(Str.ofString "default", d)]⟩) R s := by
  have hSw : S ∉ wr := fun h => hSf (W.sub _ h)
  obtain ⟨c, hS⟩ := hS
  refine codeAny_builtin PySem.F.entry_min_loop ?_
  rw [Around.under_plainId PySem.F.plain_min_loop _]
  show wpAny _ A.in1 (seqItems? (.ref S) >>= _) _ _ s
  refine wpAny_bind (wpAny_seqItems hS rfl ?_)
  show wpAny _ A.in1 (tryCatch (pyNext (.ref I)) _ >>= _) _ _ s
  by_cases hn : n = 0
  · refine wpAny_bind (wpAny_tryCatch (W.done s _ _ (hn ▸ hst) fun h' tk hk => ?_))
    show wpAny _ A.in1 (rule _ >>= _) _ _ _
    refine wpAny_bind (wpAny_rule ?_)
    exact wpAny_pure (h0 hn _ _ fun b o h1 _ e => hk b o h1 e)
  · refine wpAny_bind (wpAny_tryCatch (W.item 0 s _ _ (by omega) hst fun v h' tk hv hst' hk => ?_))
    have hS' := hk S _ hSw hS
    show wpAny _ A.in1 (updateSeq S (fun _ => #[v, v]) >>= _) _ _ _
    refine wpAny_bind (wpAny_updateSeq hS' rfl ?_)
    rw [mlName]
    refine wpAny_pure ⟨plainId_quiet PySem.F.plain_min_loop _, minD_loop W hcmp hSf (n - 1) 0 _ v (by omega) (W.frame _ _ _ hst' fun b hbf o e1 => ?_) hv ⟨_, Heap.get?_update_self _ hS' rfl⟩ fun v' h2 tk2 hv2 hk2 => ?_⟩
    · exact (Heap.get?_update_other _ _ (fun h : S = b => hSf (by rw [h]; exact hbf))).trans e1
    · exact hR (by omega) v' h2 tk2 hv2 fun b o h1 h3 e1 => hk2 b o h1 h3 ((Heap.get?_update_other _ _ (Ne.symm h3)).trans (hk b o h1 e1))
end
section
variable {prog : Program} {w : World} {A : Around} {E : Value → Shared → Prop} {s : Shared} {l : Addr} {its : List Value} {ns : List Int} {d : Value} {Q : Value → Shared → Prop}
theorem minD_raw (hh : A.handled = none) (hl : s.heap.IsList l its.toArray) (hi : IntsAre its ns)
    (h0 : ns = [] → ∀ h' tk, (∀ b o, s.heap.get? b = some o → h'.get? b = some o) → Q d { s with heap := h', toks := tk })
    (h : ∀ h' tk M t', (∀ b o, s.heap.get? b = some o → h'.get? b = some o) → M ∈ ns → (∀ a, a ∈ ns → M ≤ a) → Q (.int M t') { s with heap := h', toks := tk }) :
    wpAny (model prog w) A (call (.builtin "min") [.ref l] [(Str.ofString "default", d)]) Q E s := by
  obtain ⟨xs, e⟩ := hi.allInts.items
  have hn : numsOf (intItems xs).toList = ns := by rw [← e]; exact hi.numsOf
  rw [nums_intItems] at hn
  subst hn
  rw [e] at hl
  have hlen : (xs.toList.map (·.1)).length = xs.size := by rw [List.length_map, Array.length_toList]
  refine kmk_tree PySem.F.kind_min PySem.F.plain_min PySem.F.entry_min (minD_args _ _) ?_
  show wpAny _ A.in1 (Builtin.Builtins.bindParams "min" ["key", "default"] 0 ⟨[], [(Str.ofString "default", d)]⟩ >>= _) _ _ s
  refine wpAny_bind (wpAny_of_eq (show Builtin.Builtins.bindParams "min" ["key", "default"] 0 ⟨[], [(Str.ofString "default", d)]⟩ = pure [none, some d] from rfl) ?_)
  refine wpAny_bind (wpAny_pure ?_)
  refine wpAny_bind (iter_intList hl fun s₂ e2 st hfp hlI => ?_)
  subst e2
  refine wpAny_bind (wpAny_newObj_type ?_)
  rw [mlName]
  have hsz : (intItems xs).size = xs.size := by simp [intItems]
  refine wpAny_pure ⟨plainId_quiet PySem.F.plain_min_loop _, minD_first (bt := fun i j => decide (numAt xs i < numAt xs j)) (Walks.list (A := A.in1) hh _ l hlI (intItems xs)) (CmpOf.ints_lt (numAt xs) (fun _ _ => intItems_at)) (fun hm => Nat.lt_irrefl _ (hfp _ hm)) ?_ ⟨_, Heap.get?_push_size _ rfl⟩ (fun hn h' tk hk => ?_) (fun hn v h' tk hv hk => ?_)⟩
  · exact (Walks.list (prog := prog) (w := w) (A := A.in1) hh _ l hlI (intItems xs)).frame _ _ _ st fun b _ o e => Heap.get?_push_of_some _ e
  · refine h0 ?_ h' tk (old_kept fun b o hb e1 => hk b o hb (Nat.ne_of_lt (Heap.lt_size e1)) (Heap.get?_push_of_some _ e1))
    rw [hsz] at hn
    exact List.eq_nil_of_length_eq_zero (by rw [hlen]; exact hn)
  · obtain ⟨t, rfl⟩ := intItems_at hv
    rw [hsz] at hn
    obtain ⟨h1, h2⟩ := argBest_lt (numAt xs) ((intItems xs).size - 1)
    rw [hsz] at h1 h2 ⊢
    refine h h' tk _ t (old_kept fun b o hb e1 => hk b o hb (Nat.ne_of_lt (Heap.lt_size e1)) (Heap.get?_push_of_some _ e1)) ?_ fun a ha => ?_
    · rw [numAt_eq]
      exact PySem.getD_mem (by rw [hlen]; omega)
    · obtain ⟨j, hj, rfl⟩ := mem_getD ha
      rw [hlen] at hj
      rw [← numAt_eq]
      exact h2 j (by omega)
end
/-- min(xs, default=d) -/
def rMinD (K : PySem.W.Frag) : List V → List V → Hp → VK → Prop := fun vs zs H Q => ∃ (a : Addr) (ns : List Int) (z : V), vs = [V.ref a] ∧ zs = [z] ∧ SqL K H a (ns.map V.int) ∧ (ns = [] → Q z H) ∧ ∀ m, m ∈ ns → (∀ y, y ∈ ns → m ≤ y) → Q (.int m) H
theorem cr_minD {X : Cx} (hc : X.calm = true) : CallRK X (.builtin "min") [Str.ofString "default"] (rMinD X.K) := by
  intro pins s σ H xs zs us ws Q I r rz h
  obtain ⟨a, ns, z, rfl, rfl, hs, q0, q⟩ := h
  obtain ⟨its, rv, hl, _⟩ := I.list hs
  rw [Vals.ref1 r]
  obtain ⟨u, rfl, ru⟩ : ∃ u, ws = [u] ∧ RelV z u := by
    cases rz with
    | cons h t => cases t with
      | nil => exact ⟨_, rfl, h⟩
  exact minD_raw (I.ok.hd hc) hl.isList rv.ints (fun e h' tk hk => ⟨z, H, I.kept hk, ru, q0 e⟩) fun h' tk m t' hk h1 h2 => ⟨.int _, H, I.kept hk, ⟨_, rfl⟩, q m h1 h2⟩
theorem minL (K : PySem.W.Frag) {X : Cx} (hc : X.calm = true) (h : X.K = K := by rfl) : CallR X (.builtin "min") (rMin K) := h ▸ cr_min hc
theorem minD (K : PySem.W.Frag) {X : Cx} (hc : X.calm = true) (h : X.K = K := by rfl) : CallRK X (.builtin "min") [Str.ofString "default"] (rMinD K) := h ▸ cr_minD hc
end Pf


namespace Pf
open PySem PySem.Spec PyProof.Rows L2
/-! ### what ways come to by the least of rows -/
def oi : Option Int → V
  | none => .non
  | some m => .int m
def wayO (T : Rw → Option Int) (y : Wy) : Option Int := if (y.2.all fun z => (T z).isSome) = true then some (y.1 + (y.2.map fun z => (T z).getD 0).sum) else none
def IsMin (m : Option Int) (l : List Int) : Prop := match m with
  | none => l = []
  | some m => m ∈ l ∧ ∀ y ∈ l, m ≤ y
theorem oi_flat {α : Type} (T : α → Option Int) (l : List α) : (l.map fun z => oi (T z)).all flatV = true := by
  induction l with
  | nil => rfl
  | cons a r ih =>
    rw [List.map_cons, List.all_cons, ih]
    cases T a <;> rfl
theorem oi_in {α : Type} (T : α → Option Int) (l : List α) : inV .non (l.map fun z => oi (T z)) = !(l.all fun z => (T z).isSome) := by
  induction l with
  | nil => rfl
  | cons a r ih =>
    unfold inV at ih ⊢
    rw [List.map_cons, List.any_cons, ih, List.all_cons]
    cases T a <;> rfl
theorem oi_ints {α : Type} {T : α → Option Int} : ∀ {l : List α}, (l.all fun z => (T z).isSome) = true → (l.map fun z => oi (T z)) = (l.map fun z => (T z).getD 0).map V.int
  | [], _ => rfl
  | a :: r, h => by
    rw [List.all_cons, Bool.and_eq_true] at h
    rw [List.map_cons, List.map_cons, List.map_cons, oi_ints h.2]
    cases e : T a with
    | none => rw [e] at h; cases h.1
    | some m => rfl
/-- a dict by tuples, looked at or held by a loop -/
def DtOf (H : Hp) (D : Addr) (kvs : List (List Key × V)) : Prop := H D = some (.dT kvs) ∨ ∃ od, H D = some (.frz od (.dT kvs))
theorem DtOf.ext {H H' : Hp} {D : Addr} {kvs : List (List Key × V)} (k : Ext H H') : DtOf H D kvs → DtOf H' D kvs
  | .inl h => .inl (k _ _ h)
  | .inr ⟨od, h⟩ => .inr ⟨od, k _ _ h⟩
theorem DtOf.get {H : Hp} {D q : Addr} {kvs : List (List Key × V)} {k : List Key} (h : DtOf H D kvs) (hq : H q = some (.tup (k.map kV))) : DGet H D (.ref q) (valV kvs k) := .inr ⟨kvs, k, q, h, rfl, hq, rfl⟩
section
variable {P : Program} {w : World} {K : PySem.W.Frag} {mg : Str → Option Value} {base : Heap}
abbrev s_comes_to : Stmt := topS 31
theorem sc_comes_to : FnScope ["way", "worths", "worth", "rows", "told", "row"] ["way", "worths"] (defScope s_comes_to) :=
  ⟨rfl, rfl, rfl, by decide +kernel, rfl, by decide +kernel, by decide +kernel⟩
def spCome : Sp := fun vs H Q _ => ∃ (v : V) (D : Addr) (kvs : List (List Key × V)) (T : Rw → Option Int) (y : Wy), vs = [v, .ref D] ∧ WyAt H v y ∧ DtOf H D kvs ∧ (∀ z ∈ y.2, valV kvs (rk z) = some (oi (T z))) ∧ y.2.length ≤ 1000 ∧
  ∀ H', Ext H H' → Q (oi (wayO T y)) H'
theorem ok_come {f : Addr} {fd : FuncData} {k : Nat} (F : Fun K "comes_to" "comes_to" s_comes_to f fd) (msum : mg "sum" = none) : FnOk P w K mg base CX0 (k + 1) f fd ["way", "worths"] spCome := by
  refine F.ok sc_comes_to (fun vs H Q E h => ?_) (fun cdv A outer s H vs Q E hr h => ?_)
  · obtain ⟨v, D, kvs, T, y, rfl, _⟩ := h
    rfl
  · obtain ⟨v, D, kvs, T, ⟨wo, rs⟩, rfl, ⟨a, t, us, rfl, hA, hT, hP⟩, hD, hR, hrl, q⟩ := h
    refine ⟨_, (pss_cons (ps_asg (pv 0) (pg_tup rfl (pgs_cons (pg_name (i := 2) sc_comes_to.nd rfl (.inl rfl)) (pgs_cons (pg_name (i := 3) sc_comes_to.nd rfl (.inl rfl)) pgs_nil))))
      (pss_cons (ps_setLc (i := 4) (own := [("row", 5)]) (g := gName 5) (by rfl) sc_comes_to.nd rfl rfl (sw_true rfl rfl rfl (by decide +kernel)) (pi_tup (pv 3)) (blkOk_by (own := [("row", 5)]) (N := ["way", "worths", "worth", "rows", "told", "row"]) (sc := defScope s_comes_to) (by decide +kernel)) (fun _ _ _ _ _ => (pg_name (i := 5) sc_comes_to.nd rfl (.inl rfl))) (fun _ _ _ _ _ => pts_nil) (fun _ _ _ _ _ => (pe_dget (hu_of hr) (pv 1) (pv 5) (fun _ _ => rfl))))
      (pss_one (ps_ret (pe_ifExp (pt_cmpR (inSeq K) pe_non (pv 4) (by rfl)) pe_non (pe_op op_add (pv 2) (pe_callB (sumI K) (by rfl) msum (by decide +kernel) (pa_cons (pv 4) pa_nil)))))))), ?_⟩
    have hul : us.length = rs.length := paired_len hP
    have hrl : rs.length ≤ 1000 := hrl
    refine ⟨_, rfl, a, _, rfl, SqT.of hA, rfl, _, _, rfl, _, _, rfl, rfl, ?_⟩
    refine ⟨_, rfl, t, rfl, ⟨_, SqT.of hT⟩, fun L hL => lc_tup (K := K) (xs := us) (fun i H2 => H2 L = some (.lst ((rs.take i).map fun z => oi (T z))) ∧ Ext H H2) ⟨upd_same, Ext.new hL⟩ (fun i H2 _ ⟨_, k⟩ => SqT.of (k _ _ hT)) (fun i u H2 hi hv => ?_) (fun H2 hv => ?_)⟩
    · obtain ⟨hL2, k2⟩ := hv
      obtain ⟨r, hr', b, rfl, hb⟩ := paired_get hP hi
      have e1 := hR r (List.mem_of_getElem? hr')
      refine ⟨rfl, _, rfl, _, rfl, D, _, rfl, e1 ▸ DtOf.get (k := rk r) (hD.ext k2) (k2 _ _ hb), _, hL2, szLt ?_, ?_, k2.put hL⟩
      · rw [List.length_map, List.length_take]
        omega
      · rw [upd_same, List.take_add_one, hr', List.map_append]
        rfl
    obtain ⟨hL2, k2⟩ := hv
    rw [List.take_of_length_le (by omega)] at hL2
    refine ⟨_, rfl, L, _, rfl, .inl (SqL.of hL2), rfl, oi_flat T rs, _, rfl, ite2 (fun e => ?_) (fun e => ?_)⟩
    · have e : inV .non (rs.map fun z => oi (T z)) = true := e
      rw [oi_in] at e
      have := q H2 k2
      unfold wayO at this
      rw [if_neg (by
        show ¬ ((rs.all fun z => (T z).isSome) = true)
        intro z
        rw [z] at e
        cases e)] at this
      exact this
    · have e : ¬ inV .non (rs.map fun z => oi (T z)) = true := e
      rw [oi_in] at e
      have e2 : (rs.all fun z => (T z).isSome) = true := by
        cases h : rs.all fun z => (T z).isSome with
        | true => rfl
        | false => rw [h] at e; exact absurd rfl e
      rw [oi_ints e2] at hL2
      refine ⟨_, rfl, _, rfl, L, _, rfl, SqL.of hL2, _, _, rfl, rfl, ?_⟩
      have := q H2 k2
      unfold wayO at this
      rw [if_pos (show (rs.all fun z => (T z).isSome) = true from e2)] at this
      exact this
abbrev CCome (P : Program) (w : World) (K : PySem.W.Frag) (mg : Str → Option Value) (base : Heap) : Prop := Ca P w K mg base 1 "comes_to" ["way", "worths"] spCome
end
end Pf


namespace Pf
open PySem PySem.Spec PyProof.Rows L2
theorem filter_ois (T : Wy → Option Int) (l : List Wy) : (l.filterMap T).length ≤ l.length := List.length_filterMap_le _ _
theorem mins_ex : ∀ l : List Int, ∃ m, IsMin m l
  | [] => ⟨none, rfl⟩
  | a :: r => by
    obtain ⟨m, hm⟩ := mins_ex r
    cases m with
    | none =>
      have hm : r = [] := hm
      refine ⟨some a, by simp, fun y hy => ?_⟩
      rw [hm] at hy
      rw [List.mem_singleton.mp hy]
      exact Int.le_refl _
    | some m =>
      obtain ⟨h1, h2⟩ : m ∈ r ∧ ∀ y ∈ r, m ≤ y := hm
      by_cases c : a ≤ m
      · refine ⟨some a, by simp, fun y hy => ?_⟩
        rcases List.mem_cons.mp hy with rfl | hy
        · exact Int.le_refl _
        · exact Int.le_trans c (h2 y hy)
      · refine ⟨some m, List.mem_cons_of_mem _ h1, fun y hy => ?_⟩
        rcases List.mem_cons.mp hy with rfl | hy
        · omega
        · exact h2 y hy
section
variable {P : Program} {w : World} {K : PySem.W.Frag} {mg : Str → Option Value} {base : Heap}
abbrev s_least_way : Stmt := topS 32
theorem sc_least_way : FnScope ["ways", "worths", "told", "way", "worth"] ["ways", "worths"] (defScope s_least_way) :=
  ⟨rfl, rfl, rfl, by decide +kernel, rfl, by decide +kernel, by decide +kernel⟩
def spLeast : Sp := fun vs H Q _ => ∃ (l D : Addr) (us : List V) (kvs : List (List Key × V)) (T : Rw → Option Int) (L : List Wy), vs = [.ref l, .ref D] ∧ H l = some (.lst us) ∧ Paired (WyAt H) us L ∧ DtOf H D kvs ∧ (∀ y ∈ L, (∀ z ∈ y.2, valV kvs (rk z) = some (oi (T z))) ∧ y.2.length ≤ 1000) ∧ L.length ≤ 100000 ∧
  ∀ m H', IsMin m (L.filterMap (wayO T)) → Ext H H' → Q (oi m) H'
theorem ok_least {f : Addr} {fd : FuncData} {k : Nat} (F : Fun K "least_way" "least_way" s_least_way f fd) (ccomes_to : CCome P w K mg base) (mmin : mg "min" = none) : FnOk P w K mg base CX0 (k + 2) f fd ["ways", "worths"] spLeast := by
  refine F.ok sc_least_way (fun vs H Q E h => ?_) (fun cdv A outer s H vs Q E hr h => ?_)
  · obtain ⟨l, D, us, kvs, T, L, rfl, _⟩ := h
    rfl
  · obtain ⟨l, D, us, kvs, T, L, rfl, hl, hP, hD, hall, hlen, q⟩ := h
    refine ⟨_, (pss_cons (ps_setLc (i := 2) (own := [("way", 3)]) (g := gName 3) (by rfl) sc_least_way.nd rfl rfl (sw_true rfl rfl rfl (by decide +kernel)) (pi_list (pv 0)) (blkOk_by (own := [("way", 3)]) (N := ["ways", "worths", "told", "way", "worth"]) (sc := defScope s_least_way) (by decide +kernel)) (fun _ _ _ _ _ => (pg_name (i := 3) sc_least_way.nd rfl (.inl rfl))) (fun _ _ _ _ _ => pts_nil) (fun _ _ _ _ _ => (pe_ca ccomes_to (hr.mono (by omega)) (by rfl) (pa_cons (pv 3) (pa_cons (pv 1) pa_nil)))))
      (pss_one (ps_ret (pe_callBK (minD K rfl) (by rfl) mmin (by decide +kernel) (pa_cons (pe_lc (own := [("worth", 4)]) (g := gName 4) (by rfl) sc_least_way.nd (pi_list (pv 2)) (blkOk_by (own := [("worth", 4)]) (N := ["ways", "worths", "told", "way", "worth"]) (sc := defScope s_least_way) (by decide +kernel)) (fun _ _ _ _ _ => (pg_name (i := 4) sc_least_way.nd rfl (.inl rfl))) (fun _ _ _ _ _ => (pts_one (pt_cmpR op_notN (pv 4) pe_non (nomark _)))) (fun _ _ _ _ _ => (pv 4))) pa_nil) (pk_cons pe_non pk_nil))))), ?_⟩
    have hul : us.length = L.length := paired_len hP
    refine ⟨_, rfl, l, rfl, ⟨_, SqL.of hl⟩, fun D1 hD1 => lc_list (K := K) (xs := us) (fun i H2 => H2 D1 = some (.lst ((L.take i).map fun z => oi (wayO T z))) ∧ Ext H H2) ⟨upd_same, Ext.new hD1⟩ (fun i H2 _ ⟨_, k⟩ => SqL.of (k _ _ hl)) (fun i u H2 hi hv => ?_) (fun H2 hv => ?_)⟩
    · obtain ⟨hL2, k2⟩ := hv
      obtain ⟨y, hy, hW⟩ := paired_get hP hi
      obtain ⟨g1, g2⟩ := hall y (List.mem_of_getElem? hy)
      refine ⟨rfl, _, rfl, _, rfl, u, D, kvs, T, y, rfl, WyAt.mono _ _ _ _ (TupK.ext k2) hW, hD.ext k2, g1, g2, fun H3 k3 => ?_⟩
      refine ⟨_, k3 _ _ hL2, szLt ?_, ?_, (k2.trans k3).put hD1⟩
      · rw [List.length_map, List.length_take]
        omega
      · rw [upd_same, List.take_add_one, hy, List.map_append]
        rfl
    obtain ⟨hL2, k2⟩ := hv
    rw [List.take_of_length_le (by omega)] at hL2
    refine ⟨_, rfl, D1, rfl, ⟨_, SqL.of hL2⟩, fun D2 hD2 => lc_list (K := K) (xs := L.map fun z => oi (wayO T z)) (fun i H3 => H3 D2 = some (.lst (((L.take i).filterMap (wayO T)).map V.int)) ∧ Ext H2 H3) ⟨upd_same, Ext.new hD2⟩ (fun i H3 _ ⟨_, k⟩ => SqL.of (k _ _ hL2)) (fun i u H3 hi hv => ?_) (fun H3 hv => ?_)⟩
    · obtain ⟨hL3, k3⟩ := hv
      obtain ⟨y, hy, rfl⟩ : ∃ y, L[i]? = some y ∧ u = oi (wayO T y) := by
        rw [List.getElem?_map] at hi
        cases e : L[i]? with
        | none => rw [e] at hi; cases hi
        | some y => rw [e] at hi; exact ⟨y, rfl, (Option.some.inj hi).symm⟩
      have hle : ((L.take i).filterMap (wayO T)).length ≤ 100000 := by
        have h1 := List.length_filterMap_le (wayO T) (L.take i)
        rw [List.length_take] at h1
        omega
      cases e : wayO T y with
      | none =>
        refine ⟨rfl, _, rfl, rfl, _, rfl, ite2 (fun z => by cases z) (fun _ => ⟨?_, k3⟩)⟩
        rw [List.take_add_one, hy, List.filterMap_append]
        simp only [Option.toList_some, List.filterMap_cons, e, List.filterMap_nil, List.append_nil]
        exact hL3
      | some m =>
        refine ⟨rfl, _, rfl, rfl, _, rfl, ite2 (fun _ => ?_) (fun z => absurd rfl z)⟩
        refine ⟨_, rfl, _, hL3, szLt ?_, ?_, k3.put hD2⟩
        · rw [List.length_map]
          omega
        · rw [upd_same, List.take_add_one, hy, List.filterMap_append]
          simp only [Option.toList_some, List.filterMap_cons, e, List.filterMap_nil, List.map_append]
          rfl
    obtain ⟨hL3, k3⟩ := hv
    rw [List.length_map, List.take_of_length_le (Nat.le_refl _)] at hL3
    exact ⟨D2, _, _, rfl, rfl, SqL.of hL3, fun e => q none H3 e (k2.trans k3), fun m h1 h2 => q (some m) H3 ⟨h1, h2⟩ (k2.trans k3)⟩
abbrev CLeast (P : Program) (w : World) (K : PySem.W.Frag) (mg : Str → Option Value) (base : Heap) : Prop := Ca P w K mg base 2 "least_way" ["ways", "worths"] spLeast
end
end Pf


namespace Pf
open PySem PySem.Spec PyProof.Rows L2
/-! ### the least of a row is the least of what it stands for -/
theorem IsMin.perm {m : Option Int} {l l' : List Int} (h : IsMin m l) (p : l.Perm l') : IsMin m l' := by
  cases m with
  | none =>
    have h : l = [] := h
    show l' = []
    rw [h] at p
    exact p.symm.eq_nil
  | some m =>
    obtain ⟨h1, h2⟩ : m ∈ l ∧ ∀ y ∈ l, m ≤ y := h
    exact ⟨p.mem_iff.mp h1, fun y hy => h2 y (p.mem_iff.mpr hy)⟩
theorem IsMin.uniq {m n : Option Int} {l : List Int} (h : IsMin m l) (k : IsMin n l) : m = n := by
  cases m with
  | none =>
    have h : l = [] := h
    cases n with
    | none => rfl
    | some n =>
      obtain ⟨k1, _⟩ : n ∈ l ∧ _ := k
      rw [h] at k1
      cases k1
  | some m =>
    obtain ⟨h1, h2⟩ : m ∈ l ∧ ∀ y ∈ l, m ≤ y := h
    cases n with
    | none =>
      have k : l = [] := k
      rw [k] at h1
      cases h1
    | some n =>
      obtain ⟨k1, k2⟩ : n ∈ l ∧ ∀ y ∈ l, n ≤ y := k
      rw [Int.le_antisymm (h2 n k1) (k2 m h1)]
def addO : Option Int → Option Int → Option Int
  | some a, some b => some (a + b)
  | _, _ => none
theorem sums_min {a b : Option Int} {A B : List Int} (ha : IsMin a A) (hb : IsMin b B) : IsMin (addO a b) (sums A B) := by
  cases a with
  | none =>
    have ha : A = [] := ha
    rw [ha]
    exact rfl
  | some a =>
    cases b with
    | none =>
      have hb : B = [] := hb
      rw [hb]
      exact sums_nil A
    | some b =>
      obtain ⟨a1, a2⟩ : a ∈ A ∧ ∀ y ∈ A, a ≤ y := ha
      obtain ⟨b1, b2⟩ : b ∈ B ∧ ∀ y ∈ B, b ≤ y := hb
      refine ⟨List.mem_flatMap.mpr ⟨a, a1, List.mem_map.mpr ⟨b, b1, rfl⟩⟩, fun y hy => ?_⟩
      obtain ⟨c, hc, hy⟩ := List.mem_flatMap.mp hy
      obtain ⟨d, hd, rfl⟩ := List.mem_map.mp hy
      have := a2 c hc
      have := b2 d hd
      omega
theorem fold_min {T : Rw → Option Int} {S : Rw → List Int} : ∀ {rs : List Rw} {a : Option Int} {A : List Int}, (∀ z ∈ rs, IsMin (T z) (S z)) → IsMin a A → IsMin (rs.foldl (fun o z => addO o (T z)) a) (rs.foldl (fun acc z => sums acc (S z)) A)
  | [], _, _, _, h => h
  | z :: rs, a, A, hz, h => fold_min (rs := rs) (fun y hy => hz y (List.mem_cons_of_mem _ hy)) (sums_min h (hz z (List.mem_cons_self ..)))
theorem fold_none {T : Rw → Option Int} : ∀ rs : List Rw, rs.foldl (fun o z => addO o (T z)) none = none
  | [] => rfl
  | z :: rs => fold_none rs
theorem fold_way {T : Rw → Option Int} : ∀ (rs : List Rw) (c : Int), rs.foldl (fun o z => addO o (T z)) (some c) = wayO T (c, rs)
  | [], c => by
    simp [wayO]
  | z :: rs, c => by
    rw [List.foldl_cons]
    unfold wayO
    cases e : T z with
    | none =>
      rw [show addO (some c) none = none from rfl, fold_none, if_neg]
      intro h
      rw [List.all_cons, e] at h
      cases h
    | some m =>
      rw [show addO (some c) (some m) = some (c + m) from rfl, fold_way rs (c + m)]
      unfold wayO
      simp only [List.all_cons, e, Option.isSome_some, Bool.true_and, List.map_cons, Option.getD_some, List.sum_cons]
      split
      · congr 1
        omega
      · rfl
theorem way_min {T : Rw → Option Int} {S : Rw → List Int} {y : Wy} (h : ∀ z ∈ y.2, IsMin (T z) (S z)) : IsMin (wayO T y) (wayM S y) := by
  have h1 := fold_min (rs := y.2) (a := some y.1) (A := [y.1]) h ⟨List.mem_singleton.mpr rfl, fun z hz => by rw [List.mem_singleton.mp hz]; exact Int.le_refl _⟩
  rw [fold_way] at h1
  exact h1
theorem flat_min {m : Option Int} {L : List Wy} {O : Wy → Option Int} {W : Wy → List Int} (h : ∀ y ∈ L, IsMin (O y) (W y)) (hm : IsMin m (L.filterMap O)) : IsMin m (L.flatMap W) := by
  cases m with
  | none =>
    have hm : L.filterMap O = [] := hm
    show L.flatMap W = []
    rw [List.flatMap_eq_nil_iff]
    intro y hy
    have h1 := h y hy
    have h2 : O y = none := List.filterMap_eq_nil_iff.mp hm y hy
    rw [h2] at h1
    exact h1
  | some m =>
    obtain ⟨h1, h2⟩ : m ∈ L.filterMap O ∧ ∀ y ∈ L.filterMap O, m ≤ y := hm
    obtain ⟨y, hy, e⟩ := List.mem_filterMap.mp h1
    have hy2 := h y hy
    rw [e] at hy2
    refine ⟨List.mem_flatMap.mpr ⟨y, hy, hy2.1⟩, fun z hz => ?_⟩
    obtain ⟨u, hu, hz⟩ := List.mem_flatMap.mp hz
    have hu2 := h u hu
    cases e2 : O u with
    | none =>
      rw [e2] at hu2
      have hu2 : W u = [] := hu2
      rw [hu2] at hz
      cases hz
    | some k =>
      rw [e2] at hu2
      exact Int.le_trans (h2 k (List.mem_filterMap.mpr ⟨u, hu, e2⟩)) (hu2.2 z hz)
theorem row_min {r : Rl} {x : Str} {L : Nat} {y : Rw} {T : Rw → Option Int} {m : Option Int} (hv : Vr L y) (hT : ∀ wy ∈ waysOf r x y, ∀ z ∈ wy.2, IsMin (T z) (SM r x z)) (hm : IsMin m ((waysOf r x y).filterMap (wayO T))) : IsMin m (SM r x y) :=
  (flat_min (fun wy hwy => way_min (hT wy hwy)) hm).perm (core hv)
/-! ### no row twice -/
theorem rowsJ_nd (i : Int) (u : Nat) : (rowsJ i u).Nodup := by
  have h1 : mkR "shut" i (i + (u : Int)) ≠ mkR "one" i (i + (u : Int)) := fun e => ne_os (congrArg (fun z : Rw => z.1) e).symm
  have h2 : mkR "shut" i (i + (u : Int)) ≠ mkR "two" i (i + (u : Int)) := fun e => ne_ts (congrArg (fun z : Rw => z.1) e).symm
  have h3 : mkR "one" i (i + (u : Int)) ≠ mkR "two" i (i + (u : Int)) := fun e => ne_to (congrArg (fun z : Rw => z.1) e).symm
  unfold rowsJ
  split
  · simp only [List.cons_append, List.nil_append, List.nodup_cons, List.mem_cons, List.not_mem_nil, or_false, not_or]
    exact ⟨⟨h1, h2⟩, h3, not_false, List.nodup_nil⟩
  · simp only [List.nil_append, List.nodup_cons, List.mem_cons, List.not_mem_nil, or_false]
    exact ⟨h3, not_false, List.nodup_nil⟩
theorem rowsJ_at {i : Int} {u : Nat} {z : Rw} (h : z ∈ rowsJ i u) : z.2.1 = i ∧ z.2.2 = i + (u : Int) ∧ z.1 ≠ "open" := by
  unfold rowsJ at h
  rcases List.mem_append.mp h with h | h
  · split at h
    · rw [List.mem_singleton.mp h]
      exact ⟨rfl, rfl, fun e => ne_ps e.symm⟩
    · cases h
  · rcases List.mem_cons.mp h with rfl | h
    · exact ⟨rfl, rfl, fun e => ne_po e.symm⟩
    · rw [List.mem_singleton.mp h]
      exact ⟨rfl, rfl, fun e => ne_pt e.symm⟩
theorem rowsI_low {L : Nat} {i : Int} {z : Rw} (h : z ∈ rowsI L i) : z.2.1 = i := by
  unfold rowsI at h
  rcases List.mem_append.mp h with h | h
  · obtain ⟨u, _, hu⟩ := List.mem_flatMap.mp h
    exact (rowsJ_at hu).1
  · rw [List.mem_singleton.mp h]
theorem rowsI_nd (L : Nat) (i : Int) : (rowsI L i).Nodup := by
  unfold rowsI
  refine List.nodup_append.mpr ⟨?_, by simp, fun a ha b hb e => ?_⟩
  · refine List.pairwise_flatMap.mpr ⟨fun u _ => rowsJ_nd i u, List.pairwise_lt_range.imp fun {u v} huv a ha b hb e => ?_⟩
    have h1 := (rowsJ_at ha).2.1
    have h2 := (rowsJ_at hb).2.1
    rw [e] at h1
    omega
  · obtain ⟨u, _, hu⟩ := List.mem_flatMap.mp ha
    rw [List.mem_singleton.mp hb] at e
    exact (rowsJ_at hu).2.2 (congrArg (fun z : Rw => z.1) e)
theorem rowsL_nd (L : Nat) : (rowsL L).Nodup := by
  unfold rowsL
  refine List.pairwise_flatMap.mpr ⟨fun t _ => rowsI_nd L _, List.pairwise_lt_range.imp fun {u v} huv a ha b hb e => ?_⟩
  have h1 := rowsI_low ha
  have h2 := rowsI_low hb
  rw [e] at h1
  omega
end Pf


namespace Pf
open PySem PySem.Spec PyProof.Rows L2
theorem lead_at {r : Rl} {x : Str} {L : Nat} : ∀ {ys kn : List Rw}, Lead r x L kn ys → ∀ k y, ys[k]? = some y → Vr L y ∧ ∀ wy ∈ waysOf r x y, ∀ z ∈ wy.2, z ∈ kn ++ ys.take k
  | [], _, _, k, y, e => by cases e
  | z :: ys, kn, h, 0, y, e => by
    rw [List.getElem?_cons_zero] at e
    cases e
    rw [List.take_zero, List.append_nil]
    exact h.1
  | z :: ys, kn, h, k + 1, y, e => by
    rw [List.getElem?_cons_succ] at e
    have := lead_at h.2 k y e
    rw [List.append_assoc] at this
    exact this
theorem rows_lead (r : Rl) (x : Str) (L : Nat) : Lead r x L [] (rowsL L) := (lead_all r x L (L + 1) (Nat.le_refl _)).1
theorem rows_at {r : Rl} {x : Str} {L k : Nat} {y : Rw} (h : (rowsL L)[k]? = some y) : Vr L y ∧ ∀ wy ∈ waysOf r x y, ∀ z ∈ wy.2, z ∈ (rowsL L).take k := by
  have := lead_at (rows_lead r x L) k y h
  rw [List.nil_append] at this
  exact this
theorem ways_len {r : Rl} {x : Str} {L : Nat} {y : Rw} (hL : L ≤ 100) (h : Vr L y) : (waysOf r x y).length ≤ 100000 := by
  cases h with
  | shut h0 h1 h2 =>
    rename_i i j
    rw [ways_shut]
    unfold shutW
    split
    · have h3 := shI_len (r := r) (x := x) (i := i) (j := j) h0 (by omega) (j - (i + 1)).toNat
      rw [List.length_append, List.length_cons]
      split
      · rw [List.length_singleton]
        omega
      · rw [List.length_nil]
        omega
    · exact Nat.zero_le _
  | one h0 h1 h2 =>
    rename_i i j
    rw [ways_one]
    unfold oneW
    have h3 := fst_len r "one" i j
    have h4 := br_len (lo r 4) i j (by omega) h0
    rw [List.length_append, List.length_append, List.length_map, List.length_range]
    omega
  | two h0 h1 h2 =>
    rename_i i j
    rw [ways_two]
    unfold twoW
    have h3 := fst_len r "two" i j
    have h4 := br_len (lo r 4) i j (by omega) h0
    rw [List.length_append]
    omega
  | opn h0 h1 =>
    rw [ways_open]
    unfold openW
    split
    · exact Nat.le_of_ble_eq_true rfl
    · rw [List.length_cons, List.length_map, List.length_range]
      omega
theorem val_no {kvs : List (List Key × V)} {k : List Key} (h : k ∉ kvs.map (·.1)) : valV kvs k = none := by
  induction kvs with
  | nil => rfl
  | cons p r ih =>
    rw [List.map_cons, List.mem_cons, not_or] at h
    rw [valV_neg (fun e => h.1 e.symm), ih h.2]
theorem TupK.dT {q : Addr} {H : Hp} {o : HO} {ys : List (List Key × V)} (h : H q = some (.dT ys)) : TupK H (upd H q o) := ⟨fun b xs e => by rw [upd_ne (ne_of e h (by intro z; cases z))]; exact e, fun b o u e => by rw [upd_ne (ne_of e h (by intro z; cases z))]; exact e⟩
theorem take_no {rows : List Rw} (nd : rows.Nodup) {i : Nat} {y : Rw} (h : rows[i]? = some y) : y ∉ rows.take i := fun hm => by
  obtain ⟨j, hj, e⟩ := List.mem_iff_getElem.mp hm
  rw [List.length_take] at hj
  rw [List.getElem_take] at e
  obtain ⟨hi, e2⟩ := List.getElem?_eq_some_iff.mp h
  exact List.pairwise_iff_getElem.mp nd j i (by omega) hi (by omega) (e.trans e2.symm)
theorem rk_no {rows : List Rw} {y : Rw} (h : y ∉ rows) : rk y ∉ rows.map rk := fun hm => by
  obtain ⟨z, hz, e⟩ := List.mem_map.mp hm
  exact h (rk_inj e ▸ hz)
/-- the ways of rows, by rows -/
def WaysIs (H : Hp) (kws : List (List Key × V)) (r : Rl) (x : Str) (rows : List Rw) : Prop := kws.map (·.1) = rows.map rk ∧ ∀ y ∈ rows, ∃ l us, valV kws (rk y) = some (.ref l) ∧ H l = some (.lst us) ∧ Paired (WyAt H) us (waysOf r x y)
noncomputable def mn (r : Rl) (x : Str) (y : Rw) : Option Int := Classical.choose (mins_ex (SM r x y))
theorem mn_is (r : Rl) (x : Str) (y : Rw) : IsMin (mn r x y) (SM r x y) := Classical.choose_spec (mins_ex (SM r x y))
/-- the least of rows, by rows -/
def MinsIs (kvs : List (List Key × V)) (r : Rl) (x : Str) (rows : List Rw) : Prop := kvs.map (·.1) = rows.map rk ∧ ∀ y ∈ rows, valV kvs (rk y) = some (oi (mn r x y))
theorem MinsIs.put {kvs : List (List Key × V)} {r : Rl} {x : Str} {rows : List Rw} {y : Rw} (h : MinsIs kvs r x rows) (hn : y ∉ rows) : MinsIs (putK kvs (rk y) (oi (mn r x y))) r x (rows ++ [y]) := by
  obtain ⟨h1, h2⟩ := h
  have hno : valV kvs (rk y) = none := val_no (by rw [h1]; exact rk_no hn)
  refine ⟨?_, fun z hz => ?_⟩
  · rw [putK_new _ hno, List.map_append, List.map_append, h1]
    rfl
  · rw [valV_put]
    by_cases c : z = y
    · rw [if_pos (by rw [c]), c]
    · rw [if_neg fun e => c (rk_inj e)]
      rcases List.mem_append.mp hz with hz | hz
      · exact h2 z hz
      · exact absurd (List.mem_singleton.mp hz) c
section
variable {P : Program} {w : World} {K : PySem.W.Frag} {mg : Str → Option Value} {base : Heap}
abbrev s_all_ways : Stmt := topS 34
theorem sc_all_ways : FnScope ["rules", "string", "row"] ["rules", "string"] (defScope s_all_ways) :=
  ⟨rfl, rfl, rfl, by decide +kernel, rfl, by decide +kernel, by decide +kernel⟩
def spAllW : Sp := fun vs H Q _ => ∃ (v : V) (r : Rl) (x : Str), vs = [v, .str x] ∧ RulesW H v r ∧ RlOk r ∧ x.length ≤ 12 ∧
  ∀ (W : Addr) (kws : List (List Key × V)) (H' : Hp), H W = none → H' W = some (.dT kws) → WaysIs H' kws r x (rowsL x.length) → Ext H H' → Q (.ref W) H'
theorem ok_allW {f : Addr} {fd : FuncData} (F : Fun K "all_ways" "all_ways" s_all_ways f fd) (crows_in_turn : CRows P w K mg base) (cways_of : CWof P w K mg base) (mlen : mg "len" = none) : FnOk P w K mg base CX0 5 f fd ["rules", "string"] spAllW := by
  refine F.ok sc_all_ways (fun vs H Q E h => ?_) (fun cdv A outer s H vs Q E hr h => ?_)
  · obtain ⟨v, r, x, rfl, _⟩ := h
    rfl
  · obtain ⟨v, r, x, rfl, hR, ok, hx, q⟩ := h
    refine ⟨_, (pss_one (ps_ret (pe_dcT (own := [("row", 2)]) (g := gName 2) hr.units0 (by rfl) sc_all_ways.nd (pi_list (pe_ca crows_in_turn (hr.mono (by decide)) (by rfl) (pa_cons (pe_callB call_len_str (by rfl) mlen (by decide +kernel) (pa_cons (pv 1) pa_nil)) pa_nil))) (blkOk_by (own := [("row", 2)]) (N := ["rules", "string", "row"]) (sc := defScope s_all_ways) (by decide +kernel)) (fun _ _ _ _ _ => (pg_name (i := 2) sc_all_ways.nd rfl (.inl rfl))) (fun _ _ _ _ _ => (pv 2)) (fun _ _ _ _ _ => (pe_ca cways_of (hr.mono (by decide)) (by rfl) (pa_cons (pv 0) (pa_cons (pv 1) (pa_cons (pv 2) pa_nil)))))))), ?_⟩
    have hrl := rows_len (L := x.length) (by omega)
    have nd := rowsL_nd x.length
    refine ⟨_, rfl, x, rfl, szL (by omega), x.length, rfl, by omega, fun l us H2 hl hL hP k2 => ?_⟩
    have hat : ∀ (k : Nat) (y : Rw), (rowsL x.length)[k]? = some y → Vr x.length y := fun k y h => (rows_at (r := r) (x := x) h).1
    generalize rowsL x.length = rows at hP q nd hrl hat
    have hul := paired_len hP
    refine ⟨l, rfl, ⟨_, SqL.of hL⟩, fun D hD => dcT_it (walk_list (K := K) (xs := us)) (fun i H3 => ∃ kws, H3 D = some (.dT kws) ∧ WaysIs H3 kws r x (rows.take i) ∧ Ext H2 H3)
      ⟨[], upd_same, ⟨rfl, fun y h => by cases h⟩, Ext.new hD⟩ (fun i H3 _ ⟨_, _, _, k⟩ => SqL.of (k _ _ hL)) (fun i u H3 H3' hi hv hy => ?_) (fun H3 hv => ?_)⟩
    · obtain ⟨kws, hD3, ⟨hW1, hW2⟩, k3⟩ := hv
      obtain ⟨rfl, hu⟩ := hy
      obtain ⟨y, hy, b, rfl, hb⟩ := paired_get hP hu
      have hb3 := k3 _ _ hb
      have vr := hat i y hy
      refine ⟨rfl, _, rfl, _, rfl, _, rfl, _, rfl, v, r, x, y, .ref b, rfl, ⟨b, rfl, hb3⟩, RulesW.mono _ _ _ _ (TupK.ext (k2.trans k3)) hR, ok, by omega, vr.ok, fun l4 us4 H4 hl4 hL4 hP4 k4 => ?_⟩
      have hD4 := k4 _ _ hD3
      have hno : y ∉ rows.take i := take_no nd hy
      have hkn : valV kws (rk y) = none := val_no (by rw [hW1]; exact rk_no hno)
      have hkl : kws.length ≤ i := by
        have := congrArg List.length hW1
        rw [List.length_map, List.length_map, List.length_take] at this
        omega
      have tkd : ∀ o, TupK H4 (upd H4 D o) := fun o => TupK.dT hD4
      refine ⟨kws, rk y, b, rfl, k4 _ _ hb3, hD4, szLt (by omega), _, upd_same, ⟨?_, fun z hz => ?_⟩, (k3.trans k4).put hD⟩
      · rw [putK_new _ hkn, List.map_append, hW1, List.take_add_one, hy, List.map_append]
        rfl
      · rw [valV_put]
        by_cases c : z = y
        · subst c
          rw [if_pos rfl]
          exact ⟨l4, us4, rfl, by rw [upd_ne (ne_of hL4 hD4 (by intro z; cases z))]; exact hL4, paired_imp (fun _ _ => WyAt.mono _ _ _ _ (tkd _)) hP4⟩
        · rw [if_neg fun e => c (rk_inj e)]
          rw [List.take_add_one, hy] at hz
          rcases List.mem_append.mp hz with hz | hz
          · obtain ⟨l', us', e1, e2, e3⟩ := hW2 z hz
            have e2' := k4 _ _ e2
            exact ⟨l', us', e1, by rw [upd_ne (ne_of e2' hD4 (by intro z; cases z))]; exact e2', paired_imp (fun _ _ => WyAt.mono _ _ _ _ ((TupK.ext k4).trans (tkd _))) e3⟩
          · exact absurd (List.mem_singleton.mp hz) c
    · obtain ⟨kws, hD3, hW, k3⟩ := hv
      rw [List.take_of_length_le (by omega)] at hW
      exact q D kws H3 (k2.none hD) hD3 hW (k2.trans k3)
abbrev CAllW (P : Program) (w : World) (K : PySem.W.Frag) (mg : Str → Option Value) (base : Heap) : Prop := Ca P w K mg base 5 "all_ways" ["rules", "string"] spAllW
abbrev s_least_rows : Stmt := topS 35
theorem sc_least_rows : FnScope ["ways", "worths", "row"] ["ways"] (defScope s_least_rows) :=
  ⟨rfl, rfl, rfl, by decide +kernel, rfl, by decide +kernel, by decide +kernel⟩
def spRowsL : Sp := fun vs H Q _ => ∃ (W : Addr) (kws : List (List Key × V)) (r : Rl) (x : Str), vs = [.ref W] ∧ H W = some (.dT kws) ∧ x.length ≤ 12 ∧ WaysIs H kws r x (rowsL x.length) ∧
  ∀ (D : Addr) (kvs : List (List Key × V)) (H' : Hp), H D = none → H' D = some (.dT kvs) → MinsIs kvs r x (rowsL x.length) → Ext H H' → Q (.ref D) H'
theorem ok_rowsL {f : Addr} {fd : FuncData} (F : Fun K "least_rows" "least_rows" s_least_rows f fd) (cleast_way : CLeast P w K mg base) : FnOk P w K mg base CX0 3 f fd ["ways"] spRowsL := by
  refine F.ok sc_least_rows (fun vs H Q E h => ?_) (fun cdv A outer s H vs Q E hr h => ?_)
  · obtain ⟨W, kws, r, x, rfl, _⟩ := h
    rfl
  · obtain ⟨W, kws, r, x, rfl, hW, hx, ⟨hW1, hW2⟩, q⟩ := h
    refine ⟨_, (pss_cons (ps_set (i := 1) sc_least_rows.nd rfl (.inl rfl) pe_dnewT)
      (pss_cons (ps_lock (ps_for PassesOwn.never rfl (pi_keys (pv 0)) (pg_name (i := 2) sc_least_rows.nd rfl (.inl rfl)) (pss_one (ps_dput (hu_of hr) (pv 1) (pv 2) (pe_ca cleast_way (hr.mono (by decide)) (by rfl) (pa_cons (pe_dget (hu_of hr) (pv 0) (pv 2) (fun _ _ => rfl)) (pa_cons (pv 1) pa_nil))) rfl))))
      (pss_one (ps_ret (pv 1))))), ?_⟩
    have hrl := rows_len (L := x.length) (by omega)
    have nd := rowsL_nd x.length
    have hat : ∀ (k : Nat) (y : Rw), (rowsL x.length)[k]? = some y → Vr x.length y ∧ ∀ wy ∈ waysOf r x y, ∀ z ∈ wy.2, z ∈ (rowsL x.length).take k := fun k y h => rows_at h
    generalize rowsL x.length = rows at q nd hrl hat hW1 hW2
    refine fun D hD => ?_
    have x1 := Ext.new (o := .dT []) hD
    have hD1 : (upd H D (.dT [])) D = some (.dT []) := upd_same
    have nWD : W ≠ D := ne_of_none hW hD
    generalize upd H D (.dT []) = H1 at x1 hD1 ⊢
    have hkl : kws.length = rows.length := by
      have := congrArg List.length hW1
      rw [List.length_map, List.length_map] at this
      exact this
    refine ⟨W, _, x1 _ _ hW, trivial, fun od => ?_⟩
    refine ⟨_, rfl, W, od, rfl, .inr ⟨_, upd_same, for_it (walk_keysT (kvs := kws)) (fun i σ H5 => ∃ (y2 : Option V) (kvs : List (List Key × V)), σ = [some (.ref W), some (.ref D), y2] ∧ H5 W = some (.frz od (.dT kws)) ∧ H5 D = some (.dT kvs) ∧ MinsIs kvs r x (rows.take i) ∧ But W H H5)
      ⟨_, [], rfl, upd_same, by rw [upd_ne (Ne.symm nWD)]; exact hD1, ⟨rfl, fun y h => by cases h⟩, fun c o n e => by rw [upd_ne n]; exact x1 c o e⟩ (fun i σ H5 _ ⟨_, _, _, h, _⟩ => h) (fun i z σ H5 H5' hi hv hyy => ?_) (fun σ H5 hv => ?_)⟩⟩
    · obtain ⟨y2, kvs, rfl, hW5, hD5, hM, k5⟩ := hv
      obtain ⟨rfl, ky, vy, qa, hky, rfl, hqa⟩ := hyy
      obtain ⟨y, hy, rfl⟩ : ∃ y, rows[i]? = some y ∧ ky = rk y := by
        have h1 : (kws.map (·.1))[i]? = some ky := by rw [List.getElem?_map, hky]; rfl
        rw [hW1, List.getElem?_map] at h1
        cases e : rows[i]? with
        | none => rw [e] at h1; cases h1
        | some y => rw [e] at h1; exact ⟨y, rfl, (Option.some.inj h1).symm⟩
      obtain ⟨vr, hlead⟩ := hat i y hy
      obtain ⟨l, us, e1, e2, e3⟩ := hW2 y (List.mem_of_getElem? hy)
      have nlW : l ≠ W := ne_of e2 hW (by intro z; cases z)
      have tkb : TupK H H5' := ⟨fun b xs e => k5 b _ (ne_of e hW (by intro z; cases z)) e, fun b o u e => k5 b _ (ne_of e hW (by intro z; cases z)) e⟩
      have hno : y ∉ rows.take i := take_no nd hy
      have hvl : kvs.length ≤ i := by
        have := congrArg List.length hM.1
        rw [List.length_map, List.length_map, List.length_take] at this
        omega
      refine ⟨_, rfl, _, rfl, W, _, rfl, .inr ⟨kws, rk y, qa, .inr ⟨od, hW5⟩, rfl, hqa, e1.symm⟩, _, rfl, l, D, us, kvs, mn r x, _, rfl, k5 _ _ nlW e2, paired_imp (fun _ _ => WyAt.mono _ _ _ _ tkb) e3, .inl hD5, fun wy hwy => ⟨fun z hz => hM.2 z (hlead wy hwy z hz), Nat.le_trans (ways_short vr wy hwy) (by decide)⟩, ways_len (by omega) vr, fun m H6 hm k6 => ?_⟩
      have hm2 : m = mn r x y := IsMin.uniq (row_min vr (fun wy hwy z hz => mn_is r x z) hm) (mn_is r x y)
      rw [hm2]
      have hD6 := k6 _ _ hD5
      refine ⟨_, rfl, _, rfl, D, _, rfl, DPut.t (k := rk y) hD6 (k6 _ _ hqa) (szLt (by omega)), ?_⟩
      refine ⟨_, _, rfl, by rw [upd_ne nWD]; exact k6 _ _ hW5, upd_same, ?_, fun c o n e => ?_⟩
      · rw [List.take_add_one, hy]
        exact hM.put hno
      · rw [upd_ne (ne_of_none e hD)]
        exact k6 _ _ (k5 c o n e)
    · obtain ⟨y2, kvs, rfl, hW5, hD5, hM, k5⟩ := hv
      rw [List.take_of_length_le (by omega)] at hM
      refine ⟨hW5, _, rfl, q D kvs _ hD (by rw [upd_ne (Ne.symm nWD)]; exact hD5) hM fun c o e => ?_⟩
      by_cases n : c = W
      · subst n
        rw [hW] at e
        cases e
        exact upd_same
      · rw [upd_ne n]
        exact k5 c o n e
abbrev CRowsL (P : Program) (w : World) (K : PySem.W.Frag) (mg : Str → Option Value) (base : Heap) : Prop := Ca P w K mg base 3 "least_rows" ["ways"] spRowsL
end
end Pf


namespace Pf
open PySem PySem.Spec PyProof.Rows L2
/-! ### the table: rows in their order, with the least of each -/
def dRw (y : Rw) : PyData := .tuple [.str y.1, .int y.2.1, .int y.2.2]
def SR (l : List Rw) : List Rw := l.mergeSort (PySem.W.dataLe false dRw)
theorem rows_zip {H : Hp} : ∀ {kvs : List (List Key × V)} {rows : List Rw} {bs : List Addr}, kvs.map (·.1) = rows.map rk → IsKeys H kvs bs → ∃ bes : List (Addr × Rw), bes.map (·.1) = bs ∧ bes.map (·.2) = rows ∧ ∀ x ∈ bes, H x.1 = some (.tup [.str x.2.1, .int x.2.2.1, .int x.2.2.2])
  | [], [], _, _, .nil => ⟨[], rfl, rfl, fun x h => by cases h⟩
  | [], _ :: _, _, e, _ => by cases e
  | _ :: _, [], _, e, _ => by cases e
  | kv :: kvs, y :: rows, b :: bs, e, .cons r t => by
    rw [List.map_cons, List.map_cons] at e
    injection e with e1 e2
    obtain ⟨bes, h1, h2, h3⟩ := rows_zip e2 t
    refine ⟨(b, y) :: bes, by rw [List.map_cons, h1], by rw [List.map_cons, h2], fun x hx => ?_⟩
    rcases List.mem_cons.mp hx with rfl | hx
    · have r : H b = some (.tup (kv.1.map kV)) := r
      rw [e1] at r
      exact r
    · exact h3 x hx
def TrAt (r : Rl) (x : Str) (H : Hp) (v : V) (y : Rw) : Prop := ∃ a, v = .ref a ∧ H a = some (.tup [.str y.1, .int y.2.1, .int y.2.2, oi (mn r x y)])
theorem TrAt.mono (r : Rl) (x : Str) : Mono (TrAt r x) := fun H H' v y k ⟨a, e, h⟩ => ⟨a, e, k _ _ h⟩
section
variable {P : Program} {w : World} {K : PySem.W.Frag} {mg : Str → Option Value} {base : Heap}
abbrev s_table_of : Stmt := topS 36
theorem sc_table_of : FnScope ["rules", "string", "worths", "row"] ["rules", "string"] (defScope s_table_of) :=
  ⟨rfl, rfl, rfl, by decide +kernel, rfl, by decide +kernel, by decide +kernel⟩
def spTable : Sp := fun vs H Q _ => ∃ (v : V) (r : Rl) (x : Str), vs = [v, .str x] ∧ RulesW H v r ∧ RlOk r ∧ x.length ≤ 12 ∧ Of r.letters x ∧
  ∀ (l : Addr) (us : List V) (H' : Hp), H l = none → H' l = some (.lst us) → Paired (TrAt r x H') us (SR (rowsL x.length)) → Ext H H' → Q (.ref l) H'
theorem ok_table {f : Addr} {fd : FuncData} (F : Fun K "table_of" "table_of" s_table_of f fd) (cneed_string : CNS P w K mg base) (call_ways : CAllW P w K mg base) (cleast_rows : CRowsL P w K mg base) (msorted : mg "sorted" = none) : FnOk P w K mg base CX0 6 f fd ["rules", "string"] spTable := by
  refine F.ok sc_table_of (fun vs H Q E h => ?_) (fun cdv A outer s H vs Q E hr h => ?_)
  · obtain ⟨v, r, x, rfl, _⟩ := h
    rfl
  · obtain ⟨v, r, x, rfl, hR, ok, hx, hO, q⟩ := h
    refine ⟨_, (pss_cons (ps_expr (pe_ca cneed_string (hr.mono (by decide)) (by rfl) (pa_cons (pv 0) (pa_cons (pv 1) pa_nil))))
      (pss_cons (ps_set (i := 2) sc_table_of.nd rfl (.inr rfl) (pe_ca cleast_rows (hr.mono (by decide)) (by rfl) (pa_cons (pe_ca call_ways (hr.mono (by decide)) (by rfl) (pa_cons (pv 0) (pa_cons (pv 1) pa_nil))) pa_nil)))
      (pss_one (ps_ret (pe_lc (own := [("row", 3)]) (g := gName 3) (by rfl) sc_table_of.nd (pi_list (pe_callB (cr_sortKT K rfl hr.units) (by rfl) msorted (by decide +kernel) (pa_cons (pv 2) pa_nil))) (blkOk_by (own := [("row", 3)]) (N := ["rules", "string", "worths", "row"]) (sc := defScope s_table_of) (by decide +kernel)) (fun _ _ _ _ _ => (pg_name (i := 3) sc_table_of.nd rfl (.inl rfl))) (fun _ _ _ _ _ => pts_nil) (fun _ _ _ _ _ => (pe_op (catT K) (pv 3) (pe_tup (pa_cons (pe_dget (hu_of hr) (pv 2) (pv 3) (fun _ _ => rfl)) pa_nil))))))))), ?_⟩
    refine ⟨_, rfl, _, rfl, v, r, x, rfl, hR, hx, hO, fun H1 k1 => ?_⟩
    refine ⟨_, rfl, _, rfl, v, r, x, rfl, RulesW.mono _ _ _ _ (TupK.ext k1) hR, ok, hx, fun W kws H2 hW hW2 hWs k2 => ?_⟩
    refine ⟨W, kws, r, x, rfl, hW2, hx, hWs, fun D kvs H3 hD hD3 hM k3 => ?_⟩
    have k03 := (k1.trans k2).trans k3
    have hrl := rows_len (L := x.length) (by omega)
    generalize rowsL x.length = rows at hM q hrl
    refine ⟨_, rfl, D, _, rfl, .inl hD3, fun bs hkeys => ?_⟩
    obtain ⟨bes, hb1, hb2, hb3⟩ := rows_zip hM.1 hkeys
    refine ⟨_, fun y => y.1, fun y => dRw y.2, bes, hb1.symm, fun y hy => ⟨.tup (SqT.of (hb3 y hy)) (.cons (.str _) (.cons (.int _) (.cons (.int _) .nil))), by simp [dRw, PyData.depth, PyData.depthAll]⟩, PySem.W.AllAlike.of fun b b' => by simp [dRw, PySem.W.alike, PySem.W.alikeAll], PySem.W.Sortable.tuples fun b => ⟨_, _, rfl⟩, fun ls hls => ?_⟩
    obtain ⟨S, hS⟩ : ∃ S, S = bes.mergeSort (PySem.W.dataLe false fun y => dRw y.2) := ⟨_, rfl⟩
    rw [← hS]
    have hperm : S.Perm bes := hS ▸ List.mergeSort_perm _ _
    have hS2 : S.map (·.2) = SR rows := by
      have hm := List.map_mergeSort (r := PySem.W.dataLe false fun y : Addr × Rw => dRw y.2) (s := PySem.W.dataLe false dRw) (f := fun b : Addr × Rw => b.2) (l := bes) (fun a _ b _ => rfl)
      rw [hb2] at hm
      rw [hS]
      exact hm
    have hSl : S.length = rows.length := by
      rw [hperm.length_eq, ← hb2, List.length_map]
    have x4 := Ext.new (o := .lst (S.map fun y => V.ref y.1)) hls
    refine ⟨ls, rfl, ⟨_, SqL.of upd_same⟩, fun D5 hD5 => lc_list (K := K) (xs := S.map fun y => V.ref y.1) (fun i H5 => ∃ vs : List V, H5 D5 = some (.lst vs) ∧ Paired (TrAt r x H5) vs ((S.take i).map (·.2)) ∧ Ext (upd H3 ls (.lst (S.map fun y => V.ref y.1))) H5)
      ⟨[], upd_same, .nil, Ext.new hD5⟩ (fun i H5 _ ⟨_, _, _, k⟩ => SqL.of (k _ _ upd_same)) (fun i u H5 hi hv => ?_) (fun H5 hv => ?_)⟩
    · obtain ⟨vs, hL5, hP5, k5⟩ := hv
      obtain ⟨y, hy, rfl⟩ : ∃ y, S[i]? = some y ∧ u = V.ref y.1 := by
        rw [List.getElem?_map] at hi
        cases e : S[i]? with
        | none => rw [e] at hi; cases hi
        | some y => rw [e] at hi; exact ⟨y, rfl, (Option.some.inj hi).symm⟩
      have hym : y ∈ bes := hperm.mem_iff.mp (List.mem_of_getElem? hy)
      have hyr : y.2 ∈ rows := hb2 ▸ List.mem_map.mpr ⟨y, hym, rfl⟩
      have hb5 := k5 _ _ (x4 _ _ (hb3 y hym))
      have hD5' := k5 _ _ (x4 _ _ hD3)
      have hdg : DGet H5 D (.ref y.1) (some (oi (mn r x y.2))) := hM.2 _ hyr ▸ DGet.t (k := rk y.2) hD5' hb5
      refine ⟨rfl, _, rfl, _, rfl, _, rfl, D, _, rfl, hdg, szL (show 1 ≤ 1000000 by decide), fun t1 ht1 => ?_⟩
      have e6 := Ext.new (o := .tup [oi (mn r x y.2)]) ht1
      refine ⟨y.1, t1, _, _, rfl, rfl, SqT.of (e6 _ _ hb5), SqT.of upd_same, (fun z => by cases z), szL (show 3 + 1 ≤ 1000000 by decide), (fun z => by cases z), fun _ t2 ht2 => ?_⟩
      have e7 := e6.trans (Ext.new (o := .tup [.str y.2.1, .int y.2.2.1, .int y.2.2.2, oi (mn r x y.2)]) ht2)
      have hL7 := e7 _ _ hL5
      have nDt : t2 ≠ D5 := by
        intro z
        rw [← z] at hL7
        rw [upd_same] at hL7
        cases hL7
      have hvl : vs.length ≤ i := by
        rw [paired_len hP5, List.length_map, List.length_take]
        omega
      have hiS : i < S.length := (List.getElem?_eq_some_iff.mp hy).1
      refine ⟨vs, hL7, szLt (by omega), vs ++ [.ref t2], upd_same, ?_, (k5.trans e7).put hD5⟩
      rw [List.take_add_one, hy, List.map_append]
      refine (paired_imp (fun _ _ => TrAt.mono r x _ _ _ _ ((TupK.ext e7).trans (TupK.lst hL7))) hP5).snoc ⟨t2, rfl, ?_⟩
      rw [upd_ne nDt, upd_same]
    · obtain ⟨vs, hL5, hP5, k5⟩ := hv
      rw [List.length_map, List.take_of_length_le (Nat.le_refl _), hS2] at hP5
      exact q D5 vs H5 ((k03.trans x4).none hD5) hL5 hP5 ((k03.trans x4).trans k5)
abbrev CTable (P : Program) (w : World) (K : PySem.W.Frag) (mg : Str → Option Value) (base : Heap) : Prop := Ca P w K mg base 6 "table_of" ["rules", "string"] spTable
end
end Pf


namespace Pf
open PySem PySem.Spec PyProof.Rows L2
/-! ### the least of a row is the least of its ways -/
theorem mn_ways {r : Rl} {x : Str} {L : Nat} {y : Rw} (hv : Vr L y) : IsMin (mn r x y) ((waysOf r x y).filterMap (wayO (mn r x))) := by
  obtain ⟨m, hm⟩ := mins_ex ((waysOf r x y).filterMap (wayO (mn r x)))
  have h := row_min hv (fun wy _ z _ => mn_is r x z) hm
  rw [IsMin.uniq (mn_is r x y) h]
  exact hm
/-- rows in their turn: what holds of a row by the rows of its ways holds of all -/
theorem mn_ind {r : Rl} {x : Str} {L : Nat} {P : Rw → Prop} (step : ∀ y, Vr L y → (∀ wy ∈ waysOf r x y, ∀ z ∈ wy.2, Vr L z ∧ P z) → P y) : ∀ y ∈ rowsL L, P y := by
  have aux : ∀ k : Nat, ∀ i y, i < k → (rowsL L)[i]? = some y → P y := by
    intro k
    induction k with
    | zero => intro i y h; omega
    | succ k ih =>
      intro i y hi hy
      obtain ⟨hv, hlead⟩ := rows_at (r := r) (x := x) hy
      refine step y hv fun wy hwy z hz => ?_
      obtain ⟨j, hj⟩ := List.mem_iff_getElem?.mp (hlead wy hwy z hz)
      rw [List.getElem?_take] at hj
      by_cases c : j < i
      · rw [if_pos c] at hj
        exact ⟨(rows_at (r := r) (x := x) hj).1, ih j z (by omega) hj⟩
      · rw [if_neg c] at hj
        cases hj
  intro y hy
  obtain ⟨i, hi⟩ := List.mem_iff_getElem?.mp hy
  exact aux (i + 1) i y (by omega) hi
theorem wayO_eq {T T' : Rw → Option Int} {c : Int} {zs zs' : List Rw} (h : zs.map T = zs'.map T') : wayO T (c, zs) = wayO T' (c, zs') := by
  have e1 : (zs.all fun z => (T z).isSome) = ((zs.map T).all Option.isSome) := by
    rw [List.all_map]
    rfl
  have e2 : (zs'.all fun z => (T' z).isSome) = ((zs'.map T').all Option.isSome) := by
    rw [List.all_map]
    rfl
  have e3 : (zs.map fun z => (T z).getD 0) = (zs.map T).map fun o => o.getD 0 := by
    rw [List.map_map]
    rfl
  have e4 : (zs'.map fun z => (T' z).getD 0) = (zs'.map T').map fun o => o.getD 0 := by
    rw [List.map_map]
    rfl
  show (if (zs.all fun z => (T z).isSome) = true then some (c + (zs.map fun z => (T z).getD 0).sum) else none) = (if (zs'.all fun z => (T' z).isSome) = true then some (c + (zs'.map fun z => (T' z).getD 0).sum) else none)
  rw [e1, e2, e3, e4, h]
/-! ### a row called otherwise: places shifted, the same worths -/
def sh (s : Int) (y : Rw) : Rw := (y.1, y.2.1 + s, y.2.2 + s)
def shW (s : Int) (wy : Wy) : Wy := (wy.1, wy.2.map (sh s))
structure Iso (r r' : Rl) (x x' : Str) (s : Int) (L : Int) : Prop where
  lo : r'.loops = r.loops
  may : ∀ i j, 0 ≤ i → i < j → j < L → mayC r' x' i j = mayC r x (i + s) (j + s)
  pw : ∀ i j, 0 ≤ i → i < j → j < L → pwI r'.prs (tx2 x' (i, j)) = pwI r.prs (tx2 x (i + s, j + s))
  sw : ∀ i j p q, 0 ≤ i → i < p → p < q → q < j → j < L → swI r'.stk (tx2 x' (i, j)) (tx2 x' (p, q)) = swI r.stk (tx2 x (i + s, j + s)) (tx2 x (p + s, q + s))
theorem Iso.lo' {r r' : Rl} {x x' : Str} {s L : Int} (h : Iso r r' x x' s L) (k : Nat) : Pf.lo r' k = Pf.lo r k := by
  unfold Pf.lo
  rw [h.lo]
theorem free_sh (i j s : Int) (ks : List (Int × Int)) : freeI (i + s, j + s) (ks.map fun z => (z.1 + s, z.2 + s)) = freeI (i, j) ks := by
  have e : wid (ks.map fun z => (z.1 + s, z.2 + s)) = wid ks := by
    unfold wid
    rw [List.map_map]
    congr 1
    refine List.map_congr_left fun z _ => ?_
    show z.2 + s - (z.1 + s) + 1 = z.2 - z.1 + 1
    omega
  unfold freeI
  rw [e]
  omega
theorem lp_nil (r : Rl) (x : Str) (one : Int × Int) : lpW r x one [] = lo r 6 + freeI one [] * lo r 7 := by
  unfold lpW
  exact if_pos rfl
theorem lp_one (r : Rl) (x : Str) (one z : Int × Int) : lpW r x one [z] = if 0 < freeI one [z] then lo r 1 + freeI one [z] * lo r 2 else lo r 0 + swI r.stk (tx2 x one) (tx2 x z) := by
  unfold lpW
  exact (if_neg (show ¬ (1 : Nat) = 0 by decide)).trans (if_neg (show ¬ 1 < (1 : Nat) by decide))
theorem iso_lp0 {r r' : Rl} {x x' : Str} {s L : Int} (h : Iso r r' x x' s L) (i j : Int) : lpW r x (i + s, j + s) [] = lpW r' x' (i, j) [] := by
  have e := free_sh i j s []
  rw [List.map_nil] at e
  rw [lp_nil, lp_nil, e, h.lo', h.lo']
theorem iso_lp1 {r r' : Rl} {x x' : Str} {s L : Int} (h : Iso r r' x x' s L) {i j p q : Int} (h0 : 0 ≤ i) (h1 : i < p) (h2 : p < q) (h3 : q < j) (h4 : j < L) : lpW r x (i + s, j + s) [(p + s, q + s)] = lpW r' x' (i, j) [(p, q)] := by
  have e := free_sh i j s [(p, q)]
  have e : freeI (i + s, j + s) [(p + s, q + s)] = freeI (i, j) [(p, q)] := e
  rw [lp_one, lp_one, e, h.lo', h.lo', h.lo', h.sw i j p q h0 h1 h2 h3 h4]
theorem fm_congr {α β : Type} {f g : α → Option β} : ∀ {l : List α}, (∀ y ∈ l, f y = g y) → l.filterMap f = l.filterMap g
  | [], _ => rfl
  | y :: l, h => by
    rw [List.filterMap_cons, List.filterMap_cons, h y (List.mem_cons_self ..), fm_congr fun z hz => h z (List.mem_cons_of_mem _ hz)]
theorem iso_shut {r r' : Rl} {x x' : Str} {s L : Int} (h : Iso r r' x x' s L) {i j : Int} (h0 : 0 ≤ i) (h1 : i < j) (h2 : j < L) : shutW r x (i + s) (j + s) = (shutW r' x' i j).map (shW s) := by
  have hpw := h.pw i j h0 h1 h2
  unfold shutW
  rw [← h.may i j h0 h1 h2]
  by_cases c : mayC r' x' i j = true
  · rw [if_pos c, if_pos c, List.map_append, List.map_cons, show j + s - (i + s + 1) = j - (i + 1) by omega]
    congr 1
    · congr 1
      · unfold shZ
        rw [← hpw, iso_lp0 h]
        rfl
      · unfold shI
        rw [List.map_flatMap]
        refine flat_congr fun a ha => ?_
        have ha := List.mem_range.mp ha
        unfold shR
        rw [List.map_map, show j + s - (i + s + 1 + (a : Int) + 1) = j - (i + 1 + (a : Int) + 1) by omega]
        refine List.map_congr_left fun b hb => ?_
        have hb := List.mem_range.mp hb
        unfold shY
        rw [show i + s + 1 + (a : Int) = i + 1 + (a : Int) + s by omega, show i + 1 + (a : Int) + s + 1 + (b : Int) = i + 1 + (a : Int) + 1 + (b : Int) + s by omega, ← hpw, iso_lp1 h h0 (by omega) (by omega) (by omega) h2]
        rfl
    · by_cases c2 : i + 1 < j
      · rw [if_pos c2, if_pos (by omega)]
        unfold shF
        rw [← hpw, h.lo']
        show [(_, [(("two" : Str), i + s + 1, j + s - 1)])] = [(_, [(("two" : Str), i + 1 + s, j - 1 + s)])]
        rw [show i + s + 1 = i + 1 + s by omega, show j + s - 1 = j - 1 + s by omega]
      · rw [if_neg c2, if_neg (by omega)]
        rfl
  · rw [if_neg c, if_neg c]
    rfl
theorem iso_ways {r r' : Rl} {x x' : Str} {s : Int} {L : Nat} (h : Iso r r' x x' s L) {y : Rw} (hv : Vr L y) (ho : y.1 ≠ "open") : waysOf r x (sh s y) = (waysOf r' x' y).map (shW s) := by
  cases hv with
  | @shut i j h0 h1 h2 =>
    show waysOf r x ("shut", i + s, j + s) = _
    rw [ways_shut, ways_shut, iso_shut h h0 h1 h2]
  | @one i j h0 h1 h2 =>
    show waysOf r x ("one", i + s, j + s) = _
    rw [ways_one, ways_one]
    unfold oneW fstW brW
    rw [List.map_append, List.map_append, List.map_map, List.map_map, show j + s + 1 - (i + s + 1) = j + 1 - (i + 1) by omega, show j + s - (i + s + 1) = j - (i + 1) by omega]
    congr 1
    · congr 1
      · by_cases c : i < j
        · rw [if_pos c, if_pos (by omega)]
          unfold fstY
          rw [h.lo']
          show [(lo r 5, [(("one" : Str), i + s + 1, j + s)])] = [(lo r 5, [(("one" : Str), i + 1 + s, j + s)])]
          rw [show i + s + 1 = i + 1 + s by omega]
        · rw [if_neg c, if_neg (by omega)]
          rfl
      · refine List.map_congr_left fun t _ => ?_
        unfold oneY
        show _ = (lo r' 4 + (j - (i + 1 + (t : Int))) * lo r' 5, [(("shut" : Str), i + s, i + 1 + (t : Int) + s)])
        rw [h.lo', h.lo', show j + s - (i + s + 1 + (t : Int)) = j - (i + 1 + (t : Int)) by omega, show i + s + 1 + (t : Int) = i + 1 + (t : Int) + s by omega]
    · refine List.map_congr_left fun t _ => ?_
      show brY (lo r 4) (i + s) (j + s) t = shW s (brY (lo r' 4) i j t)
      unfold brY
      show _ = (lo r' 4, [(("shut" : Str), i + s, i + 1 + (t : Int) + s), (("one" : Str), i + 1 + (t : Int) + 1 + s, j + s)])
      rw [h.lo', show i + s + 1 + (t : Int) = i + 1 + (t : Int) + s by omega, show i + 1 + (t : Int) + s + 1 = i + 1 + (t : Int) + 1 + s by omega]
  | @two i j h0 h1 h2 =>
    show waysOf r x ("two", i + s, j + s) = _
    rw [ways_two, ways_two]
    unfold twoW fstW brW
    rw [List.map_append, List.map_map, show j + s - (i + s + 1) = j - (i + 1) by omega]
    congr 1
    · by_cases c : i < j
      · rw [if_pos c, if_pos (by omega)]
        unfold fstY
        rw [h.lo']
        show [(lo r 5, [(("two" : Str), i + s + 1, j + s)])] = [(lo r 5, [(("two" : Str), i + 1 + s, j + s)])]
        rw [show i + s + 1 = i + 1 + s by omega]
      · rw [if_neg c, if_neg (by omega)]
        rfl
    · refine List.map_congr_left fun t _ => ?_
      show brY (lo r 4) (i + s) (j + s) t = shW s (brY (lo r' 4) i j t)
      unfold brY
      show _ = (lo r' 4, [(("shut" : Str), i + s, i + 1 + (t : Int) + s), (("one" : Str), i + 1 + (t : Int) + 1 + s, j + s)])
      rw [h.lo', show i + s + 1 + (t : Int) = i + 1 + (t : Int) + s by omega, show i + 1 + (t : Int) + s + 1 = i + 1 + (t : Int) + 1 + s by omega]
  | opn _ _ => exact absurd rfl ho
/-- ways of rows within lead to none that is open -/
theorem no_open {r : Rl} {x : Str} {L : Nat} {y : Rw} (hv : Vr L y) (ho : y.1 ≠ "open") : ∀ wy ∈ waysOf r x y, ∀ z ∈ wy.2, z.1 ≠ "open" := by
  have n1 : ("shut" : Str) ≠ "open" := by decide +kernel
  have n2 : ("one" : Str) ≠ "open" := by decide +kernel
  have n3 : ("two" : Str) ≠ "open" := by decide +kernel
  have br : ∀ {b i j : Int} {wy : Wy}, wy ∈ brW b i j → ∀ z ∈ wy.2, z.1 ≠ "open" := fun {b i j wy} hw z hz => by
    obtain ⟨t, _, rfl⟩ := List.mem_map.mp hw
    simp only [brY, List.mem_cons, List.not_mem_nil, or_false] at hz
    rcases hz with rfl | rfl
    · exact n1
    · exact n2
  intro wy hw z hz
  cases hv with
  | @shut i j h0 h1 h2 =>
    rw [ways_shut] at hw
    unfold shutW at hw
    split at hw
    · rcases List.mem_append.mp hw with hw | hw
      · rcases List.mem_cons.mp hw with rfl | hw
        · cases hz
        · unfold shI at hw
          obtain ⟨a, _, hw⟩ := List.mem_flatMap.mp hw
          obtain ⟨b, _, rfl⟩ := List.mem_map.mp hw
          rw [List.mem_singleton.mp hz]
          exact n1
      · split at hw
        · rw [List.mem_singleton.mp hw] at hz
          rw [List.mem_singleton.mp hz]
          exact n3
        · cases hw
    · cases hw
  | @one i j h0 h1 h2 =>
    rw [ways_one] at hw
    unfold oneW fstW at hw
    rcases List.mem_append.mp hw with hw | hw
    · rcases List.mem_append.mp hw with hw | hw
      · split at hw
        · rw [List.mem_singleton.mp hw] at hz
          rw [List.mem_singleton.mp hz]
          exact n2
        · cases hw
      · obtain ⟨t, _, rfl⟩ := List.mem_map.mp hw
        rw [List.mem_singleton.mp hz]
        exact n1
    · exact br hw z hz
  | @two i j h0 h1 h2 =>
    rw [ways_two] at hw
    unfold twoW fstW at hw
    rcases List.mem_append.mp hw with hw | hw
    · split at hw
      · rw [List.mem_singleton.mp hw] at hz
        rw [List.mem_singleton.mp hz]
        exact n3
      · cases hw
    · exact br hw z hz
  | opn _ _ => exact absurd rfl ho
/-- rows other than open ones: those of the other string, shifted -/
theorem iso_mn {r r' : Rl} {x x' : Str} {s : Int} {L : Nat} {M : Nat} (h : Iso r r' x x' s L) (hs : 0 ≤ s) (hM : s + L ≤ M) : ∀ y ∈ rowsL L, y.1 ≠ "open" → mn r' x' y = mn r x (sh s y) := by
  refine mn_ind (r := r') (x := x') (L := L) (P := fun y => y.1 ≠ "open" → mn r' x' y = mn r x (sh s y)) fun y hv ih ho => ?_
  have hv' : Vr M (sh s y) := by
    cases hv with
    | @shut i j h0 h1 h2 => exact .shut (show 0 ≤ i + s by omega) (show i + s < j + s by omega) (show j + s < (M : Int) by omega)
    | @one i j h0 h1 h2 => exact .one (show 0 ≤ i + s by omega) (show i + s ≤ j + s by omega) (show j + s < (M : Int) by omega)
    | @two i j h0 h1 h2 => exact .two (show 0 ≤ i + s by omega) (show i + s ≤ j + s by omega) (show j + s < (M : Int) by omega)
    | opn _ _ => exact absurd rfl ho
  have e := iso_ways h hv ho
  have m1 := mn_ways (r := r') (x := x') hv
  have m2 := mn_ways (r := r) (x := x) hv'
  rw [e, List.filterMap_map] at m2
  have ef : (waysOf r' x' y).filterMap (wayO (mn r x) ∘ shW s) = (waysOf r' x' y).filterMap (wayO (mn r' x')) := by
    refine fm_congr fun wy hwy => ?_
    refine wayO_eq ?_
    rw [List.map_map]
    refine List.map_congr_left fun z hz => ?_
    exact ((ih wy hwy z hz).2 (no_open hv ho wy hwy z hz)).symm
  rw [ef] at m2
  exact IsMin.uniq m1 m2
/-- all rows, where the one string is the end of the other -/
theorem iso_open {r r' : Rl} {x x' : Str} {s : Int} {L : Nat} (h : Iso r r' x x' s L) (i z : Int) : openW r (i + s) (z + s) = (openW r' i z).map (shW s) := by
  unfold openW
  by_cases c : z < i
  · rw [if_pos c, if_pos (by omega)]
    rfl
  · rw [if_neg c, if_neg (by omega), List.map_cons, List.map_map, show z + s + 1 - (i + s + 1) = z + 1 - (i + 1) by omega]
    congr 1
    · show ((0 : Int), [(("open" : Str), i + s + 1, z + s)]) = (0, [(("open" : Str), i + 1 + s, z + s)])
      rw [show i + s + 1 = i + 1 + s by omega]
    · refine List.map_congr_left fun t _ => ?_
      unfold openY
      show _ = (lo r' 8, [(("shut" : Str), i + s, i + 1 + (t : Int) + s), (("open" : Str), i + 1 + (t : Int) + 1 + s, z + s)])
      rw [h.lo', show i + s + 1 + (t : Int) = i + 1 + (t : Int) + s by omega, show i + 1 + (t : Int) + s + 1 = i + 1 + (t : Int) + 1 + s by omega]
theorem iso_all {r r' : Rl} {x x' : Str} {s : Int} {L M : Nat} (h : Iso r r' x x' s L) (hs : 0 ≤ s) (hM : s + L = M) : ∀ y ∈ rowsL L, mn r' x' y = mn r x (sh s y) := by
  refine mn_ind (r := r') (x := x') (L := L) (P := fun y => mn r' x' y = mn r x (sh s y)) fun y hv ih => ?_
  have hv' : Vr M (sh s y) := by
    cases hv with
    | @shut i j h0 h1 h2 => exact .shut (show 0 ≤ i + s by omega) (show i + s < j + s by omega) (show j + s < (M : Int) by omega)
    | @one i j h0 h1 h2 => exact .one (show 0 ≤ i + s by omega) (show i + s ≤ j + s by omega) (show j + s < (M : Int) by omega)
    | @two i j h0 h1 h2 => exact .two (show 0 ≤ i + s by omega) (show i + s ≤ j + s by omega) (show j + s < (M : Int) by omega)
    | @opn i h0 h1 =>
      show Vr M ("open", i + s, (L : Int) - 1 + s)
      rw [show (L : Int) - 1 + s = (M : Int) - 1 by omega]
      exact .opn (by omega) (by omega)
  have e : waysOf r x (sh s y) = (waysOf r' x' y).map (shW s) := by
    by_cases ho : y.1 = "open"
    · cases hv with
      | shut _ _ _ => exact absurd ho.symm ne_ps
      | one _ _ _ => exact absurd ho.symm ne_po
      | two _ _ _ => exact absurd ho.symm ne_pt
      | @opn i h0 h1 =>
        show waysOf r x ("open", i + s, (L : Int) - 1 + s) = _
        rw [ways_open, ways_open, iso_open h]
    · exact iso_ways h hv ho
  have m1 := mn_ways (r := r') (x := x') hv
  have m2 := mn_ways (r := r) (x := x) hv'
  rw [e, List.filterMap_map] at m2
  have ef : (waysOf r' x' y).filterMap (wayO (mn r x) ∘ shW s) = (waysOf r' x' y).filterMap (wayO (mn r' x')) := by
    refine fm_congr fun wy hwy => ?_
    refine wayO_eq ?_
    rw [List.map_map]
    refine List.map_congr_left fun z hz => ?_
    exact (ih wy hwy z hz).2.symm
  rw [ef] at m2
  exact IsMin.uniq m1 m2
/-! ### worths so many times greater -/
theorem min_scale {k : Int} (hk : 0 < k) {m : Option Int} {l : List Int} (h : IsMin m l) : IsMin (m.map (k * ·)) (l.map (k * ·)) := by
  cases m with
  | none =>
    have h : l = [] := h
    subst h
    rfl
  | some m =>
    refine ⟨List.mem_map.mpr ⟨m, h.1, rfl⟩, fun y hy => ?_⟩
    obtain ⟨z, hz, rfl⟩ := List.mem_map.mp hy
    exact Int.mul_le_mul_of_nonneg_left (h.2 z hz) (by omega)
def scW (k : Int) (wy : Wy) : Wy := (k * wy.1, wy.2)
theorem sum_scale (k : Int) : ∀ l : List Int, (l.map (k * ·)).sum = k * l.sum
  | [] => by simp
  | y :: l => by
    rw [List.map_cons, List.sum_cons, List.sum_cons, sum_scale k l, Int.mul_add]
theorem wayO_scale (k : Int) (T : Rw → Option Int) (wy : Wy) : wayO (fun z => (T z).map (k * ·)) (scW k wy) = (wayO T wy).map (k * ·) := by
  have e1 : (wy.2.all fun z => ((T z).map (k * ·)).isSome) = wy.2.all fun z => (T z).isSome := by
    congr 1
    funext z
    rw [Option.isSome_map]
  show (if (wy.2.all fun z => ((T z).map (k * ·)).isSome) = true then some (k * wy.1 + (wy.2.map fun z => ((T z).map (k * ·)).getD 0).sum) else none) = _
  rw [e1]
  unfold wayO
  by_cases c : (wy.2.all fun z => (T z).isSome) = true
  · rw [if_pos c, if_pos c]
    have e2 : (wy.2.map fun z => ((T z).map (k * ·)).getD 0) = (wy.2.map fun z => (T z).getD 0).map (k * ·) := by
      rw [List.map_map]
      refine List.map_congr_left fun z hz => ?_
      have hz := List.all_eq_true.mp c z hz
      cases e : T z with
      | none =>
        rw [e] at hz
        cases hz
      | some v => simp [e]
    rw [e2, sum_scale]
    show some (k * wy.1 + k * _) = some (k * (wy.1 + _))
    rw [Int.mul_add]
  · rw [if_neg c, if_neg c]
    rfl
theorem mn_scale {r r' : Rl} {x : Str} {L : Nat} {k : Int} (hk : 0 < k) (hw : ∀ y, Vr L y → waysOf r' x y = (waysOf r x y).map (scW k)) : ∀ y ∈ rowsL L, mn r' x y = (mn r x y).map (k * ·) := by
  refine mn_ind (r := r) (x := x) (L := L) (P := fun y => mn r' x y = (mn r x y).map (k * ·)) fun y hv ih => ?_
  have m1 := mn_ways (r := r') (x := x) hv
  have m2 := min_scale hk (mn_ways (r := r) (x := x) hv)
  rw [hw y hv, List.filterMap_map] at m1
  have ef : (waysOf r x y).filterMap (wayO (mn r' x) ∘ scW k) = ((waysOf r x y).filterMap (wayO (mn r x))).map (k * ·) := by
    rw [List.map_filterMap]
    refine fm_congr fun wy hwy => ?_
    have := wayO_scale k (mn r x) wy
    rw [← this]
    refine wayO_eq ?_
    exact List.map_congr_left fun z hz => (ih wy hwy z hz).2
  rw [ef] at m1
  exact IsMin.uniq m1 m2
end Pf


namespace Pf
open PySem PySem.Spec PyProof.Rows L2
/-! ### sorted lists of the same things are the same, where keys tell them apart -/
theorem sort_eq {β : Type} (k : β → PyData) (inj : ∀ a b, PySem.W.keyToks (k a) = PySem.W.keyToks (k b) → a = b) {l l' : List β} (p : l.Perm l') : l.mergeSort (PySem.W.dataLe false k) = l'.mergeSort (PySem.W.dataLe false k) := by
  have T := PySem.W.sortLe_total (listOrd itemOrd) false fun z : β => PySem.W.keyToks (k z)
  have tot : ∀ a b : β, (PySem.W.dataLe false k a b || PySem.W.dataLe false k b a) = true := fun a b => by
    rcases T.total a b with h | h
    · rw [show PySem.W.dataLe false k a b = true from h]
      rfl
    · rw [show PySem.W.dataLe false k b a = true from h, Bool.or_true]
  have p1 := List.pairwise_mergeSort (le := PySem.W.dataLe false k) T.trans tot l
  have p2 := List.pairwise_mergeSort (le := PySem.W.dataLe false k) T.trans tot l'
  refine List.Perm.eq_of_pairwise (fun a b _ _ x y => ?_) p1 p2 (((List.mergeSort_perm l _).trans p).trans (List.mergeSort_perm l' _).symm)
  have x : (!(listOrd itemOrd).blt (PySem.W.keyToks (k b)) (PySem.W.keyToks (k a))) = true := x
  have y : (!(listOrd itemOrd).blt (PySem.W.keyToks (k a)) (PySem.W.keyToks (k b))) = true := y
  exact inj a b ((listOrd itemOrd).total _ _ (by simpa using y) (by simpa using x))
theorem dRw_inj (a b : Rw) (h : PySem.W.keyToks (dRw a) = PySem.W.keyToks (dRw b)) : a = b := by
  obtain ⟨a1, a2, a3⟩ := a
  obtain ⟨b1, b2, b3⟩ := b
  simp only [dRw, PySem.W.keyToks, PySem.W.keyToksAll, List.cons_append, List.nil_append, List.cons.injEq, Sum.inr.injEq, Sum.inl.injEq, true_and, and_true] at h
  obtain ⟨h1, h2, h3⟩ := h
  rw [PySem.W.str_of_cps h1, h2, h3]
theorem rw_zip {H : Hp} {us : List V} {rows : List Rw} (h : Paired (RwAt H) us rows) : ∃ bes : List (Addr × Rw), us = bes.map (fun y => V.ref y.1) ∧ bes.map (·.2) = rows ∧ ∀ y ∈ bes, H y.1 = some (.tup [.str y.2.1, .int y.2.2.1, .int y.2.2.2]) := by
  induction h with
  | nil => exact ⟨[], rfl, rfl, fun y h => by cases h⟩
  | cons r _ ih =>
    obtain ⟨a, rfl, ha⟩ := r
    obtain ⟨bes, rfl, rfl, h3⟩ := ih
    refine ⟨(a, _) :: bes, rfl, rfl, fun y hy => ?_⟩
    rcases List.mem_cons.mp hy with rfl | hy
    · exact ha
    · exact h3 y hy
theorem paired_both {α : Type} {R : V → Rw → Prop} {f : α → V} {g : α → Rw} : ∀ {l : List α}, (∀ y ∈ l, R (f y) (g y)) → Paired R (l.map f) (l.map g)
  | [], _ => .nil
  | y :: l, h => .cons (h y (List.mem_cons_self ..)) (paired_both fun z hz => h z (List.mem_cons_of_mem _ hz))
end Pf


namespace Pf
open PySem PySem.Spec PyProof.Rows L2
/-! ### a folding that a row stands for, and what it comes to -/
inductive Sd (r : Rl) (x : Str) (L : Nat) : Rw → Fo → Int → Prop
  | shut {i j : Int} {t : Nat} {one : Fo} : j = i + 1 + (t : Nat) → mayC r x i j = true → one ∈ WA r x t (i + 1) → Sd r x L ("shut", i, j) ((i, j) :: one) (sV r x (i, j) one)
  | one {i j : Int} {n : Nat} {q : Fo} : (n : Int) = j - i + 1 → q ∈ WA r x n i → 0 < (tops q).length → Sd r x L ("one", i, j) q (fV r x n q)
  | two {i j : Int} {n : Nat} {q : Fo} : (n : Int) = j - i + 1 → q ∈ WA r x n i → 1 < (tops q).length → Sd r x L ("two", i, j) q (fV r x n q)
  | opn {i : Int} {n : Nat} {q : Fo} : i + (n : Nat) = L → q ∈ WA r x n i → Sd r x L ("open", i, (L : Int) - 1) q (oV r x q)
section
variable {r : Rl} {x : Str} {L : Nat}
theorem sd_shut {i j v : Int} {q : Fo} (h : Sd r x L ("shut", i, j) q v) : ∃ (t : Nat) (one : Fo), j = i + 1 + (t : Nat) ∧ mayC r x i j = true ∧ one ∈ WA r x t (i + 1) ∧ q = (i, j) :: one ∧ v = sV r x (i, j) one := by
  generalize e : (("shut", i, j) : Rw) = y at h
  cases h with
  | shut h1 h2 h3 =>
    injection e with _ e
    injection e with e1 e2
    subst e1 e2
    exact ⟨_, _, h1, h2, h3, rfl, rfl⟩
  | one h1 h2 h3 => injection e with e; exact absurd e (by decide +kernel)
  | two h1 h2 h3 => injection e with e; exact absurd e (by decide +kernel)
  | opn h1 h2 => injection e with e; exact absurd e (by decide +kernel)
theorem sd_one {i j v : Int} {q : Fo} (h : Sd r x L ("one", i, j) q v) : ∃ n : Nat, (n : Int) = j - i + 1 ∧ q ∈ WA r x n i ∧ 0 < (tops q).length ∧ v = fV r x n q := by
  generalize e : (("one", i, j) : Rw) = y at h
  cases h with
  | one h1 h2 h3 =>
    injection e with _ e
    injection e with e1 e2
    subst e1 e2
    exact ⟨_, h1, h2, h3, rfl⟩
  | shut h1 h2 h3 => injection e with e; exact absurd e (by decide +kernel)
  | two h1 h2 h3 => injection e with e; exact absurd e (by decide +kernel)
  | opn h1 h2 => injection e with e; exact absurd e (by decide +kernel)
theorem sd_two {i j v : Int} {q : Fo} (h : Sd r x L ("two", i, j) q v) : ∃ n : Nat, (n : Int) = j - i + 1 ∧ q ∈ WA r x n i ∧ 1 < (tops q).length ∧ v = fV r x n q := by
  generalize e : (("two", i, j) : Rw) = y at h
  cases h with
  | two h1 h2 h3 =>
    injection e with _ e
    injection e with e1 e2
    subst e1 e2
    exact ⟨_, h1, h2, h3, rfl⟩
  | shut h1 h2 h3 => injection e with e; exact absurd e (by decide +kernel)
  | one h1 h2 h3 => injection e with e; exact absurd e (by decide +kernel)
  | opn h1 h2 => injection e with e; exact absurd e (by decide +kernel)
theorem sd_open {i j v : Int} {q : Fo} (h : Sd r x L ("open", i, j) q v) : ∃ n : Nat, i + (n : Nat) = (L : Int) ∧ q ∈ WA r x n i ∧ v = oV r x q := by
  generalize e : (("open", i, j) : Rw) = y at h
  cases h with
  | opn h1 h2 =>
    injection e with _ e
    injection e with e1 e2
    subst e1 e2
    exact ⟨_, h1, h2, rfl⟩
  | shut h1 h2 h3 => injection e with e; exact absurd e (by decide +kernel)
  | one h1 h2 h3 => injection e with e; exact absurd e (by decide +kernel)
  | two h1 h2 h3 => injection e with e; exact absurd e (by decide +kernel)
theorem nil_WA (n : Nat) (a : Int) : [] ∈ WA r x n a := by
  obtain ⟨t, e⟩ := WA_head r x n a
  rw [e]
  exact List.mem_cons_self ..
theorem free_WA {n : Nat} {a : Int} {q : Fo} (h : q ∈ WA r x n (a + 1)) : q ∈ WA r x (n + 1) a := by
  rw [WA_succ]
  exact List.mem_append_left _ h
theorem pair_WA {n t : Nat} {a : Int} {one other : Fo} (ht : t < n) (hm : mayC r x a (a + 1 + (t : Nat)) = true) (h1 : one ∈ WA r x t (a + 1)) (h2 : other ∈ WA r x (n - 1 - t) (a + 2 + (t : Nat))) : (a, a + 1 + (t : Nat)) :: (one ++ other) ∈ WA r x (n + 1) a := by
  rw [WA_succ]
  refine List.mem_append_right _ (List.mem_flatMap.mpr ⟨t, List.mem_range.mpr ht, ?_⟩)
  unfold seg
  rw [if_pos hm]
  exact List.mem_flatMap.mpr ⟨one, h1, List.mem_map.mpr ⟨other, h2, rfl⟩⟩
theorem fV_nil (m : Nat) : fV r x m [] = lo r 5 * (m : Int) := by
  unfold fV
  rw [vin_nil]
  show lo r 4 * ((0 : Nat) : Int) + lo r 5 * ((m : Int) - wid []) + 0 = _
  rw [show wid [] = 0 from rfl, Int.sub_zero, Int.add_zero, show ((0 : Nat) : Int) = 0 from rfl, Int.mul_zero, Int.zero_add]
theorem tops_cons {n t : Nat} {a : Int} {one other : Fo} (h1 : one ∈ WA r x t (a + 1)) (h2 : other ∈ WA r x n (a + 2 + (t : Nat))) : tops ((a, a + 1 + (t : Nat)) :: (one ++ other)) = (a, a + 1 + (t : Nat)) :: tops other := (Cut.of h1 h2).tops
theorem oV_pair {n t : Nat} {a : Int} {one other : Fo} (h1 : one ∈ WA r x t (a + 1)) (h2 : other ∈ WA r x n (a + 2 + (t : Nat))) : oV r x ((a, a + 1 + (t : Nat)) :: (one ++ other)) = lo r 8 + (sV r x (a, a + 1 + (t : Nat)) one + oV r x other) := by
  unfold oV
  rw [vin_pair h1 h2, tops_cons h1 h2, List.length_cons, Int.natCast_succ, Int.mul_add, Int.mul_one]
  omega
theorem one_in {p q : Int} {s n : Nat} {a : Int} {w : Fo} (hq : q = p + 1 + (s : Nat)) (hm : mayC r x p q = true) (h : w ∈ WA r x s (p + 1)) (h0 : a ≤ p) (h1 : q < a + (n : Nat)) : (p, q) :: w ∈ WA r x n a ∧ tops ((p, q) :: w) = [(p, q)] ∧ vin r x ((p, q) :: w) = sV r x (p, q) w := by
  subst hq
  have e := pair_WA (n := s + 1) (t := s) (other := []) (by omega) hm h (by rw [show s + 1 - 1 - s = 0 by omega]; exact nil_WA _ _)
  rw [List.append_nil] at e
  have f := fo4_of r x _ _ _ e
  refine ⟨of_fo4 r x n a _ (f.sub (List.Sublist.refl _) fun y hy => ?_), ?_, ?_⟩
  · have := f.inn y hy
    omega
  · have := tops_cons (n := 0) (other := []) h (nil_WA 0 _)
    rw [List.append_nil] at this
    rw [this]
    rfl
  · have := vin_pair (r := r) (x := x) (n := 0) h (nil_WA 0 (p + 2 + (s : Nat)))
    rw [List.append_nil, vin_nil] at this
    rw [this, Int.add_zero]
/-- the pair that a row brings itself -/
def own (y : Rw) : Fo := if y.1 = "shut" then [(y.2.1, y.2.2)] else []
theorem own_s (i j : Int) : own ("shut", i, j) = [(i, j)] := if_pos rfl
theorem own_1 (i j : Int) : own ("one", i, j) = [] := if_neg (show ¬ (("one", i, j) : Rw).1 = "shut" from (by decide +kernel : ¬ ("one" : Str) = "shut"))
theorem own_2 (i j : Int) : own ("two", i, j) = [] := if_neg (show ¬ (("two", i, j) : Rw).1 = "shut" from (by decide +kernel : ¬ ("two" : Str) = "shut"))
theorem own_o (i j : Int) : own ("open", i, j) = [] := if_neg (show ¬ (("open", i, j) : Rw).1 = "shut" from (by decide +kernel : ¬ ("open" : Str) = "shut"))
/-- what rows stand for, put together by a way -/
inductive Zs (r : Rl) (x : Str) (L : Nat) : List Rw → Fo → Int → Prop
  | nil : Zs r x L [] [] 0
  | one {z : Rw} {q : Fo} {v : Int} : Sd r x L z q v → Zs r x L [z] q v
  | two {z z' : Rw} {q q' : Fo} {v v' : Int} : Sd r x L z q v → Sd r x L z' q' v' → Zs r x L [z, z'] (q ++ q') (v + v')
theorem zs0 {q : Fo} {v : Int} (h : Zs r x L [] q v) : q = [] ∧ v = 0 := by
  cases h
  exact ⟨rfl, rfl⟩
theorem zs1 {z : Rw} {q : Fo} {v : Int} (h : Zs r x L [z] q v) : Sd r x L z q v := by
  cases h with
  | one h => exact h
theorem zs2 {z z' : Rw} {q : Fo} {v : Int} (h : Zs r x L [z, z'] q v) : ∃ q1 q2 v1 v2, Sd r x L z q1 v1 ∧ Sd r x L z' q2 v2 ∧ q = q1 ++ q2 ∧ v = v1 + v2 := by
  cases h with
  | two h h' => exact ⟨_, _, _, _, h, h', rfl, rfl⟩
/-- a branch with at least one more behind it -/
theorem sd_br {i j : Int} {t : Nat} {q : Fo} {v : Int} (hij : i ≤ j) (ht : t < (j - (i + 1)).toNat) (h : Zs r x L [("shut", i, i + 1 + (t : Nat)), ("one", i + 1 + (t : Nat) + 1, j)] q v) : ∃ n : Nat, (n : Int) = j - i + 1 ∧ q ∈ WA r x n i ∧ 1 < (tops q).length ∧ lo r 4 + v = fV r x n q := by
  obtain ⟨q1, q2, v1, v2, s1, s2, rfl, rfl⟩ := zs2 h
  obtain ⟨t', one, e, hm, h1, rfl, rfl⟩ := sd_shut s1
  have : t' = t := by omega
  subst this
  obtain ⟨n2, hn2, h2, h3, rfl⟩ := sd_one s2
  obtain ⟨n', hn'⟩ : ∃ n' : Nat, n' = (j - i).toNat := ⟨_, rfl⟩
  have e2 : n2 = n' - 1 - t' := by omega
  subst e2
  rw [show i + 1 + (t' : Int) + 1 = i + 2 + (t' : Nat) by omega] at h2
  have hin := pair_WA (n := n') (t := t') (by omega) hm h1 h2
  refine ⟨n' + 1, by omega, hin, ?_, ?_⟩
  · show 1 < (tops ((i, i + 1 + (t' : Nat)) :: (one ++ q2))).length
    rw [tops_cons h1 h2, List.length_cons]
    omega
  · show _ = fV r x (n' + 1) ((i, i + 1 + (t' : Nat)) :: (one ++ q2))
    rw [fV_pair (show t' < n' by omega) h1 h2]
    omega
theorem sd_way {y : Rw} (hv : Vr L y) {w : Wy} (hw : w ∈ waysOf r x y) {q : Fo} {v : Int} (h : Zs r x L w.2 q v) : ∃ q', Sd r x L y q' (w.1 + v) ∧ q' = own y ++ q := by
  cases hv with
  | shut h0 h1 h2 =>
    rename_i i j
    rw [ways_shut] at hw
    rw [own_s]
    refine ⟨(i, j) :: q, ?_, rfl⟩
    obtain ⟨t, ht⟩ : ∃ t : Nat, t = (j - i - 1).toNat := ⟨_, rfl⟩
    have hj : j = i + 1 + (t : Nat) := by omega
    unfold shutW at hw
    split at hw
    · rename_i hm
      have mk : ∀ {u : Int}, q ∈ WA r x t (i + 1) → u = sV r x (i, j) q → Sd r x L ("shut", i, j) ((i, j) :: q) u := fun h e => e ▸ .shut hj hm h
      rcases List.mem_append.mp hw with hw | hw
      · rcases List.mem_cons.mp hw with rfl | hw
        · obtain ⟨rfl, rfl⟩ := zs0 h
          refine mk (nil_WA _ _) ?_
          show pwI r.prs (tx2 x (i, j)) + lpW r x (i, j) [] + 0 = pwI r.prs (tx2 x (i, j)) + lpW r x (i, j) (tops []) + vin r x []
          rfl
        · unfold shI at hw
          obtain ⟨a, ha, hw⟩ := List.mem_flatMap.mp hw
          unfold shR at hw
          obtain ⟨b, hb, rfl⟩ := List.mem_map.mp hw
          have ha := List.mem_range.mp ha
          have hb := List.mem_range.mp hb
          obtain ⟨p, hp1⟩ : ∃ p : Int, p = i + 1 + (a : Int) := ⟨_, rfl⟩
          obtain ⟨k, hk1⟩ : ∃ k : Int, k = p + 1 + (b : Int) := ⟨_, rfl⟩
          rw [← hp1, ← hk1] at h ⊢
          obtain ⟨s, one, e, hm2, h3, rfl, rfl⟩ := sd_shut (zs1 h)
          obtain ⟨g1, g2, g3⟩ := one_in (a := i + 1) (n := t) e hm2 h3 (by omega) (by omega)
          refine mk g1 ?_
          show pwI r.prs (tx2 x (i, j)) + lpW r x (i, j) [(p, k)] + sV r x (p, k) one = pwI r.prs (tx2 x (i, j)) + lpW r x (i, j) (tops ((p, k) :: one)) + vin r x ((p, k) :: one)
          rw [g2, g3]
      · split at hw
        · rw [List.mem_singleton.mp hw] at h ⊢
          obtain ⟨n, hn, h3, h4, rfl⟩ := sd_two (zs1 h)
          have : n = t := by omega
          subst this
          refine mk h3 ?_
          show pwI r.prs (tx2 x (i, j)) + lo r 3 + fV r x n q = pwI r.prs (tx2 x (i, j)) + lpW r x (i, j) (tops q) + vin r x q
          unfold fV lpW freeI
          rw [if_neg (by omega), if_pos h4, show (j - i - 1 : Int) = n by omega, Int.mul_comm (lo r 4), Int.mul_comm (lo r 5)]
          show _ = _ + (lo r 3 + (((tops q).length : Int) * lo r 4 + ((n : Int) - wid (tops q)) * lo r 5)) + _
          omega
        · cases hw
    · cases hw
  | one h0 h1 h2 =>
    rename_i i j
    rw [ways_one] at hw
    rw [own_1]
    refine ⟨q, ?_, rfl⟩
    have mk : ∀ {u : Int} {n : Nat}, (n : Int) = j - i + 1 → q ∈ WA r x n i → 0 < (tops q).length → u = fV r x n q → Sd r x L ("one", i, j) q u := fun h1 h2 h3 e => e ▸ .one h1 h2 h3
    unfold oneW fstW at hw
    rcases List.mem_append.mp hw with hw | hw
    · rcases List.mem_append.mp hw with hw | hw
      · split at hw
        · rw [List.mem_singleton.mp hw] at h ⊢
          obtain ⟨n, hn, h3, h4, rfl⟩ := sd_one (zs1 h)
          exact mk (n := n + 1) (by omega) (free_WA h3) h4 (by rw [fV_free]; rfl)
        · cases hw
      · obtain ⟨t, ht, rfl⟩ := List.mem_map.mp hw
        have ht := List.mem_range.mp ht
        obtain ⟨t', one, e, hm, h3, rfl, rfl⟩ := sd_shut (zs1 h)
        have : t' = t := by omega
        subst this
        obtain ⟨n', hn'⟩ : ∃ n' : Nat, n' = (j - i).toNat := ⟨_, rfl⟩
        have h5 := pair_WA (n := n') (t := t') (other := []) (by omega) hm h3 (nil_WA _ _)
        have h6 := fV_pair (r := r) (x := x) (n := n') (t := t') (by omega) h3 (nil_WA (r := r) (x := x) (n' - 1 - t') _)
        have h7 := tops_cons (r := r) (x := x) h3 (nil_WA (r := r) (x := x) (n' - 1 - t') _)
        rw [List.append_nil] at h5 h6 h7
        refine mk (n := n' + 1) (by omega) h5 (by rw [h7]; exact Nat.succ_pos _) ?_
        rw [h6, fV_nil, show ((n' - 1 - t' : Nat) : Int) = j - (i + 1 + (t' : Nat)) by omega, Int.mul_comm (lo r 5)]
        show lo r 4 + (j - (i + 1 + (t' : Int))) * lo r 5 + _ = _
        omega
    · unfold brW at hw
      obtain ⟨t, ht, rfl⟩ := List.mem_map.mp hw
      obtain ⟨n, g1, g2, g3, g4⟩ := sd_br h1 (List.mem_range.mp ht) h
      exact mk g1 g2 (by omega) g4
  | two h0 h1 h2 =>
    rename_i i j
    rw [ways_two] at hw
    rw [own_2]
    refine ⟨q, ?_, rfl⟩
    have mk : ∀ {u : Int} {n : Nat}, (n : Int) = j - i + 1 → q ∈ WA r x n i → 1 < (tops q).length → u = fV r x n q → Sd r x L ("two", i, j) q u := fun h1 h2 h3 e => e ▸ .two h1 h2 h3
    unfold twoW fstW at hw
    rcases List.mem_append.mp hw with hw | hw
    · split at hw
      · rw [List.mem_singleton.mp hw] at h ⊢
        obtain ⟨n, hn, h3, h4, rfl⟩ := sd_two (zs1 h)
        exact mk (n := n + 1) (by omega) (free_WA h3) h4 (by rw [fV_free]; rfl)
      · cases hw
    · unfold brW at hw
      obtain ⟨t, ht, rfl⟩ := List.mem_map.mp hw
      obtain ⟨n, g1, g2, g3, g4⟩ := sd_br h1 (List.mem_range.mp ht) h
      exact mk g1 g2 g3 g4
  | opn h0 h1 =>
    rename_i i
    rw [ways_open] at hw
    rw [own_o]
    refine ⟨q, ?_, rfl⟩
    have mk : ∀ {u : Int} {n : Nat}, i + (n : Nat) = (L : Int) → q ∈ WA r x n i → u = oV r x q → Sd r x L ("open", i, (L : Int) - 1) q u := fun h1 h2 e => e ▸ .opn h1 h2
    unfold openW at hw
    split at hw
    · rw [List.mem_singleton.mp hw] at h ⊢
      obtain ⟨rfl, rfl⟩ := zs0 h
      refine mk (n := 0) (by omega) (nil_WA _ _) ?_
      unfold oV
      rw [vin_nil]
      show (0 : Int) + 0 = lo r 8 * ((0 : Nat) : Int) + 0
      rw [show ((0 : Nat) : Int) = 0 from rfl, Int.mul_zero]
    · rcases List.mem_cons.mp hw with rfl | hw
      · obtain ⟨n, hn, h3, rfl⟩ := sd_open (zs1 h)
        exact mk (n := n + 1) (by omega) (free_WA h3) (Int.zero_add _)
      · obtain ⟨t, ht, rfl⟩ := List.mem_map.mp hw
        have ht := List.mem_range.mp ht
        obtain ⟨q1, q2, v1, v2, s1, s2, rfl, rfl⟩ := zs2 h
        obtain ⟨t', one, e, hm, h3, rfl, rfl⟩ := sd_shut s1
        have : t' = t := by omega
        subst this
        obtain ⟨n2, hn2, h4, rfl⟩ := sd_open s2
        obtain ⟨n', hn'⟩ : ∃ n' : Nat, n' = ((L : Int) - 1 - i).toNat := ⟨_, rfl⟩
        have e2 : n2 = n' - 1 - t' := by omega
        subst e2
        rw [show i + 1 + (t' : Int) + 1 = i + 2 + (t' : Nat) by omega] at h4
        exact mk (n := n' + 1) (by omega) (pair_WA (by omega) hm h3 h4) (oV_pair h3 h4).symm
end
/-! ### the first of the ways that comes to the least; going down by them -/
noncomputable def bw (r : Rl) (x : Str) (y : Rw) : Wy := ((waysOf r x y).filter fun w => decide (wayO (mn r x) w = mn r x y)).headD (0, [])
theorem bw_ok {r : Rl} {x : Str} {L : Nat} {y : Rw} (hv : Vr L y) {m : Int} (hm : mn r x y = some m) : bw r x y ∈ waysOf r x y ∧ wayO (mn r x) (bw r x y) = some m ∧ ∃ t, ((waysOf r x y).filter fun w => decide (wayO (mn r x) w = mn r x y)) = bw r x y :: t := by
  have h := mn_ways (r := r) (x := x) hv
  rw [hm] at h
  obtain ⟨w, hw, e⟩ := List.mem_filterMap.mp h.1
  have hin : w ∈ (waysOf r x y).filter fun w => decide (wayO (mn r x) w = mn r x y) := List.mem_filter.mpr ⟨hw, decide_eq_true (e.trans hm.symm)⟩
  unfold bw
  cases hf : (waysOf r x y).filter fun w => decide (wayO (mn r x) w = mn r x y) with
  | nil =>
    rw [hf] at hin
    cases hin
  | cons a t =>
    have ha : a ∈ (waysOf r x y).filter fun w => decide (wayO (mn r x) w = mn r x y) := by
      rw [hf]
      exact List.mem_cons_self ..
    obtain ⟨h1, h2⟩ := List.mem_filter.mp ha
    exact ⟨h1, (of_decide_eq_true h2).trans hm, t, rfl⟩
inductive Run (r : Rl) (x : Str) : Fo → List Rw → Fo → Prop
  | done {ps : Fo} : Run r x ps [] ps
  | step {ps : Fo} {ws : List Rw} {y : Rw} {R : Fo} : Run r x (ps ++ own y) (ws ++ (bw r x y).2) R → Run r x ps (ws ++ [y]) R
theorem run_inv {r : Rl} {x : Str} {ps : Fo} {ws : List Rw} {y : Rw} {R : Fo} (h : Run r x ps (ws ++ [y]) R) : Run r x (ps ++ own y) (ws ++ (bw r x y).2) R := by
  generalize e : ws ++ [y] = l at h
  cases h with
  | done =>
    have := congrArg List.length e
    rw [List.length_append, List.length_singleton, List.length_nil] at this
    omega
  | step h =>
    obtain ⟨e1, e2⟩ := List.append_inj' e rfl
    injection e2 with e2
    subst e1 e2
    exact h
theorem run_nil {r : Rl} {x : Str} {ps R : Fo} (h : Run r x ps [] R) : R = ps := by
  generalize e : ([] : List Rw) = l at h
  cases h with
  | done => rfl
  | step h =>
    have := congrArg List.length e
    rw [List.length_append, List.length_singleton, List.length_nil] at this
    omega
theorem run_det {r : Rl} {x : Str} {ps : Fo} {ws : List Rw} {R R' : Fo} (h : Run r x ps ws R) (h' : Run r x ps ws R') : R = R' := by
  induction h with
  | done => exact (run_nil h').symm
  | step _ ih => exact ih (run_inv h')
theorem run_row {r : Rl} {x : Str} {L : Nat} : ∀ y ∈ rowsL L, ∀ m, mn r x y = some m → ∃ q p, Sd r x L y q m ∧ List.Perm p q ∧ ∀ ps ws R, Run r x ps (ws ++ [y]) R → Run r x (ps ++ p) ws R := by
  refine mn_ind (r := r) (x := x) (L := L) (P := fun y => ∀ m, mn r x y = some m → ∃ q p, Sd r x L y q m ∧ List.Perm p q ∧ ∀ ps ws R, Run r x ps (ws ++ [y]) R → Run r x (ps ++ p) ws R) fun y hv hz m hm => ?_
  obtain ⟨hw, e, _⟩ := bw_ok hv hm
  have hs := ways_short hv _ hw
  have hz := hz _ hw
  obtain ⟨c, zs, hb⟩ : ∃ c zs, bw r x y = (c, zs) := ⟨_, _, rfl⟩
  have hrun : ∀ ps ws R, Run r x ps (ws ++ [y]) R → Run r x (ps ++ own y) (ws ++ zs) R := fun ps ws R h => by
    have := run_inv h
    rw [hb] at this
    exact this
  rw [hb] at hw e hs hz
  have hz : ∀ z ∈ zs, Vr L z ∧ ∀ m, mn r x z = some m → ∃ q p, Sd r x L z q m ∧ List.Perm p q ∧ ∀ ps ws R, Run r x ps (ws ++ [z]) R → Run r x (ps ++ p) ws R := hz
  unfold wayO at e
  split at e
  · rename_i hall
    have e : c + (zs.map fun z => (mn r x z).getD 0).sum = m := Option.some.inj e
    have hall : (zs.all fun z => (mn r x z).isSome) = true := hall
    match zs, hs, hz, e, hall, hw, hrun with
    | [], _, _, e, _, hw, hrun =>
      obtain ⟨q', s', rfl⟩ := sd_way hv hw .nil
      have e : c + 0 = m := e
      refine ⟨_, own y, e ▸ s', by rw [List.append_nil], fun ps ws R h => ?_⟩
      have := hrun ps ws R h
      rw [List.append_nil] at this
      exact this
    | [z], _, hz, e, hall, hw, hrun =>
      rw [List.all_cons, Bool.and_eq_true] at hall
      obtain ⟨v, hv1⟩ := Option.isSome_iff_exists.mp hall.1
      obtain ⟨q, p, s, hp, hr⟩ := (hz z (List.mem_cons_self ..)).2 v hv1
      obtain ⟨q', s', rfl⟩ := sd_way hv hw (.one s)
      have e : c + ((mn r x z).getD 0 + 0) = m := e
      rw [hv1] at e
      have e : c + (v + 0) = m := e
      rw [Int.add_zero] at e
      refine ⟨_, own y ++ p, e ▸ s', hp.append_left _, fun ps ws R h => ?_⟩
      rw [← List.append_assoc]
      exact hr _ _ _ (hrun ps ws R h)
    | [z1, z2], _, hz, e, hall, hw, hrun =>
      rw [List.all_cons, Bool.and_eq_true, List.all_cons, Bool.and_eq_true] at hall
      obtain ⟨v1, hv1⟩ := Option.isSome_iff_exists.mp hall.1
      obtain ⟨v2, hv2⟩ := Option.isSome_iff_exists.mp hall.2.1
      obtain ⟨q1, p1, s1, hp1, hr1⟩ := (hz z1 (List.mem_cons_self ..)).2 v1 hv1
      obtain ⟨q2, p2, s2, hp2, hr2⟩ := (hz z2 (List.mem_cons_of_mem _ (List.mem_cons_self ..))).2 v2 hv2
      obtain ⟨q', s', rfl⟩ := sd_way hv hw (.two s1 s2)
      have e : c + ((mn r x z1).getD 0 + ((mn r x z2).getD 0 + 0)) = m := e
      rw [hv1, hv2] at e
      have e : c + (v1 + (v2 + 0)) = m := e
      rw [Int.add_zero] at e
      refine ⟨_, own y ++ (p2 ++ p1), e ▸ s', (((hp2.append hp1).trans List.perm_append_comm).append_left _), fun ps ws R h => ?_⟩
      have h1 := hrun ps ws R h
      rw [show ws ++ [z1, z2] = (ws ++ [z1]) ++ [z2] by rw [List.append_assoc]; rfl] at h1
      have h2 := hr1 _ _ _ (hr2 _ _ _ h1)
      rw [List.append_assoc, List.append_assoc] at h2
      exact h2
    | z1 :: z2 :: z3 :: t, hs, _, _, _, _, _ =>
      have hs : (z1 :: z2 :: z3 :: t).length ≤ 2 := hs
      rw [List.length_cons, List.length_cons, List.length_cons] at hs
      omega
  · cases e
theorem mn_opn {r : Rl} {x : Str} {L : Nat} {i : Int} (h0 : 0 ≤ i) (h1 : i ≤ L) : ∃ m, mn r x ("open", i, (L : Int) - 1) = some m := by
  have h := mn_is r x ("open", i, (L : Int) - 1)
  cases e : mn r x ("open", i, (L : Int) - 1) with
  | some m => exact ⟨m, rfl⟩
  | none =>
    rw [e, SM_open r x i _ _ rfl] at h
    have h : SO r x ((L : Int) - 1 - i + 1).toNat i = [] := h
    unfold SO at h
    obtain ⟨t, e2⟩ := WA_head r x ((L : Int) - 1 - i + 1).toNat i
    rw [e2] at h
    cases h
/-- the folding that is told -/
def IsLF (r : Rl) (x : Str) (q : Fo) : Prop := ∃ R, Run r x [] [(("open" : Str), (0 : Int), (x.length : Int) - 1)] R ∧ R.Perm q ∧ q ∈ WA r x x.length 0
theorem isLF_of {r : Rl} {x : Str} {R : Fo} (h : Run r x [] [(("open" : Str), (0 : Int), (x.length : Int) - 1)] R) : ∃ q, IsLF r x q ∧ mn r x ("open", 0, (x.length : Int) - 1) = some (oV r x q) := by
  obtain ⟨m, hm⟩ := mn_opn (r := r) (x := x) (L := x.length) (i := 0) (Int.le_refl 0) (by omega)
  obtain ⟨q, p, s, hp, hr⟩ := run_row (r := r) (x := x) (L := x.length) _ (whole_in _) m hm
  have h1 := hr [] [] R h
  have e := run_nil h1
  obtain ⟨n, hn, hq, rfl⟩ := sd_open s
  have : n = x.length := by omega
  subst this
  refine ⟨q, ⟨R, h, ?_, hq⟩, hm⟩
  rw [e]
  exact hp
theorem isLF_det {r : Rl} {x : Str} {q q' : Fo} (h : IsLF r x q) (h' : IsLF r x q') : q = q' := by
  obtain ⟨R, hR, p, hq⟩ := h
  obtain ⟨R', hR', p', hq'⟩ := h'
  have e := run_det hR hR'
  subst e
  refine List.Perm.eq_of_pairwise (fun a b ha hb h1 h2 => ?_) (fo4_of r x _ _ _ hq).srt (fo4_of r x _ _ _ hq').srt (p.symm.trans p')
  have h1 : a.1 < b.1 := h1
  have h2 : b.1 < a.1 := h2
  omega
end Pf


namespace Pf
open PySem PySem.Spec PyProof.Rows L2
/-! ### a list is made longer by a tuple -/
theorem list_extend_tuple (l : Addr) (items : Array Value) (n : Nat) (b : Addr) (items2 : Array Value) (n2 : Nat) (dd : Option Addr) (sls : Array (Option Value)) (hs0 : ¬(!items.isEmpty && Builtin.List.listTooLong (items.size + items2.size)) = true) (hs1 : items.size ≤ sizeLine) (hs2 : items.size + items2.size ≤ sizeLine + 1) :
    Meets (Builtin.«list.extend» ⟨[.ref l, .ref b], []⟩) (fun _ R s => s.heap.get? l = some { cls := .type "list", dict := none, data := .seq items n, slots := #[] } ∧ s.heap.get? b = some { cls := .type "tuple", dict := dd, data := .seq items2 n2, slots := sls } ∧ R (.ok (.ret Value.none)) { s with heap := s.heap.update l (Obj.mapSeq fun x => x ++ items2), toks := s.toks }) :=
  .of_wp fun prog w A R s h => by
    obtain ⟨hp, g, d, tk, os⟩ := s; obtain ⟨hl, hb, h⟩ := h; have f1 := AutoSeq1.idx_int; have f2 := AutoSeq1.sub_tuple_tuple; have f3 := AutoSeq1.sub_list_list; have f4 := AutoSeq1.sub_tuple_list; have f5 := AutoSeq1.sub_list_tuple
    have hz' : (items ++ items2).size ≤ sizeLine + 1 := by rw [Array.size_append]; exact hs2
    wp_walk using (wpAny_updateSeq hl rfl (hz := hs1) (_hz' := hz')), AutoSeq1.wpAny_loadPart' hl, AutoSeq1.wpAny_loadPart' hb
    exact ⟨_, rfl, h⟩
def rExtT (K : PySem.W.Frag) : V → List V → Hp → VK → Prop := fun x vs H Q => ∃ l b xs zs, x = .ref l ∧ vs = [.ref b] ∧ H l = some (.lst xs) ∧ SqT K H b zs ∧ xs.length + zs.length ≤ sizeLine ∧ Q .non (upd H l (.lst (xs ++ zs)))
theorem mt_extT (K : PySem.W.Frag) {X : Cx} (hK : X.K = K := by rfl) : MtM X "list.extend" (rExtT K) := by
  subst hK
  intro pins s σ H x vs v us Q I rx rv h
  obtain ⟨l, b, xs, zs, rfl, rfl, hH, hB, hz, q⟩ := h
  cases rx
  obtain ⟨u, rfl, ru⟩ := rv.one
  cases ru
  obtain ⟨z, its, n, r, hl, e⟩ := I.lstM hH
  obtain ⟨its2, r2, ⟨⟨cls, dd, data, sls⟩, e2, hc, n2, hd⟩, hl2⟩ := I.tuple hB
  simp only at hc hd
  subst hc hd
  have hrl := r2.length
  have hrl1 := r.length
  have hsz : its.toArray.size + its2.toArray.size ≤ sizeLine := by rw [List.size_toArray, List.size_toArray]; omega
  have hlong : ¬ (!its.toArray.isEmpty && Builtin.List.listTooLong (its.toArray.size + its2.toArray.size)) = true := by
    rw [notLongL hsz, Bool.and_false]
    exact Bool.false_ne_true
  refine call_meets F.slot_list_extend ⟨_, e, rfl⟩ F.entry_list_extend (F.args_list_extend_2 _ _)
    (list_extend_tuple l its.toArray n b its2.toArray n2 dd sls hlong (by rw [List.size_toArray]; omega) (by omega)) ⟨e, e2, ?_⟩
  refine ⟨.non, _, I.lset (its' := its ++ its2) hH e (by simp) (r.append r2) ?_, rfl, q⟩
  rw [List.length_append]
  omega
/-! ### a thing in a list of data -/
theorem notInD (K : PySem.W.Frag) {X : Cx} (hu : X.A.units + 65 < cLine) (h : X.K = K := by rfl) : OpR X (compareOp .NotIn) (rNotInD K) := h ▸ op_notInD hu
end Pf


namespace Pf
open PySem PySem.Spec PyProof.Rows L2
theorem oi_inj {a b : Option Int} (h : oi a = oi b) : a = b := by
  cases a with
  | none => cases b with
    | none => rfl
    | some _ => cases h
  | some _ => cases b with
    | none => cases h
    | some _ => cases h; rfl
theorem scal_ois (a b : Option Int) : scal (oi a) (oi b) = true := by
  cases a <;> cases b <;> rfl
theorem paired_last {R : V → Rw → Prop} : ∀ {us : List V} {ws : List Rw} {y : Rw}, Paired R us (ws ++ [y]) → ∃ us' u, us = us' ++ [u] ∧ Paired R us' ws ∧ R u y
  | _, [], _, .cons h t => by
    cases t
    exact ⟨[], _, rfl, .nil, h⟩
  | _, _ :: ws, _, .cons h t => by
    obtain ⟨us', u, e, h1, h2⟩ := paired_last (ws := ws) t
    exact ⟨_ :: us', u, by rw [e]; rfl, .cons h h1, h2⟩
theorem ifw_byS {c : TT} {t u : TS} {D : Ends} {σ : L2.St} {H : Hp} (R1 R2 : Hp → Prop) (hc : ∀ Q : Bool → Hp → Prop, (∀ H', R1 H' → Q true H') → (∀ H', R2 H' → Q false H') → c σ H Q) (h1 : ∀ H', R1 H' → t { D with nx := u D } σ H') (h2 : ∀ H', R2 H' → u D σ H') : tSeq (tIfS c t tNext) u D σ H := hc _ (fun H' r => by rw [if_pos rfl]; exact h1 H' r) fun H' r => by
  rw [if_neg Bool.false_ne_true]
  exact h2 H' r
theorem ifw_two {c : TT} {t u : TS} {D : Ends} {σ : L2.St} {H : Hp} (R1 R2 : Hp → Prop) (S : L2.St → Hp → Prop) (hc : ∀ Q : Bool → Hp → Prop, (∀ H', R1 H' → Q true H') → (∀ H', R2 H' → Q false H') → c σ H Q)
    (h1 : ∀ H', R1 H' → (∀ σ2 H2, S σ2 H2 → u D σ2 H2) → t { D with nx := u D } σ H') (h2 : ∀ H', R2 H' → S σ H') (go : ∀ σ2 H2, S σ2 H2 → u D σ2 H2) : tSeq (tIfS c t tNext) u D σ H := ifw_byS R1 R2 hc (fun H' r => h1 H' r go) fun H' r => go _ _ (h2 H' r)
theorem gow_name {i : Nat} {v : V} {σ : L2.St} {H : Hp} {Q : L2.St → Hp → Prop} (h : Q (σ.set i (some v)) H) : gName i v σ H Q := h
/-! ### how far down there is to go -/
def wtR (y : Rw) : Int := if y.1 = "shut" then 4 * (y.2.2 - y.2.1 + 1) - 1 else if y.1 = "open" then 4 * (y.2.2 - y.2.1 + 1) + 1 else 4 * (y.2.2 - y.2.1 + 1)
theorem wtR_s (i j : Int) : wtR ("shut", i, j) = 4 * (j - i + 1) - 1 := if_pos rfl
theorem wtR_o (i j : Int) : wtR ("open", i, j) = 4 * (j - i + 1) + 1 := by
  unfold wtR
  rw [if_neg (show ¬ (("open", i, j) : Rw).1 = "shut" from (by decide +kernel : ¬ ("open" : Str) = "shut")), if_pos rfl]
theorem wtR_1 (i j : Int) : wtR ("one", i, j) = 4 * (j - i + 1) := by
  unfold wtR
  rw [if_neg (show ¬ (("one", i, j) : Rw).1 = "shut" from (by decide +kernel : ¬ ("one" : Str) = "shut")), if_neg (show ¬ (("one", i, j) : Rw).1 = "open" from (by decide +kernel : ¬ ("one" : Str) = "open"))]
theorem wtR_2 (i j : Int) : wtR ("two", i, j) = 4 * (j - i + 1) := by
  unfold wtR
  rw [if_neg (show ¬ (("two", i, j) : Rw).1 = "shut" from (by decide +kernel : ¬ ("two" : Str) = "shut")), if_neg (show ¬ (("two", i, j) : Rw).1 = "open" from (by decide +kernel : ¬ ("two" : Str) = "open"))]
theorem wtR_b {L : Nat} {y : Rw} (h : Vr L y) : 1 ≤ wtR y := by
  cases h with
  | shut h0 h1 h2 => rw [wtR_s]; omega
  | one h0 h1 h2 => rw [wtR_1]; omega
  | two h0 h1 h2 => rw [wtR_2]; omega
  | opn h0 h1 => rw [wtR_o]; omega
def sumW (ws : List Rw) : Int := (ws.map wtR).sum
theorem sumW_app (a b : List Rw) : sumW (a ++ b) = sumW a + sumW b := by
  unfold sumW
  rw [List.map_append, List.sum_append]
theorem sumW_1 (y : Rw) : sumW [y] = wtR y := by
  unfold sumW
  simp
theorem sumW_2 (y z : Rw) : sumW [y, z] = wtR y + wtR z := by
  unfold sumW
  simp
theorem sumW_0 : sumW [] = 0 := rfl
theorem sumW_len {L : Nat} : ∀ {ws : List Rw}, (∀ z ∈ ws, Vr L z) → (ws.length : Int) ≤ sumW ws
  | [], _ => Int.le_refl 0
  | z :: ws, h => by
    have h1 := wtR_b (h z (List.mem_cons_self ..))
    have h2 := sumW_len (ws := ws) fun y hy => h y (List.mem_cons_of_mem _ hy)
    have e : sumW (z :: ws) = wtR z + sumW ws := by
      unfold sumW
      rw [List.map_cons, List.sum_cons]
    rw [e, List.length_cons]
    omega
theorem br_wt {b i j : Int} {w : Wy} (h : w ∈ brW b i j) : sumW w.2 + 1 ≤ 4 * (j - i + 1) := by
  unfold brW at h
  obtain ⟨t, ht, rfl⟩ := List.mem_map.mp h
  have ht := List.mem_range.mp ht
  show sumW [(("shut" : Str), i, i + 1 + (t : Int)), (("one" : Str), i + 1 + (t : Int) + 1, j)] + 1 ≤ _
  rw [sumW_2, wtR_s, wtR_1]
  omega
theorem ways_wt {r : Rl} {x : Str} {L : Nat} {y : Rw} (hv : Vr L y) {w : Wy} (hw : w ∈ waysOf r x y) : sumW w.2 + 1 ≤ wtR y := by
  cases hv with
  | shut h0 h1 h2 =>
    rename_i i j
    rw [ways_shut] at hw
    rw [wtR_s]
    unfold shutW at hw
    split at hw
    · rcases List.mem_append.mp hw with hw | hw
      · rcases List.mem_cons.mp hw with rfl | hw
        · show sumW [] + 1 ≤ _
          rw [sumW_0]
          omega
        · unfold shI at hw
          obtain ⟨a, ha, hw⟩ := List.mem_flatMap.mp hw
          unfold shR at hw
          obtain ⟨b, hb, rfl⟩ := List.mem_map.mp hw
          have ha := List.mem_range.mp ha
          have hb := List.mem_range.mp hb
          show sumW [(("shut" : Str), i + 1 + (a : Int), i + 1 + (a : Int) + 1 + (b : Int))] + 1 ≤ _
          rw [sumW_1, wtR_s]
          omega
      · split at hw
        · rw [List.mem_singleton.mp hw]
          show sumW [(("two" : Str), i + 1, j - 1)] + 1 ≤ _
          rw [sumW_1, wtR_2]
          omega
        · cases hw
    · cases hw
  | one h0 h1 h2 =>
    rename_i i j
    rw [ways_one] at hw
    rw [wtR_1]
    unfold oneW fstW at hw
    rcases List.mem_append.mp hw with hw | hw
    · rcases List.mem_append.mp hw with hw | hw
      · split at hw
        · rw [List.mem_singleton.mp hw]
          show sumW [(("one" : Str), i + 1, j)] + 1 ≤ _
          rw [sumW_1, wtR_1]
          omega
        · cases hw
      · obtain ⟨t, ht, rfl⟩ := List.mem_map.mp hw
        have ht := List.mem_range.mp ht
        show sumW [(("shut" : Str), i, i + 1 + (t : Int))] + 1 ≤ _
        rw [sumW_1, wtR_s]
        omega
    · exact br_wt hw
  | two h0 h1 h2 =>
    rename_i i j
    rw [ways_two] at hw
    rw [wtR_2]
    unfold twoW fstW at hw
    rcases List.mem_append.mp hw with hw | hw
    · split at hw
      · rw [List.mem_singleton.mp hw]
        show sumW [(("two" : Str), i + 1, j)] + 1 ≤ _
        rw [sumW_1, wtR_2]
        omega
      · cases hw
    · exact br_wt hw
  | opn h0 h1 =>
    rename_i i
    rw [ways_open] at hw
    rw [wtR_o]
    unfold openW at hw
    split at hw
    · rw [List.mem_singleton.mp hw]
      show sumW [] + 1 ≤ _
      rw [sumW_0]
      omega
    · rcases List.mem_cons.mp hw with rfl | hw
      · show sumW [(("open" : Str), i + 1, (L : Int) - 1)] + 1 ≤ _
        rw [sumW_1, wtR_o]
        omega
      · obtain ⟨t, ht, rfl⟩ := List.mem_map.mp hw
        have ht := List.mem_range.mp ht
        show sumW [(("shut" : Str), i, i + 1 + (t : Int)), (("open" : Str), i + 1 + (t : Int) + 1, (L : Int) - 1)] + 1 ≤ _
        rw [sumW_2, wtR_s, wtR_o]
        omega
theorem ways_in {r : Rl} {x : Str} {L : Nat} {y : Rw} (hy : y ∈ rowsL L) {w : Wy} (hw : w ∈ waysOf r x y) : ∀ z ∈ w.2, z ∈ rowsL L := by
  obtain ⟨k, hk⟩ := List.getElem?_of_mem hy
  exact fun z hz => List.mem_of_mem_take ((rows_at (r := r) (x := x) hk).2 w hw z hz)
theorem rows_vr2 (r : Rl) (x : Str) {L : Nat} {y : Rw} (h : y ∈ rowsL L) : Vr L y := by
  obtain ⟨k, hk⟩ := List.getElem?_of_mem h
  exact (rows_at (r := r) (x := x) hk).1
theorem own_len (y : Rw) : (own y).length ≤ 1 := by
  unfold own
  split
  · exact Nat.le_refl 1
  · exact Nat.zero_le 1
theorem paired_bothP {β γ : Type} {R : V → γ → Prop} {f : β → V} {g : β → γ} : ∀ {l : List β}, (∀ y ∈ l, R (f y) (g y)) → Paired R (l.map f) (l.map g)
  | [], _ => .nil
  | y :: l, h => .cons (h y (List.mem_cons_self ..)) (paired_bothP fun z hz => h z (List.mem_cons_of_mem _ hz))
/-! ### pairs sorted -/
def dPq (y : Int × Int) : PyData := .tuple [.int y.1, .int y.2]
theorem prs_zip {H : Hp} : ∀ {us : List V} {ps : Fo}, Paired (TwoAt H) us ps → ∃ bes : List (Addr × (Int × Int)), us = bes.map (fun y => V.ref y.1) ∧ bes.map (·.2) = ps ∧ ∀ y ∈ bes, H y.1 = some (.tup [.int y.2.1, .int y.2.2])
  | _, _, .nil => ⟨[], rfl, rfl, fun y h => by cases h⟩
  | _, _, .cons r t => by
    obtain ⟨a, rfl, ha⟩ := r
    obtain ⟨bes, rfl, h2, h3⟩ := prs_zip t
    refine ⟨(a, _) :: bes, rfl, by rw [List.map_cons, h2], fun y hy => ?_⟩
    rcases List.mem_cons.mp hy with rfl | hy
    · exact ha
    · exact h3 y hy
theorem prs_rise {a b : Int × Int} (h : a.1 < b.1) : PySem.W.dataLe false dPq a b = true := by
  show (!PyProof.Rows.lexLt itemOrd (PySem.W.keyToks (dPq b)) (PySem.W.keyToks (dPq a))) = true
  have h2 : ¬ b.1 < a.1 := by omega
  simp [dPq, PySem.W.keyToks, PySem.W.keyToksAll, PyProof.Rows.lexLt, itemLt, h, h2]
theorem prs_inj (a b : Int × Int) (h : PySem.W.keyToks (dPq a) = PySem.W.keyToks (dPq b)) : a = b := by
  obtain ⟨i, j⟩ := a
  obtain ⟨k, l⟩ := b
  simp [dPq, PySem.W.keyToks, PySem.W.keyToksAll] at h
  rw [h.1, h.2]
theorem prs_sort {R q : Fo} (p : R.Perm q) (hs : q.Pairwise fun y z => y.1 < z.1) : R.mergeSort (PySem.W.dataLe false dPq) = q := by
  rw [sort_eq dPq prs_inj p]
  exact List.mergeSort_of_pairwise (hs.imp fun h => prs_rise h)
section
variable {P : Program} {w : World} {K : PySem.W.Frag} {mg : Str → Option Value} {base : Heap}
abbrev s_best_way : Stmt := topS 38
theorem sc_best_way : FnScope ["ways", "worth", "worths", "best", "way"] ["ways", "worth", "worths"] (defScope s_best_way) :=
  ⟨rfl, rfl, rfl, by decide +kernel, rfl, by decide +kernel, by decide +kernel⟩
def spBest : Sp := fun vs H Q _ => ∃ (l D : Addr) (us : List V) (m : Option Int) (kvs : List (List Key × V)) (T : Rw → Option Int) (ws : List Wy) (w0 : Wy) (t : List Wy), vs = [.ref l, oi m, .ref D] ∧ H l = some (.lst us) ∧ Paired (WyAt H) us ws ∧ DtOf H D kvs ∧ (∀ wy ∈ ws, (∀ z ∈ wy.2, valV kvs (rk z) = some (oi (T z))) ∧ wy.2.length ≤ 1000) ∧ ws.length ≤ 100000 ∧ (ws.filter fun wy => decide (wayO T wy = m)) = w0 :: t ∧ ∀ v H', WyAt H' v w0 → Ext H H' → Q v H'
theorem ok_best {f : Addr} {fd : FuncData} {k : Nat} (F : Fun K "best_way" "best_way" s_best_way f fd) (ccomes_to : CCome P w K mg base) : FnOk P w K mg base CX0 (k + 2) f fd ["ways", "worth", "worths"] spBest := by
  refine F.ok sc_best_way (fun vs H Q E h => ?_) (fun cdv A outer s H vs Q E hr h => ?_)
  · obtain ⟨l, D, us, m, kvs, T, ws, w0, t, rfl, _⟩ := h
    rfl
  · obtain ⟨l, D, us, m, kvs, T, ws, w0, t, rfl, hl, hP, hD, hW, hwl, hf, q⟩ := h
    refine ⟨_, (pss_cons (ps_setLc (i := 3) (own := [("way", 4)]) (g := gName 4) (by rfl) sc_best_way.nd rfl rfl (sw_true rfl rfl rfl (by decide +kernel)) (pi_list (pv 0)) (blkOk_by (own := [("way", 4)]) (N := ["ways", "worth", "worths", "best", "way"]) (sc := defScope s_best_way) (by decide +kernel)) (fun _ _ _ _ _ => (pg_name (i := 4) sc_best_way.nd rfl (.inl rfl))) (fun _ _ _ _ _ => (pts_one (pt_cmpR op_eq (pe_ca ccomes_to (hr.mono (by omega)) (by rfl) (pa_cons (pv 4) (pa_cons (pv 2) pa_nil))) (pv 1) (nomark _)))) (fun _ _ _ _ _ => (pv 4)))
      (pss_one (ps_ret (pe_ix (ixL K) (pv 3) pe_int (fun _ _ => rfl))))), ?_⟩
    have hul := paired_len hP
    refine ⟨_, rfl, l, rfl, ⟨_, SqL.of hl⟩, fun E1 hE1 => lc_list (K := K) (xs := us) (fun i H2 => GenL WyAt E1 H ((ws.take i).filter fun wy => decide (wayO T wy = m)) H2) (genl_new hE1) (fun i H2 _ hv => SqL.of (hv.ext _ _ hl)) (fun i u H2 hi hv => ?_) (fun H2 hv => ?_)⟩
    · obtain ⟨wy, hwy, hu⟩ := paired_get hP hi
      have k2 := hv.ext
      obtain ⟨g1, g2⟩ := hW wy (List.mem_of_getElem? hwy)
      have hfl : ((ws.take i).filter fun wy => decide (wayO T wy = m)).length < 1000000 := by
        have := List.length_filter_le (fun wy => decide (wayO T wy = m)) (ws.take i)
        rw [List.length_take] at this
        omega
      rw [List.take_add_one, hwy, List.filter_append]
      refine ⟨rfl, _, rfl, _, rfl, u, D, kvs, T, wy, rfl, WyAt.mono _ _ _ _ (TupK.ext k2) hu, hD.ext k2, g1, g2, fun H3 k3 => ⟨_, rfl, scal_ois _ _, _, rfl, ite2 (fun e => ?_) (fun e => ?_)⟩⟩
      · have e : wayO T wy = m := oi_inj (of_decide_eq_true e)
        rw [show (some wy).toList.filter (fun wy => decide (wayO T wy = m)) = [wy] from by
          rw [show (some wy).toList = [wy] from rfl, List.filter_cons_of_pos (by simpa using e)]
          rfl]
        exact ⟨_, rfl, genl_step WyAt.mono hE1 hv k3 (b := wy) (WyAt.mono _ _ _ _ (TupK.ext (k2.trans k3)) hu) hfl⟩
      · have e : ¬ wayO T wy = m := fun z => e (decide_eq_true (congrArg oi z))
        rw [show (some wy).toList.filter (fun wy => decide (wayO T wy = m)) = [] from by
          rw [show (some wy).toList = [wy] from rfl, List.filter_cons_of_neg (by simpa using e)]
          rfl, List.append_nil]
        exact hv.keep WyAt.mono k3
    rw [List.take_of_length_le (by omega), hf] at hv
    obtain ⟨u2, hL2, hP2, k2⟩ := hv
    cases hP2 with
    | cons h1 h2 =>
      refine ⟨_, rfl, E1, _, 0, _, rfl, rfl, SqL.of hL2, by rw [atI_get (Int.le_refl 0) (by rw [List.length_cons]; omega)], ?_⟩
      exact q _ H2 h1 k2
abbrev CBest (P : Program) (w : World) (K : PySem.W.Frag) (mg : Str → Option Value) (base : Heap) : Prop := Ca P w K mg base 2 "best_way" ["ways", "worth", "worths"] spBest
abbrev s_folding_by : Stmt := topS 39
theorem sc_folding_by : FnScope ["ways", "worths", "row", "pairs", "waiting", "now"] ["ways", "worths", "row"] (defScope s_folding_by) :=
  ⟨rfl, rfl, rfl, by decide +kernel, rfl, by decide +kernel, by decide +kernel⟩
def spFB : Sp := fun vs H Q _ => ∃ (W D t : Addr) (kws kvs : List (List Key × V)) (r : Rl) (x : Str), vs = [.ref W, .ref D, .ref t] ∧ H W = some (.dT kws) ∧ H D = some (.dT kvs) ∧ x.length ≤ 12 ∧ WaysIs H kws r x (rowsL x.length) ∧ MinsIs kvs r x (rowsL x.length) ∧ H t = some (.tup [.str "open", .int 0, .int ((x.length : Int) - 1)]) ∧
  ∀ l q H', FoAt H' (.ref l) q → IsLF r x q → mn r x ("open", 0, (x.length : Int) - 1) = some (oV r x q) → Ext H H' → Q (.ref l) H'
theorem ok_fb {f : Addr} {fd : FuncData} {k : Nat} (F : Fun K "folding_by" "folding_by" s_folding_by f fd) (cbest_way : CBest P w K mg base) (msorted : mg "sorted" = none) (mtuple : mg "tuple" = none) : FnOk P w K mg base CX0 (k + 3) f fd ["ways", "worths", "row"] spFB := by
  refine F.ok sc_folding_by (fun vs H Q E h => ?_) (fun cdv A outer s H vs Q E hr h => ?_)
  · obtain ⟨W, D, t, kws, kvs, r, x, rfl, _⟩ := h
    rfl
  · obtain ⟨W, D, t, kws, kvs, r, x, rfl, hW, hD, hx, hWs, hM, ht, q⟩ := h
    refine ⟨_, (pss_cons (ps_set (i := 3) sc_folding_by.nd rfl (.inl rfl) (pe_lst pa_nil))
      (pss_cons (ps_set (i := 4) sc_folding_by.nd rfl (.inl rfl) (pe_lst (pa_cons (pv 2) pa_nil)))
      (pss_cons (ps_while PassesOwn.never (pt_truth (pv 4) (by intro _; rfl)) (pss_cons (ps_set (i := 5) sc_folding_by.nd rfl (.inl rfl) (pe_bm0 PySem.F.plainAttrs_list PySem.F.slot_list_pop PySem.F.type_list_pop mt_pop (pv 4)))
      (pss_cons (ps_if (pt_cmpR op_eq (pe_ix (ixT K) (pv 5) pe_int (fun _ _ => rfl)) pe_str (nomark _)) (pss_one (ps_expr (pe_bm PySem.F.plainAttrs_list PySem.F.slot_list_append PySem.F.type_list_append mt_append (pv 3) (pa_cons (pe_slice (slE K) (pv 5) (po_some pe_int) po_none) pa_nil)))) pss_nil)
      (pss_one (ps_expr (pe_bm PySem.F.plainAttrs_list PySem.F.slot_list_extend PySem.F.type_list_extend (mt_extT K) (pv 4) (pa_cons (pe_ix (ixT K) (pe_ca cbest_way (hr.mono (by omega)) (by rfl) (pa_cons (pe_dget (hu_of hr) (pv 0) (pv 5) (fun _ _ => rfl)) (pa_cons (pe_dget (hu_of hr) (pv 1) (pv 5) (fun _ _ => rfl)) (pa_cons (pv 1) pa_nil)))) pe_int (fun _ _ => rfl)) pa_nil)))))))
      (pss_one (ps_ret (pe_callTy (tupleOf K) (by rfl) mtuple (by decide +kernel) (pa_cons (pe_callB (cr_sortD K hr.units) (by rfl) msorted (by decide +kernel) (pa_cons (pv 3) pa_nil)) pa_nil))))))), ?_⟩
    refine ⟨Nat.zero_le _, fun Pp hPp => ?_⟩
    have x1 := Ext.new (o := .lst []) hPp
    refine ⟨_, rfl, szL (show 1 ≤ 1000000 by decide), fun Wt hWt => ?_⟩
    have x2 := Ext.new (o := .lst [.ref t]) hWt
    have hP2 : upd (upd H Pp (.lst [])) Wt (.lst [.ref t]) Pp = some (.lst []) := x2 _ _ upd_same
    have hW2 : upd (upd H Pp (.lst [])) Wt (.lst [.ref t]) Wt = some (.lst [.ref t]) := upd_same
    have k2 := x1.trans x2
    have nPW : Pp ≠ Wt := ne_of_none (upd_same (H := H) (a := Pp) (o := .lst [])) hWt
    have hWtH : H Wt = none := x1.none hWt
    generalize upd (upd H Pp (.lst [])) Wt (.lst [.ref t]) = H2 at hP2 hW2 k2 ⊢
    refine gow_name ?_
    dsimp only
    obtain ⟨m0, hm0⟩ := mn_opn (r := r) (x := x) (L := x.length) (i := 0) (Int.le_refl 0) (by omega)
    refine ⟨fun m σ H' => ∃ (y5 : Option V) (ps : Fo) (ws : List Rw) (us vw : List V), σ = [some (.ref W), some (.ref D), some (.ref t), some (.ref Pp), some (.ref Wt), y5] ∧ H' Pp = some (.lst us) ∧ Paired (TwoAt H') us ps ∧ H' Wt = some (.lst vw) ∧ Paired (RwAt H') vw ws ∧ (∀ z ∈ ws, z ∈ rowsL x.length ∧ (mn r x z).isSome = true) ∧ (∀ R, Run r x ps ws R → Run r x [] [(("open" : Str), (0 : Int), (x.length : Int) - 1)] R) ∧ (sumW ws).toNat = m ∧ Ext H H' ∧ (ps.length : Int) + sumW ws ≤ 60, ⟨_, none, [], [(("open" : Str), (0 : Int), (x.length : Int) - 1)], [], [.ref t], rfl, hP2, .nil, hW2, .cons ⟨t, rfl, k2 _ _ ht⟩ .nil, fun z hz => ?_, fun R h => h, rfl, k2, ?_⟩, ?_⟩
    · rw [List.mem_singleton.mp hz]
      exact ⟨whole_in _, by rw [hm0]; rfl⟩
    · rw [sumW_1, wtR_o]
      show (0 : Int) + _ ≤ 60
      omega
    rintro m σ H3 ⟨y5, ps, ws, us, vw, rfl, hP3, hPp, hW3, hPw, hwz, hrun, hmu, k3, hsz⟩
    have hvl := paired_len hPw
    have hpl := paired_len hPp
    refine ⟨_, rfl, !vw.isEmpty, .inl ⟨vw, SqL.of hW3, rfl⟩, ?_⟩
    rcases List.eq_nil_or_concat ws with e | ⟨ws', y, e⟩
    · subst e
      have hv0 : vw = [] := List.length_eq_zero_iff.mp hvl
      subst hv0
      refine iteF ?_
      -- the end
      have hR := hrun ps .done
      obtain ⟨q0, hq0, hmq⟩ := isLF_of hR
      obtain ⟨R', hR', hp', hqW⟩ := id hq0
      have e := run_det hR' hR
      subst e
      have hso := prs_sort hp' (fo4_of r x _ _ _ hqW).srt
      obtain ⟨bes, hb1, hb2, hb3⟩ := prs_zip hPp
      subst hb1
      refine ⟨_, rfl, _, fun y => .ref y.1, fun y => dPq y.2, Pp, bes, rfl, SqL.of hP3, fun y hy => ⟨.tup (SqT.of (hb3 y hy)) (.cons (.int _) (.cons (.int _) .nil)), by simp [dPq, PyData.depth, PyData.depthAll]⟩, PySem.W.AllAlike.of fun b b' => by simp [dPq, PySem.W.alike, PySem.W.alikeAll], PySem.W.Sortable.tuples fun b => ⟨_, _, rfl⟩, fun ls hls => ?_⟩
      have hm := List.map_mergeSort (r := PySem.W.dataLe false fun y : Addr × (Int × Int) => dPq y.2) (s := PySem.W.dataLe false dPq) (f := fun b : Addr × (Int × Int) => b.2) (l := bes) (fun a _ b _ => rfl)
      rw [hb2, hso] at hm
      have hperm := List.mergeSort_perm bes (PySem.W.dataLe false fun y : Addr × (Int × Int) => dPq y.2)
      have x4 := Ext.new (o := .lst ((bes.mergeSort (PySem.W.dataLe false fun y : Addr × (Int × Int) => dPq y.2)).map fun y => V.ref y.1)) hls
      have hP4 : Paired (TwoAt (upd H3 ls (.lst ((bes.mergeSort (PySem.W.dataLe false fun y : Addr × (Int × Int) => dPq y.2)).map fun y => V.ref y.1)))) ((bes.mergeSort (PySem.W.dataLe false fun y : Addr × (Int × Int) => dPq y.2)).map fun y => V.ref y.1) q0 := by
        rw [← hm]
        exact paired_bothP fun y hy => ⟨y.1, rfl, x4 _ _ (hb3 y (hperm.mem_iff.mp hy))⟩
      have hL4 : upd H3 ls (.lst ((bes.mergeSort (PySem.W.dataLe false fun y : Addr × (Int × Int) => dPq y.2)).map fun y => V.ref y.1)) ls = some (.lst ((bes.mergeSort (PySem.W.dataLe false fun y : Addr × (Int × Int) => dPq y.2)).map fun y => V.ref y.1)) := upd_same
      generalize upd H3 ls (.lst ((bes.mergeSort (PySem.W.dataLe false fun y : Addr × (Int × Int) => dPq y.2)).map fun y => V.ref y.1)) = H4 at x4 hL4 hP4 ⊢
      generalize (bes.mergeSort (PySem.W.dataLe false fun y : Addr × (Int × Int) => dPq y.2)).map (fun y => V.ref y.1) = us4 at hL4 hP4
      refine ⟨ls, us4, rfl, .inl ⟨SqL.of hL4, fun lt hlt => ?_⟩⟩
      have x5 := Ext.new (o := .tup us4) hlt
      exact q lt q0 _ ⟨lt, us4, rfl, upd_same, paired_imp (fun _ _ => TwoAt.mono _ _ _ _ (TupK.ext x5)) hP4⟩ hq0 hmq (k3.trans (x4.trans x5))
    · rw [List.concat_eq_append] at e
      subst e
      obtain ⟨vw', v, rfl, hPw', b, rfl, hb⟩ := paired_last hPw
      have hne : (vw' ++ [V.ref b]).isEmpty = false := by
        cases vw' <;> rfl
      rw [hne]
      refine iteT ?_
      obtain ⟨hyr, hys⟩ := hwz y (List.mem_append_right _ (List.mem_singleton.mpr rfl))
      obtain ⟨my, hmy⟩ := Option.isSome_iff_exists.mp hys
      have hvr : Vr x.length y := by
        obtain ⟨k, hk⟩ := List.getElem?_of_mem hyr
        exact (rows_at (r := r) (x := x) hk).1
      obtain ⟨hbw, hbe, tw, hbf⟩ := bw_ok (r := r) hvr hmy
      have hwt := ways_wt hvr hbw
      have hbr := ways_in hyr hbw
      have hbs : ∀ z ∈ (bw r x y).2, (mn r x z).isSome = true := fun z hz => by
        unfold wayO at hbe
        split at hbe
        · rename_i hall
          exact List.all_eq_true.mp hall z hz
        · cases hbe
      have hwy := wtR_b hvr
      have hlw' := sumW_len (L := x.length) (ws := ws') fun z hz => rows_vr2 r x (hwz z (List.mem_append_left _ hz)).1
      have hlb := sumW_len (L := x.length) (ws := (bw r x y).2) fun z hz => rows_vr2 r x (hbr z hz)
      rw [sumW_app, sumW_1] at hmu hsz
      have hol := own_len y
      refine ⟨fun σ' H' => ∃ m', m' < m ∧ ∃ (y5 : Option V) (ps : Fo) (ws : List Rw) (us vw : List V), σ' = [some (.ref W), some (.ref D), some (.ref t), some (.ref Pp), some (.ref Wt), y5] ∧ H' Pp = some (.lst us) ∧ Paired (TwoAt H') us ps ∧ H' Wt = some (.lst vw) ∧ Paired (RwAt H') vw ws ∧ (∀ z ∈ ws, z ∈ rowsL x.length ∧ (mn r x z).isSome = true) ∧ (∀ R, Run r x ps ws R → Run r x [] [(("open" : Str), (0 : Int), (x.length : Int) - 1)] R) ∧ (sumW ws).toNat = m' ∧ Ext H H' ∧ (ps.length : Int) + sumW ws ≤ 60, fun _ _ h => h, ?_⟩
      -- the last row is taken off
      refine ⟨_, rfl, .inl ⟨rfl, _, SqL.of hW3⟩, Wt, vw' ++ [V.ref b], V.ref b, rfl, rfl, hW3, by rw [List.length_append, List.length_singleton, Nat.add_sub_cancel, List.getElem?_append_right (Nat.le_refl _), Nat.sub_self]; rfl, ?_⟩
      rw [List.dropLast_concat]
      have nPW3 : Pp ≠ Wt := nPW
      have k4 : Ext H (upd H3 Wt (.lst vw')) := k3.put hWtH
      have tk4 : TupK H3 (upd H3 Wt (.lst vw')) := TupK.lst hW3
      have hP4 : upd H3 Wt (.lst vw') Pp = some (.lst us) := by rw [upd_ne nPW3]; exact hP3
      have hW4 : upd H3 Wt (.lst vw') Wt = some (.lst vw') := upd_same
      have hPp4 := paired_imp (fun _ _ => TwoAt.mono _ _ _ _ tk4) hPp
      have hPw4 := paired_imp (fun _ _ => RwAt.mono _ _ _ _ tk4) hPw'
      have hb4 := tk4 _ _ hb
      generalize upd H3 Wt (.lst vw') = H4 at k4 hP4 hW4 hPp4 hPw4 hb4 ⊢
      clear hP3 hW3 hPp hPw hPw' hb k3 tk4
      refine gow_name ?_
      dsimp only
      refine ifw_two (fun H' => H' = H4 ∧ y.1 = "shut") (fun H' => H' = H4 ∧ ¬ y.1 = "shut") (fun σ2 H2 => ∃ us', σ2 = [some (.ref W), some (.ref D), some (.ref t), some (.ref Pp), some (.ref Wt), some (.ref b)] ∧ H2 Pp = some (.lst us') ∧ Paired (TwoAt H2) us' (ps ++ own y) ∧ H2 Wt = some (.lst vw') ∧ Paired (RwAt H2) vw' ws' ∧ H2 b = some (.tup [.str y.1, .int y.2.1, .int y.2.2]) ∧ Ext H H2)
        (fun Q' hT hF => ?_) (fun H5 h5 go => ?_) (fun H5 h5 => ?_) (fun σ2 H5 h5 => ?_)
      · refine ⟨_, rfl, b, _, 0, _, rfl, rfl, SqT.of hb4, rfl, rfl, _, rfl, ?_⟩
        by_cases c : y.1 = "shut"
        · rw [decide_eq_true (congrArg V.str c)]
          exact hT _ ⟨rfl, c⟩
        · rw [decide_eq_false fun z => c (V.str.inj z)]
          exact hF _ ⟨rfl, c⟩
      · obtain ⟨rfl, c⟩ := h5
        refine ⟨_, rfl, .inl ⟨rfl, _, SqL.of hP4⟩, _, rfl, 1, rfl, b, _, rfl, hb4, fun p6 H6 k6 h6 => ?_⟩
        have h6 : H6 p6 = some (.tup [.int y.2.1, .int y.2.2]) := h6
        have hP6 := k6 _ _ hP4
        have hpl := paired_len hPp4
        refine ⟨Pp, us, .ref p6, rfl, rfl, hP6, szLt (by omega), ?_⟩
        have tk7 : TupK H6 (upd H6 Pp (.lst (us ++ [V.ref p6]))) := TupK.lst hP6
        have eo : own y = [(y.2.1, y.2.2)] := if_pos c
        refine go _ _ ⟨us ++ [V.ref p6], rfl, upd_same, ?_, by rw [upd_ne nPW3.symm]; exact k6 _ _ hW4, paired_imp (fun _ _ z => RwAt.mono _ _ _ _ tk7 (RwAt.mono _ _ _ _ (TupK.ext k6) z)) hPw4, tk7 _ _ (k6 _ _ hb4), (k4.trans k6).put hPp⟩
        rw [eo]
        exact paired_app (paired_imp (fun _ _ z => TwoAt.mono _ _ _ _ tk7 (TwoAt.mono _ _ _ _ (TupK.ext k6) z)) hPp4) (.cons ⟨p6, rfl, tk7 _ _ h6⟩ .nil)
      · obtain ⟨rfl, c⟩ := h5
        have eo : own y = [] := if_neg c
        exact ⟨us, rfl, hP4, by rw [eo, List.append_nil]; exact hPp4, hW4, hPw4, hb4, k4⟩
      · obtain ⟨us', rfl, hP5, hPp5, hW5, hPw5, hb5, k5⟩ := h5
        obtain ⟨lw, uw, hlw, hLw, hPww⟩ := hWs.2 y hyr
        have hmv := hM.2 y hyr
        rw [hmy] at hmv
        have hlead : ∀ wy ∈ waysOf r x y, ∀ z ∈ wy.2, z ∈ rowsL x.length := fun wy hwy => ways_in hyr hwy
        refine ⟨_, rfl, .inl ⟨rfl, _, SqL.of hW5⟩, ?_⟩
        refine ⟨_, rfl, _, rfl, W, _, rfl, hlw ▸ DGet.t (k := rk y) (k5 _ _ hW) hb5, _, rfl, _, rfl, D, _, rfl, hmv ▸ DGet.t (k := rk y) (k5 _ _ hD) hb5, _, rfl, lw, D, uw, some my, kvs, mn r x, waysOf r x y, bw r x y, tw, rfl, k5 _ _ hLw, paired_imp (fun _ _ => WyAt.mono _ _ _ _ (TupK.ext k5)) hPww, .inl (k5 _ _ hD), fun wy hwy => ⟨fun z hz => hM.2 z (hlead wy hwy z hz), Nat.le_trans (ways_short hvr wy hwy) (by decide)⟩, ways_len (by omega) hvr, by rw [← hmy]; exact hbf, fun v6 H6 hv6 k6 => ?_⟩
        obtain ⟨a6, t6, vs6, rfl, ha6, ht6, hP6⟩ := hv6
        have hv6l := paired_len hP6
        have hvl5 := paired_len hPw5
        refine ⟨a6, _, 1, _, rfl, rfl, SqT.of ha6, rfl, Wt, t6, vw', vs6, rfl, rfl, k6 _ _ hW5, SqT.of ht6, szL (by omega), ?_⟩
        have hW6 := k6 _ _ hW5
        have tk7 : TupK H6 (upd H6 Wt (.lst (vw' ++ vs6))) := TupK.lst hW6
        refine ⟨_, ?_, _, ps ++ own y, ws' ++ (bw r x y).2, us', vw' ++ vs6, rfl, by rw [upd_ne nPW3]; exact k6 _ _ hP5, paired_imp (fun _ _ z => TwoAt.mono _ _ _ _ tk7 (TwoAt.mono _ _ _ _ (TupK.ext k6) z)) hPp5, upd_same, paired_app (paired_imp (fun _ _ z => RwAt.mono _ _ _ _ tk7 (RwAt.mono _ _ _ _ (TupK.ext k6) z)) hPw5) (paired_imp (fun _ _ z => RwAt.mono _ _ _ _ tk7 z) hP6), fun z hz => ?_, fun R h => hrun R (.step h), rfl, (k5.trans k6).put hWtH, ?_⟩
        · rw [sumW_app]
          omega
        · rcases List.mem_append.mp hz with hz | hz
          · exact hwz z (List.mem_append_left _ hz)
          · exact ⟨hbr z hz, hbs z hz⟩
        · rw [sumW_app, List.length_append]
          omega
abbrev CFB (P : Program) (w : World) (K : PySem.W.Frag) (mg : Str → Option Value) (base : Heap) : Prop := Ca P w K mg base 3 "folding_by" ["ways", "worths", "row"] spFB
end
end Pf


namespace Pf
open PySem PySem.Spec PyProof.Rows L2
theorem WaysIs.ext {H H' : Hp} {kws : List (List Key × V)} {r : Rl} {x : Str} {rows : List Rw} (h : WaysIs H kws r x rows) (k : Ext H H') : WaysIs H' kws r x rows := ⟨h.1, fun y hy => by
  obtain ⟨l, us, e, h1, h2⟩ := h.2 y hy
  exact ⟨l, us, e, k _ _ h1, paired_imp (fun _ _ => WyAt.mono _ _ _ _ (TupK.ext k)) h2⟩⟩
section
variable {P : Program} {w : World} {K : PySem.W.Frag} {mg : Str → Option Value} {base : Heap}
abbrev s_least_worth : Stmt := topS 37
theorem sc_least_worth : FnScope ["rules", "string"] ["rules", "string"] (defScope s_least_worth) :=
  ⟨rfl, rfl, rfl, by decide +kernel, rfl, by decide +kernel, by decide +kernel⟩
def spLeastW : Sp := fun vs H Q _ => ∃ (v : V) (r : Rl) (x : Str), vs = [v, .str x] ∧ RulesW H v r ∧ RlOk r ∧ x.length ≤ 12 ∧ Of r.letters x ∧
  ∀ (m : Int) (H' : Hp), mn r x ("open", 0, (x.length : Int) - 1) = some m → Ext H H' → Q (.int m) H'
theorem ok_leastW {f : Addr} {fd : FuncData} (F : Fun K "least_worth" "least_worth" s_least_worth f fd) (cneed_string : CNS P w K mg base) (call_ways : CAllW P w K mg base) (cleast_rows : CRowsL P w K mg base) (cwhole_row : CWhole P w K mg base) : FnOk P w K mg base CX0 6 f fd ["rules", "string"] spLeastW := by
  refine F.ok sc_least_worth (fun vs H Q E h => ?_) (fun cdv A outer s H vs Q E hr h => ?_)
  · obtain ⟨v, r, x, rfl, _⟩ := h
    rfl
  · obtain ⟨v, r, x, rfl, hR, ok, hx, hO, q⟩ := h
    refine ⟨_, (pss_cons (ps_expr (pe_ca cneed_string (hr.mono (by decide)) (by rfl) (pa_cons (pv 0) (pa_cons (pv 1) pa_nil))))
      (pss_one (ps_ret (pe_dget (hu_of hr) (pe_ca cleast_rows (hr.mono (by decide)) (by rfl) (pa_cons (pe_ca call_ways (hr.mono (by decide)) (by rfl) (pa_cons (pv 0) (pa_cons (pv 1) pa_nil))) pa_nil)) (pe_ca cwhole_row (hr.mono (by decide)) (by rfl) (pa_cons (pv 1) pa_nil)) (fun _ _ => rfl))))), ?_⟩
    refine ⟨_, rfl, _, rfl, v, r, x, rfl, hR, hx, hO, fun H1 k1 => ?_⟩
    refine ⟨_, rfl, _, rfl, v, r, x, rfl, RulesW.mono _ _ _ _ (TupK.ext k1) hR, ok, hx, fun W kws H2 hW hW2 hWs k2 => ?_⟩
    refine ⟨W, kws, r, x, rfl, hW2, hx, hWs, fun D kvs H3 hD hD3 hM k3 => ?_⟩
    refine ⟨_, rfl, x, rfl, by omega, fun t ht => ?_⟩
    have x4 := Ext.new (o := .tup [.str "open", .int 0, .int ((x.length : Int) - 1)]) ht
    obtain ⟨m, em⟩ := mn_opn (r := r) (x := x) (L := x.length) (i := 0) (Int.le_refl _) (by omega)
    have hdg : DGet (upd H3 t (.tup [.str "open", .int 0, .int ((x.length : Int) - 1)])) D (.ref t) (some (oi (mn r x (mkR "open" 0 ((x.length : Int) - 1))))) := hM.2 _ (whole_in _) ▸ DGet.t (k := rk (mkR "open" 0 ((x.length : Int) - 1))) (x4 _ _ hD3) upd_same
    have em' : mn r x (mkR "open" 0 ((x.length : Int) - 1)) = some m := em
    rw [em'] at hdg
    exact ⟨D, _, rfl, hdg, q m _ em (((k1.trans k2).trans k3).trans x4)⟩
abbrev CLeastW (P : Program) (w : World) (K : PySem.W.Frag) (mg : Str → Option Value) (base : Heap) : Prop := Ca P w K mg base 6 "least_worth" ["rules", "string"] spLeastW
abbrev s_least_folding : Stmt := topS 40
theorem sc_least_folding : FnScope ["rules", "string", "ways"] ["rules", "string"] (defScope s_least_folding) :=
  ⟨rfl, rfl, rfl, by decide +kernel, rfl, by decide +kernel, by decide +kernel⟩
def spLF : Sp := fun vs H Q _ => ∃ (v : V) (r : Rl) (x : Str), vs = [v, .str x] ∧ RulesW H v r ∧ RlOk r ∧ x.length ≤ 12 ∧ Of r.letters x ∧
  ∀ l q H', FoAt H' (.ref l) q → IsLF r x q → mn r x ("open", 0, (x.length : Int) - 1) = some (oV r x q) → Ext H H' → Q (.ref l) H'
theorem ok_lf {f : Addr} {fd : FuncData} (F : Fun K "least_folding" "least_folding" s_least_folding f fd) (cneed_string : CNS P w K mg base) (call_ways : CAllW P w K mg base) (cleast_rows : CRowsL P w K mg base) (cwhole_row : CWhole P w K mg base) (cfolding_by : CFB P w K mg base) : FnOk P w K mg base CX0 6 f fd ["rules", "string"] spLF := by
  refine F.ok sc_least_folding (fun vs H Q E h => ?_) (fun cdv A outer s H vs Q E hr h => ?_)
  · obtain ⟨v, r, x, rfl, _⟩ := h
    rfl
  · obtain ⟨v, r, x, rfl, hR, ok, hx, hO, q⟩ := h
    refine ⟨_, (pss_cons (ps_expr (pe_ca cneed_string (hr.mono (by decide)) (by rfl) (pa_cons (pv 0) (pa_cons (pv 1) pa_nil))))
      (pss_cons (ps_set (i := 2) sc_least_folding.nd rfl (.inl rfl) (pe_ca call_ways (hr.mono (by decide)) (by rfl) (pa_cons (pv 0) (pa_cons (pv 1) pa_nil))))
      (pss_one (ps_ret (pe_ca cfolding_by (hr.mono (by decide)) (by rfl) (pa_cons (pv 2) (pa_cons (pe_ca cleast_rows (hr.mono (by decide)) (by rfl) (pa_cons (pv 2) pa_nil)) (pa_cons (pe_ca cwhole_row (hr.mono (by decide)) (by rfl) (pa_cons (pv 1) pa_nil)) pa_nil)))))))), ?_⟩
    refine ⟨_, rfl, _, rfl, v, r, x, rfl, hR, hx, hO, fun H1 k1 => ?_⟩
    refine ⟨_, rfl, _, rfl, v, r, x, rfl, RulesW.mono _ _ _ _ (TupK.ext k1) hR, ok, hx, fun W kws H2 hW hW2 hWs k2 => ?_⟩
    refine gow_name ?_
    dsimp only
    refine ⟨_, rfl, _, rfl, W, kws, r, x, rfl, hW2, hx, hWs, fun D kvs H3 hD hD3 hM k3 => ?_⟩
    refine ⟨_, rfl, x, rfl, by omega, fun t ht => ?_⟩
    have x4 := Ext.new (o := .tup [.str "open", .int 0, .int ((x.length : Int) - 1)]) ht
    have k34 := k3.trans x4
    exact ⟨W, D, t, kws, kvs, r, x, rfl, k34 _ _ hW2, x4 _ _ hD3, hx, hWs.ext k34, hM, upd_same, fun l q0 H5 h1 h2 h3 k5 => q l q0 H5 h1 h2 h3 (((k1.trans k2).trans k34).trans k5)⟩
abbrev CLF (P : Program) (w : World) (K : PySem.W.Frag) (mg : Str → Option Value) (base : Heap) : Prop := Ca P w K mg base 6 "least_folding" ["rules", "string"] spLF
end
end Pf


namespace Pf
open PySem PySem.Spec PyProof.Rows L2
/-- a folding as a list of pairs -/
def FlAt (H : Hp) (v : V) (q : Fo) : Prop := ∃ l us, v = .ref l ∧ H l = some (.lst us) ∧ Paired (TwoAt H) us q
theorem FlAt.ext {H H' : Hp} {v : V} {q : Fo} (h : FlAt H v q) (k : Ext H H') : FlAt H' v q := by
  obtain ⟨l, us, e, h1, h2⟩ := h
  exact ⟨l, us, e, k _ _ h1, paired_imp (fun _ _ => TwoAt.mono _ _ _ _ (TupK.ext k)) h2⟩
theorem FlAt.put {H : Hp} {D : Addr} {v : V} {q : Fo} {xs : List V} {o : HO} (h : FlAt H v q) (hD : H D = some (.lst xs)) (n : v ≠ .ref D) : FlAt (upd H D o) v q := by
  obtain ⟨l, us, e, h1, h2⟩ := h
  refine ⟨l, us, e, ?_, paired_imp (fun _ _ => TwoAt.mono _ _ _ _ (TupK.lst hD)) h2⟩
  rw [upd_ne fun z => n (by rw [e, z])]
  exact h1
/-- .. new since H0 -/
def FlN (H0 H : Hp) (v : V) (q : Fo) : Prop := FlAt H v q ∧ ∃ a, v = .ref a ∧ H0 a = none
theorem FlN.ext {H0 H H' : Hp} {v : V} {q : Fo} (h : FlN H0 H v q) (k : Ext H H') : FlN H0 H' v q := ⟨h.1.ext k, h.2⟩
theorem FlN.old {H0 H1 H : Hp} {v : V} {q : Fo} (h : FlN H1 H v q) (k : Ext H0 H1) : FlN H0 H v q := by
  obtain ⟨h1, a, e, h2⟩ := h
  exact ⟨h1, a, e, k.none h2⟩
def GenF (D : Addr) (H1 : Hp) (bs : List Fo) (i : Nat) (H : Hp) : Prop := ∃ vs, H D = some (.lst vs) ∧ Paired (fun v q => FlN H1 H v q ∧ v ≠ .ref D) vs (bs.take i) ∧ Ext H1 H
section
variable {D : Addr} {H1 H H4 : Hp} {bs : List Fo} {i n : Nat} {b : Fo} {p : Addr}
theorem genF_new (hD : H1 D = none) : GenF D H1 bs 0 (upd H1 D (.lst [])) := ⟨[], upd_same, by rw [List.take_zero]; exact .nil, Ext.new hD⟩
theorem GenF.ext (h : GenF D H1 bs i H) : Ext H1 H := by
  obtain ⟨_, _, _, k⟩ := h
  exact k
theorem genF_step (hD : H1 D = none) (h : GenF D H1 bs i H) (k : Ext H H4) (hv : FlAt H4 (.ref p) b) (hn : ∀ {xs : List V}, H D = some (.lst xs) → D ≠ p) (hnew : H1 p = none) (hb : bs[i]? = some b) (hl : bs.length ≤ 1000000) : ∃ acc, H4 D = some (.lst acc) ∧ acc.length < sizeLine ∧ GenF D H1 bs (i + 1) (upd H4 D (.lst (acc ++ [.ref p]))) := by
  obtain ⟨vs, h1, h2, h3⟩ := h
  have hi : i < bs.length := (List.getElem?_eq_some_iff.mp hb).1
  have hvl : vs.length ≤ i := by
    rw [paired_len h2, List.length_take]
    omega
  have hD4 := k _ _ h1
  refine ⟨vs, hD4, szLt (by omega), vs ++ [.ref p], upd_same, ?_, (h3.trans k).put hD⟩
  rw [List.take_add_one, hb]
  exact (paired_imp (fun _ _ h => ⟨⟨(h.1.1.ext k).put hD4 h.2, h.1.2⟩, h.2⟩) h2).snoc ⟨⟨hv.put hD4 (fun z => hn h1 (by injection z with z; exact z.symm)), p, rfl, hnew⟩, fun z => hn h1 (by injection z with z; exact z.symm)⟩
theorem genF_end (h : GenF D H1 bs n H) (hn : bs.length ≤ n) : ∃ vs, H D = some (.lst vs) ∧ Paired (FlN H1 H) vs bs ∧ Ext H1 H := by
  obtain ⟨vs, h1, h2, h3⟩ := h
  rw [List.take_of_length_le hn] at h2
  exact ⟨vs, h1, paired_imp (fun _ _ h => h.1) h2, h3⟩
end
section
variable {P : Program} {w : World} {K : PySem.W.Frag} {mg : Str → Option Value} {base : Heap}
abbrev s_law_listed : Stmt := topS 49
theorem sc_law_listed : FnScope ["_law_given", "_law_writ_here", "_law_i", "_law_j", "_law_found", "_law_k", "_law_behind", "_law_one", "_law_other"] ["_law_given", "_law_writ_here", "_law_i", "_law_j"] (defScope s_law_listed) :=
  ⟨rfl, rfl, rfl, by decide +kernel, rfl, by decide +kernel, by decide +kernel⟩
def spListed (d : Nat) : Sp := fun vs H Q _ => ∃ (v : V) (r : Rl) (x : Str) (a b : Int), vs = [v, .str x, .int a, .int (b - 1)] ∧ RulesAt H v r ∧ RlOk r ∧ x.length ≤ 12 ∧ 0 ≤ a ∧ a ≤ b ∧ b ≤ x.length ∧ (b - a).toNat < d ∧
  ∀ (l : Addr) (us : List V) (H' : Hp), H l = none → H' l = some (.lst us) → Paired (FlN H H') us (WA r x (b - a).toNat a) → Ext H H' → Q (.ref l) H'
theorem ok_listed {f : Addr} {fd : FuncData} (F : Fun K "_law_listed" "_law_listed" s_law_listed f fd) (bF : Binds K fd ["_law_given", "_law_writ_here", "_law_i", "_law_j"] []) (gF : mg "_law_listed" = some (.ref f)) (c_law_fits : CMay P w K mg base) (mrange : mg "range" = none) :
    ∀ d : Nat, FnOk P w K mg base CX0 (2 + d) f fd ["_law_given", "_law_writ_here", "_law_i", "_law_j"] (spListed d)
  | 0 => ⟨fun vs H Q E h => by
      obtain ⟨v, r, x, a, b, rfl, _⟩ := h
      rfl, fun A outer s H args us vs Q E _ _ _ _ h => by
      obtain ⟨v, r, x, a, b, _, _, _, _, _, _, _, h2, _⟩ := h
      omega⟩
  | d + 1 => by
    have c_law_listed : Ca P w K mg base (2 + d) "_law_listed" ["_law_given", "_law_writ_here", "_law_i", "_law_j"] (spListed d) := ⟨f, fd, ok_listed F bF gF c_law_fits mrange d, gF, F.kp, bF⟩
    refine F.ok (k := 2 + d) sc_law_listed (fun vs H Q E h => ?_) (fun cdv A outer s H vs Q E hr h => ?_)
    · obtain ⟨v, r, x, a, b, rfl, _⟩ := h
      rfl
    · obtain ⟨v, r, x, a, b, rfl, hR, ok, hx, a0, ab, bx, hd, q⟩ := h
      refine ⟨_, (pss_cons (ps_if (pt_cmpR op_ge (pv 2) (pv 3) (nomark _)) (pss_one (ps_ret (pe_lst (pa_cons (pe_lst pa_nil) pa_nil)))) pss_nil)
      (pss_cons (ps_set (i := 4) sc_law_listed.nd rfl (.inl rfl) (pe_ca c_law_listed (hr.mono (by omega)) (by rfl) (pa_cons (pv 0) (pa_cons (pv 1) (pa_cons (pe_op op_add (pv 2) pe_int) (pa_cons (pv 3) pa_nil))))))
      (pss_cons (ps_for PassesOwn.never rfl (pi_range2 (by rfl) mrange (pa_cons (pe_op op_add (pv 2) pe_int) (pa_cons (pe_op op_add (pv 3) pe_int) pa_nil))) (pg_name (i := 5) sc_law_listed.nd rfl (.inr rfl)) (pss_one (ps_if (pt_val (pe_ca c_law_fits (hr.mono (by omega)) (by rfl) (pa_cons (pv 0) (pa_cons (pv 1) (pa_cons (pv 2) (pa_cons (pv 5) pa_nil)))))) (pss_cons (ps_set (i := 6) sc_law_listed.nd rfl (.inl rfl) (pe_ca c_law_listed (hr.mono (by omega)) (by rfl) (pa_cons (pv 0) (pa_cons (pv 1) (pa_cons (pe_op op_add (pv 5) pe_int) (pa_cons (pv 3) pa_nil))))))
      (pss_one (ps_for PassesOwn.never rfl (pi_list (pe_ca c_law_listed (hr.mono (by omega)) (by rfl) (pa_cons (pv 0) (pa_cons (pv 1) (pa_cons (pe_op op_add (pv 2) pe_int) (pa_cons (pe_op op_sub (pv 5) pe_int) pa_nil)))))) (pg_name (i := 7) sc_law_listed.nd rfl (.inr rfl)) (pss_one (ps_set (i := 4) sc_law_listed.nd rfl (.inl rfl) (pe_op op_cat (pv 4) (pe_lc (own := [("_law_other", 8)]) (g := gName 8) (by rfl) sc_law_listed.nd (pi_list (pv 6)) (blkOk_by (own := [("_law_other", 8)]) (N := ["_law_given", "_law_writ_here", "_law_i", "_law_j", "_law_found", "_law_k", "_law_behind", "_law_one", "_law_other"]) (sc := defScope s_law_listed) (by decide +kernel)) (fun _ _ _ _ _ => (pg_name (i := 8) sc_law_listed.nd rfl (.inl rfl))) (fun _ _ _ _ _ => pts_nil) (fun _ _ _ _ _ => (pe_op op_cat (pe_op op_cat (pe_lst (pa_cons (pe_tup (pa_cons (pv 2) (pa_cons (pv 5) pa_nil))) pa_nil)) (pv 7)) (pv 8)))))))))) pss_nil)))
      (pss_one (ps_ret (pv 4)))))), ?_⟩
      refine ⟨_, rfl, _, rfl, _, _, rfl, rfl, _, rfl, ite2 (fun e => ?_) (fun e => ?_)⟩
      · have e : b ≤ a + 1 := by
          have := of_decide_eq_true e
          omega
        refine ⟨Nat.zero_le _, fun t ht => ⟨szL (show 1 ≤ 1000000 by decide), fun l hl => ?_⟩⟩
        have x1 := Ext.new (o := .lst []) ht
        have x2 := Ext.new (o := .lst [.ref t]) hl
        refine q l [.ref t] _ (x1.none hl) upd_same ?_ (x1.trans x2)
        have ew : WA r x (b - a).toNat a = [[]] := by
          by_cases c : b = a
          · rw [show (b - a).toNat = 0 by omega]
            rfl
          · rw [show (b - a).toNat = 1 by omega]
            exact WA_one r x a
        rw [ew]
        exact .cons ⟨⟨t, [], rfl, x2 _ _ upd_same, .nil⟩, t, rfl, ht⟩ .nil
      · have e : ¬ b ≤ a + 1 := fun z => e (decide_eq_true (by omega))
        have hab : (b - (a + 1)).toNat + 1 = (b - a).toNat := by omega
        rw [← hab, WA_succ] at q
        obtain ⟨n, hn⟩ : ∃ n, n = (b - (a + 1)).toNat := ⟨_, rfl⟩
        have hn12 : n + 1 ≤ 12 := by omega
        have wl := WA_len r x (n := n + 1) (by omega) a
        rw [WA_succ, List.length_append] at wl
        refine ⟨_, rfl, _, rfl, _, rfl, a, 1, rfl, rfl, _, rfl, v, r, x, a + 1, b, rfl, hR, ok, hx, by omega, by omega, bx, by omega, fun l1 us1 H1 hl1 hL1 hP1 k1 => ?_⟩
        rw [← hn] at hP1 q
        have rulE : ∀ {H' : Hp}, Ext H H' → RulesAt H' v r := fun k => RulesAt.mono _ _ _ _ (TupK.ext k) hR
        refine ⟨_, rfl, a, 1, rfl, rfl, _, rfl, b - 1, 1, rfl, rfl, a + 1, b - 1 + 1, rfl, ⟨by omega, by omega, by omega, by omega⟩, ?_⟩
        rw [show b - 1 + 1 = b by omega]
        refine for_range (lo := a + 1) (n := (b - (a + 1)).toNat) (fun t σ H2 => ∃ (y5 y6 y7 : Option V) (l : Addr) (us : List V), σ = [some v, some (.str x), some (.int a), some (.int (b - 1)), some (.ref l), y5, y6, y7, none] ∧ H l = none ∧ H2 l = some (.lst us) ∧ Paired (FlN H H2) us (WA r x n (a + 1) ++ (List.range t).flatMap fun t => seg r x (WA r x) n a t) ∧ Ext H H2)
          ⟨none, none, none, l1, us1, rfl, hl1, hL1, by rw [List.range_zero, List.flatMap_nil, List.append_nil]; exact hP1, k1⟩ (fun t σ H2 ht hv => ?_) (fun σ H2 hv => ?_)
        · obtain ⟨y5, y6, y7, l, us, rfl, hl, hL2, hP2, k2⟩ := hv
          have ht' : t < n := by omega
          have eflat : (List.range (t + 1)).flatMap (fun t => seg r x (WA r x) n a t) = (List.range t).flatMap (fun t => seg r x (WA r x) n a t) ++ seg r x (WA r x) n a t := by
            rw [List.range_succ, List.flatMap_append]
            simp
          have esub : ((List.range (t + 1)).flatMap fun t => seg r x (WA r x) n a t).length ≤ ((List.range n).flatMap fun t => seg r x (WA r x) n a t).length := by
            rw [flat_len, flat_len]
            have : (List.range n) = List.range (t + 1) ++ (List.range (n - (t + 1))).map (fun y => (t + 1) + y) := by
              rw [← List.range_add]
              congr 1
              omega
            rw [this, List.map_append, List.sum_append]
            omega
          refine ⟨_, rfl, _, rfl, _, rfl, _, rfl, v, r, x, a, a + 1 + t, rfl, rulE k2, ok, by omega, a0, by omega, by omega, by omega, fun H3 k3 => ⟨_, rfl, ite2 (fun em => ?_) (fun em => ?_)⟩⟩
          · have k03 := k2.trans k3
            have es : seg r x (WA r x) n a t = (WA r x t (a + 1)).flatMap fun one => (WA r x (n - 1 - t) (a + 2 + t)).map fun other => (a, a + 1 + t) :: (one ++ other) := by
              unfold seg
              rw [if_pos em]
            rw [eflat, es, List.length_append] at esub
            refine ⟨_, rfl, _, rfl, _, rfl, a + 1 + t, 1, rfl, rfl, _, rfl, v, r, x, a + 1 + t + 1, b, rfl, rulE k03, ok, hx, by omega, by omega, by omega, by omega, fun l5 us5 H4 hl5 hL5 hP5 k4 => ?_⟩
            rw [show (b - (a + 1 + (t : Int) + 1)).toNat = n - 1 - t by omega, show a + 1 + (t : Int) + 1 = a + 2 + t by omega] at hP5
            refine ⟨_, rfl, _, rfl, _, rfl, a, 1, rfl, rfl, _, rfl, a + 1 + t, 1, rfl, rfl, v, r, x, a + 1, a + 1 + t, rfl, rulE (k03.trans k4), ok, hx, by omega, by omega, by omega, by omega, fun l4 us4 H5 hl4 hL4 hP4 k5 => ?_⟩
            rw [show (a + 1 + (t : Int) - (a + 1)).toNat = t by omega] at hP4
            have k05 := (k03.trans k4).trans k5
            have k35 := k4.trans k5
            have h4l := paired_len hP4
            have h5l := paired_len hP5
            refine ⟨l4, rfl, ⟨_, SqL.of hL4⟩, for_list (K := K) (xs := us4) (fun j σ H6 => ∃ (y8 : Option V) (l : Addr) (us : List V), σ = [some v, some (.str x), some (.int a), some (.int (b - 1)), some (.ref l), some (.int (a + 1 + (t : Int))), some (.ref l5), y8, none] ∧ H l = none ∧ H6 l = some (.lst us) ∧ Paired (FlN H H6) us ((WA r x n (a + 1) ++ (List.range t).flatMap fun t => seg r x (WA r x) n a t) ++ ((WA r x t (a + 1)).take j).flatMap fun one => (WA r x (n - 1 - t) (a + 2 + t)).map fun other => (a, a + 1 + t) :: (one ++ other)) ∧ Ext H5 H6)
              ⟨y7, l, us, rfl, hl, k35 _ _ (k3 _ _ hL2), by rw [List.take_zero, List.flatMap_nil, List.append_nil]; exact paired_imp (fun _ _ h => FlN.ext h (k3.trans k35)) hP2, Ext.refl⟩ (fun j σ H6 _ ⟨_, _, _, _, _, _, _, k⟩ => SqL.of (k _ _ hL4)) (fun j u σ H6 hj hv => ?_) (fun σ H6 hv => ?_)⟩
            · obtain ⟨y8, l, us, rfl, hl, hL6, hP6, k6⟩ := hv
              obtain ⟨one, hone, ⟨t1, fs1, rfl, hT1, hF1⟩, _⟩ := paired_get hP4 hj
              have hL5' := k5 _ _ hL5
              have hjl : j < (WA r x t (a + 1)).length := (List.getElem?_eq_some_iff.mp hone).1
              -- the comprehension
              refine ⟨_, rfl, _, rfl, l5, rfl, ⟨_, SqL.of (k6 _ _ hL5')⟩, fun D hD => lc_list (K := K) (xs := us5) (GenF D H6 ((WA r x (n - 1 - t) (a + 2 + t)).map fun other => (a, a + 1 + (t : Int)) :: (one ++ other))) (genF_new hD) (fun i H7 _ h => SqL.of (h.ext _ _ (k6 _ _ hL5'))) (fun i u H7 hi hv => ?_) (fun H7 hv => ?_)⟩
              · obtain ⟨other, hother, ⟨t2, fs2, rfl, hT2, hF2⟩, _⟩ := paired_get hP5 hi
                have k7 := hv.ext
                have k67 := k6.trans k7
                have k57 := k5.trans k67
                have hone1 := (WA_in r x t (a + 1) one (List.mem_of_getElem? hone)).2
                have hoth1 := (WA_in r x (n - 1 - t) (a + 2 + t) other (List.mem_of_getElem? hother)).2
                have f1l := paired_len hF1
                have f2l := paired_len hF2
                refine ⟨rfl, _, rfl, _, rfl, szL (show 2 ≤ 1000000 by decide), fun tp htp => ⟨szL (show 1 ≤ 1000000 by decide), fun tq htq => ?_⟩⟩
                have x8 := Ext.new (o := .tup [.int a, .int (a + 1 + (t : Int))]) htp
                have x9 := Ext.new (o := .lst [.ref tp]) htq
                have x89 := x8.trans x9
                refine ⟨_, rfl, tq, t1, _, fs1, rfl, rfl, upd_same, (k67.trans x89) _ _ hT1, szL (by rw [List.length_singleton]; omega), fun p10 hp10 => ?_⟩
                have x10 := Ext.new (o := .lst ([V.ref tp] ++ fs1)) hp10
                refine ⟨_, rfl, p10, t2, _, fs2, rfl, rfl, upd_same, (k57.trans (x89.trans x10)) _ _ hT2, szL (by rw [List.length_append, List.length_singleton]; omega), fun p11 hp11 => ?_⟩
                have x11 := Ext.new (o := .lst ([V.ref tp] ++ fs1 ++ fs2)) hp11
                have kk := x89.trans (x10.trans x11)
                refine genF_step hD hv kk (b := (a, a + 1 + (t : Int)) :: (one ++ other)) (p := p11) ⟨p11, _, rfl, upd_same, ?_⟩ (fun hDs => ne_of_none ((x89.trans x10) _ _ hDs) hp11) ((k7.trans (x89.trans x10)).none hp11) ?_ ?_
                · have eap : [V.ref tp] ++ fs1 ++ fs2 = V.ref tp :: (fs1 ++ fs2) := rfl
                  rw [eap]
                  refine .cons ⟨tp, rfl, (x9.trans (x10.trans x11)) _ _ upd_same⟩ (paired_app (paired_imp (fun _ _ => TwoAt.mono _ _ _ _ (TupK.ext (k67.trans kk))) hF1) (paired_imp (fun _ _ => TwoAt.mono _ _ _ _ (TupK.ext (k57.trans kk))) hF2))
                · rw [List.getElem?_map, hother]
                  rfl
                · rw [List.length_map]
                  have := WA_len r x (n := n - 1 - t) (by omega) (a + 2 + t)
                  omega
              obtain ⟨vs7, hL7, hP7, k7⟩ := genF_end hv (by rw [List.length_map]; omega)
              clear hv
              have h6l := paired_len hP6
              have h7l := paired_len hP7
              rw [List.length_map] at h7l
              have etake : ((WA r x t (a + 1)).take (j + 1)).flatMap (fun one => (WA r x (n - 1 - t) (a + 2 + t)).map fun other => (a, a + 1 + (t : Int)) :: (one ++ other)) = ((WA r x t (a + 1)).take j).flatMap (fun one => (WA r x (n - 1 - t) (a + 2 + t)).map fun other => (a, a + 1 + (t : Int)) :: (one ++ other)) ++ (WA r x (n - 1 - t) (a + 2 + t)).map fun other => (a, a + 1 + (t : Int)) :: (one ++ other) := by
                rw [List.take_add_one, hone, List.flatMap_append]
                simp
              have esz : us.length + vs7.length ≤ 15511 := by
                have e1 : (((WA r x t (a + 1)).take (j + 1)).flatMap (fun one => (WA r x (n - 1 - t) (a + 2 + t)).map fun other => (a, a + 1 + (t : Int)) :: (one ++ other))).length ≤ ((WA r x t (a + 1)).flatMap (fun one => (WA r x (n - 1 - t) (a + 2 + t)).map fun other => (a, a + 1 + (t : Int)) :: (one ++ other))).length := by
                  rw [flat_const (c := (WA r x (n - 1 - t) (a + 2 + t)).length) (fun y _ => List.length_map ..), flat_const (c := (WA r x (n - 1 - t) (a + 2 + t)).length) (fun y _ => List.length_map ..)]
                  exact Nat.mul_le_mul_right _ (by rw [List.length_take]; omega)
                rw [etake, List.length_append, List.length_map] at e1
                rw [List.length_append, List.length_append] at h6l
                omega
              refine ⟨l, D, us, vs7, rfl, rfl, k7 _ _ hL6, hL7, szL (by omega), fun l8 hl8 => ?_⟩
              have x8 := Ext.new (o := .lst (us ++ vs7)) hl8
              refine ⟨_, l8, us ++ vs7, rfl, (k05.trans (k6.trans k7)).none hl8, upd_same, ?_, (k6.trans k7).trans x8⟩
              rw [etake, ← List.append_assoc]
              exact paired_app (paired_imp (fun _ _ h => FlN.ext h (k7.trans x8)) hP6) (paired_imp (fun _ _ h => (FlN.ext h x8).old (k05.trans k6)) hP7)
            · obtain ⟨y8, l, us, rfl, hl, hL6, hP6, k6⟩ := hv
              rw [List.take_of_length_le (by omega)] at hP6
              refine ⟨_, _, _, l, us, rfl, hl, hL6, ?_, k05.trans k6⟩
              rw [eflat, es, ← List.append_assoc]
              exact hP6
          · have es : seg r x (WA r x) n a t = [] := by
              unfold seg
              rw [if_neg em]
            refine ⟨_, _, _, l, us, rfl, hl, k3 _ _ hL2, ?_, k2.trans k3⟩
            rw [eflat, es, List.append_nil]
            exact paired_imp (fun _ _ h => FlN.ext h k3) hP2
        · obtain ⟨y5, y6, y7, l, us, rfl, hl, hL2, hP2, k2⟩ := hv
          rw [← hn] at hP2
          exact ⟨_, rfl, q l us H2 hl hL2 hP2 k2⟩
abbrev CListed (P : Program) (w : World) (K : PySem.W.Frag) (mg : Str → Option Value) (base : Heap) : Prop := Ca P w K mg base 15 "_law_listed" ["_law_given", "_law_writ_here", "_law_i", "_law_j"] (spListed 13)
end
end Pf


namespace Pf
open PySem PySem.Spec PyProof.Rows L2
theorem rise_uniq : ∀ {L L' : List (Int × Int)}, L.Pairwise (fun a b => a.1 < b.1) → L'.Pairwise (fun a b => a.1 < b.1) → (∀ y, y ∈ L ↔ y ∈ L') → L = L'
  | [], [], _, _, _ => rfl
  | [], b :: l', _, _, h => by
    have := (h b).mpr (List.mem_cons_self ..)
    cases this
  | a :: l, [], _, _, h => by
    have := (h a).mp (List.mem_cons_self ..)
    cases this
  | a :: l, b :: l', p, p', h => by
    have pa := List.pairwise_cons.mp p
    have pb := List.pairwise_cons.mp p'
    have e : a = b := by
      rcases List.mem_cons.mp ((h a).mp (List.mem_cons_self ..)) with e | e
      · exact e
      · rcases List.mem_cons.mp ((h b).mpr (List.mem_cons_self ..)) with e' | e'
        · exact e'.symm
        · have h1 := pb.1 a e
          have h2 := pa.1 b e'
          omega
    subst e
    congr 1
    refine rise_uniq pa.2 pb.2 fun y => ⟨fun hy => ?_, fun hy => ?_⟩
    · rcases List.mem_cons.mp ((h y).mp (List.mem_cons_of_mem _ hy)) with e | e
      · have := pa.1 y hy
        rw [e] at this
        omega
      · exact e
    · rcases List.mem_cons.mp ((h y).mpr (List.mem_cons_of_mem _ hy)) with e | e
      · have := pb.1 y hy
        rw [e] at this
        omega
      · exact e
theorem le_two {a b : Int × Int} (h : PySem.W.dataLe false (fun z : Int × Int => PyData.tuple [.int z.1, .int z.2]) a b = true) : a.1 ≤ b.1 := by
  by_cases c : a.1 ≤ b.1
  · exact c
  · exfalso
    have hlt : b.1 < a.1 := by omega
    have e : PyProof.Rows.lexLt itemOrd (PySem.W.keyToks (PyData.tuple [.int b.1, .int b.2])) (PySem.W.keyToks (PyData.tuple [.int a.1, .int a.2])) = true := by
      simp [PySem.W.keyToks, PySem.W.keyToksAll, PyProof.Rows.lexLt, itemLt, hlt]
    have h2 : (!PyProof.Rows.lexLt itemOrd (PySem.W.keyToks (PyData.tuple [.int b.1, .int b.2])) (PySem.W.keyToks (PyData.tuple [.int a.1, .int a.2]))) = true := h
    rw [e] at h2
    cases h2
theorem sort_two {t : List (Int × Int)} (nd : (t.map (·.1)).Nodup) : (t.mergeSort (PySem.W.dataLe false fun z : Int × Int => PyData.tuple [.int z.1, .int z.2])).Pairwise fun a b => a.1 < b.1 := by
  have T := PySem.W.sortLe_total (listOrd itemOrd) false fun z : Int × Int => PySem.W.keyToks (PyData.tuple [.int z.1, .int z.2])
  have p1 := List.pairwise_mergeSort (le := PySem.W.dataLe false fun z : Int × Int => PyData.tuple [.int z.1, .int z.2]) T.trans (fun a b => by
    rcases T.total a b with h | h
    · rw [show PySem.W.dataLe false (fun z : Int × Int => PyData.tuple [.int z.1, .int z.2]) a b = true from h]
      rfl
    · rw [show PySem.W.dataLe false (fun z : Int × Int => PyData.tuple [.int z.1, .int z.2]) b a = true from h, Bool.or_true]) t
  have p2 : ((t.mergeSort (PySem.W.dataLe false fun z : Int × Int => PyData.tuple [.int z.1, .int z.2])).map (·.1)).Nodup := ((List.mergeSort_perm t _).map _).nodup_iff.mpr nd
  have p3 := List.pairwise_map.mp p2
  exact (p1.and p3).imp fun h => by
    have := le_two h.1
    have := h.2
    omega
theorem lay_twos : ∀ L : Fo, PyData.canLayAll0 (L.map dTwo) = true
  | [] => by simp [PyData.canLayAll0]
  | y :: L => by
    rw [List.map_cons]
    simp [PyData.canLayAll0, PyData.canLay0, dTwo, lay_twos L]
theorem shaped_twos (L : Fo) : SeqAt.shaped (.list (L.map dTwo)) = true := by
  show (PyData.canLay0 (.list (L.map dTwo)) && decide (PyData.depth (.list (L.map dTwo)) ≤ 64)) = true
  have h1 : PyData.canLay0 (.list (L.map dTwo)) = true := by
    rw [PyData.canLay0]
    exact lay_twos L
  have h2 : PyData.depth (.list (L.map dTwo)) ≤ 64 := by
    rw [PyData.depth]
    have := dep_twos L
    omega
  rw [h1, decide_eq_true h2]
  rfl
theorem eqv_nil (L : Fo) : PyData.eqv (.list (L.map dTwo)) (.list []) = L.isEmpty := by
  cases L with
  | nil => simp [PyData.eqv, PyData.eqvAll]
  | cons y L => simp [PyData.eqv, PyData.eqvAll]
theorem sort_self {q : Fo} (h : q.Pairwise fun a b => a.1 < b.1) : q.mergeSort (PySem.W.dataLe false dTwo) = q := by
  have nd : (q.map (·.1)).Nodup := List.pairwise_map.mpr (h.imp fun h => by omega)
  exact rise_uniq (sort_two nd) h fun y => (List.mergeSort_perm q _).mem_iff
def gA (h : Int) (st : Fo × Int) (p : Int × Int) : Fo × Int := if st.2 < p.1 ∧ p.2 < h then (st.1 ++ [p], p.2) else st
def gF (q : Fo) (lo h : Int) : Fo × Int := q.foldl (gA h) ([], lo)
theorem gF_snoc (q : Fo) (lo h : Int) (p : Int × Int) : gF (q ++ [p]) lo h = gA h (gF q lo h) p := by
  unfold gF
  rw [List.foldl_append]
  rfl
theorem gF_len (h : Int) : ∀ (q : Fo) (st : Fo × Int), (q.foldl (gA h) st).1.length ≤ st.1.length + q.length
  | [], _ => Nat.le_refl _
  | p :: r, st => by
    have ih := gF_len h r (gA h st p)
    rw [List.foldl_cons, List.length_cons]
    have : (gA h st p).1.length ≤ st.1.length + 1 := by
      unfold gA
      split
      · rw [List.length_append, List.length_singleton]
        exact Nat.le_refl _
      · exact Nat.le_succ _
    omega
theorem gF_top (h : Int) : ∀ (q : Fo) (acc : Fo) (e : Int), (q.foldl (gA h) (acc, e)).1 = acc ++ topF (e + 1) (q.filter fun p => decide (p.2 < h))
  | [], acc, e => by
    rw [List.filter_nil]
    show acc = acc ++ []
    rw [List.append_nil]
  | p :: r, acc, e => by
    rw [List.foldl_cons]
    by_cases c : p.2 < h
    · rw [List.filter_cons_of_pos (p := fun p : Int × Int => decide (p.2 < h)) (decide_eq_true c)]
      unfold topF
      by_cases d : e < p.1
      · rw [show gA h (acc, e) p = (acc ++ [p], p.2) from if_pos ⟨d, c⟩, gF_top h r, if_pos (show e + 1 ≤ p.1 by omega), List.append_assoc]
        rfl
      · rw [show gA h (acc, e) p = (acc, e) from if_neg fun z => d z.1, gF_top h r, if_neg (show ¬ e + 1 ≤ p.1 by omega)]
    · rw [List.filter_cons_of_neg (p := fun p : Int × Int => decide (p.2 < h)) (by simpa using c), show gA h (acc, e) p = (acc, e) from if_neg fun z => c z.2, gF_top h r]
theorem topF_filter {z0 : Int} : ∀ (L : Fo) (z : Int), z0 ≤ z → (∀ p ∈ L, p.1 < p.2) → topF z L = topF z (L.filter fun p => decide (z0 ≤ p.1))
  | [], _, _, _ => rfl
  | p :: r, z, hz, hp => by
    have hp1 := hp p (List.mem_cons_self ..)
    have hp2 : ∀ y ∈ r, y.1 < y.2 := fun y hy => hp y (List.mem_cons_of_mem _ hy)
    by_cases c : z0 ≤ p.1
    · rw [List.filter_cons_of_pos (p := fun p : Int × Int => decide (z0 ≤ p.1)) (decide_eq_true c)]
      unfold topF
      split
      · rw [topF_filter (z0 := z0) r (p.2 + 1) (by omega) hp2]
      · rw [topF_filter (z0 := z0) r z hz hp2]
    · rw [List.filter_cons_of_neg (p := fun p : Int × Int => decide (z0 ≤ p.1)) (by simpa using c)]
      have e : topF z (p :: r) = topF z r := by
        conv => lhs; unfold topF
        rw [if_neg (by omega)]
      rw [e, topF_filter (z0 := z0) r z hz hp2]
theorem gF_is {q : Fo} {lo h : Int} (hp : ∀ p ∈ q, p.1 < p.2) : (gF q lo h).1 = tops (withinC q lo h) := by
  unfold gF
  rw [gF_top, List.nil_append, topF_filter (z0 := lo + 1) _ _ (Int.le_refl _) fun p hq => hp p (List.mem_filter.mp hq).1, List.filter_filter]
  have e : (q.filter fun a => decide (lo + 1 ≤ a.1) && decide (a.2 < h)) = withinC q lo h := by
    unfold withinC
    refine List.filter_congr fun p _ => ?_
    congr 1
  rw [e]
  refine topF_tops fun p hq => ?_
  have := (List.mem_filter.mp hq).2
  rw [Bool.and_eq_true] at this
  have := of_decide_eq_true this.1
  omega
theorem app_ok2 {β : Type} {R : Hp → V → β → Prop} {D : Addr} {H1 H H4 : Hp} {ys : List β} {v : V} {b : β} {Q : VK} (m : Mono R) (hD : H1 D = none) (h : GenL R D H1 ys H) (k : Ext H H4) (hv : R H4 v b) (hn : ys.length < 1000000) (q : ∀ H', GenL R D H1 (ys ++ [b]) H' → (∀ c o, c ≠ D → H4 c = some o → H' c = some o) → Q .non H') : rAppend (.ref D) [v] H4 Q := by
  obtain ⟨acc, h1, h2, h3⟩ := genl_step m hD h k hv hn
  exact ⟨D, acc, v, rfl, rfl, h1, h2, q _ h3 fun c o n e => by rw [upd_ne n]; exact e⟩
theorem two_zip {H : Hp} : ∀ {us : List V} {q : Fo}, Paired (TwoAt H) us q → ∃ bes : List (Addr × (Int × Int)), (bes.map fun b => V.ref b.1) = us ∧ bes.map (·.2) = q ∧ ∀ b ∈ bes, H b.1 = some (.tup [.int b.2.1, .int b.2.2])
  | _, _, .nil => ⟨[], rfl, rfl, fun b h => by cases h⟩
  | _, _, .cons (b := y) ⟨a, e, h⟩ t => by
    obtain ⟨bes, h1, h2, h3⟩ := two_zip t
    refine ⟨(a, y) :: bes, by rw [List.map_cons, h1, e], by rw [List.map_cons, h2], fun b hb => ?_⟩
    rcases List.mem_cons.mp hb with rfl | hb
    · exact h
    · exact h3 b hb
section
variable {P : Program} {w : World} {K : PySem.W.Frag} {mg : Str → Option Value} {base : Heap}
abbrev s_law_straight : Stmt := topS 50
theorem sc_law_straight : FnScope ["_law_pairs_so", "_law_low", "_law_high", "_law_found", "_law_end", "_law_i", "_law_j"] ["_law_pairs_so", "_law_low", "_law_high"] (defScope s_law_straight) :=
  ⟨rfl, rfl, rfl, by decide +kernel, rfl, by decide +kernel, by decide +kernel⟩
def spStrD : Sp := fun vs H Q _ => ∃ (l : Addr) (us : List V) (q0 : Fo) (lo hi : Int), vs = [.ref l, .int lo, .int hi] ∧ H l = some (.lst us) ∧ Paired (TwoAt H) us q0 ∧ q0.length ≤ 100 ∧ (q0.Pairwise fun a b => a.1 < b.1) ∧ (∀ p ∈ q0, p.1 < p.2) ∧
  ∀ (l' : Addr) (us' : List V) (H' : Hp), H l' = none → H' l' = some (.lst us') → Paired (TwoAt H') us' (tops (withinC q0 lo hi)) → Ext H H' → Q (.ref l') H'
theorem ok_strD {f : Addr} {fd : FuncData} {k : Nat} (F : Fun K "_law_straight" "_law_straight" s_law_straight f fd) (msorted : mg "sorted" = none) : FnOk P w K mg base CX0 (k + 1) f fd ["_law_pairs_so", "_law_low", "_law_high"] spStrD := by
  refine F.ok sc_law_straight (fun vs H Q E h => ?_) (fun cdv A outer s H vs Q E hr h => ?_)
  · obtain ⟨l, us, q0, lo, hi, rfl, _⟩ := h
    rfl
  · obtain ⟨l, us, q0, lo, hi, rfl, hl, hP, hlen, hsort, hup, q⟩ := h
    refine ⟨_, (pss_cons (ps_set (i := 3) sc_law_straight.nd rfl (.inl rfl) (pe_lst pa_nil))
      (pss_cons (ps_set (i := 4) sc_law_straight.nd rfl (.inl rfl) (pv 1))
      (pss_cons (ps_for PassesOwn.never rfl (pi_list (pe_callB (cr_sortD K hr.units) (by rfl) msorted (by decide +kernel) (pa_cons (pv 0) pa_nil))) (pg_tup rfl (pgs_cons (pg_name (i := 5) sc_law_straight.nd rfl (.inl rfl)) (pgs_cons (pg_name (i := 6) sc_law_straight.nd rfl (.inl rfl)) pgs_nil))) (pss_one (ps_if (PW.pt (pw_and (pt_cmpR op_gt (pv 5) (pv 4) (nomark _)) (pw_and1 (pt_cmpR op_lt (pv 6) (pv 2) (nomark _))))) (pss_cons (ps_expr (pe_bm PySem.F.plainAttrs_list PySem.F.slot_list_append PySem.F.type_list_append mt_append (pv 3) (pa_cons (pe_tup (pa_cons (pv 5) (pa_cons (pv 6) pa_nil))) pa_nil)))
      (pss_one (ps_set (i := 4) sc_law_straight.nd rfl (.inl rfl) (pv 6)))) pss_nil)))
      (pss_one (ps_ret (pv 3)))))), ?_⟩
    refine ⟨Nat.zero_le _, fun fo hfo => ?_⟩
    have hg0 : GenL TwoAt fo H [] (upd H fo (.lst [])) := genl_new hfo
    have x1 := Ext.new (o := .lst []) hfo
    obtain ⟨bes, hb1, hb2, hb3⟩ := two_zip hP
    refine ⟨_, rfl, ?_⟩
    refine ⟨_, rfl, _, fun b => .ref b.1, fun b => dTwo b.2, l, bes, rfl, SqL.of (by rw [hb1]; exact x1 _ _ hl), fun b hb => ⟨.tup (SqT.of (x1 _ _ (hb3 b hb))) (.cons (.int _) (.cons (.int _) .nil)), by simp [dTwo, PyData.depth, PyData.depthAll]⟩, PySem.W.AllAlike.of fun b b' => by simp [dTwo, PySem.W.alike, PySem.W.alikeAll], PySem.W.Sortable.tuples fun b => ⟨_, _, rfl⟩, fun ls hls => ?_⟩
    obtain ⟨S, hS⟩ : ∃ S, S = bes.mergeSort (PySem.W.dataLe false fun b => dTwo b.2) := ⟨_, rfl⟩
    rw [← hS]
    have hperm : S.Perm bes := hS ▸ List.mergeSort_perm _ _
    have hS2 : S.map (·.2) = q0 := by
      have hm := List.map_mergeSort (r := PySem.W.dataLe false fun y : Addr × (Int × Int) => dTwo y.2) (s := PySem.W.dataLe false dTwo) (f := fun b : Addr × (Int × Int) => b.2) (l := bes) (fun a _ b _ => rfl)
      rw [hb2, sort_self hsort] at hm
      rw [hS]
      exact hm
    have x2 := Ext.new (o := .lst (S.map fun b => V.ref b.1)) hls
    have nlf : ls ≠ fo := Ne.symm (ne_of_none upd_same hls)
    have hSl : S.length = q0.length := by rw [← hS2, List.length_map]
    refine ⟨ls, rfl, ⟨_, SqL.of upd_same⟩, for_list (K := K) (xs := S.map fun b => V.ref b.1) (fun i σ H3 => ∃ (y5 y6 : Option V), σ = [some (.ref l), some (.int lo), some (.int hi), some (.ref fo), some (.int (gF (q0.take i) lo hi).2), y5, y6] ∧ GenL TwoAt fo H (gF (q0.take i) lo hi).1 H3 ∧ H3 ls = some (.lst (S.map fun b => V.ref b.1)) ∧ ∀ b ∈ bes, H3 b.1 = some (.tup [.int b.2.1, .int b.2.2]))
      ⟨none, none, rfl, hg0.keep TwoAt.mono x2, upd_same, fun b hb => x2 _ _ (x1 _ _ (hb3 b hb))⟩ (fun i σ H3 _ ⟨_, _, _, _, h, _⟩ => SqL.of h) (fun i u σ H3 hi' hv => ?_) (fun σ H3 hv => ?_)⟩
    · obtain ⟨y5, y6, rfl, hg, hls3, hbs⟩ := hv
      obtain ⟨b, hb, rfl⟩ : ∃ b, S[i]? = some b ∧ u = V.ref b.1 := by
        rw [List.getElem?_map] at hi'
        cases e : S[i]? with
        | none => rw [e] at hi'; cases hi'
        | some y => rw [e] at hi'; exact ⟨y, rfl, (Option.some.inj hi').symm⟩
      have hbm := hperm.mem_iff.mp (List.mem_of_getElem? hb)
      have hb3' := hbs b hbm
      have hqi : q0[i]? = some b.2 := by rw [← hS2, List.getElem?_map, hb]; rfl
      have hsn : gF (q0.take (i + 1)) lo hi = gA hi (gF (q0.take i) lo hi) b.2 := by
        rw [List.take_add_one, hqi]
        exact gF_snoc _ _ _ _
      have hgl : (gF (q0.take i) lo hi).1.length ≤ 100 := by
        have := gF_len hi (q0.take i) ([], lo)
        rw [List.length_take] at this
        unfold gF
        simp only [List.length_nil] at this
        omega
      refine ⟨b.1, _, rfl, SqT.of hb3', rfl, _, _, rfl, _, _, rfl, rfl, ?_⟩
      by_cases c1 : (gF (q0.take i) lo hi).2 < b.2.1
      · by_cases c2 : b.2.2 < hi
        · have ha : gA hi (gF (q0.take i) lo hi) b.2 = ((gF (q0.take i) lo hi).1 ++ [b.2], b.2.2) := if_pos ⟨c1, c2⟩
          refine ⟨_, rfl, _, rfl, _, _, rfl, rfl, _, rfl, ite2 (fun _ => ?_) (fun e => absurd (decide_eq_true c1) e)⟩
          refine ⟨_, rfl, _, rfl, _, _, rfl, rfl, _, rfl, ite2 (fun _ => ?_) (fun e => absurd (decide_eq_true c2) e)⟩
          obtain ⟨us5, hs5⟩ := hg.sq (K := K)
          refine ⟨_, rfl, .inl ⟨rfl, _, hs5⟩, _, rfl, _, rfl, szL (show 2 ≤ 1000000 by decide), fun t5 ht5 => ?_⟩
          try delta tNil
          have x5 := Ext.new (o := .tup [.int b.2.1, .int b.2.2]) ht5
          obtain ⟨vs5, hf5⟩ : ∃ vs, H3 fo = some (.lst vs) := by
            obtain ⟨vs, h, _⟩ := id hg
            exact ⟨vs, h⟩
          refine app_ok2 TwoAt.mono hfo hg x5 (b := b.2) ⟨t5, rfl, upd_same⟩ (by omega) fun H6 hg6 hk6 => ?_
          refine ⟨_, rfl, some (.int b.2.1), some (.int b.2.2), ?_, ?_, hk6 _ _ nlf (x5 _ _ hls3), fun y hy => hk6 _ _ (ne_of (x5 _ _ (hbs y hy)) (x5 _ _ hf5) (by intro z; cases z)) (x5 _ _ (hbs y hy))⟩
          · rw [hsn, ha]
            rfl
          · rw [hsn, ha]
            exact hg6
        · have ha : gA hi (gF (q0.take i) lo hi) b.2 = gF (q0.take i) lo hi := if_neg fun z => c2 z.2
          refine ⟨_, rfl, _, rfl, _, _, rfl, rfl, _, rfl, ite2 (fun _ => ?_) (fun e => absurd (decide_eq_true c1) e)⟩
          refine ⟨_, rfl, _, rfl, _, _, rfl, rfl, _, rfl, ite2 (fun e => absurd (of_decide_eq_true e) c2) (fun _ => ?_)⟩
          refine ⟨some (.int b.2.1), some (.int b.2.2), ?_, ?_, hls3, hbs⟩
          · rw [hsn, ha]
            rfl
          · rw [hsn, ha]
            exact hg
      · have ha : gA hi (gF (q0.take i) lo hi) b.2 = gF (q0.take i) lo hi := if_neg fun z => c1 z.1
        refine ⟨_, rfl, _, rfl, _, _, rfl, rfl, _, rfl, ite2 (fun e => absurd (of_decide_eq_true e) c1) (fun _ => ?_)⟩
        refine ⟨some (.int b.2.1), some (.int b.2.2), ?_, ?_, hls3, hbs⟩
        · rw [hsn, ha]
          rfl
        · rw [hsn, ha]
          exact hg
    · obtain ⟨y5, y6, rfl, hg, _⟩ := hv
      rw [List.length_map, hSl, List.take_of_length_le (Nat.le_refl _), gF_is hup] at hg
      obtain ⟨vs, h1, h2, h3⟩ := hg
      exact ⟨_, rfl, q fo vs H3 hfo h1 h2 h3⟩
abbrev CStrD (P : Program) (w : World) (K : PySem.W.Frag) (mg : Str → Option Value) (base : Heap) : Prop := Ca P w K mg base 1 "_law_straight" ["_law_pairs_so", "_law_low", "_law_high"] spStrD
end
end Pf


namespace Pf
open PySem PySem.Spec PyProof.Rows L2
def stF (stk : List (Str × Str × Int)) (o n : Str) : List Int := (stk.filter fun z => decide (z.1 = o ∧ z.2.1 = n)).map (·.2.2)
theorem stF_no : ∀ {stk : List (Str × Str × Int)} {o n : Str}, (o, n) ∉ stk.map (fun z => (z.1, z.2.1)) → stF stk o n = []
  | [], _, _, _ => rfl
  | z :: r, o, n, h => by
    rw [List.map_cons, List.mem_cons, not_or] at h
    unfold stF
    rw [List.filter_cons_of_neg (p := fun z : Str × Str × Int => decide (z.1 = o ∧ z.2.1 = n)) (by
      intro e
      have e := of_decide_eq_true e
      exact h.1 (by rw [← e.1, ← e.2]))]
    exact stF_no h.2
theorem stF_sum : ∀ {stk : List (Str × Str × Int)} {o n : Str}, (stk.map fun z => (z.1, z.2.1)).Nodup → (stF stk o n).sum = swI stk o n
  | [], _, _, _ => rfl
  | (t, u, x) :: r, o, n, h => by
    rw [List.map_cons, List.nodup_cons] at h
    unfold swI
    by_cases c : t = o ∧ u = n
    · rw [if_pos c]
      unfold stF
      rw [List.filter_cons_of_pos (p := fun z : Str × Str × Int => decide (z.1 = o ∧ z.2.1 = n)) (decide_eq_true c), List.map_cons, List.sum_cons]
      have := stF_no (stk := r) (o := o) (n := n) (by rw [← c.1, ← c.2]; exact h.1)
      unfold stF at this
      rw [this]
      simp
    · rw [if_neg c, ← stF_sum h.2]
      unfold stF
      rw [List.filter_cons_of_neg (p := fun z : Str × Str × Int => decide (z.1 = o ∧ z.2.1 = n)) (by simpa using c)]
theorem eqv_two (a b c d : Str) : PyData.eqv (.tuple [.str a, .str b]) (.tuple [.str c, .str d]) = decide (a = c ∧ b = d) := by
  simp [PyData.eqv, PyData.eqvAll]
  by_cases h1 : a = c <;> by_cases h2 : b = d <;> simp [h1, h2]
theorem sm_two {a b : Str} (ha : Two a) (hb : Two b) : SeqAt.shaped (.tuple [.str a, .str b]) = true := by
  refine (Sm.tup (n := 2) (m := 2) (k := 0) (M := 1000000) (ds := [.str a, .str b]) (Nat.le_refl 2) (fun d hd => ?_) (by decide)).shaped (by decide)
  rcases List.mem_cons.mp hd with rfl | hd
  · exact Sm.str ha.2.ok (Nat.le_of_eq ha.1)
  · rw [List.mem_singleton.mp hd]
    exact Sm.str hb.2.ok (Nat.le_of_eq hb.1)
theorem getD_in {x : Str} {i : Int} (h0 : 0 ≤ i) (h1 : i < x.length) : x.cps.toList.getD i.toNat 0 ∈ x.cps.toList := by
  have h2 : i.toNat < x.cps.toList.length := by
    rw [Array.length_toList]
    have : i < (x.cps.size : Int) := h1
    omega
  rw [List.getD_eq_getElem?_getD, List.getElem?_eq_getElem h2]
  exact List.getElem_mem _
theorem two_tx {x : Str} {p : Int × Int} (h : Small x) (i0 : 0 ≤ p.1) (i1 : p.1 < x.length) (j0 : 0 ≤ p.2) (j1 : p.2 < x.length) : Two (tx2 x p) := ⟨rfl, (Small.one (h _ (getD_in i0 i1))).app (Small.one (h _ (getD_in j0 j1)))⟩
theorem val_prs : ∀ (prs : List (Str × Int)) (b : Str), b ∈ prs.map (·.1) → valV (prs.map encP) (.inr b) = some (.int (pwI prs b))
  | [], _, h => by cases h
  | (t, x) :: r, b, h => by
    rw [List.map_cons, pwI]
    by_cases e : t = b
    · rw [valV_pos (show (encP (t, x)).1 = .inr b by rw [e]; rfl), if_pos e]
      rfl
    · rw [valV_neg (show ¬ (encP (t, x)).1 = .inr b from fun z => e (Sum.inr.inj z)), if_neg e]
      refine val_prs r b ?_
      rcases List.mem_cons.mp h with h | h
      · exact absurd h.symm e
      · exact h
end Pf


namespace Pf
open PySem PySem.Spec PyProof.Rows L2
section
variable {P : Program} {w : World} {K : PySem.W.Frag} {mg : Str → Option Value} {base : Heap}
abbrev s_law_loop : Stmt := topS 51
theorem sc_law_loop : FnScope ["_law_given", "_law_writ_here", "_law_pairs_so", "_law_pair_so", "_law_told", "_law_i", "_law_j", "_law_inner_so", "_law_p", "_law_q", "_law_free_so", "_law_many_so", "_law_more_so", "_law_row"] ["_law_given", "_law_writ_here", "_law_pairs_so", "_law_pair_so"] (defScope s_law_loop) :=
  ⟨rfl, rfl, rfl, by decide +kernel, rfl, by decide +kernel, by decide +kernel⟩
def spLoopD : Sp := fun vs H Q _ => ∃ (v sv : V) (r : Rl) (x : Str) (t : Addr) (q0 : Fo) (one : Int × Int), vs = [v, .str x, sv, .ref t] ∧ RulesAt H v r ∧ RlOk r ∧ x.length ≤ 12 ∧ Of r.letters x ∧ FlAt H sv q0 ∧ q0.length ≤ 12 ∧ H t = some (.tup [.int one.1, .int one.2]) ∧ (q0.Pairwise fun a b => a.1 < b.1) ∧ (∀ p ∈ q0, p.1 < p.2) ∧ (∀ y ∈ q0, 0 ≤ y.1 ∧ y.1 < x.length ∧ 0 ≤ y.2 ∧ y.2 < x.length) ∧ 0 ≤ one.1 ∧ one.1 < x.length ∧ 0 ≤ one.2 ∧ one.2 < x.length ∧
  ∀ (a : Addr) (kd : Str) (fr : Int) (H' : Hp), H' a = some (.tup [.str kd, .int fr, .int (lpW r x one (tops (withinC q0 one.1 one.2)))]) → Ext H H' → Q (.ref a) H'
theorem topF_sub : ∀ (u : Fo) (z : Int), ∀ y ∈ topF z u, y ∈ u
  | [], _, y, h => by cases h
  | p :: r, z, y, h => by
    unfold topF at h
    split at h
    · rcases List.mem_cons.mp h with rfl | h
      · exact List.mem_cons_self ..
      · exact List.mem_cons_of_mem _ (topF_sub r _ y h)
    · exact List.mem_cons_of_mem _ (topF_sub r _ y h)
theorem topF_len : ∀ (u : Fo) (z : Int), (topF z u).length ≤ u.length
  | [], _ => Nat.le_refl _
  | p :: r, z => by
    unfold topF
    split
    · rw [List.length_cons, List.length_cons]
      exact Nat.succ_le_succ (topF_len r _)
    · rw [List.length_cons]
      exact Nat.le_succ_of_le (topF_len r _)
theorem tops_sub (u : Fo) : ∀ y ∈ tops u, y ∈ u := by
  cases u with
  | nil => intro y h; cases h
  | cons p r =>
    intro y h
    rcases List.mem_cons.mp (show y ∈ p :: topF (p.2 + 1) r from h) with rfl | h
    · exact List.mem_cons_self ..
    · exact List.mem_cons_of_mem _ (topF_sub r _ y h)
theorem tops_len (u : Fo) : (tops u).length ≤ u.length := by
  cases u with
  | nil => exact Nat.le_refl _
  | cons p r =>
    show (p :: topF (p.2 + 1) r).length ≤ _
    rw [List.length_cons, List.length_cons]
    exact Nat.succ_le_succ (topF_len r _)
theorem ok_loopD {f : Addr} {fd : FuncData} (F : Fun K "_law_loop" "_law_loop" s_law_loop f fd) (c_law_straight : CStrD P w K mg base) (mlen : mg "len" = none) (msum : mg "sum" = none) : FnOk P w K mg base CX0 2 f fd ["_law_given", "_law_writ_here", "_law_pairs_so", "_law_pair_so"] spLoopD := by
  refine F.ok sc_law_loop (fun vs H Q E h => ?_) (fun cdv A outer s H vs Q E hr h => ?_)
  · obtain ⟨v, sv, r, x, t, q0, one, rfl, _⟩ := h
    rfl
  · obtain ⟨v, sv, r, x, t, q0, one, rfl, hR, ok, hx, hO, ⟨l0, us0, rfl, hL0, hP0⟩, hq0, hT, hso, hup, hin, i0, i1, j0, j1, q⟩ := h
    refine ⟨_, (pss_cons (ps_set (i := 4) sc_law_loop.nd rfl (.inl rfl) (pe_ix (ixT K) (pv 0) pe_int (fun _ _ => rfl)))
      (pss_cons (ps_asg (pv 3) (pg_tup rfl (pgs_cons (pg_name (i := 5) sc_law_loop.nd rfl (.inr rfl)) (pgs_cons (pg_name (i := 6) sc_law_loop.nd rfl (.inr rfl)) pgs_nil))))
      (pss_cons (ps_set (i := 7) sc_law_loop.nd rfl (.inl rfl) (pe_ca c_law_straight (hr.mono (by decide)) (by rfl) (pa_cons (pv 2) (pa_cons (pv 5) (pa_cons (pv 6) pa_nil)))))
      (pss_cons (ps_set (i := 10) sc_law_loop.nd rfl (.inl rfl) (pe_op op_sub (pe_op op_sub (pe_op op_sub (pv 6) (pv 5)) pe_int) (pe_callB (sumI K) (by rfl) msum (by decide +kernel) (pa_cons (pe_lc (own := [("_law_p", 8), ("_law_q", 9)]) (g := gTup K 2 (gCons (gName 8) (gCons (gName 9) gNil))) (by rfl) sc_law_loop.nd (pi_list (pv 7)) (blkOk_by (own := [("_law_p", 8), ("_law_q", 9)]) (N := ["_law_given", "_law_writ_here", "_law_pairs_so", "_law_pair_so", "_law_told", "_law_i", "_law_j", "_law_inner_so", "_law_p", "_law_q", "_law_free_so", "_law_many_so", "_law_more_so", "_law_row"]) (sc := defScope s_law_loop) (by decide +kernel)) (fun _ _ _ _ _ => (pgT K rfl (pgs_cons (pg_name (i := 8) sc_law_loop.nd rfl (.inl rfl)) (pgs_cons (pg_name (i := 9) sc_law_loop.nd rfl (.inl rfl)) pgs_nil)))) (fun _ _ _ _ _ => pts_nil) (fun _ _ _ _ _ => (pe_op op_add (pe_op op_sub (pv 9) (pv 8)) pe_int))) pa_nil))))
      (pss_cons (ps_if (pt_cmpR (eqD K hr.units) (pv 7) (pe_lst pa_nil) (nomark _)) (pss_one (ps_ret (pe_tup (pa_cons pe_str (pa_cons (pv 10) (pa_cons (pe_op op_add (pe_ix (ixT K) (pv 4) pe_int (fun _ _ => rfl)) (pe_op op_mul (pv 10) (pe_ix (ixT K) (pv 4) pe_int (fun _ _ => rfl)))) pa_nil)))))) pss_nil)
      (pss_cons (ps_if (pt_cmpR op_gt (pe_callB (lenQ K) (by rfl) mlen (by decide +kernel) (pa_cons (pv 7) pa_nil)) pe_int (nomark _)) (pss_cons (ps_set (i := 11) sc_law_loop.nd rfl (.inl rfl) (pe_callB (lenQ K) (by rfl) mlen (by decide +kernel) (pa_cons (pv 7) pa_nil)))
      (pss_one (ps_ret (pe_tup (pa_cons pe_str (pa_cons (pv 10) (pa_cons (pe_op op_add (pe_op op_add (pe_ix (ixT K) (pv 4) pe_int (fun _ _ => rfl)) (pe_op op_mul (pv 11) (pe_ix (ixT K) (pv 4) pe_int (fun _ _ => rfl)))) (pe_op op_mul (pv 10) (pe_ix (ixT K) (pv 4) pe_int (fun _ _ => rfl)))) pa_nil))))))) pss_nil)
      (pss_cons (ps_if (pt_cmpR op_gt (pv 10) pe_int (nomark _)) (pss_one (ps_ret (pe_tup (pa_cons pe_str (pa_cons (pv 10) (pa_cons (pe_op op_add (pe_ix (ixT K) (pv 4) pe_int (fun _ _ => rfl)) (pe_op op_mul (pv 10) (pe_ix (ixT K) (pv 4) pe_int (fun _ _ => rfl)))) pa_nil)))))) pss_nil)
      (pss_cons (ps_asg (pe_ix (ixL K) (pv 7) pe_int (fun _ _ => rfl)) (pg_tup rfl (pgs_cons (pg_name (i := 8) sc_law_loop.nd rfl (.inr rfl)) (pgs_cons (pg_name (i := 9) sc_law_loop.nd rfl (.inr rfl)) pgs_nil))))
      (pss_cons (ps_setLc (i := 12) (own := [("_law_row", 13)]) (g := gName 13) (by rfl) sc_law_loop.nd rfl rfl (sw_true rfl rfl rfl (by decide +kernel)) (pi_tup (pe_ix (ixT K) (pv 0) pe_int (fun _ _ => rfl))) (blkOk_by (own := [("_law_row", 13)]) (N := ["_law_given", "_law_writ_here", "_law_pairs_so", "_law_pair_so", "_law_told", "_law_i", "_law_j", "_law_inner_so", "_law_p", "_law_q", "_law_free_so", "_law_many_so", "_law_more_so", "_law_row"]) (sc := defScope s_law_loop) (by decide +kernel)) (fun _ _ _ _ _ => (pg_name (i := 13) sc_law_loop.nd rfl (.inl rfl))) (fun _ _ _ _ _ => (pts_one (pt_cmpR (eqD K hr.units) (pe_slice (slE K) (pv 13) po_none (po_some pe_int)) (pe_tup (pa_cons (pe_op op_add_str (pe_ix ix_str (pv 1) (pv 5) (fun _ _ => rfl)) (pe_ix ix_str (pv 1) (pv 6) (fun _ _ => rfl))) (pa_cons (pe_op op_add_str (pe_ix ix_str (pv 1) (pv 8) (fun _ _ => rfl)) (pe_ix ix_str (pv 1) (pv 9) (fun _ _ => rfl))) pa_nil))) (nomark _)))) (fun _ _ _ _ _ => (pe_ix (ixT K) (pv 13) pe_int (fun _ _ => rfl))))
      (pss_one (ps_ret (pe_tup (pa_cons pe_str (pa_cons pe_int (pa_cons (pe_op op_add (pe_ix (ixT K) (pv 4) pe_int (fun _ _ => rfl)) (pe_callB (sumI K) (by rfl) msum (by decide +kernel) (pa_cons (pv 12) pa_nil))) pa_nil))))))))))))))), ?_⟩
    obtain ⟨a, vp, vl, vs, rfl, hA, _, ⟨al, ls, rfl, hl9, hLo⟩, ⟨as, ss, rfl, hs9, hSt⟩⟩ := id hR
    have ils := ints_of hLo
    subst ils
    refine ⟨_, rfl, a, _, 3, _, rfl, rfl, SqT.of hA, rfl, ?_⟩
    refine ⟨_, rfl, t, _, rfl, SqT.of hT, rfl, _, _, rfl, _, _, rfl, rfl, ?_⟩
    refine ⟨_, rfl, _, rfl, _, rfl, l0, us0, q0, one.1, one.2, rfl, hL0, hP0, by omega, hso, hup, fun l us H1 hl hL hP k1 => ?_⟩
    obtain ⟨ks, hks⟩ : ∃ ks, ks = tops (withinC q0 one.1 one.2) := ⟨_, rfl⟩
    have hkl : ks.length ≤ q0.length := by
      rw [hks]
      exact Nat.le_trans (tops_len _) (List.length_filter_le _ _)
    have hkin : ∀ y ∈ ks, 0 ≤ y.1 ∧ y.1 < x.length ∧ 0 ≤ y.2 ∧ y.2 < x.length := fun y hy => hin y (List.mem_filter.mp (tops_sub _ y (hks ▸ hy))).1
    rw [← hks] at q hP
    have hul := paired_len hP
    have hsx : Small x := hO.small ok.small
    -- free
    refine ⟨_, rfl, _, rfl, _, _, rfl, rfl, _, 1, rfl, rfl, _, rfl, l, rfl, ⟨_, SqL.of hL⟩, fun D hD => lc_list (K := K) (xs := us) (fun i H2 => H2 D = some (.lst (((ks.take i).map fun y => y.2 - y.1 + 1).map V.int)) ∧ Ext H1 H2)
      ⟨upd_same, Ext.new hD⟩ (fun i H2 _ ⟨_, k⟩ => SqL.of (k _ _ hL)) (fun i u H2 hi hv => ?_) (fun H2 hv => ?_)⟩
    · obtain ⟨hL2, k2⟩ := hv
      obtain ⟨y, hy, a1, rfl, ha1⟩ := paired_get hP hi
      have hil : i < us.length := (List.getElem?_eq_some_iff.mp hi).1
      refine ⟨a1, _, rfl, SqT.of (k2 _ _ ha1), rfl, _, _, rfl, _, _, rfl, rfl, rfl, _, rfl, _, rfl, _, _, rfl, rfl, _, 1, rfl, rfl, _, hL2, szLt ?_, ?_, k2.put hD⟩
      · rw [List.length_map, List.length_map, List.length_take]
        omega
      · rw [upd_same, List.take_add_one, hy, List.map_append, List.map_append]
        rfl
    obtain ⟨hL2, k2⟩ := hv
    rw [List.take_of_length_le (by omega)] at hL2
    refine ⟨D, _, rfl, SqL.of hL2, _, _, rfl, rfl, ?_⟩
    obtain ⟨fr, hfr⟩ : ∃ fr : Int, fr = one.2 - one.1 - 1 - (ks.map fun y => y.2 - y.1 + 1).sum := ⟨_, rfl⟩
    have hfr2 : fr = freeI one ks := hfr
    show gName 10 (V.int (one.2 - one.1 - 1 - (ks.map fun y => y.2 - y.1 + 1).sum)) _ _ _
    rw [← hfr]
    have k02 := k1.trans k2
    have at9 : ∀ (i : Nat), i < 9 → atI (r.loops.map V.int) (i : Int) = some (.int (lo r i)) := fun i hi => by
      have h9 := ok.lo9
      rw [atI_get (by omega) (by rw [List.length_map]; omega)]
      have e : lo r i = r.loops[i]'(by omega) := by
        unfold lo
        rw [List.getD_eq_getElem?_getD, List.getElem?_eq_getElem (by omega)]
        rfl
      rw [e]
      simp
    have hL1 := k2 _ _ hL
    -- inner == []
    refine ⟨_, rfl, Nat.zero_le _, fun l3 hl3 => ?_⟩
    have x3 := Ext.new (o := .lst []) hl3
    have k03 := k02.trans x3
    have hl93 := k03 _ _ hl9
    have hL3 := x3 _ _ hL1
    refine ⟨.list (ks.map dTwo), .list [], .lst (SqL.of hL3) (dpTwos (paired_imp (fun _ _ => TwoAt.mono _ _ _ _ (TupK.ext (k2.trans x3))) hP)), .lst (SqL.of upd_same) .nil, shaped_twos _, by decide +kernel, _, rfl, ?_⟩
    rw [eqv_nil]
    have l2 := lo_bound ok (show 2 < 9 by decide)
    have l4 := lo_bound ok (show 4 < 9 by decide)
    have l5 := lo_bound ok (show 5 < 9 by decide)
    have l7 := lo_bound ok (show 7 < 9 by decide)
    refine ite2 (fun e => ?_) (fun e => ?_)
    · have c0 : ks.length = 0 := by
        cases ks with
        | nil => rfl
        | cons _ _ => cases e
      refine ⟨_, rfl, _, rfl, al, _, 6, _, rfl, rfl, SqT.of hl93, at9 6 (by decide), _, rfl, _, rfl, al, _, 7, _, rfl, rfl, SqT.of hl93, at9 7 (by decide), _, _, rfl, rfl, .inr ⟨by omega, by omega⟩, _, _, rfl, rfl, szL (show 3 ≤ 1000000 by decide), fun tr htr => ?_⟩
      refine q tr "lone" fr _ ?_ (k03.trans (Ext.new htr))
      unfold lpW
      rw [if_pos c0, ← hfr2]
      exact upd_same
    · have c0 : ¬ ks.length = 0 := by
        cases ks with
        | nil => exact absurd rfl e
        | cons _ _ => exact Nat.succ_ne_zero _
      refine ⟨_, rfl, l, us, rfl, .inl (SqL.of hL3), _, 1, rfl, rfl, _, rfl, ite2 (fun e => ?_) (fun e => ?_)⟩
      · have c1 : 1 < ks.length := by
          have : (us.length : Int) > 1 := by simpa using e
          omega
        refine ⟨_, rfl, l, us, rfl, .inl (SqL.of hL3), ?_⟩
        refine ⟨_, rfl, _, rfl, al, _, 3, _, rfl, rfl, SqT.of hl93, at9 3 (by decide), _, rfl, _, rfl, al, _, 4, _, rfl, rfl, SqT.of hl93, at9 4 (by decide), _, _, rfl, rfl, .inr ⟨by omega, by omega⟩, _, _, rfl, rfl, _, rfl, _, rfl, al, _, 5, _, rfl, rfl, SqT.of hl93, at9 5 (by decide), _, _, rfl, rfl, .inr ⟨by omega, by omega⟩, _, _, rfl, rfl, szL (show 3 ≤ 1000000 by decide), fun tr htr => ?_⟩
        refine q tr "forked" fr _ ?_ (k03.trans (Ext.new htr))
        unfold lpW
        rw [if_neg c0, if_pos c1, ← hfr2, ← hul]
        have e5 : lo r 3 + (us.length : Int) * lo r 4 + fr * lo r 5 = lo r 3 + ((us.length : Int) * lo r 4 + fr * lo r 5) := by omega
        rw [← e5]
        exact upd_same
      · have c1 : ¬ 1 < ks.length := by
          have : ¬ (us.length : Int) > 1 := by simpa using e
          omega
        refine ⟨_, rfl, _, _, rfl, rfl, _, rfl, ite2 (fun e => ?_) (fun e => ?_)⟩
        · have c2 : 0 < fr := by simpa using e
          refine ⟨_, rfl, _, rfl, al, _, 1, _, rfl, rfl, SqT.of hl93, at9 1 (by decide), _, rfl, _, rfl, al, _, 2, _, rfl, rfl, SqT.of hl93, at9 2 (by decide), _, _, rfl, rfl, .inr ⟨by omega, by omega⟩, _, _, rfl, rfl, szL (show 3 ≤ 1000000 by decide), fun tr htr => ?_⟩
          refine q tr "inner" fr _ ?_ (k03.trans (Ext.new htr))
          unfold lpW
          rw [if_neg c0, if_neg c1, ← hfr2, if_pos c2]
          exact upd_same
        · have c2 : ¬ 0 < fr := by simpa using e
          obtain ⟨y, hyk⟩ : ∃ y, ks = [y] := by
            match ks, c0, c1 with
            | [], c0, _ => exact absurd rfl c0
            | [y], _, _ => exact ⟨y, rfl⟩
            | _ :: _ :: _, _, c1 => exact absurd (by simp) c1
          subst hyk
          obtain ⟨u0, hu0, a2, hu2, ha2⟩ : ∃ u0, us = [u0] ∧ ∃ a2, u0 = .ref a2 ∧ H1 a2 = some (.tup [.int y.1, .int y.2]) := by
            cases hP with
            | cons r t =>
              cases t
              obtain ⟨a2, e1, e2⟩ := r
              exact ⟨_, rfl, a2, e1, e2⟩
          subst hu2
          subst hu0
          have hy := hkin y (List.mem_singleton.mpr rfl)
          have ha3 := x3 _ _ (k2 _ _ ha2)
          refine ⟨_, rfl, l, _, 0, _, rfl, rfl, SqL.of hL3, rfl, a2, _, rfl, SqT.of ha3, rfl, _, _, rfl, _, _, rfl, rfl, ?_⟩
          have hA3 := k03 _ _ hA
          have hs93 := k03 _ _ hs9
          have hSt3 := paired_imp (fun _ _ => StackAt.mono _ _ _ _ (TupK.ext k03)) hSt
          have hsl := paired_len hSt3
          have hst := ok.stk
          refine ⟨_, rfl, a, _, 4, _, rfl, rfl, SqT.of hA3, rfl, as, rfl, ⟨_, SqT.of hs93⟩, fun E5 hE5 => ?_⟩
          generalize upd H2 l3 (.lst []) = H3 at x3 hl93 hL3 k03 ha3 hA3 hs93 hE5 hSt3 ⊢
          refine lc_tup (K := K) (xs := ss) (fun c H5 => H5 E5 = some (.lst ((stF (r.stk.take c) (tx2 x one) (tx2 x y)).map V.int)) ∧ Ext H3 H5)
            ⟨upd_same, Ext.new hE5⟩ (fun c H5 _ ⟨_, k⟩ => SqT.of (k _ _ hs93)) (fun c u H5 hc hv => ?_) (fun H5 hv => ?_)
          · obtain ⟨hE, k5⟩ := hv
            obtain ⟨z, hz, b1, rfl, hb1⟩ := paired_get hSt3 hc
            have hb5 := k5 _ _ hb1
            have cl : c < ss.length := (List.getElem?_eq_some_iff.mp hc).1
            have hzo := ok.st z (List.mem_of_getElem? hz)
            have hle : (stF (r.stk.take c) (tx2 x one) (tx2 x y)).length ≤ 12 := by
              unfold stF
              rw [List.length_map]
              refine Nat.le_trans (List.length_filter_le _ _) ?_
              rw [List.length_take]
              omega
            refine ⟨rfl, _, rfl, 2, rfl, b1, _, rfl, hb5, fun p6 H6 k6 hp6 => ?_⟩
            have hp6 : H6 p6 = some (.tup [.str z.1, .str z.2.1]) := hp6
            refine ⟨_, rfl, _, rfl, x, one.1, _, rfl, rfl, szL (by omega), sgn_at i0 i1, _, rfl, _, rfl, x, one.2, _, rfl, rfl, szL (by omega), sgn_at j0 j1, _, _, rfl, rfl, szL (show 1 + 1 ≤ 1000000 by decide), ?_⟩
            refine ⟨_, rfl, _, rfl, x, y.1, _, rfl, rfl, szL (by omega), sgn_at hy.1 hy.2.1, _, rfl, _, rfl, x, y.2, _, rfl, rfl, szL (by omega), sgn_at hy.2.2.1 hy.2.2.2, _, _, rfl, rfl, szL (show 1 + 1 ≤ 1000000 by decide), szL (show 2 ≤ 1000000 by decide), fun t8 ht8 => ?_⟩
            have x8 := Ext.new (o := .tup [.str (tx2 x one), .str (tx2 x y)]) ht8
            have k58 := k6.trans x8
            refine ⟨.tuple [.str z.1, .str z.2.1], .tuple [.str (tx2 x one), .str (tx2 x y)], .tup (SqT.of (x8 _ _ hp6)) (.cons (.str _) (.cons (.str _) .nil)), .tup (SqT.of upd_same) (.cons (.str _) (.cons (.str _) .nil)), ?_, ?_, _, rfl, ?_⟩
            · exact sm_two hzo.1 hzo.2.1
            · exact sm_two (two_tx hsx i0 i1 j0 j1) (two_tx hsx hy.1 hy.2.1 hy.2.2.1 hy.2.2.2)
            rw [eqv_two]
            refine ite2 (fun e => ?_) (fun e => ?_)
            · refine ⟨_, rfl, b1, _, 2, _, rfl, rfl, SqT.of (k58 _ _ hb5), rfl, _, k58 _ _ hE, szLt (by rw [List.length_map]; omega), ?_, (k5.trans k58).put hE5⟩
              rw [upd_same, List.take_add_one, hz]
              unfold stF
              rw [List.filter_append, show (some z).toList = [z] from rfl, List.filter_cons_of_pos (p := fun z : Str × Str × Int => decide (z.1 = tx2 x one ∧ z.2.1 = tx2 x y)) e, List.map_append, List.map_append]
              rfl
            · refine ⟨?_, k5.trans k58⟩
              rw [List.take_add_one, hz]
              unfold stF
              rw [List.filter_append, show (some z).toList = [z] from rfl, List.filter_cons_of_neg (p := fun z : Str × Str × Int => decide (z.1 = tx2 x one ∧ z.2.1 = tx2 x y)) e, List.filter_nil, List.append_nil]
              exact k58 _ _ hE
          · obtain ⟨hE, k5⟩ := hv
            rw [List.take_of_length_le (by omega)] at hE
            refine ⟨_, rfl, al, _, 0, _, rfl, rfl, SqT.of (k5 _ _ hl93), at9 0 (by decide), _, rfl, E5, _, rfl, SqL.of hE, _, _, rfl, rfl, szL (show 3 ≤ 1000000 by decide), fun tr htr => ?_⟩
            refine q tr "stacked" 0 _ ?_ ((k03.trans k5).trans (Ext.new htr))
            unfold lpW
            rw [if_neg c0, if_neg c1, ← hfr2, if_neg c2, stF_sum ok.nd]
            exact upd_same
abbrev CLoopD (P : Program) (w : World) (K : PySem.W.Frag) (mg : Str → Option Value) (base : Heap) : Prop := Ca P w K mg base 2 "_law_loop" ["_law_given", "_law_writ_here", "_law_pairs_so", "_law_pair_so"] spLoopD
end
end Pf


namespace Pf
open PySem PySem.Spec PyProof.Rows L2
/-! ### foldings of a stretch: in order, upwards, all may pair; the pairs straight within a pair -/
theorem WA_ok (r : Rl) (x : Str) : ∀ (n : Nat) (a : Int), ∀ q ∈ WA r x n a, (q.Pairwise fun u v => u.1 < v.1) ∧ ∀ p ∈ q, mayC r x p.1 p.2 = true ∧ nn (withinC q p.1 p.2) = tops (withinC q p.1 p.2) := by
  intro n
  induction n using Nat.strongRecOn with
  | _ n ih =>
    intro a q hq
    cases n with
    | zero =>
      have hq : q ∈ [[]] := hq
      rw [List.mem_singleton.mp hq]
      exact ⟨.nil, fun p hp => by cases hp⟩
    | succ n =>
      rcases WA_cases hq with h | ⟨t, one, other, ht, hm, h1, h2, rfl⟩
      · exact ih n (by omega) _ q h
      · have i1 := ih t (by omega) _ one h1
        have i2 := ih (n - 1 - t) (by omega) _ other h2
        have c := Cut.of h1 h2
        have w1 := (WA_in r x t (a + 1) one h1).1
        have w2 := (WA_in r x (n - 1 - t) (a + 2 + t) other h2).1
        refine ⟨List.pairwise_cons.mpr ⟨fun y hy => ?_, List.pairwise_append.mpr ⟨i1.1, i2.1, fun u hu v hv => ?_⟩⟩, fun p hp => ?_⟩
        · rcases List.mem_append.mp hy with hy | hy
          · have := w1 y hy
            show a < y.1
            omega
          · have := w2 y hy
            show a < y.1
            omega
        · have := w1 u hu
          have := w2 v hv
          omega
        · rcases List.mem_cons.mp hp with rfl | hp
          · refine ⟨hm, ?_⟩
            rw [c.str0]
            exact nn_tops r x t (a + 1) one h1
          · rcases List.mem_append.mp hp with hp | hp
            · rw [c.str1 hp]
              exact i1.2 p hp
            · rw [c.str2 hp]
              exact i2.2 p hp
def pT (r : Rl) (x : Str) (w : Fo) (p : Int × Int) : Int := pwI r.prs (tx2 x p) + lpW r x p (tops (withinC w p.1 p.2))
theorem vin_T {r : Rl} {x : Str} {n : Nat} {a : Int} {q : Fo} (h : q ∈ WA r x n a) : (q.map (pT r x q)).sum = vin r x q := by
  unfold vin
  congr 1
  refine List.map_congr_left fun p hp => ?_
  unfold pT pV strC
  rw [((WA_ok r x n a q h).2 p hp).2]
theorem may_in {r : Rl} {x : Str} {i j : Int} (h : mayC r x i j = true) : tx2 x (i, j) ∈ r.prs.map (·.1) := by
  unfold mayC at h
  rw [Bool.and_eq_true] at h
  exact of_decide_eq_true h.2
/-- a folding of places of the text -/
structure FoOk (r : Rl) (x : Str) (q : Fo) : Prop where
  len : q.length ≤ 12
  rise : q.Pairwise fun a b => a.1 < b.1
  up : ∀ p ∈ q, p.1 < p.2
  inn : ∀ y ∈ q, 0 ≤ y.1 ∧ y.1 < x.length ∧ 0 ≤ y.2 ∧ y.2 < x.length
  may : ∀ p ∈ q, mayC r x p.1 p.2 = true
theorem FoOk.of {r : Rl} {x : Str} {n : Nat} {a : Int} {q : Fo} (hx : x.length ≤ 12) (h : q ∈ WA r x n a) (a0 : 0 ≤ a) (an : a + n ≤ x.length) : FoOk r x q := by
  have h1 := WA_in r x n a q h
  have h2 := WA_ok r x n a q h
  exact ⟨by omega, h2.1, fun p hp => (h1.1 p hp).2.1, fun y hy => by have := h1.1 y hy; omega, fun p hp => (h2.2 p hp).1⟩
section
variable {P : Program} {w : World} {K : PySem.W.Frag} {mg : Str → Option Value} {base : Heap}
abbrev s_law_shut : Stmt := topS 52
theorem sc_law_shut : FnScope ["_law_given", "_law_writ_here", "_law_pairs_so", "_law_worths_so", "_law_found", "_law_i", "_law_j"] ["_law_given", "_law_writ_here", "_law_pairs_so"] (defScope s_law_shut) :=
  ⟨rfl, rfl, rfl, by decide +kernel, rfl, by decide +kernel, by decide +kernel⟩
def spShutD : Sp := fun vs H Q _ => ∃ (v sv : V) (r : Rl) (x : Str) (q0 : Fo), vs = [v, .str x, sv] ∧ RulesAt H v r ∧ RlOk r ∧ x.length ≤ 12 ∧ Of r.letters x ∧ FlAt H sv q0 ∧ FoOk r x q0 ∧ ∀ H', Ext H H' → Q (.int (q0.map (pT r x q0)).sum) H'
theorem ok_shutD {f : Addr} {fd : FuncData} (F : Fun K "_law_shut" "_law_shut" s_law_shut f fd) (c_law_loop : CLoopD P w K mg base) (mdict : mg "dict" = none) : FnOk P w K mg base CX0 3 f fd ["_law_given", "_law_writ_here", "_law_pairs_so"] spShutD := by
  refine F.ok sc_law_shut (fun vs H Q E h => ?_) (fun cdv A outer s H vs Q E hr h => ?_)
  · obtain ⟨v, sv, r, x, q0, rfl, _⟩ := h
    rfl
  · obtain ⟨v, sv, r, x, q0, rfl, hR, ok, hx, hO, hF, fo, q⟩ := h
    obtain ⟨l0, us0, rfl, hL0, hP0⟩ := id hF
    obtain ⟨a, vp, vl, vs, rfl, hA, ⟨ap, oz, pus, rfl, hp, hoz, hRp⟩, _, _⟩ := id hR
    refine ⟨_, (pss_cons (ps_set (i := 3) sc_law_shut.nd rfl (.inl rfl) (pe_callTy (dictT K) (by rfl) mdict (by decide +kernel) (pa_cons (pe_ix (ixT K) (pv 0) pe_int (fun _ _ => rfl)) pa_nil)))
      (pss_cons (ps_set (i := 4) sc_law_shut.nd rfl (.inl rfl) pe_int)
      (pss_cons (ps_for PassesOwn.never rfl (pi_list (pv 2)) (pg_tup rfl (pgs_cons (pg_name (i := 5) sc_law_shut.nd rfl (.inl rfl)) (pgs_cons (pg_name (i := 6) sc_law_shut.nd rfl (.inl rfl)) pgs_nil))) (pss_cons (ps_set (i := 4) sc_law_shut.nd rfl (.inl rfl) (pe_op op_add (pv 4) (pe_dget (hu_of hr) (pv 3) (pe_op op_add_str (pe_ix ix_str (pv 1) (pv 5) (fun _ _ => rfl)) (pe_ix ix_str (pv 1) (pv 6) (fun _ _ => rfl))) (fun _ _ => rfl))))
      (pss_one (ps_set (i := 4) sc_law_shut.nd rfl (.inl rfl) (pe_op op_add (pv 4) (pe_ix (ixT K) (pe_ca c_law_loop (hr.mono (by decide)) (by rfl) (pa_cons (pv 0) (pa_cons (pv 1) (pa_cons (pv 2) (pa_cons (pe_tup (pa_cons (pv 5) (pa_cons (pv 6) pa_nil))) pa_nil))))) pe_int (fun _ _ => rfl)))))))
      (pss_one (ps_ret (pv 4)))))), ?_⟩
    obtain ⟨pas, hpas, hpp⟩ : ∃ pas : List Addr, pus = pas.map V.ref ∧ Paired (fun p kv => SqT K H p [kV kv.1, kv.2]) pas (r.prs.map encP) := by
      have aux : ∀ {us : List V} {ps : List (Str × Int)}, Paired (PairAt H) us ps → ∃ pas : List Addr, us = pas.map V.ref ∧ Paired (fun p kv => SqT K H p [kV kv.1, kv.2]) pas (ps.map encP) := by
        intro us ps h
        induction h with
        | nil => exact ⟨[], rfl, .nil⟩
        | cons h t ih =>
          obtain ⟨pas, e, hpp⟩ := ih
          obtain ⟨a1, e1, h1⟩ := h
          exact ⟨a1 :: pas, by rw [e1, e]; rfl, .cons (SqT.of h1) hpp⟩
      exact aux hRp
    refine ⟨_, rfl, a, _, 1, _, rfl, rfl, SqT.of hA, rfl, ap, oz, pas, r.prs.map encP, rfl, by rw [← hpas]; exact hp, hoz, hpp, fun d hd => ?_⟩
    rw [merge_prs ok.pn]
    have x1 := Ext.new (o := .dK (r.prs.map encP)) hd
    have hd1 : (upd H d (.dK (r.prs.map encP))) d = some (.dK (r.prs.map encP)) := upd_same
    generalize upd H d (.dK (r.prs.map encP)) = H1 at x1 hd1 ⊢
    have hul := paired_len hP0
    refine ⟨_, rfl, l0, rfl, ⟨_, SqL.of (x1 _ _ hL0)⟩, for_list (K := K) (xs := us0) (fun i σ H2 => ∃ (y5 y6 : Option V), σ = [some (.ref a), some (.str x), some (.ref l0), some (.ref d), some (.int ((q0.take i).map (pT r x q0)).sum), y5, y6] ∧ Ext H1 H2)
      ⟨none, none, rfl, Ext.refl⟩ (fun i σ H2 _ ⟨_, _, _, k⟩ => SqL.of (k _ _ (x1 _ _ hL0))) (fun i u σ H2 hi hv => ?_) (fun σ H2 hv => ?_)⟩
    · obtain ⟨y5, y6, rfl, k2⟩ := hv
      obtain ⟨y, hy, a1, rfl, ha1⟩ := paired_get hP0 hi
      have hym := List.mem_of_getElem? hy
      have hin := fo.inn y hym
      have k02 := x1.trans k2
      refine ⟨a1, _, rfl, SqT.of (k02 _ _ ha1), rfl, _, _, rfl, _, _, rfl, rfl, ?_⟩
      refine ⟨_, rfl, _, rfl, _, rfl, _, rfl, x, y.1, _, rfl, rfl, szL (by omega), sgn_at hin.1 hin.2.1, _, rfl, _, rfl, x, y.2, _, rfl, rfl, szL (by omega), sgn_at hin.2.2.1 hin.2.2.2, _, _, rfl, rfl, szL (show 1 + 1 ≤ 1000000 by decide), ?_⟩
      have hval : valV (r.prs.map encP) (.inr (tx2 x y)) = some (.int (pwI r.prs (tx2 x y))) := val_prs r.prs _ (may_in (fo.may y hym))
      refine ⟨d, _, rfl, hval ▸ DGet.k (k := .inr (tx2 x y)) (k2 _ _ hd1), _, _, rfl, rfl, ?_⟩
      refine ⟨_, rfl, _, rfl, _, rfl, _, rfl, _, rfl, _, rfl, szL (show 2 ≤ 1000000 by decide), fun t3 ht3 => ?_⟩
      have x3 := Ext.new (o := .tup [.int y.1, .int y.2]) ht3
      have k03 := k02.trans x3
      refine ⟨_, _, r, x, t3, q0, y, rfl, RulesAt.mono _ _ _ _ (TupK.ext k03) hR, ok, hx, hO, hF.ext k03, fo.len, upd_same, fo.rise, fo.up, fo.inn, hin.1, hin.2.1, hin.2.2.1, hin.2.2.2, fun a4 kd fr H4 ha4 k4 => ?_⟩
      refine ⟨a4, _, 2, _, rfl, rfl, SqT.of ha4, rfl, _, _, rfl, rfl, ?_⟩
      refine ⟨some (.int y.1), some (.int y.2), ?_, (k2.trans x3).trans k4⟩
      rw [List.take_add_one, hy, List.map_append, List.sum_append]
      have e : ((some y).toList.map (pT r x q0)).sum = pwI r.prs (tx2 x y) + lpW r x y (tops (withinC q0 y.1 y.2)) := by
        simp [pT]
      rw [e, ← Int.add_assoc]
      rfl
    · obtain ⟨y5, y6, rfl, k2⟩ := hv
      rw [List.take_of_length_le (by omega)]
      exact ⟨_, rfl, q H2 (x1.trans k2)⟩
abbrev CShutD (P : Program) (w : World) (K : PySem.W.Frag) (mg : Str → Option Value) (base : Heap) : Prop := Ca P w K mg base 3 "_law_shut" ["_law_given", "_law_writ_here", "_law_pairs_so"] spShutD
abbrev s_law_whole : Stmt := topS 53
theorem sc_law_whole : FnScope ["_law_given", "_law_writ_here", "_law_pairs_so", "_law_outer_so"] ["_law_given", "_law_writ_here", "_law_pairs_so"] (defScope s_law_whole) :=
  ⟨rfl, rfl, rfl, by decide +kernel, rfl, by decide +kernel, by decide +kernel⟩
def spWholeD : Sp := fun vs H Q _ => ∃ (v sv : V) (r : Rl) (x : Str) (q0 : Fo), vs = [v, .str x, sv] ∧ RulesAt H v r ∧ RlOk r ∧ x.length ≤ 12 ∧ Of r.letters x ∧ FlAt H sv q0 ∧ FoOk r x q0 ∧ ∀ H', Ext H H' → Q (.int ((q0.map (pT r x q0)).sum + lo r 8 * (tops q0).length)) H'
theorem ok_wholeD {f : Addr} {fd : FuncData} (F : Fun K "_law_whole" "_law_whole" s_law_whole f fd) (c_law_straight : CStrD P w K mg base) (c_law_shut : CShutD P w K mg base) (mlen : mg "len" = none) : FnOk P w K mg base CX0 4 f fd ["_law_given", "_law_writ_here", "_law_pairs_so"] spWholeD := by
  refine F.ok sc_law_whole (fun vs H Q E h => ?_) (fun cdv A outer s H vs Q E hr h => ?_)
  · obtain ⟨v, sv, r, x, q0, rfl, _⟩ := h
    rfl
  · obtain ⟨v, sv, r, x, q0, rfl, hR, ok, hx, hO, hF, fo, q⟩ := h
    obtain ⟨l0, us0, rfl, hL0, hP0⟩ := id hF
    refine ⟨_, (pss_cons (ps_set (i := 3) sc_law_whole.nd rfl (.inl rfl) (pe_ca c_law_straight (hr.mono (by decide)) (by rfl) (pa_cons (pv 2) (pa_cons (pe_un un_neg pe_int) (pa_cons (pe_callB call_len_str (by rfl) mlen (by decide +kernel) (pa_cons (pv 1) pa_nil)) pa_nil)))))
      (pss_one (ps_ret (pe_op op_add (pe_ca c_law_shut (hr.mono (by decide)) (by rfl) (pa_cons (pv 0) (pa_cons (pv 1) (pa_cons (pv 2) pa_nil)))) (pe_op op_mul (pe_ix (ixT K) (pe_ix (ixT K) (pv 0) pe_int (fun _ _ => rfl)) pe_int (fun _ _ => rfl)) (pe_callB (lenQ K) (by rfl) mlen (by decide +kernel) (pa_cons (pv 3) pa_nil))))))), ?_⟩
    have hlen := fo.len
    have ew : withinC q0 (-1) (x.length : Int) = q0 := by
      unfold withinC
      refine filter_all fun p hp => ?_
      have := fo.inn p hp
      exact dand ⟨by omega, by omega⟩
    refine ⟨_, rfl, 1, rfl, _, rfl, x, rfl, szL (by omega), l0, us0, q0, -1, (x.length : Int), rfl, hL0, hP0, by omega, fo.rise, fo.up, fun l us H1 hl hL hP k1 => ?_⟩
    rw [ew] at hP
    have hul := paired_len hP
    have htl := tops_len q0
    refine ⟨_, rfl, _, rfl, _, rfl, v, _, r, x, q0, rfl, RulesAt.mono _ _ _ _ (TupK.ext k1) hR, ok, hx, hO, hF.ext k1, fo, fun H2 k2 => ?_⟩
    obtain ⟨a, vp, vl, vs, rfl, hA, _, ⟨al, ls, rfl, hl9, hLo⟩, _⟩ := RulesAt.mono _ _ _ _ (TupK.ext (k1.trans k2)) hR
    have ils := ints_of hLo
    subst ils
    have at8 : atI (r.loops.map V.int) (8 : Int) = some (.int (lo r 8)) := by
      have h9 := ok.lo9
      rw [atI_get (by omega) (by rw [List.length_map]; omega)]
      have e : lo r 8 = r.loops[8]'(by omega) := by
        unfold lo
        rw [List.getD_eq_getElem?_getD, List.getElem?_eq_getElem (by omega)]
        rfl
      rw [e]
      simp
    have b8 := lo_bound ok (show 8 < 9 by decide)
    refine ⟨_, rfl, a, _, 3, _, rfl, rfl, SqT.of hA, rfl, al, _, 8, _, rfl, rfl, SqT.of hl9, at8, _, rfl, l, us, rfl, .inl (SqL.of (k2 _ _ hL)), _, _, rfl, rfl, .inl ⟨by omega, by omega⟩, _, _, rfl, rfl, ?_⟩
    rw [hul]
    exact q H2 (k1.trans k2)
abbrev CWholeD (P : Program) (w : World) (K : PySem.W.Frag) (mg : Str → Option Value) (base : Heap) : Prop := Ca P w K mg base 4 "_law_whole" ["_law_given", "_law_writ_here", "_law_pairs_so"] spWholeD
end
end Pf


namespace Pf
open PySem PySem.Spec PyProof.Rows L2
/-! ### an exception that was caught, kept in a variable -/
/-- the object at a: an exception of the class cls with the dict d -/
def ExI (cls : Value) (d : Option Addr) (a : Addr) : HO := .ext fun hp => ∃ (ob : Obj) (fl : Array Value), hp.get? a = some ob ∧ Zc cls d ob ∧ ob.data = .fields fl
theorem exI_ok {P : Program} {w : World} {H : Hp} {hp : Heap} {a : Addr} {cls : Value} {d : Option Addr} {ob : Obj} {fl : Array Value} (e : hp.get? a = some ob) (z : Zc cls d ob) (dt : ob.data = .fields fl) : ObjOk P w H hp a (ExI cls d a) :=
  ⟨⟨ob, fl, e, z, dt⟩, ⟨ob, e⟩, fun _ _ ⟨o, v, q, r⟩ k => ⟨o, v, k o q, r⟩⟩
/-- an object that stands in the heap, and was not there at the entry, is told from now on -/
theorem told_now {X : Cx} {pins : List (Addr × Obj)} {σ : L2.St} {H : Hp} {s : Shared} {a : Addr} {o : HO} (I : Inv X pins σ H s) (ha : H a = none) (h0 : X.s_0.heap.get? a = none) (nL : a ≠ X.env.locals) (nC : ∀ x c, X.env.cells.lookup x = some c → c ≠ a) (np : ∀ p ∈ X.pn ++ pins, p.1 ≠ a)
    (new : ObjOk X.prog X.w (upd H a o) s.heap a o) : Inv X pins σ (upd H a o) s := by
  have ne : ∀ {b : Addr} {u : HO}, H b = some u → b ≠ a := fun e z => by
    rw [z, ha] at e
    cases e
  refine ⟨I.ok, I.os, I.bare, ⟨I.base.keep, I.base.slot, fun b u e hn hx => ?_, I.base.there, fun b xs e => ?_, fun b u xs e => ?_, fun b ps e => ?_⟩, I.loc, I.cell, ?_, fun x c e => ?_, fun p hp => ?_, fun b u e => ?_, I.len⟩
  · rw [upd_ne (fun z => by rw [z, h0] at e; cases e)]
    exact I.base.free b u e hn hx
  · have q := I.base.tups b xs e
    rw [upd_ne (ne q)]
    exact q
  · have q := I.base.frzs b u xs e
    rw [upd_ne (ne q)]
    exact q
  · obtain ⟨m, q⟩ := I.base.tbls b ps e
    exact ⟨m, by rw [upd_ne (ne q)]; exact q⟩
  · rw [upd_ne nL.symm]
    exact I.free
  · rw [upd_ne (nC x c e)]
    exact I.freeC x c e
  · obtain ⟨p1, p2, p3⟩ := I.pin p hp
    exact ⟨p1, by rw [upd_ne (np p hp)]; exact p2, p3⟩
  · by_cases hb : b = a
    · subst hb
      rw [upd_same] at e
      cases e
      exact new
    · rw [upd_ne hb] at e
      exact (I.hok b u e).stay (fun c v _ q => q) (fun c q => by rw [upd_ne (ne_of_none q ha)]; exact q) fun c xs q => by rw [upd_ne (ne_of_none q ha)]; exact q
def wKeep (K : PySem.W.Frag) (ks : List Value) (i : Nat) (ts : Addr → Value → Option Addr → TS) (D : Ends) : WX := fun cls d σ H => PySem.W.exmAny K cls ks = some true ∧ ∀ a, H a = none → ts a cls d { nx := fun σ' H' => D.nx (σ'.set i none) (upd H' a (ExI cls d a)), rt := fun _ _ => False } (σ.set i (some (.ref a))) H
theorem ps_try_keep {X : Cx} {x1 x2 x3 n : Str} {c1 c2 c3 : Value} {i kk : Nat} {body rest : List Stmt} {st1 : Stmt} {q1 q2 q3 qt pos pos' : Pos} {tb : WX → TS} {ts : Addr → Value → Option Addr → TS}
    (hs : X.stack = X.env :: X.outer) (hf : X.env.frame = some X.env.locals) (hex : X.ex = []) (hN : X.N.Nodup) (hi : X.N[i]? = some n) (hln : X.env.kindOf n = some .local) (n1 : Names X x1 c1) (n2 : Names X x2 c2) (n3 : Names X x3 c3)
    (hb : ∀ (W : WX) (pn : List (Addr × Obj)) (xe : Value → Shared → Prop), Takes (X.tr pn xe) W →
      PassesOwn (model X.prog X.w) X.A X.env xe → PSs (X.tr pn xe) body (tb W))
    (hsu : ∀ (a : Addr) (ob : Obj) (cls : Value) (d : Option Addr) (pn : List (Addr × Obj)), Zc cls d ob →
      (∃ fl, ob.data = .fields fl) → PSs (X.suite a ((a, ob) :: pn)) (st1 :: rest) (ts a cls d)) :
    PS X (.Try body [.ExceptHandler (some (.Tuple [.Name x1 q1, .Name x2 q2, .Name x3 q3] kk qt)) (some n) (st1 :: rest) pos'] [] [] pos) (fun D σ H => tb (wKeep X.K [c1, c2, c3] i ts D) D σ H) := by
  refine ⟨fun pins s σ H D I h => ?_⟩
  have okX := I.ok
  have frs0 : X.A.frames = some (X.env :: X.outer) := okX.frames.trans (by rw [hs])
  have lc : Loc X.env.scope n := .inl hln
  refine wpAny_Try_except ?_
  refine wpAny_mono ((hb (wKeep X.K [c1, c2, c3] i ts D) (X.pn ++ pins)
    (fun u t0 => wpAny (model X.prog X.w) X.A (noteFrame u X.env)
      (fun _ t1 => wpAny (model X.prog X.w) X.A (setFlight u none)
        (fun _ t2 => wpAny (model X.prog X.w) X.A
          (handleBy u X.env [.ExceptHandler (some (.Tuple [.Name x1 q1, .Name x2 q2, .Name x3 q3] kk qt)) (some n) (st1 :: rest) pos'])
          (SP X pins D) X.xe t2) X.xe t1) X.xe t0)
    (fun u t0 xx => ?_) PassesOwn.looking).run [] s σ H D (I.toTry _) h) (fun f t1 hsp => ?_) (fun e t1 he => he)
  · -- the catch
    obtain ⟨a, B, sI, pins2, σ2, H2, cls, d, rfl, J0, nb, up, sky, na, os, ag, hm, hgo⟩ := xx
    have J : Inv X pins σ2 H2 sI := J0.ofTry okX
    rw [hs] at sky
    show wpAny (model X.prog X.w) X.A (noteFrame (.ref a) X.env) _ _ _
    refine Sky.land Zc.steady frs0 hf sky fun hA flA upA => ?_
    have JA : Inv X pins σ2 H2 { t0 with heap := hA } := J.landed nb flA.1 (up.trans upA) os ag
    obtain ⟨obA, fvA, heA, hzA, hdA⟩ := flA.there
    have notF : ∀ {g : Heap} {o : Obj} {fv : Array Value}, g.FunFrames B (X.env :: X.outer) → g.get? a = some o →
        o.data = .fields fv → a ∉ frs (X.env :: X.outer) := fun ff e dd hmem => by
      obtain ⟨_, o2, e2, hnf⟩ := ff.mem hmem
      rw [e] at e2
      cases e2
      exact hnf _ dd
    have nfr := notF flA.2.2.1 heA hdA
    have nL : a ≠ X.env.locals := fun z =>
      nfr (List.mem_filterMap.mpr ⟨X.env, List.mem_cons_self, by rw [hf, z]⟩)
    have nF : a ∉ X.fs := fun hmem => by
      obtain ⟨e, he, q⟩ := List.mem_filterMap.mp hmem
      exact nfr (List.mem_filterMap.mpr ⟨e, List.mem_cons_of_mem _ he, q⟩)
    have nI : sI.heap.get? a = none := by
      cases e : sI.heap.get? a with
      | none => rfl
      | some o =>
        have z := nb a o e (by rw [hs]; exact nfr)
        rw [flA.2.1] at z
        cases z
    have n0 : X.s_0.heap.get? a = none := by
      cases e : X.s_0.heap.get? a with
      | none => rfl
      | some o =>
        obtain ⟨o2, z⟩ := J.base.there a o e (by rw [hex]; exact fun q => nomatch q)
        rw [nI] at z
        cases z
    have npin : ∀ p ∈ X.pn ++ pins, p.1 ≠ a := fun p hp z => by
      have := (J.pin p hp).1
      rw [z, nI] at this
      cases this
    have SA := JA.suite heA hdA na nL nF
    refine wpAny_handleBy_cons (codeAny_handlers_test ?_) (by intro q; cases q)
    have nameIs : ∀ {y : Str} {c : Value} {yp : Pos} {Q : Value → Shared → Prop} {E : Value → Shared → Prop}, Names X y c → Q c { t0 with heap := hA } →
        wpAny (model X.prog X.w) (X.A.mark (some (.ref a))) (eval (.Name y yp) X.env) Q E { t0 with heap := hA } := fun hc q => by
      obtain ⟨hg, hdbg, hm2 | ⟨hm2, hv, hnn⟩⟩ := hc
      · exact ld_glob (X := X.suite a ((a, obA) :: (X.pn ++ pins))) SA hg hm2 q hdbg
      · exact ld_blt (X := X.suite a ((a, obA) :: (X.pn ++ pins))) SA hg hm2 hv q hnn hdbg
    have hpush : ∀ b o, hA.get? b = some o → (hA.push { cls := .type "tuple", data := .seq #[c1, c2, c3] }).get? b = some o := fun b o e => Heap.get?_push_of_some _ e
    have szN : (hA.push { cls := .type "tuple", data := .seq #[c1, c2, c3] }).get? hA.objs.size = some { cls := .type "tuple", data := .seq #[c1, c2, c3] } := Heap.get?_push_size _ rfl
    refine wpAny_Tuple_spliced ?_
    refine Calls.spliced_cons (nameIs n1 (Calls.spliced_cons (nameIs n2 (Calls.spliced_cons (nameIs n3 (Calls.spliced_nil ⟨?_, ?_⟩))))))
    · show 3 ≤ sizeLine
      rw [sizeLine_eq]
      decide
    have flP : HandSPX.FlyingZ B (X.env :: X.outer) a (Zc cls d) (hA.push { cls := .type "tuple", data := .seq #[c1, c2, c3] }) := by
      obtain ⟨f1, f2, f3, ob, fv, T, oT, tv, g1, g2, g3, g4, g5, g6, g7, g8, g9⟩ := id flA
      exact ⟨fun b o e => hpush b o (f1 b o e), f2, f3.of_keeps fun b o e _ => ⟨o, hpush b o e, rfl⟩, ob, fv, T, oT, tv, hpush _ _ g1, g2, g3, g4, g5, g6, hpush _ _ g7, g8, g9⟩
    have upP : hA.UpToSlots (hA.push { cls := .type "tuple", data := .seq #[c1, c2, c3] }) := .of_keeps hpush
    have LT : PySem.W.Looks (model X.prog X.w) (hA.push { cls := .type "tuple", data := .seq #[c1, c2, c3] }) (typeOf (.ref a)) cls := fun A Q E u k q =>
      wpAny_typeOf_ref (k _ _ (hpush _ _ heA)) (by rw [hzA.1]; exact q)
    have KP : X.K.In (hA.push { cls := .type "tuple", data := .seq #[c1, c2, c3] }) := JA.kIn.keeps hpush
    refine (PySem.W.exm_tup3 (M := model X.prog X.w) KP LT szN hm).here ?_
    refine codeAny_handlers_suite_as ?_
    refine HandSPX.lands_againZ flP fun hB flB upB => ?_
    have JB : Inv X pins σ2 H2 { t0 with heap := hB } := J.landed nb flB.1 (((up.trans upA).trans upP).trans upB) os ag
    obtain ⟨obB, fvB, heB, hzB, hdB⟩ := flB.there
    have SB := JB.suite heB hdB na nL nF
    refine store_ok (X := X.suite a ((a, obB) :: (X.pn ++ pins))) (v := .ref a) SB hN hi lc rfl (fun t5 S5 => ?_) (.inr hln)
    refine wpAny_mono ((hsu a obB cls d (X.pn ++ pins) hzB ⟨_, hdB⟩).run [] t5 _ H2 _ S5 (hgo a na)) (fun f t6 hsp => ?_) (fun _ _ z => False.elim z)
    cases f with
    | next =>
      obtain ⟨σ6, H6, S6, q6⟩ := hsp
      have P6 : Inv X ((a, obB) :: pins) σ6 H6 t6 := (S6.unsuite okX).pins_of fun p hp => by
        rcases List.mem_cons.mp hp with e | hp
        · rw [e]
          exact S6.pin (a, obB) (List.mem_append_left _ List.mem_cons_self)
        · exact S6.pin p (List.mem_append_left _ (List.mem_cons_of_mem _ (List.mem_append_right _ hp)))
      refine gone_ok P6 hN hi hln fun t7 J7 => ?_
      have pa := J7.pin (a, obB) (List.mem_append_right _ List.mem_cons_self)
      have J8 : Inv X pins (σ6.set i none) H6 t7 := J7.pins_of fun p hp => J7.pin p (List.mem_append_right _ (List.mem_cons_of_mem _ hp))
      refine ⟨_, _, told_now (o := ExI cls d a) J8 pa.2.1 n0 nL (fun x c e z => ?_) npin (exI_ok pa.1 hzB hdB), q6⟩
      obtain ⟨v, o, ho, hcd⟩ := J8.cell x c e
      rw [z, pa.1] at ho
      cases ho
      exact pa.2.2.2.2 v hcd
    | ret u =>
      obtain ⟨v6, σ6, H6, S6, r6, q6⟩ := hsp
      exact q6.elim
    | brk =>
      obtain ⟨σ6, H6, S6, q6⟩ := hsp
      exact False.elim q6
    | cont =>
      obtain ⟨σ6, H6, S6, q6⟩ := hsp
      exact False.elim q6
  · cases f with
    | next =>
      obtain ⟨σ2, H2, J2, q⟩ := hsp
      exact wpAny_execs_nil ⟨σ2, H2, J2.ofTry okX, q⟩
    | ret u =>
      obtain ⟨v, σ2, H2, J2, r, q⟩ := hsp
      exact ⟨v, σ2, H2, J2.ofTry okX, r, q⟩
    | brk =>
      obtain ⟨σ2, H2, J2, q⟩ := hsp
      exact ⟨σ2, H2, J2.ofTry okX, q⟩
    | cont =>
      obtain ⟨σ2, H2, J2, q⟩ := hsp
      exact ⟨σ2, H2, J2.ofTry okX, q⟩
/-- isinstance of an exception that was kept: by one class -/
def rIsX (K : PySem.W.Frag) : List V → Hp → VK → Prop := fun xs H Q => ∃ (a C : Addr) (c : V) (cv : Value) (b : Bool), xs = [.ref a, c] ∧ H a = some (ExI (.ref C) none a) ∧ ExcC K C ∧ (∀ u, RelV c u → u = cv) ∧ PySem.W.kitOne K (.ref C) cv = some b ∧ Q (.bl b) H
theorem exI_at {X : Cx} {pins : List (Addr × Obj)} {σ : L2.St} {H : Hp} {s : Shared} {a C : Addr} (I : Inv X pins σ H s) (h : H a = some (ExI (.ref C) none a)) : ∃ ob, PySem.W.InstAt s.heap a ob C none := by
  obtain ⟨⟨ob, fl, e, z, dt⟩, _⟩ := I.hok a _ h
  obtain ⟨oc, od, oda, osl⟩ := ob
  obtain ⟨z1, z2⟩ := z
  dsimp only at z1 z2 dt
  subst z1 z2 dt
  exact ⟨_, e, rfl, rfl, trivial⟩
theorem call_isX (K : PySem.W.Frag) {X : Cx} (hK : X.K = K := by rfl) : CallR X (.builtin "isinstance") (rIsX K) := by
  subst hK
  intro pins s σ H xs us Q I r h
  obtain ⟨a, C, c, cv, b, rfl, hA, hC, hcv, e, q⟩ := h
  obtain ⟨ob, J⟩ := exI_at I hA
  cases r with
  | cons rx rr =>
    cases rr with
    | cons rt rr =>
      cases rr
      cases rx
      have ec := hcv _ rt
      subst ec
      exact PySem.W.kia_one (PySem.W.handS_kitx_exc hC.hg hC.hk hC.hs hC.hd hC.ha hC.hn hC.ht hC.hm) I.kIn J e
        (fun z => nomatch z) fun tk => ⟨.bl b, H, I.kept (t' := tk) fun _ _ z => z, rfl, q⟩
theorem vals_refs : ∀ {Cs : List Addr} {us : List Value}, Vals (Cs.map V.ref) us → us = Cs.map Value.ref
  | [], _, r => by cases r; rfl
  | C :: Cs, _, r => by
    cases r with
    | cons r1 r2 =>
      rw [List.map_cons, ← vals_refs r2]
      have r1 : _ = Value.ref C := r1
      rw [r1]
/-- isinstance of an exception that was kept: by a tuple of classes -/
def rIsXT (K : PySem.W.Frag) : List V → Hp → VK → Prop := fun xs H Q => ∃ (a C t : Addr) (Cs : List Addr) (b : Bool), xs = [.ref a, .ref t] ∧ H a = some (ExI (.ref C) none a) ∧ ExcC K C ∧ H t = some (.tup (Cs.map V.ref)) ∧ PySem.W.kitAny K (.ref C) (Cs.map Value.ref) = some b ∧ Q (.bl b) H
theorem call_isXT (K : PySem.W.Frag) {X : Cx} (hK : X.K = K := by rfl) : CallR X (.builtin "isinstance") (rIsXT K) := by
  subst hK
  intro pins s σ H xs us Q I r h
  obtain ⟨a, C, t, Cs, b, rfl, hA, hC, hT, e, q⟩ := h
  obtain ⟨ob, J⟩ := exI_at I hA
  cases r with
  | cons rx rr =>
    cases rr with
    | cons rt rr =>
      cases rr
      cases rx
      cases rt
      obtain ⟨_, ws, rv, ot, ho, hcl, nn, hdt⟩ := I.hok t _ hT
      obtain ⟨oc, od, oda, osl⟩ := ot
      dsimp only at hcl hdt
      subst hcl hdt
      have ew := vals_refs rv
      subst ew
      exact PySem.W.kia_tup (PySem.W.handS_kitx_exc hC.hg hC.hk hC.hs hC.hd hC.ha hC.hn hC.ht hC.hm) I.kIn J ho e
        (fun z => nomatch z) fun tk => ⟨.bl b, H, I.kept (t' := tk) fun _ _ z => z, rfl, q⟩
/-- a def that may raise, by its promise; called within a try -/
structure CaX (P : Program) (w : World) (K : PySem.W.Frag) (mg : Str → Option Value) (base : Heap) (k : Nat) (x : Str) (ps : List Str) (sp : Sp) : Prop where
  ex : ∃ f fd, FnOk P w K mg base (L2.CX P w) k f fd ps sp ∧ mg x = some (.ref f) ∧ PySem.W.keepIn K (.ref f) = true ∧ Binds K fd ps []
theorem pe_caX {X : Cx} {W : WX} {k : Nat} {x : Str} {ps : List Str} {sp : Sp} {p pos : Pos} {e : Expr} {es : List Expr} {t : TA} (c : CaX X.prog X.w X.K X.mg X.base k x ps sp) (hr : Room k X.A) (hg : Gl X x) (tk : Takes X W)
    (ha : PA X (e :: es) t) (hdb : (x == ("__debug__" : Str)) = false := by decide)
    (he : starEach (e :: es) X.env = (false, eval e X.env) :: starEach es X.env := by rfl)
    (hpl : (backTo pos (starEach es X.env)).any (·.1) = false := by rfl) : PE X (.Call (.Name x p) (e :: es) [] pos) (tCallS sp (WE W) t) := by
  obtain ⟨f, fd, F, hm, hk, hb⟩ := c.ex
  exact pe_callS F hr hg hm hk hb (fun σ => passAt tk σ) ha hdb he hpl
end Pf
namespace Pf
open PySem PySem.Spec PyProof.Rows L2
/-! ### which class is under which, out of what the top holds -/
theorem under_cls {K : PySem.W.Frag} {t : Value} {C : Addr} {b : Bool} (h1 : PySem.W.typeIn K (.ref C) = some (.type "type")) (h2 : PySem.W.isClsIn K C = true) (h3 : PySem.W.subIn K t (.ref C) = some b) : PySem.W.kitCls K t (.ref C) = some b := by
  have h4 : (PySem.W.clsIn K C).isSome = true := h2
  unfold PySem.W.kitCls
  simp only [h1, h3, h4]
  simp
theorem under_one {K : PySem.W.Frag} {t : Value} {C : Addr} {b : Bool} (h : PySem.W.kitCls K t (.ref C) = some b) (hn : (t == Value.ref C) = false) : PySem.W.kitOne K t (.ref C) = some b := by
  unfold PySem.W.kitOne
  rw [hn]
  exact h
theorem under_self {K : PySem.W.Frag} {C : Addr} : PySem.W.kitOne K (.ref C) (.ref C) = some true := by
  unfold PySem.W.kitOne
  rw [if_pos (by simp)]
theorem meets_one {K : PySem.W.Frag} {t : Value} {C : Addr} {b : Bool} (h0 : PySem.W.subIn K (.ref C) (.type "BaseException") = some true) (h : PySem.W.kitCls K t (.ref C) = some b) : PySem.W.exmOne K t (.ref C) = some b := by
  unfold PySem.W.exmOne
  rw [h0]
  exact h
theorem any_no {K : PySem.W.Frag} {t : Value} {c : Value} {r : List Value} {b : Bool} (h1 : PySem.W.kitOne K t c = some false) (h2 : PySem.W.kitAny K t r = some b) : PySem.W.kitAny K t (c :: r) = some b := by
  show (match PySem.W.kitOne K t c with | some true => some true | some false => PySem.W.kitAny K t r | none => none) = _
  rw [h1]
  exact h2
theorem any_yes {K : PySem.W.Frag} {t : Value} {c : Value} {r : List Value} (h1 : PySem.W.kitOne K t c = some true) : PySem.W.kitAny K t (c :: r) = some true := by
  show (match PySem.W.kitOne K t c with | some true => some true | some false => PySem.W.kitAny K t r | none => none) = _
  rw [h1]
theorem meets_more {K : PySem.W.Frag} {t : Value} {c : Value} {r : List Value} {b d : Bool} (h1 : PySem.W.exmOne K t c = some b) (h2 : PySem.W.exmAny K t r = some d) : PySem.W.exmAny K t (c :: r) = some (b || d) := by
  show (match PySem.W.exmOne K t c, PySem.W.exmAny K t r with | some b, some d => some (b || d) | _, _ => none) = _
  rw [h1, h2]
end Pf


namespace Pf
open PySem PySem.Spec PyProof.Rows L2
/-! ### a def that is called while nothing is being shown -/
structure FnOg (P : Program) (w : World) (K : PySem.W.Frag) (mg : Str → Option Value) (base : Heap) (k : Nat) (f : Addr) (fd : FuncData) (ps : List Str) (sp : Sp) : Prop where
  len : ∀ vs H Q E, sp vs H Q E → vs.length = ps.length
  run : ∀ (A : Around) (outer : List Env) (s : Shared) (H : Hp) (args : Args) (us : List Value) (vs : List V) (Q : VK) (E : XK), A.guards = some [] → Room k A → Env0 P w K mg base A outer s H → BindsTo s fd args (ps.zip us) → Vals vs us → sp vs H Q E →
    codeAny (model P w) A (.call (.ref f) args) (CR CX0 outer P w H s Q E) s
theorem FnOg.of {P : Program} {w : World} {K : PySem.W.Frag} {mg : Str → Option Value} {base : Heap} {k : Nat} {f : Addr} {fd : FuncData} {x qual : Str} {st : Stmt} {N ps : List Str} {sp : Sp} (F : Fun K x qual st f fd) (S : FnScope N ps (defScope st))
    (len : ∀ vs H Q E, sp vs H Q E → vs.length = ps.length)
    (body : ∀ (cdv : Value) (A : Around) (outer : List Env) (s : Shared) (H : Hp) (vs : List V) (Q : VK) (E : XK), Room k (A.deeper (envOfC qual (defScope st) s.heap.objs.size f cdv)) → (A.deeper (envOfC qual (defScope st) s.heap.objs.size f cdv)).guards = some [] → sp vs H Q E →
      ∃ t, PSs (cxOf CX0 P w K mg base N qual (defScope st) f cdv A outer s H E).nox (defBody st) t ∧ t { nx := fun _ H' => Q .non H', rt := Q } (start N vs) H) : FnOg P w K mg base (k + 1) f fd ps sp := by
  obtain ⟨oc, od, kV, doc, pm, an, cdv, ct, osl, rfl, lk, hcd⟩ := F.ex
  refine ⟨len, fun A outer s H args us vs Q E hG room env0 bnd rel hsp => ?_⟩
  have inS : K.In s.heap := env0.mod.kin.keeps fun b o e => (env0.bs b o e).1
  have limS : s.heap.NoLimit := env0.mod.nolimit.keeps fun b o e => (env0.bs b o e).1
  have kinds : ∀ y ∈ ps.zip us, (defScope st).names.lookup y.1 = some .local ∨ ((defScope st).names.lookup y.1 = some .cell ∧ ((cellsFrom (s.heap.objs.size + 1) (defScope st).names []).lookup y.1).isSome = true) := by
    rintro ⟨n, v⟩ hy
    cases S.par n (List.of_mem_zip hy).1 with
    | inl q => exact .inl q
    | inr q => exact .inr ⟨q, PySem.W.cellsFrom_some _ _ _ (.inl q)⟩
  refine codeAny_call_function room.depth (inS _ _ lk) rfl S.co S.gen rfl (PySem.W.codeRec_of inS hcd) (bnd _ _ _ _ ?_)
  refine wpAny_newFunctionEnv_cells S.kind kinds fun env0' he s1 inC => ?_
  subst he
  refine ⟨limS.keeps inC.toInCall.keep, codeAny_func ?_⟩
  obtain ⟨t, ht, hq⟩ := body cdv A outer s H vs Q E (room.deeper _) hG hsp
  have I0 : Inv (cxOf CX0 P w K mg base N qual (defScope st) f cdv A outer s H E) [] (start N vs) H s1 := inv_start S room.hd env0 (len _ _ _ _ hsp) rel inC
  refine wpAny_mono (ht.nox.run [] s1 (start N vs) H _ I0 hq) (fun fl s' hs => ?_) fun _ _ z => z
  cases fl with
  | ret u =>
    obtain ⟨v, σ', H', J, rv, q⟩ := hs
    exact ⟨v, H', J.os, J.bare, J.base, J.hok, rv, q⟩
  | next =>
    obtain ⟨σ', H', J, q⟩ := hs
    exact ⟨.non, H', J.os, J.bare, J.base, J.hok, rfl, q⟩
  | brk => exact False.elim (by obtain ⟨_, _, _, q⟩ := hs; exact q)
  | cont => exact False.elim (by obtain ⟨_, _, _, q⟩ := hs; exact q)
structure CaG (P : Program) (w : World) (K : PySem.W.Frag) (mg : Str → Option Value) (base : Heap) (k : Nat) (x : Str) (ps : List Str) (sp : Sp) : Prop where
  ex : ∃ f fd, FnOg P w K mg base k f fd ps sp ∧ mg x = some (.ref f) ∧ PySem.W.keepIn K (.ref f) = true ∧ Binds K fd ps []
/-- a def whose last arguments are left out -/
structure CaD (P : Program) (w : World) (K : PySem.W.Frag) (mg : Str → Option Value) (base : Heap) (k : Nat) (x : Str) (ps : List Str) (dvs : List V) (sp : Sp) : Prop where
  ex : ∃ f fd ds, FnOk P w K mg base CX0 k f fd ps sp ∧ mg x = some (.ref f) ∧ PySem.W.keepIn K (.ref f) = true ∧ Vals dvs ds ∧ Binds K fd ps ds
section
variable {X : Cx} {k : Nat} {x : Str} {ps ks : List Str} {sp : Sp} {p pos : Pos} {e : Expr} {es : List Expr} {kws : List Keyword} {t tk : TA} {gV : List V → List V → List V} {dvs : List V}
theorem run_fnG {f : Addr} {fd : FuncData} {pins : List (Addr × Obj)} {σ : L2.St} {H : Hp} {s : Shared} {Q : VK} {us : List Value} {vs : List V} (F : FnOg X.prog X.w X.K X.mg X.base k f fd ps sp) (hG : X.A.guards = some []) (hr : Room k X.A) (hb : Binds X.K fd ps [])
    (I : Inv X pins σ H s) (r : Vals vs us) (h : sp (vs ++ []) H Q E0) : wpAny (model X.prog X.w) X.A (call (.ref f) us) (EP X pins σ Q) X.xe s := by
  have r2 : Vals (vs ++ []) (us ++ []) := r.append .nil
  have hl : (us ++ []).length = ps.length := by rw [← r2.length]; exact F.len _ _ _ _ h
  refine wpAny_call (codeAny_mono (F.run X.A X.stack s H ⟨us, []⟩ (us ++ []) (vs ++ []) Q E0 hG hr I.env0 (hb s us I.kIn hl) r2 h) fun r s' hq => ?_)
  cases r with
  | error e => exact False.elim hq
  | ok fl =>
    cases fl with
    | ret u => exact I.after hq
    | next => exact False.elim hq
    | brk => exact False.elim hq
    | cont => exact False.elim hq
theorem pe_caG (c : CaG X.prog X.w X.K X.mg X.base k x ps sp) (hG : X.A.guards = some []) (hr : Room k X.A) (hg : Gl X x) (ha : PA X (e :: es) t) (hdb : (x == ("__debug__" : Str)) = false := by decide)
    (he : starEach (e :: es) X.env = (false, eval e X.env) :: starEach es X.env := by rfl) (hpl : (backTo pos (starEach es X.env)).any (·.1) = false := by rfl) :
    PE X (.Call (.Name x p) (e :: es) [] pos) (tCall sp [] E0 t) := by
  obtain ⟨f, fd, F, hm, hk, hb⟩ := c.ex
  refine ⟨fun pins s σ H Q I h => ?_⟩
  refine wpAny_Call_Name_kw (ld_glob I hg hm ?_ hdb)
  refine PySem.W.callWith_K (h₀ := X.base) I.ok.mod.kin hk (thn (ha.run pos pins s σ H _ I h) fun us s1 ⟨vs, H1, I1, r, q⟩ => ⟨I1.kIn, ?_⟩) he hpl
  exact run_fnG F hG hr hb I1 r q
theorem pe_caD (c : CaD X.prog X.w X.K X.mg X.base k x ps dvs sp) (hr : Room k X.A) (hg : Gl X x) (ha : PA X (e :: es) t) (hdb : (x == ("__debug__" : Str)) = false := by decide)
    (he : starEach (e :: es) X.env = (false, eval e X.env) :: starEach es X.env := by rfl) (hpl : (backTo pos (starEach es X.env)).any (·.1) = false := by rfl) :
    PE X (.Call (.Name x p) (e :: es) [] pos) (tCall sp dvs E0 t) := by
  obtain ⟨f, fd, ds, F, hm, hk, hv, hb⟩ := c.ex
  exact pe_call F hr hg hm hk hb hv pass0 ha hdb he hpl
end
/-- nobody calls it -/
theorem fn_false {P : Program} {w : World} {K : PySem.W.Frag} {mg : Str → Option Value} {base : Heap} {f : Addr} {fd : FuncData} {ps : List Str} : FnOk P w K mg base CX0 0 f fd ps (fun _ _ _ _ => False) :=
  ⟨fun _ _ _ _ h => h.elim, fun _ _ _ _ _ _ _ _ _ _ _ _ _ h => h.elim⟩
/-- by names alone, of a def with defaults -/
theorem kb_D {K : PySem.W.Frag} {x qual : Str} {params : Arguments} {body : List Stmt} {scope : Scope} {dvs : List V} {f : Addr} {fd : FuncData} {ps ks : List Str} (F : FunD K x qual params body scope dvs [] f fd) (js : List Nat) (hd : dvs ≠ [])
    (h : ∀ (T : Addr) (kV doc pm : Value) (an : Option Addr) (cdv ct : Value) (ws its : List Value), ws.length = ks.length → its.length = dvs.length →
      ∃ k, bindArgs (PySem.W.fnOf x qual params body scope (.ref T) kV doc pm an cdv ct) ⟨[], ks.zip ws⟩ = seqItems? (.ref T) >>= k ∧ k (some its.toArray) = pure (ps.zip (js.map fun j => ws.getD j .none))) : KBn K fd ps 0 ks (permU js) (permV js) := by
  obtain ⟨oc, od, dV, kV, doc, pm, an, cdv, ct, osl, rfl, lk, hcd, hD, hK⟩ := F.ex
  rcases hD with ⟨e, _⟩ | ⟨_, T, o, its, m, rfl, lT, oT, rT⟩
  · exact absurd e hd
  · refine ⟨fun s us ws X hu hw => ?_, fun _ r => perm_rel r js⟩
    obtain rfl := List.length_eq_zero_iff.mp hu
    obtain ⟨k, e1, e2⟩ := h T kV doc pm an cdv ct ws its hw rT.length.symm
    refine BindsTo.of_looks fun M => ?_
    rw [e1]
    exact looks_items X lT oT (.of_pure e2)
/-! ### // by a great divisor of either sign -/
def CDivNW (_ j : Int) : Prop := j ≠ 0 ∧ j.natAbs.log2 < 9000
theorem op_fdivNW {X : Cx} : OpR X (binaryOp .FloorDiv) (rI CDivNW fun i j => .int (i.fdiv j)) := opI fun i j _ _ _ _ _ hc q => floordiv_int hc.1 q (.inl (PyProof.noPylong_of_log2 hc.2))
/-! ### repr of data with great numbers -/
structure Bg (B m k : Nat) (d : PyData) : Prop where
  lay : d.canLay0 = true
  sho : d.showable = true
  ish : d.leavesShort B = true
  wt : d.weight ≤ m
  dep : d.depth ≤ k
theorem Bg.int {i : Int} {B : Nat} (hB : 1 < B) (h9 : B ≤ 1900) (h : i.natAbs < 2 ^ B) : Bg (B + 1) B 0 (.int i) := by
  have hl : i.natAbs.log2 < B := PySem.Flt.log2_lt_of (by omega) h
  have h10 : (2 : Nat) ^ B ≤ 10 ^ B := Nat.pow_le_pow_left (by decide) B
  refine ⟨by simp [PyData.canLay0], ?_, ?_, ?_, by simp [PyData.depth]⟩
  · simp only [PyData.showable]
    exact decide_eq_true (by omega)
  · simp only [PyData.leavesShort, PyData.shown]
    refine decide_eq_true ?_
    have hc : ((10 ^ B : Nat) : Int) = (10 : Int) ^ B := by simp
    have hh : (i.natAbs : Int) < (10 : Int) ^ B := by
      rw [← hc]
      exact Int.ofNat_lt.mpr (Nat.lt_of_lt_of_le h h10)
    by_cases hn : i < 0
    · rw [len_text_neg hn]
      have := toString_length_le (v := 0 - i) (k := B) (by omega) (by omega) (by omega)
      omega
    · have := toString_length_le (v := i) (k := B) (by omega) (by omega) (by omega)
      omega
  · simp only [PyData.weight]
    split <;> omega
theorem Bg.le {B m k m' k' : Nat} {d : PyData} (h : Bg B m k d) (hm : m ≤ m') (hk : k ≤ k') : Bg B m' k' d := ⟨h.lay, h.sho, h.ish, Nat.le_trans h.wt hm, Nat.le_trans h.dep hk⟩
structure BgA (B m k : Nat) (ds : List PyData) : Prop where
  lay : PyData.canLayAll0 ds = true
  sho : PyData.showableAll ds = true
  ish : PyData.leavesShortAll B ds = true
  wt : PyData.weightAll ds ≤ ds.length * (m + 1)
  dep : PyData.depthAll ds ≤ k
theorem BgA.of {B m k : Nat} : ∀ {ds : List PyData}, (∀ d ∈ ds, Bg B m k d) → BgA B m k ds
  | [], _ => ⟨by simp [PyData.canLayAll0], by simp [PyData.showableAll], by simp [PyData.leavesShortAll], by simp [PyData.weightAll], by simp [PyData.depthAll]⟩
  | d :: ds, h => by
    have h1 := h d (List.mem_cons_self ..)
    have h2 := BgA.of (ds := ds) fun x hx => h x (List.mem_cons_of_mem _ hx)
    refine ⟨by simp [PyData.canLayAll0, h1.lay, h2.lay], by simp [PyData.showableAll, h1.sho, h2.sho], by simp [PyData.leavesShortAll, h1.ish, h2.ish], ?_, ?_⟩
    · have e1 := h1.wt
      have e2 := h2.wt
      simp only [PyData.weightAll, List.length_cons, Nat.succ_mul]
      omega
    · simp only [PyData.depthAll]
      exact Nat.max_le.mpr ⟨h1.dep, h2.dep⟩
theorem Bg.lst {B n m k M : Nat} {ds : List PyData} (hn : ds.length ≤ n) (h : ∀ d ∈ ds, Bg B m k d) (hM : n * (m + 1) ≤ M) : Bg B M (k + 1) (.list ds) := by
  have a := BgA.of h
  have hw : ds.length * (m + 1) ≤ n * (m + 1) := Nat.mul_le_mul_right _ hn
  exact ⟨by simpa only [PyData.canLay0] using a.lay, by simpa only [PyData.showable] using a.sho, by simpa only [PyData.leavesShort] using a.ish, by simp only [PyData.weight]; exact Nat.le_trans a.wt (Nat.le_trans hw hM), by simp only [PyData.depth]; exact Nat.succ_le_succ a.dep⟩
theorem Bg.tup {B n m k M : Nat} {ds : List PyData} (hn : ds.length ≤ n) (h : ∀ d ∈ ds, Bg B m k d) (hM : n * (m + 1) ≤ M) : Bg B M (k + 1) (.tuple ds) := by
  have a := BgA.of h
  have hw : ds.length * (m + 1) ≤ n * (m + 1) := Nat.mul_le_mul_right _ hn
  exact ⟨by simpa only [PyData.canLay0] using a.lay, by simpa only [PyData.showable] using a.sho, by simpa only [PyData.leavesShort] using a.ish, by simp only [PyData.weight]; exact Nat.le_trans a.wt (Nat.le_trans hw hM), by simp only [PyData.depth]; exact Nat.succ_le_succ a.dep⟩
theorem Bg.short {B m k : Nat} {d : PyData} (h : Bg B m k d) (hB : 8 ≤ B) (hm : (B + 2) * m + B ≤ 15000000) : d.shown.length ≤ sizeLine := by
  have h1 := PyData.shown_le B hB d h.ish
  have h2 : (B + 2) * d.weight ≤ (B + 2) * m := Nat.mul_le_mul_left _ h.wt
  rw [sizeLine_eq]
  omega
def rShowB (K : PySem.W.Frag) : List V → Hp → VK → Prop := fun xs H Q => ∃ v d B m k, xs = [v] ∧ Dp K H v d ∧ Bg B m k d ∧ 8 ≤ B ∧ (B + 2) * m + B ≤ 15000000 ∧ k ≤ 50 ∧ Q (.str d.shown) H
theorem call_showB (K : PySem.W.Frag) {X : Cx} (hg : X.A.guards = some []) (hu : X.A.units + 64 < cLine) (hK : X.K = K := by rfl) : CallR X (.builtin "repr") (rShowB K) := by
  subst hK
  intro pins s σ H xs us Q I r h
  obtain ⟨v, d, B, m, k, rfl, hd, sh, hB, hm, hk, q⟩ := h
  have hdep := sh.dep
  have hz := sh.short hB hm
  cases hd with
  | non =>
    obtain ⟨u, rfl, rfl⟩ := vals1 r
    exact PySem.P.repr_of_none ⟨.str _, H, I.tok _, ⟨_, rfl⟩, by simpa only [PyData.shown] using q⟩
  | bl b =>
    obtain ⟨u, rfl, rfl⟩ := vals1 r
    refine PySem.P.repr_of_bool ⟨.str _, H, I.tok _, ⟨_, rfl⟩, ?_⟩
    simp only [PyData.shown] at q
    cases b <;> exact q
  | int i =>
    obtain ⟨u, rfl, t, rfl⟩ := vals1 r
    have hi : i.natAbs.log2 < 1920 := by simpa [PyData.showable] using sh.sho
    exact PySem.P.repr_of_int hi ⟨.str _, H, I.tok _, ⟨_, rfl⟩, by simpa only [PyData.shown] using q⟩
  | str x =>
    obtain ⟨u, rfl, t, rfl⟩ := vals1 r
    simp only [PyData.shown] at q hz
    exact PySem.P.repr_of_str ⟨.str _, H, I.tok _, ⟨_, rfl⟩, q⟩ hz
  | @lst a ys ds hs hds =>
    obtain ⟨u, rfl, rfl⟩ := vals1 r
    obtain ⟨as, rd⟩ := Dp.reads I _ _ _ (Dp.lst hs hds) (show RelV (.ref a) (.ref a) from rfl)
    exact PySem.repr_of_reads' rd sh.sho (PyData.noDict_hsm (PyData.hasDict_of_canLay _ sh.lay)) hg (by omega) (fun _ _ e => e) (fun h' u tk keep => ⟨.str _, H, I.kept keep, ⟨_, rfl⟩, q⟩) hz
  | @tup a ys ds hs hds =>
    obtain ⟨u, rfl, rfl⟩ := vals1 r
    obtain ⟨as, rd⟩ := Dp.reads I _ _ _ (Dp.tup hs hds) (show RelV (.ref a) (.ref a) from rfl)
    exact PySem.repr_of_reads' rd sh.sho (PyData.noDict_hsm (PyData.hasDict_of_canLay _ sh.lay)) hg (by omega) (fun _ _ e => e) (fun h' u tk keep => ⟨.str _, H, I.kept keep, ⟨_, rfl⟩, q⟩) hz
end Pf


namespace Pf
open PySem PySem.Spec PyProof.Rows L2 LamX
/-! ### try: .. except C as e: kept = e, by one class -/
def wKeep1 (K : PySem.W.Frag) (c : Value) (i : Nat) (ts : Addr → Value → Option Addr → TS) (D : Ends) : WX := fun cls d σ H => PySem.W.exmOne K cls c = some true ∧ ∀ a, H a = none → ts a cls d { nx := fun σ' H' => D.nx (σ'.set i none) (upd H' a (ExI cls d a)), rt := fun _ _ => False } (σ.set i (some (.ref a))) H
theorem ps_try_keep1 {X : Cx} {x1 n : Str} {c1 : Value} {i : Nat} {body rest : List Stmt} {st1 : Stmt} {q1 pos pos' : Pos} {tb : WX → TS} {ts : Addr → Value → Option Addr → TS}
    (hs : X.stack = X.env :: X.outer) (hf : X.env.frame = some X.env.locals) (hex : X.ex = []) (hN : X.N.Nodup) (hi : X.N[i]? = some n) (hln : X.env.kindOf n = some .local) (n1 : Names X x1 c1)
    (hb : ∀ (W : WX) (pn : List (Addr × Obj)) (xe : Value → Shared → Prop), Takes (X.tr pn xe) W →
      PassesOwn (model X.prog X.w) X.A X.env xe → PSs (X.tr pn xe) body (tb W))
    (hsu : ∀ (a : Addr) (ob : Obj) (cls : Value) (d : Option Addr) (pn : List (Addr × Obj)), Zc cls d ob →
      (∃ fl, ob.data = .fields fl) → PSs (X.suite a ((a, ob) :: pn)) (st1 :: rest) (ts a cls d)) :
    PS X (.Try body [.ExceptHandler (some (.Name x1 q1)) (some n) (st1 :: rest) pos'] [] [] pos) (fun D σ H => tb (wKeep1 X.K c1 i ts D) D σ H) := by
  refine ⟨fun pins s σ H D I h => ?_⟩
  have okX := I.ok
  have frs0 : X.A.frames = some (X.env :: X.outer) := okX.frames.trans (by rw [hs])
  have lc : Loc X.env.scope n := .inl hln
  refine wpAny_Try_except ?_
  refine wpAny_mono ((hb (wKeep1 X.K c1 i ts D) (X.pn ++ pins)
    (fun u t0 => wpAny (model X.prog X.w) X.A (noteFrame u X.env)
      (fun _ t1 => wpAny (model X.prog X.w) X.A (setFlight u none)
        (fun _ t2 => wpAny (model X.prog X.w) X.A
          (handleBy u X.env [.ExceptHandler (some (.Name x1 q1)) (some n) (st1 :: rest) pos'])
          (SP X pins D) X.xe t2) X.xe t1) X.xe t0)
    (fun u t0 xx => ?_) PassesOwn.looking).run [] s σ H D (I.toTry _) h) (fun f t1 hsp => ?_) (fun e t1 he => he)
  · -- the catch
    obtain ⟨a, B, sI, pins2, σ2, H2, cls, d, rfl, J0, nb, up, sky, na, os, ag, hm, hgo⟩ := xx
    have J : Inv X pins σ2 H2 sI := J0.ofTry okX
    rw [hs] at sky
    show wpAny (model X.prog X.w) X.A (noteFrame (.ref a) X.env) _ _ _
    refine Sky.land Zc.steady frs0 hf sky fun hA flA upA => ?_
    have JA : Inv X pins σ2 H2 { t0 with heap := hA } := J.landed nb flA.1 (up.trans upA) os ag
    obtain ⟨obA, fvA, heA, hzA, hdA⟩ := flA.there
    have notF : ∀ {g : Heap} {o : Obj} {fv : Array Value}, g.FunFrames B (X.env :: X.outer) → g.get? a = some o →
        o.data = .fields fv → a ∉ frs (X.env :: X.outer) := fun ff e dd hmem => by
      obtain ⟨_, o2, e2, hnf⟩ := ff.mem hmem
      rw [e] at e2
      cases e2
      exact hnf _ dd
    have nfr := notF flA.2.2.1 heA hdA
    have nL : a ≠ X.env.locals := fun z =>
      nfr (List.mem_filterMap.mpr ⟨X.env, List.mem_cons_self, by rw [hf, z]⟩)
    have nF : a ∉ X.fs := fun hmem => by
      obtain ⟨e, he, q⟩ := List.mem_filterMap.mp hmem
      exact nfr (List.mem_filterMap.mpr ⟨e, List.mem_cons_of_mem _ he, q⟩)
    have nI : sI.heap.get? a = none := by
      cases e : sI.heap.get? a with
      | none => rfl
      | some o =>
        have z := nb a o e (by rw [hs]; exact nfr)
        rw [flA.2.1] at z
        cases z
    have n0 : X.s_0.heap.get? a = none := by
      cases e : X.s_0.heap.get? a with
      | none => rfl
      | some o =>
        obtain ⟨o2, z⟩ := J.base.there a o e (by rw [hex]; exact fun q => nomatch q)
        rw [nI] at z
        cases z
    have npin : ∀ p ∈ X.pn ++ pins, p.1 ≠ a := fun p hp z => by
      have := (J.pin p hp).1
      rw [z, nI] at this
      cases this
    have SA := JA.suite heA hdA na nL nF
    refine wpAny_handleBy_cons (codeAny_handlers_test ?_) (by intro q; cases q)
    have nameIs : ∀ {Q : Value → Shared → Prop} {E : Value → Shared → Prop}, Q c1 { t0 with heap := hA } →
        wpAny (model X.prog X.w) (X.A.mark (some (.ref a))) (eval (.Name x1 q1) X.env) Q E { t0 with heap := hA } := fun q => by
      obtain ⟨hg, hdbg, hm2 | ⟨hm2, hv, hnn⟩⟩ := n1
      · exact ld_glob (X := X.suite a ((a, obA) :: (X.pn ++ pins))) SA hg hm2 q hdbg
      · exact ld_blt (X := X.suite a ((a, obA) :: (X.pn ++ pins))) SA hg hm2 hv q hnn hdbg
    have LT : PySem.W.Looks (model X.prog X.w) hA (typeOf (.ref a)) cls := fun A Q E u k q =>
      wpAny_typeOf_ref (k _ _ heA) (by rw [hzA.1]; exact q)
    have LM := PySem.W.exm_one (M := model X.prog X.w) (JA.kIn) LT hm
    refine nameIs (LM.here ?_)
    refine codeAny_handlers_suite_as ?_
    refine HandSPX.lands_againZ flA fun hB flB upB => ?_
    have JB : Inv X pins σ2 H2 { t0 with heap := hB } := J.landed nb flB.1 ((up.trans upA).trans upB) os ag
    obtain ⟨obB, fvB, heB, hzB, hdB⟩ := flB.there
    have SB := JB.suite heB hdB na nL nF
    refine store_ok (X := X.suite a ((a, obB) :: (X.pn ++ pins))) (v := .ref a) SB hN hi lc rfl (fun t5 S5 => ?_) (.inr hln)
    refine wpAny_mono ((hsu a obB cls d (X.pn ++ pins) hzB ⟨_, hdB⟩).run [] t5 _ H2 _ S5 (hgo a na)) (fun f t6 hsp => ?_) (fun _ _ z => False.elim z)
    cases f with
    | next =>
      obtain ⟨σ6, H6, S6, q6⟩ := hsp
      have P6 : Inv X ((a, obB) :: pins) σ6 H6 t6 := (S6.unsuite okX).pins_of fun p hp => by
        rcases List.mem_cons.mp hp with e | hp
        · rw [e]
          exact S6.pin (a, obB) (List.mem_append_left _ List.mem_cons_self)
        · exact S6.pin p (List.mem_append_left _ (List.mem_cons_of_mem _ (List.mem_append_right _ hp)))
      refine gone_ok P6 hN hi hln fun t7 J7 => ?_
      have pa := J7.pin (a, obB) (List.mem_append_right _ List.mem_cons_self)
      have J8 : Inv X pins (σ6.set i none) H6 t7 := J7.pins_of fun p hp => J7.pin p (List.mem_append_right _ (List.mem_cons_of_mem _ hp))
      refine ⟨_, _, told_now (o := ExI cls d a) J8 pa.2.1 n0 nL (fun x c e z => ?_) npin (exI_ok pa.1 hzB hdB), q6⟩
      obtain ⟨v, o, ho, hcd⟩ := J8.cell x c e
      rw [z, pa.1] at ho
      cases ho
      exact pa.2.2.2.2 v hcd
    | ret u =>
      obtain ⟨v6, σ6, H6, S6, r6, q6⟩ := hsp
      exact q6.elim
    | brk =>
      obtain ⟨σ6, H6, S6, q6⟩ := hsp
      exact False.elim q6
    | cont =>
      obtain ⟨σ6, H6, S6, q6⟩ := hsp
      exact False.elim q6
  · cases f with
    | next =>
      obtain ⟨σ2, H2, J2, q⟩ := hsp
      exact wpAny_execs_nil ⟨σ2, H2, J2.ofTry okX, q⟩
    | ret u =>
      obtain ⟨v, σ2, H2, J2, r, q⟩ := hsp
      exact ⟨v, σ2, H2, J2.ofTry okX, r, q⟩
    | brk =>
      obtain ⟨σ2, H2, J2, q⟩ := hsp
      exact ⟨σ2, H2, J2.ofTry okX, q⟩
    | cont =>
      obtain ⟨σ2, H2, J2, q⟩ := hsp
      exact ⟨σ2, H2, J2.ofTry okX, q⟩
/-! ### a promise that may raise, kept where nothing is raised -/
theorem FnOk.calm {P : Program} {w : World} {K : PySem.W.Frag} {mg : Str → Option Value} {base : Heap} {k : Nat} {f : Addr} {fd : FuncData} {ps : List Str} {sp sp' : Sp} (F : FnOk P w K mg base (L2.CX P w) k f fd ps sp)
    (h : ∀ vs H Q E, sp' vs H Q E → sp vs H Q E0) : FnOk P w K mg base CX0 k f fd ps sp' where
  len := fun vs H Q E z => F.len vs H Q E0 (h vs H Q E z)
  run := fun A outer s H args us vs Q E hr e0 hb r z => by
    refine codeAny_mono (F.run A outer s H args us vs Q E0 hr e0 hb r (h _ _ _ _ z)) fun r s' hq => ?_
    cases r with
    | error e =>
      obtain ⟨_, _, _, _, _, _, _, _, _, _, _, _, z⟩ := show L2.CX P w outer H s E0 e s' from hq
      exact False.elim z
    | ok fl => cases fl <;> exact hq
end Pf


namespace Pf
open PySem PySem.Spec PyProof.Rows L2 LamX
section
variable {P : Program} {w : World} {K : PySem.W.Frag} {mg : Str → Option Value} {base : Heap}
/-! ### what behind a refusal is never reached -/
theorem pss_void {X : Cx} {l : List Stmt} : PSs X l (fun _ _ _ => False) := ⟨fun _ _ _ _ _ _ h => h.elim⟩
/-- two promises of one def: it may be asked by either -/
theorem FnOk.orX {k : Nat} {f : Addr} {fd : FuncData} {ps : List Str} {sp1 sp2 : Sp} (F : FnOk P w K mg base CX0 k f fd ps sp1) (G : FnOk P w K mg base (L2.CX P w) k f fd ps sp2) :
    FnOk P w K mg base (L2.CX P w) k f fd ps (fun vs H Q E => sp1 vs H Q L2.E0 ∨ sp2 vs H Q E) where
  len := fun vs H Q E z => z.elim (F.len vs H Q _) (G.len vs H Q _)
  run := fun A outer s H args us vs Q E hr e0 hb r z => by
    rcases z with z | z
    · refine codeAny_mono (F.run A outer s H args us vs Q L2.E0 hr e0 hb r z) fun r s' hq => ?_
      cases r with
      | error e => exact (show False from hq).elim
      | ok fl => cases fl <;> exact hq
    · exact G.run A outer s H args us vs Q E hr e0 hb r z
/-! ### defs that make lambdas: the code object that they run is known -/
theorem Fun.okC {x qual : Str} {st : Stmt} {f : Addr} {fd : FuncData} {N ps : List Str} {k : Nat} {sp : Sp} (F : Fun K x qual st f fd) (S : FnScope N ps (defScope st)) (len : ∀ vs H Q E, sp vs H Q E → vs.length = ps.length)
    (body : ∀ (cdv : Value) (A : Around) (outer : List Env) (s : Shared) (H : Hp) (vs : List V) (Q : VK) (E : XK), fd.code = cdv → Room k (A.deeper (envOfC qual (defScope st) s.heap.objs.size f cdv)) → sp vs H Q E →
      ∃ t, PSs (cxOf CX0 P w K mg base N qual (defScope st) f cdv A outer s H E).nox (defBody st) t ∧ t { nx := fun _ H' => Q .non H', rt := Q } (start N vs) H) : FnOk P w K mg base CX0 (k + 1) f fd ps sp := by
  obtain ⟨oc, od, kV, doc, pm, an, cdv, ct, osl, rfl, look, code⟩ := F.ex
  refine fn_of look code S len fun A outer s H vs Q E hr h => ?_
  obtain ⟨t, d, z⟩ := body cdv A outer s H vs Q E rfl hr h
  exact ⟨t, d.nox, z⟩
theorem FnG.ofC {k : Nat} {f : Addr} {fd : FuncData} {x qual : Str} {st : Stmt} {N ps : List Str} {sp : Sp} (F : Fun K x qual st f fd) (S : FnScope N ps (defScope st))
    (room : Room (k + 1) callerA) (len : ∀ vs H Q E, sp vs H Q E → vs.length = ps.length)
    (body : ∀ (cdv : Value) (s : Shared) (H : Hp) (vs : List V) (Q : VK) (E : XK), fd.code = cdv → Room k (callerA.deeper (envOfC qual (defScope st) s.heap.objs.size f cdv)) → (callerA.deeper (envOfC qual (defScope st) s.heap.objs.size f cdv)).guards = some [] → sp vs H Q E →
      ∃ t, PSs (cxOf CX0 P w K mg base N qual (defScope st) f cdv callerA [] s H E).nox (defBody st) t ∧ t { nx := fun _ H' => Q .non H', rt := Q } (start N vs) H) : FnG P w K mg base f fd ps sp := by
  obtain ⟨oc, od, kV, doc, pm, an, cdv, ct, osl, rfl, lk, hcd⟩ := F.ex
  refine ⟨fun s H args us vs Q E env0 bnd rel hsp => ?_⟩
  have inS : K.In s.heap := env0.mod.kin.keeps fun b o e => (env0.bs b o e).1
  have limS : s.heap.NoLimit := env0.mod.nolimit.keeps fun b o e => (env0.bs b o e).1
  have kinds : ∀ y ∈ ps.zip us, (defScope st).names.lookup y.1 = some .local ∨ ((defScope st).names.lookup y.1 = some .cell ∧ ((cellsFrom (s.heap.objs.size + 1) (defScope st).names []).lookup y.1).isSome = true) := by
    rintro ⟨n, v⟩ hy
    cases S.par n (List.of_mem_zip hy).1 with
    | inl q => exact .inl q
    | inr q => exact .inr ⟨q, PySem.W.cellsFrom_some _ _ _ (.inl q)⟩
  refine codeAny_call_function room.depth (inS _ _ lk) rfl S.co S.gen rfl (PySem.W.codeRec_of inS hcd) (bnd _ _ _ _ ?_)
  refine wpAny_newFunctionEnv_cells S.kind kinds fun env0' he s1 inC => ?_
  subst he
  refine ⟨limS.keeps inC.toInCall.keep, codeAny_func ?_⟩
  obtain ⟨t, ht, hq⟩ := body cdv s H vs Q E rfl (room.deeper _) rfl hsp
  have I0 : Inv (cxOf CX0 P w K mg base N qual (defScope st) f cdv callerA [] s H E) [] (start N vs) H s1 := inv_start S room.hd env0 (len _ _ _ _ hsp) rel inC
  refine wpAny_mono (ht.nox.run [] s1 (start N vs) H _ I0 hq) (fun fl s' hs => ?_) fun _ _ z => z
  cases fl with
  | ret u =>
    obtain ⟨v, σ', H', J, rv, q⟩ := hs
    exact ⟨v, H', J.os, J.bare, J.base, J.hok, rv, q⟩
  | next =>
    obtain ⟨σ', H', J, q⟩ := hs
    exact ⟨.non, H', J.os, J.bare, J.base, J.hok, rfl, q⟩
  | brk => exact False.elim (by obtain ⟨_, _, _, q⟩ := hs; exact q)
  | cont => exact False.elim (by obtain ⟨_, _, _, q⟩ := hs; exact q)
/-! ### a def that is handed a lambda, and calls it -/
/-- TT: what it makes of the lambda's reading -/
structure CaL (P : Program) (w : World) (K : PySem.W.Frag) (mg : Str → Option Value) (base : Heap) (x : Str) (TT : (XK → Hp → VK → Prop) → Hp → VK → Prop) : Prop where
  ex : ∃ (st : Stmt) (Ng : List Str) (a : Str) (g : Addr) (od an : Option Addr) (oc kV doc pm cdv ct : Value) (osl : Array (Option Value)),
    mg x = some (.ref g) ∧ PySem.W.keepIn K (.ref g) = true ∧ K.lookup g = some ⟨oc, od, .func (PySem.W.fnOf x x (defArgs st) (defBody st) (defScope st) .none kV doc pm an cdv ct), osl⟩ ∧ PySem.W.codeIn K cdv x = true ∧
    Binds K (PySem.W.fnOf x x (defArgs st) (defBody st) (defScope st) .none kV doc pm an cdv ct) [a] [] ∧ FnScope Ng [a] (defScope st) ∧ Ng[0]? = some a ∧ Vis (defScope st) a ∧ (a == ("__debug__" : Str)) = false ∧ (a == ("__classdict__" : Str)) = false ∧
    ∀ (X : Cx) (q : Str), GivesTo { X with prog := P, w := w, K := K, mg := mg, base := base } Ng x (defScope st) g cdv (defBody st) a q TT
theorem pe_lam {X : Cx} {T : List (Addr × Str)} {TT : (XK → Hp → VK → Prop) → Hp → VK → Prop} {x : Str} {c P : Addr} {k : Nat} {params : Arguments} {body : Expr} {scope : Scope} {t : XK → TE} {p lpos pos : Pos}
    (C : CaL X.prog X.w X.K X.mg X.base x TT) (hg : Gl X x) (TB : TabB X.base X.mg c P) (hcode : X.env.code = .ref c) (hmT : (P, X.env.qual ++ "<lambda>") ∈ T) (hu : ∀ p ∈ T, p.1 = P → p.2 = X.env.qual ++ "<lambda>")
    (hr : Room (k + 2) X.A) (L : LamS X.env.scope scope) (hdef : defaultsOf params X.env = ([], []))
    (hbind : ∀ (q : Str) (cl : List (Str × Addr)) (pm cv ctv : Value), bindArgs (PySem.W.kla_fn "<lambda>" q params body scope cl pm cv ctv) ⟨[], []⟩ = pure [])
    (hbody : ∀ (A : Around) (outer : List Env) (s : Shared) (H : Hp) (E : XK) (f c' : Addr), Room k (A.deeper (lamEnv X scope s.heap.objs.size f c')) → PE (lamCx X A outer s H E scope f c') body (t E))
    (hdb : (x == ("__debug__" : Str)) = false := by decide) : PE X (.Call (.Name x p) [.Lambda params body scope lpos] [] pos) (tLam T TT t) := by
  obtain ⟨st, Ng, a, g, od, an, oc, kV, doc, pm, cdv, ct, osl, e1, e2, e3, e4, e5, e6, e7, e8, e9, e10, e11⟩ := C.ex
  exact pe_lamcall hg e1 e2 e3 e4 e5 e6 e7 e8 (e11 X _) TB hcode hmT hu hr L hdef hbind hbody hdb e9 e10
theorem takes_len {X : Cx} {W : WX} (tk : Takes X W) : Takes X (fun c d σ H => σ.length = X.N.length → W c d σ H) := fun u s' z => by
  obtain ⟨a, B, sI, pins, σ, H, cls, d, e, I, nb, up, sky, na, os, ag, hw⟩ := z
  exact tk u s' ⟨a, B, sI, pins, σ, H, cls, d, e, I, nb, up, sky, na, os, ag, hw I.len⟩
/-- the row a() of such a def, within its try -/
def tAsk (f c' : Addr) (q : Str) (n : Nat) (tl : XK → Hp → VK → Prop) (W : WX) : TS := fun D σ H =>
  ∃ E1 : XK, (∀ cls d σ' H', σ'.length = n → E1 cls d H' → W cls d σ' H') ∧ σ[0]? = some (some (.ref f)) ∧ H c' = some (CodeO c' q) ∧ tl E1 H fun _ H' => D.nx σ H'
theorem pss_ask {X : Cx} {Ng : List Str} {x a q : Str} {sg : Scope} {g f c' : Addr} {cdg : Value} {s : Shared} {H : Hp} {tl : XK → Hp → VK → Prop} {W : WX} {pn : List (Addr × Obj)} {xe : Value → Shared → Prop} {p1 p2 p3 : Pos}
    (act : ∀ (W : WX) (pn : List (Addr × Obj)) (xe : Value → Shared → Prop) (E : XK) (p1 p2 : Pos), Takes ((cxOf C8.CX0 X.prog X.w X.K X.mg X.base Ng x sg g cdg X.A X.stack s H C8.E0).tr pn xe) W → (∀ cls d σ' H', E cls d H' → W cls d σ' H') →
      PE ((cxOf C8.CX0 X.prog X.w X.K X.mg X.base Ng x sg g cdg X.A X.stack s H C8.E0).tr pn xe) (.Call (.Name a p1) [] [] p2) (fun σZ HZ Q => σZ[0]? = some (some (.ref f)) ∧ HZ c' = some (CodeO c' q) ∧ tl E HZ Q))
    (tk : Takes ((cxOf C8.CX0 X.prog X.w X.K X.mg X.base Ng x sg g cdg X.A X.stack s H C8.E0).nox.tr pn xe) W) :
    PSs ((cxOf C8.CX0 X.prog X.w X.K X.mg X.base Ng x sg g cdg X.A X.stack s H C8.E0).nox.tr pn xe) [.Expr (.Call (.Name a p1) [] [] p2) p3] (tAsk f c' q Ng.length tl W) := by
  refine ⟨fun pins s' σ H' D I h' => ?_⟩
  obtain ⟨E1, hW, h1, h2, h3⟩ := h'
  have tk2 := takes_len tk
  have hp := act (fun c d σ H => σ.length = Ng.length → W c d σ H) pn xe E1 p1 p2 tk2 (fun cls d σ' H' hE hl => hW cls d σ' H' hl hE)
  exact (pss_one (ps_expr (pos := p3) hp)).run pins s' σ H' D I ⟨h1, h2, h3⟩
end
/-! ### what stays where tables of code objects grow -/
theorem ExtN.ext {H H' : Hp} (k : Ext H H') : ExtN H H' := fun b o e _ => k b o e
theorem ExtN.tr {H H1 H2 : Hp} (a : ExtN H H1) (b : ExtN H1 H2) : ExtN H H2 := a.trans b
theorem ExtN.tupk {H H' : Hp} (k : ExtN H H') : TupK H H' := ⟨fun b xs e => k b _ e (fun _ z => by cases z), fun b o u e => k b _ e (fun _ z => by cases z)⟩
theorem ExtN.upd {H H' : Hp} {l : Addr} {o : HO} (k : ExtN H H') (h : H l = none) : ExtN H (upd H' l o) := fun b u e n => by
  rw [upd_ne (ne_of_none e h)]
  exact k b u e n
theorem tabs_lst {T : List (Addr × Str)} {H : Hp} {l : Addr} {xs ys : List V} (t : Tabs T H) (h : H l = some (.lst xs)) : Tabs T (L2.upd H l (.lst ys)) := fun p hp => by
  obtain ⟨ps, h1, h2, h3⟩ := t p hp
  refine ⟨ps, ?_, h2, fun pos cv hc => ?_⟩
  · rw [upd_ne (fun z => by rw [z, h] at h1; cases h1)]
    exact h1
  · obtain ⟨c, e1, e2⟩ := h3 pos cv hc
    refine ⟨c, e1, ?_⟩
    rw [upd_ne (fun z => by rw [z, h] at e2; unfold CodeO at e2; cases e2)]
    exact e2
theorem Kp.tabs {T : List (Addr × Str)} {p : Addr} {H H' : Hp} {xs : List V} (k : Kp p H H') (hp : H p = Option.some (.lst xs)) (t : Tabs T H) : Tabs T H' := fun q hq => by
  obtain ⟨ps, h1, h2, h3⟩ := t q hq
  refine ⟨ps, k _ _ (fun z => ?_) h1, h2, fun pos cv hc => ?_⟩
  · rw [z, hp] at h1
    cases h1
  · obtain ⟨c, e1, e2⟩ := h3 pos cv hc
    refine ⟨c, e1, k _ _ (fun z => ?_) e2⟩
    rw [z, hp] at e2
    unfold CodeO at e2
    cases e2
/-! ### the end of a law, with tables -/
def HasTab (mg : Str → Option Value) (h : Heap) (x : Str) : Prop := ∃ (a : Addr) (o : Obj) (fd : FuncData) (c P : Addr), mg x = some (.ref a) ∧ h.get? a = some o ∧ o.data = .func fd ∧ fd.code = .ref c ∧ PySem.W.CodeHd h c P ∧ h.get? P = some { cls := .none, data := .fields #[] }
theorem hasTab_at {K : PySem.W.Frag} {h : Heap} {mg : Str → Option Value} {x : Str} {f c P : Addr} {oc e : Value} {od dd : Option Addr} {fd : FuncData} {sl sl2 : Array (Option Value)} {vs : Array Value} (T : HasTab mg h x) (X : K.In h) (hm : mg x = some (.ref f))
    (l : K.lookup f = some ⟨oc, od, .func fd, sl⟩) (hc : fd.code = .ref c) (tc : K.lookup c = some ⟨e, dd, .fields vs, sl2⟩) (h11 : vs[11]? = some (.ref P)) : PySem.W.CodeHd h c P ∧ h.get? P = some { cls := .none, data := .fields #[] } := by
  obtain ⟨a, o, fd2, c2, P2, g1, g2, g3, g4, g5, g6⟩ := T
  rw [hm] at g1
  cases g1
  rw [X _ _ l] at g2
  cases g2
  cases g3
  rw [hc] at g4
  cases g4
  have g5' := g5
  obtain ⟨o3, us, file, tf, flags, tg, inF, text, tt, k1, k2, k3, k4, _⟩ := g5'
  rw [X _ _ tc] at k1
  cases k1
  cases k3
  rw [h11] at k4
  cases k4
  exact ⟨g5, g6⟩
end Pf


namespace Pf
open PySem PySem.Spec PyProof.Rows L2 LamX
/-- the end of a law's own call, with tables of code objects: from an abstract heap that holds the script or not, and the tables -/
theorem FnG.endsT {P : Program} {w : World} {K : PySem.W.Frag} {mg mb : Str → Option Value} {fa a : Addr} {tabs : List (Addr × Addr)} {fd : FuncData} {x : Str} {sp : Sp} {s1 : Shared} {vs : List Value} {ns : List Int}
    (inK : K.In s1.heap) (gl : s1.heap.Ns mainGlobals mg) (bl : s1.heap.Ns builtinsNs mb) (bb : ∀ x : Str, x ≠ "__name__" → mb x = bootBuiltins x) (lim : s1.heap.NoLimit) (gens : s1.gens = #[])
    (tabE : ∀ p ∈ tabs, s1.heap.get? p.2 = some { cls := .none, data := .fields #[] }) (tabK : ∀ p ∈ tabs, K.lookup p.2 = none) (tabC : ∀ p ∈ tabs, PySem.W.CodeHd s1.heap p.1 p.2)
    (bmain : ∃ (bm : Addr) (ob : Obj), mg "__builtins__" = some (.ref bm) ∧ bm ≠ builtinsNs ∧ s1.heap.get? bm = some ob ∧ ob.cls = .type "module" ∧ ob.dict = some builtinsNs ∧ ob.data = .plain)
    (hscr : s1.heap.get? a = some { cls := .type "list", data := .seq vs.toArray }) (hin : IntsAre vs ns)
    (F : ∀ base : Heap, K.In base → base.Ns mainGlobals mg → (∀ p ∈ tabs, TabB base mg p.1 p.2) → FnG P w K mg base fa fd [x] sp) (bnd : ∀ (s : Shared) (u : Value), BindsTo s fd ⟨[u], []⟩ [(x, u)])
    {H : Hp} (only : ∀ b, H b = none ∨ b ∈ tabs.map (·.2) ∨ ∃ o xs, H b = some (.frz o (.lst xs))) (tabH : ∀ p ∈ tabs, H p.2 = some (.tbl #[])) (hsp : sp [.ref a] H (fun v _ => v = .bl true) fun _ _ _ => False) (hok : HOk P w H s1.heap)
    (hA : ∀ b, H b ≠ none → b = a ∨ b ∈ tabs.map (·.2)) (hK : H a ≠ none → K.lookup a = none) :
    codeAny (model P w) callerA (.call (.ref fa) ⟨[.ref a], []⟩) (fun r s' => r = .ok (.ret (.bool true)) ∧ OldK s1.heap s'.heap ∧ s'.os = s1.os ∧ AllBare s'.gens) s1 := by
  have mem_tab : ∀ {b : Addr}, b ∈ tabs.map (·.2) → ∃ p ∈ tabs, p.2 = b := fun hb => by
    obtain ⟨p, hp, e⟩ := List.mem_map.mp hb
    exact ⟨p, hp, e⟩
  have hid : ∀ {b : Addr} {o : Obj}, s1.heap.get? b = some o → H b = none → (hidT s1.heap H).get? b = some o := fun e n => hidT_get e n
  -- what is no list and no empty table is not tracked
  have loose : ∀ {b : Addr} {o : Obj}, s1.heap.get? b = some o → (∀ (us : Array Value) (n : Nat), o.data ≠ .seq us n) → (o.data ≠ .fields #[]) → H b = none := by
    intro b o e n1 n2
    cases q : H b with
    | none => rfl
    | some u =>
      rcases hA b (by rw [q]; exact Option.some_ne_none _) with z | z
      · subst z
        rw [hscr] at e
        cases e
        exact absurd rfl (n1 _ _)
      · obtain ⟨p, hp, rfl⟩ := mem_tab z
        rw [tabE p hp] at e
        cases e
        exact absurd rfl n2
  have nsH : ∀ {b : Addr} {m : Str → Option Value}, s1.heap.Ns b m → (hidT s1.heap H).Ns b m := by
    rintro b m ⟨o, es, ep, e, d, r⟩
    exact ⟨o, es, ep, hid e (loose e (fun us n z => by rw [d] at z; cases z) fun z => by rw [d] at z; cases z), d, r⟩
  have inB : K.In (hidT s1.heap H) := by
    intro b o e
    refine hid (inK b o e) ?_
    cases q : H b with
    | none => rfl
    | some u =>
      rcases hA b (by rw [q]; exact Option.some_ne_none _) with z | z
      · subst z
        rw [hK (by rw [q]; exact Option.some_ne_none _)] at e
        cases e
      · obtain ⟨p, hp, rfl⟩ := mem_tab z
        rw [tabK p hp] at e
        cases e
  have limB : (hidT s1.heap H).NoLimit := by
    obtain ⟨mc, h1, h2⟩ := lim
    exact ⟨mc, nsH h1, h2⟩
  have tabB : ∀ p ∈ tabs, TabB (hidT s1.heap H) mg p.1 p.2 := by
    intro p hp
    have eT := tabE p hp
    constructor
    · obtain ⟨o, us, file, tf, flags, tg, inF, text, tt, k1, k2, k3, k4, k5⟩ := tabC p hp
      refine ⟨o, us, file, tf, flags, tg, inF, text, tt, hid k1 (loose k1 (fun _ _ z => by rw [k3] at z; cases z) fun z => ?_), k2, k3, k4, k5⟩
      rw [k3] at z
      injection z with z
      rw [z] at k4
      cases k4
    · obtain ⟨bm, ob, b1, b2, b3, b4, b5, b6⟩ := bmain
      refine ⟨bm, ob, b1, b2, fun z => ?_, fun z => ?_, hid b3 (loose b3 (fun _ _ z => by rw [b6] at z; cases z) fun z => by rw [b6] at z; cases z), b4, b5, b6⟩
      · obtain ⟨o, es, ep, e, d, _⟩ := gl
        rw [← z, b3] at e
        cases e
        rw [d] at b6
        cases b6
      · rw [z, eT] at b3
        cases b3
        cases b6
    · intro z
      obtain ⟨o, es, ep, e, d, _⟩ := gl
      rw [z, eT] at e
      cases e
      cases d
  have env0 : Env0 P w K mg (hidT s1.heap H) callerA [] s1 H :=
    ⟨rfl, ⟨inB, nsH gl, ⟨mb, nsH bl, bb⟩, limB⟩, fun b o e => of_hidT e, Nat.le_of_eq (hidT_size _ _), trivial, fun b hb => (nomatch (show b ∈ ([] : List Addr) from hb)), hok, .of_eq gens⟩
  refine codeAny_mono ((F _ inB (nsH gl) tabB).run s1 H ⟨[.ref a], []⟩ [.ref a] [.ref a] _ _ env0 (bnd s1 (.ref a)) (.cons rfl .nil) hsp) fun r s' h => ?_
  match r, h with
  | .error _, h => exact False.elim h
  | .ok .next, h => exact False.elim h
  | .ok .brk, h => exact False.elim h
  | .ok .cont, h => exact False.elim h
  | .ok (.ret u), h =>
    obtain ⟨v, H', os, bare, un, hok', rel, q⟩ := h
    obtain rfl : v = .bl true := q
    obtain rfl : u = Value.bool true := rel
    have kept : ∀ b o, b ∉ tabs.map (·.2) → s1.heap.get? b = some o → s'.heap.get? b = some o := by
      intro b o nb e
      cases q : H b with
      | none => exact un.keep b o e q (fun z => (nomatch (show b ∈ ([] : List Addr) from z))) (by simp)
      | some u =>
        rcases only b with z | z | ⟨ob, xs, z⟩
        · rw [q] at z; cases z
        · exact absurd z nb
        · have now := (hok' b _ (un.frzs b ob _ z)).1
          have was := (hok b _ z).1
          rw [e] at was
          cases was
          exact now
    have grew : ∀ p ∈ tabs, ∃ more : Array Value, s'.heap.get? p.2 = some { cls := .none, data := .fields more } := by
      intro p hp
      obtain ⟨more, z⟩ := un.tbls p.2 #[] (tabH p hp)
      have z2 := hok' p.2 _ z
      exact ⟨_, z2⟩
    refine ⟨rfl, ⟨fun b o e => ?_, fun b o e => ?_⟩, os, bare⟩
    · by_cases hb : b ∈ tabs.map (·.2)
      · obtain ⟨p, hp, rfl⟩ := mem_tab hb
        obtain ⟨more, hm⟩ := grew p hp
        have eT := tabE p hp
        rw [eT] at e
        cases e
        refine .inr (.inl ⟨((tabC p hp).tab eT).isCodeTable, rfl, #[], more, rfl, ?_⟩)
        rw [Array.empty_append]
        exact hm
      · exact .inl (kept b o hb e)
    · by_cases hb : b ∈ tabs.map (·.2)
      · obtain ⟨p, hp, rfl⟩ := mem_tab hb
        obtain ⟨more, hm⟩ := grew p hp
        exact ⟨_, hm⟩
      · exact ⟨o, kept b o hb e⟩
theorem walk_gT {l : PySem.W.OpenLaw} {n : Nat} {q : Program} {loose : List Str} {XP : (Str → Option Value) → Heap → Prop} {YP : World → Heap → Prop} {d : DefRec} {K : Params → PySem.W.Frag} {x : Str} (ds : List Str)
    (hn : l.most = some n) (hn2 : n ≤ sizeLine) (hdf : d.params.defaults = []) (hds : (ds.all fun y => (recsOf q).any fun e => e.name == y) = true) (hY : ∀ (w : World) (h : Heap), YP w h → (K w.params).In h)
    (F : ∀ (w : World) (mg : Str → Option Value) (fa : Addr) (h : Heap), (K w.params).In h → h.Ns mainGlobals mg → mg d.name = some (.ref fa) → (∀ y ∈ ds, HasTab mg h y) →
      ∃ (fd : FuncData) (tabs : List (Addr × Addr)) (sp : Sp), (∀ p ∈ tabs, h.get? p.2 = some { cls := .none, data := .fields #[] }) ∧ (∀ p ∈ tabs, (K w.params).lookup p.2 = none) ∧ (∀ p ∈ tabs, PySem.W.CodeHd h p.1 p.2) ∧
        (∀ (s : Shared) (u : Value), BindsTo s fd ⟨[u], []⟩ [(x, u)]) ∧
        (∀ (H : Hp) (a : Addr) (ns : List Int), ns.length ≤ n → (∀ p ∈ tabs, H p.2 = some (.tbl #[])) → SqL (K w.params) H a (ns.map V.int) → sp [.ref a] H (fun v _ => v = .bl true) fun _ _ _ => False) ∧
        ∀ base : Heap, (K w.params).In base → base.Ns mainGlobals mg → (∀ p ∈ tabs, TabB base mg p.1 p.2) → FnG l.prog w (K w.params) mg base fa fd [x] sp) :
    PySem.W.WalkO q loose XP YP l.row.toRowW d [] (fun f vs => PySem.call f vs) := by
  refine Att.attach_call hn hdf fun w s0 s1 mg mb fa o pm cd doc a vs ns G Y ho hd hcd hmg hobj hints hlen hg => ?_
  have inK := hY w _ Y
  have has : ∀ y ∈ ds, HasTab mg s1.heap y := by
    intro y hy
    obtain ⟨e, he, en⟩ := List.any_eq_true.mp (List.all_eq_true.mp hds y hy)
    have en : e.name = y := beq_iff_eq.mp en
    obtain ⟨b, ob, fb, cb, pb, h1, h2, h3, h4, h5, h6⟩ := G.T.tab e he
    rw [en] at h1
    have h7 := h6.2
    exact ⟨b, ob, fb, cb, pb, h1, h2, h3, h4, PySem.W.CodeHd.of h5 h6, h7⟩
  obtain ⟨fd, tabs, sp, tabE, tabK, tabC, bnd, hsp, hF⟩ := F w mg fa _ inK G.T.g hmg has
  have szs : ns.length ≤ sizeLine := Nat.le_trans hlen hn2
  have vals := vals_ints hints
  have memT : ∀ p ∈ tabs, p.2 ∈ tabs.map (·.2) := fun p hp => List.mem_map.mpr ⟨p, hp, rfl⟩
  have isT : ∀ b, b ∈ tabs.map (·.2) → s1.heap.get? b = some { cls := .none, data := .fields #[] } := fun b hb => by
    obtain ⟨p, hp, e⟩ := List.mem_map.mp hb
    rw [← e]
    exact tabE p hp
  have aT : a ∉ tabs.map (·.2) := fun z => by
    have e := isT a z
    rw [hobj] at e
    cases e
  cases hk : (K w.params).lookup a with
  | some ob =>
    have e := inK a ob hk
    rw [hobj] at e
    cases e
    refine FnG.endsT inK G.T.g G.T.b G.T.builtins G.T.nolimit hg tabE tabK tabC G.T.bmain hobj hints hF bnd (H := fun b => if b ∈ tabs.map (·.2) then some (.tbl #[]) else none) (fun b => ?_) (fun p hp => if_pos (memT p hp))
      (hsp _ a ns hlen (fun p hp => if_pos (memT p hp)) (.inr ⟨_, vs.toArray, _, hk, rfl, rfl, rfl, by rw [List.size_toArray, hints.length]; exact szs, by simpa using vals⟩)) (fun b u z => ?_) (fun b z => ?_) fun z => absurd (if_neg aT) z
    · by_cases hb : b ∈ tabs.map (·.2)
      · exact .inr (.inl hb)
      · exact .inl (if_neg hb)
    · by_cases hb : b ∈ tabs.map (·.2)
      · have y := (if_pos hb).symm.trans z
        cases y
        exact isT b hb
      · have y := (if_neg hb).symm.trans z
        cases y
    · by_cases hb : b ∈ tabs.map (·.2)
      · exact .inr hb
      · exact absurd (if_neg hb) z
  | none =>
    have nA : ∀ p ∈ tabs, ¬ p.2 = a := fun p hp z => aT (by rw [← z]; exact memT p hp)
    refine FnG.endsT inK G.T.g G.T.b G.T.builtins G.T.nolimit hg tabE tabK tabC G.T.bmain hobj hints hF bnd (H := fun b => if b = a then some (.frz { cls := .type "list", data := .seq vs.toArray } (.lst (ns.map V.int))) else if b ∈ tabs.map (·.2) then some (.tbl #[]) else none) (fun b => ?_)
      (fun p hp => (if_neg (nA p hp)).trans (if_pos (memT p hp))) (hsp _ a ns hlen (fun p hp => (if_neg (nA p hp)).trans (if_pos (memT p hp))) (.inl (.inr ⟨_, if_pos rfl⟩))) (fun b u z => ?_) (fun b z => ?_) fun _ => hk
    · by_cases h : b = a
      · exact .inr (.inr ⟨_, _, if_pos h⟩)
      · by_cases hb : b ∈ tabs.map (·.2)
        · exact .inr (.inl hb)
        · exact .inl ((if_neg h).trans (if_neg hb))
    · by_cases h : b = a
      · have y := (if_pos h).symm.trans z
        cases y
        subst h
        exact ⟨hobj, by rw [List.length_map]; exact szs, vs, _, vals, hobj⟩
      · have y := (if_neg h).symm.trans z
        by_cases hb : b ∈ tabs.map (·.2)
        · have y2 := (if_pos hb).symm.trans y
          cases y2
          exact isT b hb
        · have y2 := (if_neg hb).symm.trans y
          cases y2
    · by_cases h : b = a
      · exact .inl h
      · by_cases hb : b ∈ tabs.map (·.2)
        · exact .inr hb
        · exact absurd ((if_neg h).trans (if_neg hb)) z
end Pf


namespace Pf
open PySem PySem.Spec PyProof.Rows L2
/-! ### a tuple's items, gathered -/
section
variable {prog : Program} {w : World} {A : Around} {E : Value → Shared → Prop} {s : Shared}
theorem gather_tup {a : Addr} {us : List Value} {Q : List Value → Shared → Prop} (ht : s.heap.IsTuple a us.toArray) (hz : us.length ≤ sizeLine)
    (q : Q us { s with heap := (s.heap.push (seqObj "list" #[] 0)).update s.heap.objs.size (Obj.mapSeq (· ++ us.toArray)) }) : wpAny (model prog w) A (collect (.ref a)) Q E s := by
  obtain ⟨ob, hob, hcl, n, hda⟩ := id ht
  have hob1 : (s.heap.push (seqObj "list" #[] 0)).get? a = some ob := Heap.get?_push_of_some _ hob
  have hnew : (s.heap.push (seqObj "list" #[] 0)).get? s.heap.objs.size = some (seqObj "list" #[] 0) := Heap.get?_push_size _ rfl
  unfold collect
  refine wpAny_bind (wpAny_runValue ?_)
  refine codeAny_builtin entry_proto_collect' ?_
  show wpAny _ _ (do again (.builtin "list.__iadd__" ⟨[← newList [], .ref a], []⟩)) _ _ s
  refine wpAny_bind (wpAny_newList (wpAny_pure ⟨Code.quiet_builtin _ (by decide +kernel), ?_⟩))
  refine codeAny_builtin entry_list_iadd' ?_
  show wpAny _ _ (Builtin.List.listExtendWith (.ref s.heap.objs.size) (.ref a) _) _ _ { s with heap := s.heap.push (seqObj "list" #[] 0) }
  unfold Builtin.List.listExtendWith
  refine wpAny_bind (wpAny_typeOf (T := "tuple") ⟨ob, hob1, hcl⟩ ?_)
  rw [if_pos (by rw [show (Value.type "tuple" == Value.type "tuple") = true from rfl, Bool.or_true])]
  refine wpAny_bind (listItems_at hob1 hda ?_)
  refine wpAny_bind (listItems_at (xs := #[]) (n := 0) hnew rfl ?_)
  rw [if_neg (by simp)]
  have hsz : ((#[] : Array Value) ++ us.toArray).size ≤ sizeLine + 1 := by
    rw [Array.size_append, List.size_toArray]
    show 0 + us.length ≤ _
    omega
  refine wpAny_bind (listUpdate_at (xs := #[]) (n := 0) hnew rfl ?_ (Nat.zero_le _) hsz)
  refine wpAny_pure ?_
  refine wpAny_bind (wpAny_load (get?_update_seq hnew _) ?_)
  have e : ((#[] : Array Value) ++ us.toArray).toList = us := by simp
  show wpAny _ _ (pure ((#[] : Array Value) ++ us.toArray).toList) Q E _
  rw [e]
  exact wpAny_pure q
theorem sorted_tup {β : Type} {R : Value → β → Prop} {enc : β → PyData} {a : Addr} {us : List Value} {bs : List β} {Q : Value → Shared → Prop} (ht : s.heap.IsTuple a us.toArray) (e : PySem.W.EachIs R us bs) (er : PySem.W.EachIs (fun v b => ∃ as, Reads s.heap v (enc b) as) us bs) (al : PySem.W.AllAlike (bs.map enc)) (so : PySem.W.Sortable (bs.map enc))
    (hz : bs.length ≤ sizeLine) (hu : ∀ b, b ∈ bs → A.units + 2 + (enc b).depth < cLine) (q : ∀ out, out.length = bs.length → PySem.W.EachIs R out (bs.mergeSort (PySem.W.dataLe false enc)) → Q (.ref (s.heap.objs.size + 1)) { s with heap := sortedAll s.heap us out.toArray }) :
    wpAny (model prog w) A (call (.builtin "sorted") [.ref a]) Q E s := by
  have hul : us.length ≤ sizeLine := by
    rw [e.length]
    exact hz
  refine Calls.call_function_entry kind_sorted plain_sorted
    entry_sorted (args_sorted1 _) ?_
  unfold Builtin.«sorted»
  refine wpAny_bind (m := checkCount "sorted" 1 1 _) (wpAny_pure ?_)
  refine wpAny_bind (gather_tup ht hul ?_)
  refine wpAny_bind (wpAny_newList ?_ hul)
  have hsz : ((s.heap.push (seqObj "list" #[] 0)).update s.heap.objs.size (Obj.mapSeq (· ++ us.toArray))).objs.size = s.heap.objs.size + 1 := by
    rw [Heap.size_update, size_push']
  have er2 : PySem.W.EachIs (fun v b => ∃ as, Reads (PySem.W.copyHeap s.heap us) v (enc b) as ∧ s.heap.objs.size + 1 ∉ as) us bs := er.mono fun v b ⟨as, r⟩ => by
    refine ⟨as, PyProof.Rows.Reads.keeps (fun _ _ h => PySem.W.copyHeap_old h) r, fun hm => ?_⟩
    obtain ⟨o, ho⟩ := PyProof.On.reads_mem_get r _ hm
    exact absurd (Nat.lt_of_succ_lt (Heap.lt_size ho)) (Nat.lt_irrefl _)
  show wpAny _ _ _ _ _ { s with heap := PySem.W.copyHeap s.heap us }
  rw [hsz]
  refine wpAny_bind (wpAny_holding (PySem.W.list_sort_data (s := { s with heap := PySem.W.copyHeap s.heap us }) (PySem.W.copyHeap_at s.heap us) e er2 al so hz (fun b hb => ?_) fun out h1 h2 => ?_))
  · have := hu b hb
    have e1 : A.in1.units = A.units + 1 := rfl
    rw [e1]
    exact this
  · exact wpAny_pure ⟨_, rfl, q out h1 h2⟩
end
def rSortTD (K : PySem.W.Frag) : List V → Hp → VK → Prop := fun vs H Q => ∃ (β : Type) (v : β → V) (d : β → PyData) (a : Addr) (bs : List β), vs = [.ref a] ∧ SqT K H a (bs.map v) ∧ (∀ b ∈ bs, Dp K H (v b) (d b) ∧ (d b).depth ≤ 50) ∧
  PySem.W.AllAlike (bs.map d) ∧ PySem.W.Sortable (bs.map d) ∧ ∀ p, H p = none → Q (.ref p) (upd H p (.lst ((bs.mergeSort (PySem.W.dataLe false d)).map v)))
/-- sorted(xs), xs a tuple of data -/
theorem cr_sortTD (K : PySem.W.Frag) {X : Cx} (hu : X.A.units + 64 < cLine) (hK : X.K = K := by rfl) : CallR X (.builtin "sorted") (rSortTD K) := by
  subst hK
  intro pins s σ H vs us Q I r h
  obtain ⟨β, v, d, a, bs, rfl, hs, hd, al, so, q⟩ := h
  obtain ⟨u, rfl, rfl⟩ := vals1 r
  obtain ⟨its, rv, ht, hz⟩ := I.tuple hs
  rw [List.length_map] at hz
  refine sorted_tup (enc := d) (R := fun (u : Value) (b : β) => RelV (v b) u) (show s.heap.IsTuple a its.toArray from ht) (each_vals rv) (each_reads I rv fun b hb => (hd b hb).1) al so hz (fun b hb => by have := (hd b hb).2; omega) fun out hlen he => ?_
  obtain ⟨ep, he'⟩ := PyProof.Rows.sortedAll_at s.heap its out.toArray
  have hlen2 : ((bs.mergeSort (PySem.W.dataLe false d)).map v).length ≤ sizeLine := by
    rw [List.length_map, List.length_mergeSort]
    exact hz
  exact ⟨.ref _, upd H (s.heap.objs.size + 1) (.lst ((bs.mergeSort (PySem.W.dataLe false d)).map v)), I.laid (t' := s.toks) (fun _ _ => PyProof.Rows.sortedAll_old) (Nat.le_succ _) ⟨hlen2, out, ep, vals_each he, by simpa using he'⟩, rfl, q _ (I.hok.fresh (Nat.le_succ _))⟩
def rSortLT (K : PySem.W.Frag) : List V → Hp → VK → Prop := fun vs H Q => rSortD K vs H Q ∨ rSortTD K vs H Q
/-- sorted(xs), xs a list or a tuple of data -/
theorem cr_sortLT (K : PySem.W.Frag) {X : Cx} (hu : X.A.units + 64 < cLine) (hK : X.K = K := by rfl) : CallR X (.builtin "sorted") (rSortLT K) := fun pins s σ H vs us Q I r h => h.elim (cr_sortD K hu hK pins s σ H vs us Q I r) (cr_sortTD K hu hK pins s σ H vs us Q I r)
/-! ### going through a list or a tuple -/
def iSeq (K : PySem.W.Frag) (tl : TE) : TI := fun σ H R => tl σ H fun x H1 => ∃ a, x = .ref a ∧ (((∃ xs, SqL K H1 a xs) ∧ R (Itl K a) H1) ∨ ((∃ xs, SqT K H1 a xs) ∧ R (Itt K a) H1))
theorem pi_seq {X : Cx} {tg l : Expr} {tl : TE} (K : PySem.W.Frag) (hl : PE X l tl) (hK : X.K = K := by rfl) : PI X tg l (iSeq K tl) := by
  subst hK
  refine ⟨fun pins s σ H R I h => ?_⟩
  have h1 := hl.run pins s σ H _ I h
  refine thn h1 fun v s1 ⟨x, H1, I1, r1, q1⟩ => ?_
  obtain ⟨a, rfl, ⟨hq, q⟩ | ⟨hq, q⟩⟩ := q1
  · obtain ⟨xs, hq⟩ := hq
    cases r1
    obtain ⟨its, rv, hp, hz⟩ := I1.list hq
    refine wpAny_pyIter_list hp.isList ?_
    have kk := I1.kept (h' := s1.heap.push { cls := .type "list_iterator", data := .fields #[.ref a, .int 0 0] }) (t' := s1.toks) fun b o e => Heap.get?_push_of_some _ e
    exact ⟨s1.heap.objs.size, [s1.heap.objs.size], _, _, H1, rfl, kk, turn_list a _, ⟨_, Heap.get?_push_size _ rfl, rfl, rfl⟩, fun b hb => by
      rw [show b = s1.heap.objs.size by simpa using hb]
      exact I1.fpOk (Nat.le_refl s1.heap.objs.size) (I1.hok.fresh (Nat.le_refl _)), q⟩
  · obtain ⟨xs, hq⟩ := hq
    cases r1
    obtain ⟨its, rv, hp, hz⟩ := I1.tuple hq
    refine wpAny_pyIter_tuple (show s1.heap.IsTuple a its.toArray from hp) ?_
    exact ⟨s1.heap.objs.size, [s1.heap.objs.size], _, _, H1, rfl, I1.kept (t' := s1.toks) (fun b o e => Heap.get?_push_of_some _ e), turn_tuple a _, ⟨_, Heap.get?_push_size _ rfl, rfl, rfl⟩, fun b hb => by
      rw [show b = s1.heap.objs.size by simpa using hb]
      exact I1.fpOk (Nat.le_refl s1.heap.objs.size) (I1.hok.fresh (Nat.le_refl _)), q⟩
/-- a list (true) or a tuple -/
def bo (b : Bool) (us : List V) : HO := match b with
  | true => .lst us
  | false => .tup us
def Sq2 (K : PySem.W.Frag) (H : Hp) (a : Addr) (xs : List V) (b : Bool) : Prop := match b with
  | true => SqL K H a xs
  | false => SqT K H a xs
theorem Sq2.of {K : PySem.W.Frag} {H : Hp} {a : Addr} {xs : List V} {b : Bool} (h : H a = some (bo b xs)) : Sq2 K H a xs b := by
  cases b with
  | true => exact SqL.of h
  | false => exact SqT.of h
theorem for_seq {K : PySem.W.Frag} {a : Addr} {xs : List V} {b : Bool} {g : TG} {tb : TS} {D : Ends} {σ : L2.St} {H : Hp} (e : Sq2 K H a xs b) (Pv : Nat → L2.St → Hp → Prop) (h0 : Pv 0 σ H) (hl : ∀ i σ H, i ≤ xs.length → Pv i σ H → Sq2 K H a xs b)
    (hs : ∀ i x σ H, xs[i]? = some x → Pv i σ H → g x σ H fun σ2 H2 => tb { D with nx := Pv (i + 1), ct := Pv (i + 1), bk := D.nx } σ2 H2) (hd : ∀ σ H, Pv xs.length σ H → D.nx σ H) :
    ((∃ xs, SqL K H a xs) ∧ ∃ W : Nat → Nat → L2.St → Hp → Prop, (∃ m, W 0 m σ H) ∧ ∀ i m σ H, W i m σ H →
      ((Itl K a).stop i H ∧ D.nx σ H) ∨ ((Itl K a).go i H ∧ ∃ N : L2.St → Hp → Prop, (∀ σ' H', N σ' H' → ∃ m', m' < m ∧ W (i + 1) m' σ' H') ∧ ∀ x H', (Itl K a).yld i H x H' → g x σ H' fun σ2 H2 => tb { D with nx := N, ct := N, bk := D.nx } σ2 H2)) ∨
    ((∃ xs, SqT K H a xs) ∧ ∃ W : Nat → Nat → L2.St → Hp → Prop, (∃ m, W 0 m σ H) ∧ ∀ i m σ H, W i m σ H →
      ((Itt K a).stop i H ∧ D.nx σ H) ∨ ((Itt K a).go i H ∧ ∃ N : L2.St → Hp → Prop, (∀ σ' H', N σ' H' → ∃ m', m' < m ∧ W (i + 1) m' σ' H') ∧ ∀ x H', (Itt K a).yld i H x H' → g x σ H' fun σ2 H2 => tb { D with nx := N, ct := N, bk := D.nx } σ2 H2)) := by
  cases b with
  | true => exact .inl ⟨⟨xs, e⟩, for_list Pv h0 hl hs hd⟩
  | false => exact .inr ⟨⟨xs, e⟩, for_tup Pv h0 hl hs hd⟩
theorem sort_lt {K : PySem.W.Frag} {β : Type} {v : β → V} {d : β → PyData} {a : Addr} {bs : List β} {b : Bool} {H : Hp} {Q : VK} (h : Sq2 K H a (bs.map v) b) (hd : ∀ y ∈ bs, Dp K H (v y) (d y) ∧ (d y).depth ≤ 50) (al : PySem.W.AllAlike (bs.map d)) (so : PySem.W.Sortable (bs.map d)) (q : ∀ p, H p = none → Q (.ref p) (upd H p (.lst ((bs.mergeSort (PySem.W.dataLe false d)).map v)))) : rSortLT K [.ref a] H Q := by
  cases b with
  | true => exact .inl ⟨β, v, d, a, bs, rfl, h, hd, al, so, q⟩
  | false => exact .inr ⟨β, v, d, a, bs, rfl, h, hd, al, so, q⟩
/-! ### set(xs), xs a tuple of tuples of ints -/
section
variable {P : Program} {w : World} {A : Around} {E : Value → Shared → Prop} {s : Shared}
abbrev newS (w : World) : Obj := { cls := .type "set", dict := none, data := .set #[] 0 (.fresh 0 0 (!w.params.followText "set-order")) }
theorem set_of_tup {a : Addr} {items : Array Value} (ks : List (Addr × List Int)) {Q : Value → Shared → Prop} (hh : A.handled = none) (ht : s.heap.IsTuple a items) (hit : items.toList = ks.map fun p => Value.ref p.1)
    (hk : ∀ p ∈ ks, IsT P w s.heap p.2 p.1) (hfew : ks.length < 64) (hu : A.units + 3 < cLine)
    (q : ∀ (h' : Heap) (tk : Nat) L es ep t, SetTR P w h' s.heap.objs.size L es ep t → Got ks ks.length L → (∀ b o, s.heap.get? b = some o → h'.get? b = some o) → Q (.ref s.heap.objs.size) { s with heap := h', toks := tk }) :
    wpAny (model P w) A (call (.type "set") [.ref a]) Q E s := by
  have hsz : items.size = ks.length := by
    have z := congrArg List.length hit
    rwa [Array.length_toList, List.length_map] at z
  obtain ⟨c, tl, hmro⟩ := F.called_set.mro
  have hmade := F.called_set.made
  have hsub := F.called_set.sub
  have h1 := F.called_set.notType
  have h2 := F.called_set.canCreate
  have hct := F.typeCall_set_1 (.ref a)
  refine wpAny_call (codeAny_of_tree ?_)
  show wpAny _ _ (callAny (.type "set") _) _ _ _
  refine wpAny_pure ⟨Code.quiet_builtin _ (by decide +kernel), ?_⟩
  refine codeAny_builtin F.entry_type_call ?_
  rw [Around.under_plain (weight_type_call_type "set" [.ref a] []) rfl]
  repeat (any_goals (first
    | assumption
    | wp_step))
  refine codeAny_mono (code_set_led1 (.ref a) (E := E) (Q₁ := fun obj s₁ => obj = .ref s.heap.objs.size ∧ s₁ = { s with heap := s.heap.push (newS w) }) ⟨rfl, rfl⟩) fun r s₁ hr => ?_
  cases r with
  | error e => exact hr
  | ok fl =>
    cases fl with
    | ret obj =>
      obtain ⟨rfl, rfl⟩ := hr
      have hS : (s.heap.push (newS w)).get? s.heap.objs.size = some (newS w) := Heap.get?_push_size _ rfl
      have hT : Shared.TypeIs { s with heap := s.heap.push (newS w) } (.ref s.heap.objs.size) "set" := ⟨_, hS, rfl⟩
      have hli := F.called_set.init.lookup
      have hbi := F.called_set.init.bind (.ref s.heap.objs.size)
      repeat (any_goals (first
        | assumption
        | wp_step))
      refine codeAny_mono (codeAny_call_builtin (R := wants (fun r s₂ => r = .none ∧ ∃ h' tk L es ep t, s₂ = { s with heap := h', toks := tk } ∧ SetTR P w h' s.heap.objs.size L es ep t ∧ Got ks ks.length L ∧ (∀ b o, s.heap.get? b = some o → h'.get? b = some o)) E)
        F.called_set.init.plain F.entry_set_init (check_set_init_1 hT ?_)) fun r₂ s₂ hr₂ => ?_
      · have ht1 : (s.heap.push (newS w)).IsTuple a items := ht.push _
        obtain ⟨ob, hob, hcl, nl, hda⟩ := id ht1
        obtain ⟨ocls, odict, odata, oslots⟩ := ob
        simp only at hcl hda
        subst hcl; subst hda
        have hsls := PySem.F.sub_tuple_set
        have hslf := PySem.F.sub_tuple_frozenset
        have hne : (Value.type "tuple" == Value.type "dict") = false := by decide
        unfold Builtin.«set.__init__» noKeywords Builtin.Frozenset.updateFrom
        generalize hPI : pyIter = PI
        wp_walk
        subst hPI
        refine wpAny_pyIter_tuple ht1 ?_
        refine wpAny_bind (wpAny_runValue ?_)
        obtain ⟨ob0, hob0, _⟩ := ht
        have hlt : a < s.heap.objs.size := Heap.lt_size hob0
        have hin : A.in1.in1.in1.handled = none := by simp [hh]
        have hz1 : (s.heap.push (newS w)).objs.size = s.heap.objs.size + 1 := Heap.size_push ..
        have hneI : a ≠ (s.heap.push (newS w)).objs.size := by
          rw [hz1]
          exact Nat.ne_of_lt (Nat.lt_succ_of_lt hlt)
        have hSf : s.heap.objs.size ∉ [(s.heap.push (newS w)).objs.size, a] := fun hm => by
          rw [hz1] at hm
          rcases List.mem_cons.mp hm with e | hm
          · exact absurd e (Nat.ne_of_lt (Nat.lt_succ_self _))
          · exact absurd (List.mem_singleton.mp hm) (Nat.ne_of_gt hlt)
        have hval : ∀ (i : Nat) (v : Value), items[i]? = some v → ∃ p, ks[i]? = some p ∧ v = .ref p.1 := fun i v hv => by
          rw [← Array.getElem?_toList, hit, List.getElem?_map] at hv
          obtain ⟨p, hp, e⟩ := Option.map_eq_some_iff.mp hv
          exact ⟨p, hp, e.symm⟩
        have gone : ∀ b, s.heap.objs.size ≤ b → s.heap.get? b = none := fun b hb => by
          cases z : s.heap.get? b with
          | none => rfl
          | some o => exact absurd (Nat.lt_of_lt_of_le (Heap.lt_size z) hb) (Nat.lt_irrefl _)
        have hgone : ∀ b ∈ [(s.heap.push (newS w)).objs.size], s.heap.get? b = none := fun b hb => gone b (by
          rw [List.mem_singleton.mp hb, hz1]
          exact Nat.le_succ _)
        refine set_update_tups ((Walks.tuple hin _ a hneI items).toS) s.heap.objs.size hSf ks hsz hfew hval s.heap hk (gone _ (Nat.le_refl _)) hgone hu (items.size - 0) 0 _ (by omega) (Nat.zero_le _)
          ⟨⟨_, Heap.get?_push_size _ rfl, rfl, rfl⟩, ht1.push _⟩ (fun b o e => Heap.get?_push_of_some _ (Heap.get?_push_of_some _ e)) ⟨[], #[], 0, _, setTR_fresh (Heap.get?_push_of_some _ hS), Got.zero ks⟩ fun s' L es ep t hm hS' g' hkp => ?_
        obtain ⟨h', g2, d', tk', os'⟩ := s'
        have eg : g2 = s.gens := hm.gens
        have ed : d' = s.drawn := hm.drawn
        have eo : os' = s.os := hm.os
        subst eg ed eo
        rw [hsz] at g'
        show wpAny _ _ _ _ _ _
        refine wpAny_pure ?_
        show wpAny _ _ (ret Value.none) _ _ _
        exact wpAny_pure ⟨rfl, h', tk', L, es, ep, t, rfl, hS', g', hkp⟩
      · cases r₂ with
        | error e => exact hr₂
        | ok fl₂ =>
          cases fl₂ with
          | ret r =>
            obtain ⟨rfl, h', tk, L, es, ep, t, rfl, hS', g', hk'⟩ := hr₂
            repeat (any_goals (first
              | assumption
              | wp_step))
            exact q _ _ _ _ _ _ hS' g' hk'
          | _ => exact hr₂.elim
    | _ => exact hr.elim
end
def rSetT (K : PySem.W.Frag) (P : Program) (w : World) : List V → Hp → VK → Prop := fun xs H Q => ∃ (l : Addr) (ks : List (Addr × List Int)), xs = [V.ref l] ∧ SqT K H l (ks.map fun p => V.ref p.1) ∧ (∀ p ∈ ks, SqT K H p.1 (p.2.map V.int)) ∧ ks.length < 64 ∧
  ∀ a L, H a = none → (∀ p ∈ L, p ∈ ks) → (∀ p ∈ ks, p.2 ∈ L.map (·.2)) → Q (.ref a) (upd H a (SetTO P w a L))
/-- set(xs), xs a tuple of fewer than 64 tuples of ints -/
theorem cr_setT {X : Cx} (hc : X.calm = true) (hu : X.A.units + 64 < cLine) : CallR X (.type "set") (rSetT X.K X.prog X.w) := by
  intro pins s σ H xs us Q I r h
  obtain ⟨l, ks, rfl, hl, hk, hf, q⟩ := h
  rw [Vals.ref1 r]
  obtain ⟨its, rv, ht, hz⟩ := I.tuple hl
  refine set_of_tup (P := X.prog) (w := X.w) ks (I.ok.hd hc) (show s.heap.IsTuple l its.toArray from ht) (by simpa using refs_of_vals rv) (fun p hp => I.isT (hk p hp)) hf (by omega) fun h' tk L es ep t R g k => ?_
  have hn : H s.heap.objs.size = none := I.hok.fresh (Nat.le_refl _)
  exact ⟨.ref s.heap.objs.size, upd H s.heap.objs.size (SetTO X.prog X.w s.heap.objs.size L), I.laid (t' := tk) k (Nat.le_refl _) (setTO_new R.t0), rfl, q _ L hn (fun p hp => List.mem_of_mem_take (g.sub p hp)) fun p hp => g.all p (by rw [List.take_length]; exact hp)⟩
theorem setT {X : Cx} {P : Program} {w : World} (K : PySem.W.Frag) (hc : X.calm = true) (hu : X.A.units + 64 < cLine) (h1 : X.K = K := by rfl) (h2 : X.prog = P := by rfl) (h3 : X.w = w := by rfl) : CallR X (.type "set") (rSetT K P w) := by
  subst h1 h2 h3
  exact cr_setT hc hu
theorem sortedT {X : Cx} {P : Program} {w : World} (K : PySem.W.Frag) (hc : X.calm = true) (h1 : X.K = K := by rfl) (h2 : X.prog = P := by rfl) (h3 : X.w = w := by rfl) : CallR X (.builtin "sorted") (rSortedT K P w) := by
  subst h1 h2 h3
  exact cr_sortedT hc
end Pf


namespace Pf
open PySem PySem.Spec PyProof.Rows L2
/-! ### things of any kind -/
inductive Dq (K : PySem.W.Frag) (H : Hp) : V → PyData → Prop
  | dp {v : V} {d : PyData} : Dp K H v d → Dq K H v d
  | emp {a : Addr} : H a = some (.dK []) → Dq K H (.ref a) (.dict [])
def tyD : PyData → String
  | .none => "NoneType"
  | .bool _ => "bool"
  | .int _ => "int"
  | .str _ => "str"
  | .list _ => "list"
  | .tuple _ => "tuple"
  | .dict _ => "dict"
theorem sqT_ty {K : PySem.W.Frag} {H : Hp} {a : Addr} {xs : List V} (h : SqT K H a xs) : TyX K H (.ref a) (.type "tuple") := by
  rcases h with (h | ⟨o, h⟩) | ⟨o, _, _, h, c, _⟩
  · exact .base (.tup h)
  · exact .fTuple h
  · exact .kTuple h c
theorem sqL_ty {K : PySem.W.Frag} {H : Hp} {a : Addr} {xs : List V} (h : SqL K H a xs) : TyX K H (.ref a) (.type "list") := by
  rcases h with (h | ⟨o, h⟩) | ⟨o, _, _, h, c, _⟩
  · exact .base (.lst h)
  · exact .base (.frz h)
  · exact .kList h c
theorem Dq.ty {K : PySem.W.Frag} {H : Hp} {v : V} {d : PyData} (h : Dq K H v d) : TyX K H v (.type (tyD d)) := by
  cases h with
  | emp h => exact .base (.dK h)
  | dp h =>
    cases h with
    | non => exact .base .non
    | bl b => exact .base (.bl b)
    | int i => exact .base (.int i)
    | str x => exact .base (.str x)
    | lst h _ => exact sqL_ty h
    | tup h _ => exact sqT_ty h
def isTup : PyData → Bool
  | .tuple _ => true
  | _ => false
def isIntB : PyData → Bool
  | .int _ => true
  | .bool _ => true
  | _ => false
def isBl : PyData → Bool
  | .bool _ => true
  | _ => false
def isLst : PyData → Bool
  | .list _ => true
  | _ => false
def isStr : PyData → Bool
  | .str _ => true
  | _ => false
theorem kit_tup {K : PySem.W.Frag} (d : PyData) : PySem.W.kitOne K (.type (tyD d)) (.type "tuple") = some (isTup d) := by
  cases d <;> (simp only [tyD, isTup]; exact kit_ty (by decide +kernel))
theorem kit_lst {K : PySem.W.Frag} (d : PyData) : PySem.W.kitOne K (.type (tyD d)) (.type "list") = some (isLst d) := by
  cases d <;> (simp only [tyD, isLst]; exact kit_ty (by decide +kernel))
theorem kit_int {K : PySem.W.Frag} (d : PyData) : PySem.W.kitOne K (.type (tyD d)) (.type "int") = some (isIntB d) := by
  cases d <;> (simp only [tyD, isIntB]; exact kit_ty (by decide +kernel))
theorem kit_bool {K : PySem.W.Frag} (d : PyData) : PySem.W.kitOne K (.type (tyD d)) (.type "bool") = some (isBl d) := by
  cases d <;> (simp only [tyD, isBl]; exact kit_ty (by decide +kernel))
theorem kit_str {K : PySem.W.Frag} (d : PyData) : PySem.W.kitOne K (.type (tyD d)) (.type "str") = some (isStr d) := by
  cases d <;> (simp only [tyD, isStr]; exact kit_ty (by decide +kernel))
theorem dpAll_len {K : PySem.W.Frag} {H : Hp} : ∀ {vs : List V} {ds : List PyData}, DpAll K H vs ds → vs.length = ds.length
  | _, _, .nil => rfl
  | _, _, .cons _ t => by rw [List.length_cons, List.length_cons, dpAll_len t]
theorem dpAll_get {K : PySem.W.Frag} {H : Hp} : ∀ {vs : List V} {ds : List PyData} {i : Nat} {v : V}, DpAll K H vs ds → vs[i]? = some v → ∃ d, ds[i]? = some d ∧ Dp K H v d
  | _, _, _, _, .nil, e => by simp at e
  | _, _, 0, _, .cons r _, e => by
    simp at e
    subst e
    exact ⟨_, rfl, r⟩
  | _, _, i + 1, v, .cons _ t, e => by
    obtain ⟨d, h1, h2⟩ := dpAll_get (i := i) (v := v) t (by simpa using e)
    exact ⟨d, by simpa using h1, h2⟩
theorem sqT_ext {K : PySem.W.Frag} {H H' : Hp} {a : Addr} {xs : List V} (k : Ext H H') (h : SqT K H a xs) : SqT K H' a xs := by
  rcases h with (h | ⟨o, h⟩) | h
  · exact .inl (.inl (k _ _ h))
  · exact .inl (.inr ⟨o, k _ _ h⟩)
  · exact .inr h
theorem sqL_ext {K : PySem.W.Frag} {H H' : Hp} {a : Addr} {xs : List V} (k : Ext H H') (h : SqL K H a xs) : SqL K H' a xs := by
  rcases h with (h | ⟨o, h⟩) | h
  · exact .inl (.inl (k _ _ h))
  · exact .inl (.inr ⟨o, k _ _ h⟩)
  · exact .inr h
mutual
theorem dp_ext {K : PySem.W.Frag} {H H' : Hp} (k : Ext H H') : ∀ {v : V} {d : PyData}, Dp K H v d → Dp K H' v d
  | _, _, .non => .non
  | _, _, .bl b => .bl b
  | _, _, .int i => .int i
  | _, _, .str x => .str x
  | _, _, .lst h r => .lst (sqL_ext k h) (dpAll_ext k r)
  | _, _, .tup h r => .tup (sqT_ext k h) (dpAll_ext k r)
theorem dpAll_ext {K : PySem.W.Frag} {H H' : Hp} (k : Ext H H') : ∀ {vs : List V} {ds : List PyData}, DpAll K H vs ds → DpAll K H' vs ds
  | _, _, .nil => .nil
  | _, _, .cons r t => .cons (dp_ext k r) (dpAll_ext k t)
end
theorem Dq.ext {K : PySem.W.Frag} {H H' : Hp} {v : V} {d : PyData} (h : Dq K H v d) (k : Ext H H') : Dq K H' v d := by
  cases h with
  | dp h => exact .dp (dp_ext k h)
  | emp h => exact .emp (k _ _ h)
/-! ### two numbers in a tuple of any make -/
def TwoS (K : PySem.W.Frag) (H : Hp) (v : V) (y : Int × Int) : Prop := ∃ a, v = .ref a ∧ SqT K H a [.int y.1, .int y.2]
theorem TwoS.ext {K : PySem.W.Frag} {H H' : Hp} (k : Ext H H') {v : V} {y : Int × Int} (h : TwoS K H v y) : TwoS K H' v y := by
  obtain ⟨a, e, h⟩ := h
  exact ⟨a, e, sqT_ext k h⟩
theorem TwoS.of {K : PySem.W.Frag} {H : Hp} {v : V} {y : Int × Int} (h : TwoAt H v y) : TwoS K H v y := by
  obtain ⟨a, e, h⟩ := h
  exact ⟨a, e, SqT.of h⟩
/-- the two numbers of a thing, if it is such a tuple -/
def twoD : PyData → Option (Int × Int)
  | .tuple [.int i, .int j] => some (i, j)
  | _ => none
theorem twoD_some {d : PyData} {y : Int × Int} (h : twoD d = some y) : d = .tuple [.int y.1, .int y.2] := by
  unfold twoD at h
  split at h
  · cases h
    rfl
  · cases h
theorem two_dp {K : PySem.W.Frag} {H : Hp} {v : V} {d : PyData} {y : Int × Int} (h : Dp K H v d) (e : twoD d = some y) : TwoS K H v y := by
  have e := twoD_some e
  subst e
  cases h with
  | tup h r =>
    cases r with
    | cons r1 r =>
      cases r with
      | cons r2 r =>
        cases r
        cases r1
        cases r2
        exact ⟨_, rfl, h⟩
theorem paired_two {K : PySem.W.Frag} {H : Hp} : ∀ {vs : List V} {ds : List PyData} {qs : List (Int × Int)}, DpAll K H vs ds → ds.mapM twoD = some qs → Paired (TwoS K H) vs qs
  | _, [], qs, .nil, e => by
    rw [List.mapM_nil] at e
    cases e
    exact .nil
  | _, d :: ds, qs, .cons h t, e => by
    rw [List.mapM_cons] at e
    cases h1 : twoD d with
    | none =>
      rw [h1] at e
      cases e
    | some y =>
      rw [h1] at e
      cases h2 : ds.mapM twoD with
      | none =>
        rw [h2] at e
        cases e
      | some ys =>
        rw [h2] at e
        cases e
        exact .cons (two_dp h h1) (paired_two t h2)
def dTw (y : Int × Int) : PyData := .tuple [.int y.1, .int y.2]
theorem dp_twos {K : PySem.W.Frag} {H : Hp} : ∀ {vs : List V} {qs : List (Int × Int)}, Paired (TwoS K H) vs qs → DpAll K H vs (qs.map dTw)
  | _, _, .nil => .nil
  | _, _, .cons ⟨_, e, h⟩ t => .cons (e ▸ .tup h (.cons (.int _) (.cons (.int _) .nil))) (dp_twos t)
theorem mapM_len {α β : Type} {f : α → Option β} : ∀ {xs : List α} {ys : List β}, xs.mapM f = some ys → ys.length = xs.length
  | [], ys, e => by
    rw [List.mapM_nil] at e
    cases e
    rfl
  | x :: xs, ys, e => by
    rw [List.mapM_cons] at e
    cases h1 : f x with
    | none =>
      rw [h1] at e
      cases e
    | some y =>
      rw [h1] at e
      cases h2 : xs.mapM f with
      | none =>
        rw [h2] at e
        cases e
      | some zs =>
        rw [h2] at e
        cases e
        rw [List.length_cons, List.length_cons, mapM_len h2]
theorem mapM_snoc {α β : Type} {f : α → Option β} : ∀ {xs : List α} {ys : List β} {x : α} {y : β}, xs.mapM f = some ys → f x = some y → (xs ++ [x]).mapM f = some (ys ++ [y])
  | xs, ys, x, y, e, e2 => by
    rw [List.mapM_append, e]
    show (do let z ← [x].mapM f; pure (ys ++ z)) = _
    rw [List.mapM_cons, e2, List.mapM_nil]
    rfl
theorem mapM_get {α β : Type} {f : α → Option β} : ∀ {xs : List α} {ys : List β} {i : Nat} {x : α}, xs.mapM f = some ys → xs[i]? = some x → ∃ y, f x = some y ∧ ys[i]? = some y
  | [], _, _, _, _, e2 => by simp at e2
  | x :: xs, ys, i, z, e, e2 => by
    rw [List.mapM_cons] at e
    cases h1 : f x with
    | none =>
      rw [h1] at e
      cases e
    | some y =>
      rw [h1] at e
      cases h2 : xs.mapM f with
      | none =>
        rw [h2] at e
        cases e
      | some zs =>
        rw [h2] at e
        cases e
        cases i with
        | zero =>
          simp at e2
          subst e2
          exact ⟨y, h1, rfl⟩
        | succ i =>
          obtain ⟨y2, q1, q2⟩ := mapM_get (i := i) h2 (by simpa using e2)
          exact ⟨y2, q1, by simpa using q2⟩
theorem mapM_none {α β : Type} {f : α → Option β} : ∀ {xs : List α} {x : α}, x ∈ xs → f x = none → xs.mapM f = none
  | y :: xs, x, h, e => by
    rw [List.mapM_cons]
    rcases List.mem_cons.mp h with rfl | h
    · rw [e]
      rfl
    · cases h1 : f y with
      | none => rfl
      | some z =>
        show (do let zs ← xs.mapM f; pure (z :: zs)) = none
        rw [mapM_none h e]
        rfl
/-! ### repr of a tuple of two, the second anything -/
mutual
def plainD : PyData → Bool
  | .none => true
  | .bool _ => true
  | .int _ => true
  | .str _ => true
  | .list _ => false
  | .tuple ds => plainDs ds
  | .dict _ => false
def plainDs : List PyData → Bool
  | [] => true
  | d :: r => plainD d && plainDs r
end
theorem plainDs_all {ds : List PyData} (h : ∀ d ∈ ds, plainD d = true) : plainDs ds = true := by
  induction ds with
  | nil => rfl
  | cons d r ih =>
    rw [plainDs, h d (List.mem_cons_self ..), ih fun x hx => h x (List.mem_cons_of_mem _ hx)]
    rfl
mutual
theorem reads_plain {h : Heap} : ∀ (d : PyData) (u : Value) (as : List Addr), plainD d = true → Reads h u d as → as = []
  | .none, _, _, _, r => by cases r; rfl
  | .bool _, _, _, _, r => by cases r; rfl
  | .int _, _, _, _, r => by cases r; rfl
  | .str _, _, _, _, r => by cases r; rfl
  | .list _, _, _, e, _ => by simp [plainD] at e
  | .tuple ds, _, _, e, r => by
    cases r with
    | tuple _ _ _ r => exact reads_plains ds _ _ (by simpa [plainD] using e) r
  | .dict _, _, _, e, _ => by simp [plainD] at e
theorem reads_plains {h : Heap} : ∀ (ds : List PyData) (us : List Value) (as : List Addr), plainDs ds = true → ReadsAll h us ds as → as = []
  | [], _, _, _, r => by cases r; rfl
  | d :: ds, _, _, e, r => by
    rw [plainDs, Bool.and_eq_true] at e
    cases r with
    | cons r1 r2 => rw [reads_plain d _ _ e.1 r1, reads_plains ds _ _ e.2 r2]; rfl
end
end Pf


namespace Pf
open PySem PySem.Spec PyProof.Rows L2 LamX
/-! ### a def that is held by a name, called; it may raise -/
def FnV (P : Program) (w : World) (K : PySem.W.Frag) (mg : Str → Option Value) (base : Heap) (k : Nat) (f : Addr) (sp : Sp) : Prop :=
  ∃ (fd : FuncData) (ps : List Str), FnOk P w K mg base (L2.CX P w) k f fd ps sp ∧ PySem.W.keepIn K (.ref f) = true ∧ Binds K fd ps []
section
variable {X : Cx} {W : WX} {k i : Nat} {sp : Sp} {x : Str} {e : Expr} {es : List Expr} {t : TA} {p pos : Pos} {E : XK} {kws : List Keyword} {ps ks : List Str} {gV : List V → List V → List V} {tk : TA}
def tCallVs (P : Program) (w : World) (K : PySem.W.Frag) (mg : Str → Option Value) (base : Heap) (i k : Nat) (sp : Sp) (E : L2.St → XK) (t : TA) : TE := fun σ H Q => ∃ f : Addr, σ[i]? = some (some (.ref f)) ∧ FnV P w K mg base k f sp ∧ t σ H fun vs H1 => sp vs H1 Q (E σ)
theorem pe_callVs {P : Program} {w : World} {K : PySem.W.Frag} {mg : Str → Option Value} {base : Heap} (hX : X.prog = P ∧ X.w = w ∧ X.K = K ∧ X.mg = mg ∧ X.base = base) (hr : Room k X.A) (tkx : Takes X W) (hN : X.N[i]? = some x) (hv : Vis X.env.scope x) (ha : PA X (e :: es) t)
    (hd : (x == ("__debug__" : Str)) = false := by decide) (hcd : (x == ("__classdict__" : Str)) = false := by decide)
    (he : starEach (e :: es) X.env = (false, eval e X.env) :: starEach es X.env := by rfl) (hpl : (backTo pos (starEach es X.env)).any (·.1) = false := by rfl) : PE X (.Call (.Name x p) (e :: es) [] pos) (tCallVs P w K mg base i k sp (WE W) t) := by
  obtain ⟨rfl, rfl, rfl, rfl, rfl⟩ := hX
  constructor
  intro pins s σ H Q I h
  obtain ⟨f, hs, ⟨fd, ps, F, hk, hb⟩, h⟩ := h
  have hp := (pe_var (X := X) (pos := p) (i := i) hN hv hd hcd).run pins s σ H (fun v H1 => v = .ref f ∧ H1 = H) I ⟨.ref f, hs, rfl, rfl⟩
  refine wpAny_Call_Name_kw (thn hp fun u s1 hu => ?_)
  obtain ⟨v, H1, I1, r1, ev, eH⟩ := hu
  subst ev eH
  cases r1
  refine PySem.W.callWith_K (h₀ := X.base) I.ok.mod.kin hk (thn (ha.run pos pins s1 σ H1 _ I1 h) fun us s2 hu => ?_) he hpl
  obtain ⟨vs, H2, I2, r, q⟩ := hu
  exact ⟨I2.kIn, run_fnS F hr hb (passAt tkx σ) I2 r q⟩
/-- a def that may raise, called by names -/
structure CaXK (P : Program) (w : World) (K : PySem.W.Frag) (mg : Str → Option Value) (base : Heap) (k : Nat) (x : Str) (ps ks : List Str) (gV : List V → List V → List V) (sp : Sp) : Prop where
  ex : ∃ f fd g, FnOk P w K mg base (L2.CX P w) k f fd ps sp ∧ mg x = some (.ref f) ∧ PySem.W.keepIn K (.ref f) = true ∧ KBn K fd ps 0 ks g gV
theorem pe_caXK (c : CaXK X.prog X.w X.K X.mg X.base k x ps ks gV sp) (hr : Room k X.A) (hg : Gl X x) (tkx : Takes X (fun cls d _ H => E cls d H)) (hkw : PK X kws tk)
    (hall : (backToKw pos (keywordEach kws X.env)).all (·.1.isSome) = true := by rfl) (hks : (backToKw pos (keywordEach kws X.env)).filterMap (·.1) = ks := by rfl) (hdb : (x == ("__debug__" : Str)) = false := by decide)
    (hpl : ((backTo pos (starEach [] X.env)).any (·.1) || (backToKw pos (keywordEach kws X.env)).any (·.1.isNone)) = false := by rfl) :
    PE X (.Call (.Name x p) [] kws pos) (tCallN 0 ks.length sp gV E tNil tk) := by
  obtain ⟨f, fd, g, F, hm, hk, hb⟩ := c.ex
  refine ⟨fun pins s σ H Q I h => ?_⟩
  refine wpAny_Call_Name_kw (ld_glob I hg hm ?_ hdb)
  refine PySem.W.callWith_KW0 (h₀ := X.base) I.ok.mod.kin hk hall ?_ hpl
  refine thn (hkw.run pos pins s σ H _ I h) fun ws s2 ⟨zs, H2, I2, rz, l1, l2, q2⟩ => ⟨I2.kIn, ?_⟩
  rw [hks]
  exact run_fnN (us := []) (vs := []) F hr hb (passes_call tkx fun _ _ _ _ h => h) I2 .nil rz rfl l2 q2
end
/-! ### an own class under a built-in one -/
theorem under_ty {K : PySem.W.Frag} {C : Addr} {T : String} {b : Bool} (hm : PySem.W.kitMeta T = true) (h : PySem.W.subIn K (.ref C) (.type T) = some b) : PySem.W.kitOne K (.ref C) (.type T) = some b := by
  unfold PySem.W.kitOne
  rw [show (Value.ref C == Value.type T) = false from rfl]
  show PySem.W.kitCls K (.ref C) (.type T) = some b
  unfold PySem.W.kitCls
  simp only [hm, h, if_true]
/-! ### a thing, and what it is -/
def Tx (K : PySem.W.Frag) (H : Hp) (v : V) (d : PyData) : Prop := TyX K H v (.type (tyD d)) ∧ ∀ x, d = .str x → v = .str x ∧ x.length ≤ 100
theorem Tx.str {K : PySem.W.Frag} {H : Hp} {x : Str} (h : x.length ≤ 100) : Tx K H (.str x) (.str x) := ⟨.base (.str x), fun y e => by cases e; exact ⟨rfl, h⟩⟩
theorem Tx.non {K : PySem.W.Frag} {H : Hp} : Tx K H .non .none := ⟨.base .non, fun y e => by cases e⟩
theorem Tx.bl {K : PySem.W.Frag} {H : Hp} (b : Bool) : Tx K H (.bl b) (.bool b) := ⟨.base (.bl b), fun y e => by cases e⟩
theorem Tx.int {K : PySem.W.Frag} {H : Hp} (i : Int) : Tx K H (.int i) (.int i) := ⟨.base (.int i), fun y e => by cases e⟩
theorem Tx.tup {K : PySem.W.Frag} {H : Hp} {a : Addr} {xs : List V} (h : H a = some (.tup xs)) : Tx K H (.ref a) (.tuple []) := ⟨.base (.tup h), fun y e => by cases e⟩
theorem Tx.lst {K : PySem.W.Frag} {H : Hp} {a : Addr} {xs : List V} (h : H a = some (.lst xs)) : Tx K H (.ref a) (.list []) := ⟨.base (.lst h), fun y e => by cases e⟩
theorem Tx.dK {K : PySem.W.Frag} {H : Hp} {a : Addr} {kvs : List (Key × V)} (h : H a = some (.dK kvs)) : Tx K H (.ref a) (.dict []) := ⟨.base (.dK h), fun y e => by cases e⟩
/-- a thing of which it is told what it is, wherever tables alone change -/
inductive ThX (H : Hp) : V → PyData → Prop where
  | str {x : Str} (h : x.length ≤ 100) : ThX H (.str x) (.str x)
  | non : ThX H .non .none
  | bl (b : Bool) : ThX H (.bl b) (.bool b)
  | int (i : Int) : ThX H (.int i) (.int i)
  | tup {a : Addr} {xs : List V} (h : H a = some (.tup xs)) : ThX H (.ref a) (.tuple [])
  | lst {a : Addr} {xs : List V} (h : H a = some (.lst xs)) : ThX H (.ref a) (.list [])
  | dK {a : Addr} {kvs : List (Key × V)} (h : H a = some (.dK kvs)) : ThX H (.ref a) (.dict [])
theorem ThX.tx {K : PySem.W.Frag} {H : Hp} {v : V} {d : PyData} (h : ThX H v d) : Tx K H v d := by
  cases h with
  | str h => exact .str h
  | non => exact .non
  | bl b => exact .bl b
  | int i => exact .int i
  | tup h => exact .tup h
  | lst h => exact .lst h
  | dK h => exact .dK h
theorem ThX.extN {H H' : Hp} {v : V} {d : PyData} (h : ThX H v d) (k : ExtN H H') : ThX H' v d := by
  cases h with
  | str h => exact .str h
  | non => exact .non
  | bl b => exact .bl b
  | int i => exact .int i
  | tup h => exact .tup (k _ _ h fun _ z => by cases z)
  | lst h => exact .lst (k _ _ h fun _ z => by cases z)
  | dK h => exact .dK (k _ _ h fun _ z => by cases z)
theorem ThX.ext {H H' : Hp} {v : V} {d : PyData} (h : ThX H v d) (k : Ext H H') : ThX H' v d := h.extN (ExtN.ext k)
/-! ### a text so many times, once at least: how long it is -/
def rRepX : R2 := fun x y H Q => ∃ (z : Str) (k : Int), x = .str z ∧ y = .int k ∧ 1 ≤ k ∧ k ≤ 1000 ∧ z.length ≤ 1000 ∧ ∀ w : Str, w.length = z.length * k.toNat → (∀ c ∈ w.cps.toList, c ∈ z.cps.toList) → Q (.str w) H
theorem op_repX {X : Cx} : OpR X (binaryOp .Mult) rRepX := by
  intro pins s σ H x y v u Q I rx ry h
  obtain ⟨z, k, rfl, rfl, k0, k1, hz, q⟩ := h
  obtain ⟨t, rfl⟩ := rx
  obtain ⟨t2, rfl⟩ := ry
  have hm : z.length * k.toNat ≤ 1000 * 1000 := Nat.mul_le_mul hz (by omega)
  have hbig : (z.length : Int) * k ≤ 1000 * 1000 := Int.mul_le_mul (by omega) k1 (by omega) (by decide)
  refine PySem.P.mul_str (by rw [decide_eq_false (by omega), decide_eq_false (by omega)]; rfl) (fun h1 _ z2 => ?_) (fun _ _ => ?_) ?_
  · have h3 : (1000 : Int) ≤ (2 ^ 63 - 1) / k := by
      rw [Int.le_ediv_iff_mul_le (by omega)]
      omega
    omega
  · unfold Builtin.Str.tooLong
    exact decide_eq_false (by rw [sizeLine_eq]; omega)
  · rw [if_neg (show ¬ k < 1 by omega)]
    by_cases c2 : (k == 1 || z.length == 0) = true
    · rw [if_pos c2]
      refine ⟨.str z, H, I, ⟨_, rfl⟩, q z ?_ fun _ hc => hc⟩
      rw [Bool.or_eq_true] at c2
      rcases c2 with c2 | c2
      · rw [show k = 1 from beq_iff_eq.mp c2]
        exact (Nat.mul_one _).symm
      · rw [show z.length = 0 from beq_iff_eq.mp c2, Nat.zero_mul]
    · rw [if_neg c2]
      have hr := rep_cps z.cps k.toNat #[]
      have hl : (⟨(List.replicate k.toNat z.cps).foldl (· ++ ·) #[]⟩ : Str).length = z.length * k.toNat := by
        show ((List.replicate k.toNat z.cps).foldl (· ++ ·) #[]).size = _
        rw [hr.1]
        show 0 + z.length * k.toNat = _
        omega
      refine ⟨?_, .str _, H, I.tok _, ⟨_, rfl⟩, q _ hl fun c hc => ?_⟩
      · rw [hl, sizeLine_eq]
        omega
      · rcases hr.2 c hc with y | y
        · cases y
        · exact y
end Pf


namespace Pf
open PySem PySem.Spec PyProof.Rows L2 LamX
/-! ### what is a string of the rules, of things of any kind -/
def inLx (r : Rl) (c : Nat) : Bool := decide (c ∈ r.letters.cps.toList)
def isSx (r : Rl) : PyData → Bool
  | .str x => decide (x.length ≤ 12) && (x.cps.toList.map (inLx r)).all id
  | _ => false
theorem isSx_no {r : Rl} {d : PyData} (h : isStr d = false) : isSx r d = false := by
  cases d with
  | str x => cases h
  | _ => rfl
theorem isStrx_yes {d : PyData} (h : isStr d = true) : ∃ x, d = .str x := by
  cases d with
  | str x => exact ⟨x, rfl⟩
  | _ => cases h
theorem isSx_of {r : Rl} {x : Str} (hx : x.length ≤ 12) (h : Of r.letters x) : isSx r (.str x) = true := by
  show (decide (x.length ≤ 12) && (x.cps.toList.map (inLx r)).all id) = true
  rw [decide_eq_true hx, Bool.true_and, List.all_map]
  exact List.all_eq_true.mpr fun c hc => decide_eq_true (h c hc)
theorem isSx_not {r : Rl} {x : Str} {c : Nat} (hc : c ∈ x.cps.toList) (h : c ∉ r.letters.cps.toList) : isSx r (.str x) = false := by
  show (decide (x.length ≤ 12) && (x.cps.toList.map (inLx r)).all id) = false
  have : (x.cps.toList.map (inLx r)).all id = false := by
    rw [List.all_map]
    refine Bool.eq_false_iff.mpr fun z => ?_
    have := List.all_eq_true.mp z c hc
    exact h (of_decide_eq_true this)
  rw [this, Bool.and_false]
theorem isSx_long {r : Rl} {x : Str} (h : 12 < x.length) : isSx r (.str x) = false := by
  show (decide (x.length ≤ 12) && _) = false
  rw [decide_eq_false (by omega), Bool.false_and]
section
variable {P : Program} {w : World} {K : PySem.W.Frag} {mg : Str → Option Value} {base : Heap}
def spISx (K : PySem.W.Frag) : Sp := fun vs H Q _ => ∃ (v t : V) (r : Rl) (d : PyData), vs = [v, t] ∧ RulesW H v r ∧ Tx K H t d ∧ ∀ H', Ext H H' → Q (.bl (isSx r d)) H'
theorem ok_isx {f : Addr} {fd : FuncData} {k : Nat} (F : Fun K "is_string" "is_string" s_is_string f fd) {tM : Tok} (gMOST_PLACES : mg "MOST_PLACES" = some (.int 12 tM)) (misinstance : mg "isinstance" = none) (mstr : mg "str" = none) (mlen : mg "len" = none) (mall : mg "all" = none) : FnOk P w K mg base CX0 (k + 1) f fd ["rules", "thing"] (spISx K) := by
  refine F.ok sc_is_string (fun vs H Q E h => ?_) (fun cdv A outer s H vs Q E hr h => ?_)
  · obtain ⟨v, t, r, d, rfl, _⟩ := h
    rfl
  · obtain ⟨v, t, r, d, rfl, hR, ⟨hty, hsx⟩, q⟩ := h
    obtain ⟨a, vp, vl, vs, rfl, hA, hp, hlo, hs⟩ := id hR
    refine ⟨_, (pss_cons (ps_if (PW.pt (pw_or (pt_not (pt_val (pe_callB (isi1 K) (by rfl) misinstance (by decide +kernel) (pa_cons (pv 1) (pa_cons (pe_bltn (v := .ty "str") (by rfl) mstr (by decide +kernel) rfl) pa_nil))))) (pw_or1 (pt_cmpR op_gt (pe_callB call_len_str (by rfl) mlen (by decide +kernel) (pa_cons (pv 1) pa_nil)) (pe_glob (v := .int 12) (by rfl) gMOST_PLACES ⟨_, rfl⟩) (nomark _))))) (pss_one (ps_ret pe_bl)) pss_nil)
      (pss_one (ps_ret (pe_callB (cr_all rfl) (by rfl) mall (by decide +kernel) (pa_cons (pe_lc (own := [("letter", 2)]) (g := gName 2) (by rfl) sc_is_string.nd (pi_str (pv 1)) (blkOk_by (own := [("letter", 2)]) (N := ["rules", "thing", "letter"]) (sc := defScope s_is_string) (by decide +kernel)) (fun _ _ _ _ _ => (pg_name (i := 2) sc_is_string.nd rfl (.inl rfl))) (fun _ _ _ _ _ => pts_nil) (fun _ _ _ _ _ => (pe_cmpR op_in_sign (pv 2) (pe_ix (ixT K) (pv 0) pe_int (fun _ _ => rfl)) (by rfl)))) pa_nil))))), ?_⟩
    refine ⟨_, rfl, t, .ty "str", _, _, isStr d, rfl, .ty _, hty, kit_str d, isStr d, rfl, ?_⟩
    cases hst : isStr d with
    | false =>
      have := q H Ext.refl
      rw [isSx_no hst] at this
      exact iteT this
    | true =>
      obtain ⟨x, rfl⟩ := isStrx_yes hst
      obtain ⟨rfl, hx⟩ := hsx x rfl
      refine iteF ⟨_, rfl, x, rfl, szL (by omega), _, _, rfl, rfl, _, rfl, ?_⟩
      by_cases e1 : (x.length : Int) > 12
      · rw [decide_eq_true e1]
        have := q H Ext.refl
        rw [isSx_long (by omega)] at this
        exact iteT this
      · rw [decide_eq_false e1]
        refine iteF ⟨_, rfl, _, rfl, fun D hD => lc_str (fun i H2 => H2 D = some (.lst (((x.cps.toList.take i).map (inLx r)).map V.bl)) ∧ Ext H H2) ⟨upd_same, Ext.new hD⟩ (fun i ch H2 hi hv => ?_) (fun H2 hv => ?_)⟩
        · obtain ⟨hL, k2⟩ := hv
          have hi12 : i < x.length := (Array.getElem?_eq_some_iff.mp hi).1
          refine ⟨rfl, _, rfl, _, rfl, a, _, 0, _, rfl, rfl, SqT.of (k2 _ _ hA), rfl, ch, r.letters, rfl, rfl, _, hL, szLt ?_, ?_, k2.put hD⟩
          · rw [List.length_map, List.length_map, List.length_take]
            omega
          · rw [upd_same, List.take_add_one, show x.cps.toList[i]? = some ch by rw [Array.getElem?_toList]; exact hi, List.map_append, List.map_append]
            rfl
        · obtain ⟨hL, k2⟩ := hv
          have e3 : x.cps.toList.take x.cps.size = x.cps.toList := List.take_of_length_le (by rw [Array.length_toList]; exact Nat.le_refl _)
          rw [e3] at hL
          refine ⟨D, _, rfl, SqL.of hL, ?_⟩
          have := q H2 k2
          have e2 : isSx r (.str x) = (x.cps.toList.map (inLx r)).all id := by
            show (decide (x.length ≤ 12) && _) = _
            rw [decide_eq_true (by omega), Bool.true_and]
          rw [e2] at this
          exact this
abbrev CISx (P : Program) (w : World) (K : PySem.W.Frag) (mg : Str → Option Value) (base : Heap) : Prop := Ca P w K mg base 1 "is_string" ["rules", "thing"] (spISx K)
/-- of anything: it tells nothing, or raises -/
def spNSx (K : PySem.W.Frag) (C : Addr) : Sp := fun vs H Q E => ∃ (v t : V) (r : Rl) (d : PyData), vs = [v, t] ∧ RulesW H v r ∧ Tx K H t d ∧ (isSx r d = true → ∀ H', Ext H H' → Q .non H') ∧ (isSx r d = false → ∀ H', Ext H H' → E (.ref C) none H')
theorem ok_nsx {f aNoString : Addr} {fd : FuncData} (F : Fun K "need_string" "need_string" s_need_string f fd) (cis_string : CISx P w K mg base) (gNoString : mg "NoString" = some (.ref aNoString))
    (xNoString : PySem.W.excIn K aNoString [.type "ValueError", .type "Exception", .type "BaseException", .type "object"] "ValueError.__new__" = true) (kNoString : PySem.W.keepIn K (.ref aNoString) = true)
    (bNoString : PySem.W.subIn K (.ref aNoString) (.type "BaseException") = some true) (tNoString : PySem.W.typeIn K (.ref aNoString) = some (.type "type")) : FnOk P w K mg base (L2.CX P w) 2 f fd ["rules", "thing"] (spNSx K aNoString) := by
  refine F.okX sc_need_string (fun vs H Q E h => ?_) (fun cdv A outer s H vs Q E hr h => ?_)
  · obtain ⟨v, t, r, d, rfl, _⟩ := h
    rfl
  · obtain ⟨v, t, r, d, rfl, hR, hd, q1, q2⟩ := h
    refine ⟨_, (pss_one (ps_if (pt_not (pt_val (pe_ca cis_string (hr.mono (by decide)) (by rfl) (pa_cons (pv 0) (pa_cons (pv 1) pa_nil))))) (pss_one (ps_raise rfl (takes_of rfl rfl rfl rfl) (pmk_own PySem.F.excBase_ValueError xNoString gNoString kNoString (raises_own bNoString tNoString) rfl))) pss_nil)), ?_⟩
    refine ⟨_, rfl, _, rfl, v, t, r, d, rfl, hR, hd, fun H' k => ⟨_, rfl, ?_⟩⟩
    cases hi : isSx r d with
    | true => exact iteF (q1 hi H' k)
    | false => exact iteT (q2 hi H' k)
abbrev CNSx (P : Program) (w : World) (K : PySem.W.Frag) (mg : Str → Option Value) (base : Heap) (C : Addr) : Prop := CaX P w K mg base 2 "need_string" ["rules", "thing"] (spNSx K C)
end
end Pf


namespace Pf
open PySem PySem.Spec PyProof.Rows L2 LamX
section
variable {P : Program} {w : World} {K : PySem.W.Frag} {mg : Str → Option Value} {base : Heap}
def spOdd (K : PySem.W.Frag) (C : Addr) : Sp := fun vs H Q E => ∃ (v t : V) (r : Rl) (d : PyData), vs = [v, t] ∧ RulesW H v r ∧ Tx K H t d ∧ isSx r d = false ∧ ∀ H', Ext H H' → E (.ref C) none H'
theorem ok_tbx {f aNoString : Addr} {fd : FuncData} (F : Fun K "table_of" "table_of" s_table_of f fd) (cneed_stringX : CNSx P w K mg base aNoString) : FnOk P w K mg base (L2.CX P w) 6 f fd ["rules", "string"] (spOdd K aNoString) := by
  refine F.okX sc_table_of (fun vs H Q E h => ?_) (fun cdv A outer s H vs Q E hr h => ?_)
  · obtain ⟨v, t, r, d, rfl, _⟩ := h
    rfl
  · obtain ⟨v, t, r, d, rfl, hR, hd, ho, q⟩ := h
    refine ⟨_, (pss_cons (ps_expr (pe_caX cneed_stringX (hr.mono (by decide)) (by rfl) (takes_of rfl rfl rfl rfl) (pa_cons (pv 0) (pa_cons (pv 1) pa_nil)))) pss_void), ?_⟩
    exact ⟨_, rfl, _, rfl, v, t, r, d, rfl, hR, hd, fun z => Bool.noConfusion (ho.symm.trans z), fun _ H1 k1 => q H1 k1⟩
theorem ok_lwx {f aNoString : Addr} {fd : FuncData} (F : Fun K "least_worth" "least_worth" s_least_worth f fd) (cneed_stringX : CNSx P w K mg base aNoString) : FnOk P w K mg base (L2.CX P w) 6 f fd ["rules", "string"] (spOdd K aNoString) := by
  refine F.okX sc_least_worth (fun vs H Q E h => ?_) (fun cdv A outer s H vs Q E hr h => ?_)
  · obtain ⟨v, t, r, d, rfl, _⟩ := h
    rfl
  · obtain ⟨v, t, r, d, rfl, hR, hd, ho, q⟩ := h
    refine ⟨_, (pss_cons (ps_expr (pe_caX cneed_stringX (hr.mono (by decide)) (by rfl) (takes_of rfl rfl rfl rfl) (pa_cons (pv 0) (pa_cons (pv 1) pa_nil)))) pss_void), ?_⟩
    exact ⟨_, rfl, _, rfl, v, t, r, d, rfl, hR, hd, fun z => Bool.noConfusion (ho.symm.trans z), fun _ H1 k1 => q H1 k1⟩
theorem ok_lfx {f aNoString : Addr} {fd : FuncData} (F : Fun K "least_folding" "least_folding" s_least_folding f fd) (cneed_stringX : CNSx P w K mg base aNoString) : FnOk P w K mg base (L2.CX P w) 6 f fd ["rules", "string"] (spOdd K aNoString) := by
  refine F.okX sc_least_folding (fun vs H Q E h => ?_) (fun cdv A outer s H vs Q E hr h => ?_)
  · obtain ⟨v, t, r, d, rfl, _⟩ := h
    rfl
  · obtain ⟨v, t, r, d, rfl, hR, hd, ho, q⟩ := h
    refine ⟨_, (pss_cons (ps_expr (pe_caX cneed_stringX (hr.mono (by decide)) (by rfl) (takes_of rfl rfl rfl rfl) (pa_cons (pv 0) (pa_cons (pv 1) pa_nil)))) pss_void), ?_⟩
    exact ⟨_, rfl, _, rfl, v, t, r, d, rfl, hR, hd, fun z => Bool.noConfusion (ho.symm.trans z), fun _ H1 k1 => q H1 k1⟩
abbrev CLFXK (P : Program) (w : World) (K : PySem.W.Frag) (mg : Str → Option Value) (base : Heap) (C : Addr) : Prop := CaXK P w K mg base 6 "least_folding" ["rules", "string"] ["string", "rules"] (permV [1, 0]) (spOdd K C)
/-! ### what is refused -/
abbrev s_law_is_refused : Stmt := topS 54
theorem sc_law_is_refused : FnScope ["_law_call", "_law_caught", "e"] ["_law_call"] (defScope s_law_is_refused) :=
  ⟨rfl, rfl, rfl, by decide +kernel, rfl, by decide +kernel, by decide +kernel⟩
def TTref (R : Addr) : (XK → Hp → VK → Prop) → Hp → VK → Prop := fun tl H Q => ∀ Q' : VK, tl (fun cls d H' => cls = .ref R ∧ d = none ∧ ∀ H'', Ext H' H'' → Q (.bl true) H'') H Q'
theorem cal_isref {f aNoString aFoldError aNoNumber aNoPlace aNoFolding aNoRules aNoText : Addr} {fd : FuncData} (F : Fun K "_law_is_refused" "_law_is_refused" s_law_is_refused f fd) (hm : mg "_law_is_refused" = some (.ref f)) (hb : Binds K fd ["_law_call"] [])
    (misinstance : mg "isinstance" = none) (mValueError : mg "ValueError" = none) (gNoString : mg "NoString" = some (.ref aNoString)) (gFoldError : mg "FoldError" = some (.ref aFoldError)) (gNoFolding : mg "NoFolding" = some (.ref aNoFolding)) (gNoRules : mg "NoRules" = some (.ref aNoRules)) (gNoText : mg "NoText" = some (.ref aNoText))
    (gNoNumber : mg "NoNumber" = some (.ref aNoNumber)) (gNoPlace : mg "NoPlace" = some (.ref aNoPlace))
    (eX : PySem.W.exmAny K (.ref aNoString) [.ref aFoldError, .ref aNoNumber, .ref aNoPlace] = some true) (hC : ExcC K aNoString) (iOne : PySem.W.kitOne K (.ref aNoString) (.ref aNoString) = some true) (iVE : PySem.W.kitOne K (.ref aNoString) (.type "ValueError") = some true) (iTup : PySem.W.kitAny K (.ref aNoString) [.ref aNoFolding, .ref aNoRules, .ref aNoText, .ref aNoNumber, .ref aNoPlace] = some false) :
    CaL P w K mg base "_law_is_refused" (TTref aNoString) := by
  have F0 := F
  obtain ⟨oc, od, kV, doc, pm, an, cdv, ct, osl, rfl, lk, hcd⟩ := F.ex
  refine ⟨s_law_is_refused, ["_law_call", "_law_caught", "e"], "_law_call", f, od, an, oc, kV, doc, pm, cdv, ct, osl, hm, F0.kp, lk, hcd, hb, sc_law_is_refused, rfl, .inl rfl, by decide, by decide, fun X q f c' s H Q tl act hc h => ?_⟩
  refine ⟨_, (pss_cons (ps_set (i := 1) sc_law_is_refused.nd rfl (.inl rfl) pe_non)
      (pss_cons (ps_try_keep (i := 2) rfl rfl rfl sc_law_is_refused.nd rfl rfl ⟨rfl, by decide, .inl gFoldError⟩ ⟨rfl, by decide, .inl gNoNumber⟩ ⟨rfl, by decide, .inl gNoPlace⟩ (fun W pn xe tk _ => (pss_ask act tk)) (fun a oe cls d pn hz hf => (pss_one (ps_set (i := 1) sc_law_is_refused.nd rfl (.inl rfl) (pv 2)))))
      (pss_cons (ps_if (PW.pt (pw_or (pt_not (pt_val (pe_callB (call_isX K) (by rfl) misinstance (by decide +kernel) (pa_cons (pv 1) (pa_cons (pe_glob (v := .ref aNoString) (by rfl) gNoString rfl) pa_nil))))) (pw_or1 (pt_not (pt_val (pe_callB (call_isX K) (by rfl) misinstance (by decide +kernel) (pa_cons (pv 1) (pa_cons (pe_bltn (v := .ty "ValueError") (by rfl) mValueError (by decide +kernel) rfl) pa_nil)))))))) (pss_one (ps_ret pe_bl)) pss_nil)
      (pss_one (ps_ret (pe_not (pe_callB (call_isXT K) (by rfl) misinstance (by decide +kernel) (pa_cons (pv 1) (pa_cons (pe_tup (pa_cons (pe_glob (v := .ref aNoFolding) (by rfl) gNoFolding rfl) (pa_cons (pe_glob (v := .ref aNoRules) (by rfl) gNoRules rfl) (pa_cons (pe_glob (v := .ref aNoText) (by rfl) gNoText rfl) (pa_cons (pe_glob (v := .ref aNoNumber) (by rfl) gNoNumber rfl) (pa_cons (pe_glob (v := .ref aNoPlace) (by rfl) gNoPlace rfl) pa_nil)))))) pa_nil))))))))), ?_⟩
  refine ⟨_, fun cls d σ' H' hl hE => ?_, rfl, hc, h _⟩
  obtain ⟨rfl, rfl, hE⟩ := hE
  obtain ⟨y0, y1, y2, rfl⟩ : ∃ y0 y1 y2, σ' = [y0, y1, y2] := by
    match σ', hl with
    | [a, b, c], _ => exact ⟨a, b, c, rfl⟩
  refine ⟨eX, fun a ha => ⟨_, rfl, ?_⟩⟩
  have xa := Ext.new (o := ExI (.ref aNoString) none a) ha
  have hA : upd H' a (ExI (.ref aNoString) none a) a = some (ExI (.ref aNoString) none a) := upd_same
  refine ⟨_, rfl, a, aNoString, .ref aNoString, .ref aNoString, true, rfl, hA, hC, fun u z => z, iOne, true, rfl, iteF ?_⟩
  refine ⟨_, rfl, a, aNoString, .ty "ValueError", .type "ValueError", true, rfl, hA, hC, fun u z => z, iVE, true, rfl, iteF ?_⟩
  refine ⟨_, rfl, szL (show 5 ≤ 1000000 by decide), fun t9 ht9 => ?_⟩
  have x9 := Ext.new (o := .tup [.ref aNoFolding, .ref aNoRules, .ref aNoText, .ref aNoNumber, .ref aNoPlace]) ht9
  exact ⟨a, aNoString, t9, [aNoFolding, aNoRules, aNoText, aNoNumber, aNoPlace], false, rfl, x9 _ _ hA, hC, upd_same, iTup, false, rfl, hE _ (xa.trans x9)⟩
theorem pigeon : ∀ (A B : List Nat), A.Nodup → (∀ a ∈ A, a ∈ B) → A.length ≤ B.length
  | [], _, _, _ => Nat.zero_le _
  | a :: A, B, hn, h => by
    have hm := h a (List.mem_cons_self ..)
    have h1 := pigeon A (B.erase a) (List.nodup_cons.mp hn).2 (fun x hx => by
      refine (List.mem_erase_of_ne (fun z => ?_)).mpr (h x (List.mem_cons_of_mem _ hx))
      subst z
      exact (List.nodup_cons.mp hn).1 hx)
    have h2 := List.length_erase_of_mem hm
    have h3 := List.length_pos_of_mem hm
    rw [List.length_cons]
    omega
def AZ : Str := "abcdefghijklmnopqrstuvwxyz"
def offL (r : Rl) (L : List Nat) : List Nat := L.filter fun c => !inLx r c
theorem offL_some {r : Rl} (ok : RlOk r) : ∃ c t, offL r AZ.cps.toList = c :: t ∧ c ∉ r.letters.cps.toList := by
  have hne : offL r AZ.cps.toList ≠ [] := fun z => by
    have := pigeon AZ.cps.toList r.letters.cps.toList (by decide +kernel) (fun c hc => by
      have h := List.filter_eq_nil_iff.mp z c hc
      have h : ¬ (!inLx r c) = true := h
      have h2 : inLx r c = true := by
        cases e : inLx r c
        · rw [e] at h
          exact absurd rfl h
        · rfl
      exact of_decide_eq_true h2)
    have h26 : AZ.cps.toList.length = 26 := by decide +kernel
    have h6 : r.letters.cps.toList.length ≤ 6 := by rw [Array.length_toList]; exact ok.let6
    omega
  cases e : offL r AZ.cps.toList with
  | nil => exact absurd e hne
  | cons c t =>
    refine ⟨c, t, rfl, fun z => ?_⟩
    have hc : c ∈ offL r AZ.cps.toList := by rw [e]; exact List.mem_cons_self ..
    have h := (List.mem_filter.mp hc).2
    rw [show inLx r c = true from decide_eq_true z] at h
    cases h
abbrev s_law_strange : Stmt := topS 55
theorem sc_law_strange : FnScope ["_law_given", "_law_other", "_law_one", "_law_some", "_law_sign"] ["_law_given"] (defScope s_law_strange) :=
  ⟨rfl, rfl, rfl, by decide +kernel, rfl, by decide +kernel, by decide +kernel⟩
def spStrg : Sp := fun vs H Q _ => ∃ (v : V) (r : Rl), vs = [v] ∧ RulesAt H v r ∧ RlOk r ∧
  ∀ (l : Addr) (us : List V) (H' : Hp), H l = none → H' l = some (.lst us) → us.length ≤ 20 → (∀ u ∈ us, ∃ d, ThX H' u d ∧ isSx r d = false) → Ext H H' → Q (.ref l) H'
theorem ok_strg {f : Addr} {fd : FuncData} {k : Nat} (F : Fun K "_law_strange" "_law_strange" s_law_strange f fd) : FnOk P w K mg base CX0 (k + 1) f fd ["_law_given"] spStrg := by
  refine F.ok sc_law_strange (fun vs H Q E h => ?_) (fun cdv A outer s H vs Q E hr h => ?_)
  · obtain ⟨v, r, rfl, _⟩ := h
    rfl
  · obtain ⟨v, r, rfl, hR, ok, q⟩ := h
    obtain ⟨a, vp, vl, vs, rfl, hA, hp, hlo, hs⟩ := id hR
    refine ⟨_, (pss_cons (ps_set (i := 1) sc_law_strange.nd rfl (.inl rfl) (pe_ix (ixL K) (pe_lc (own := [("_law_sign", 4)]) (g := gName 4) (by rfl) sc_law_strange.nd (pi_str pe_str) (blkOk_by (own := [("_law_sign", 4)]) (N := ["_law_given", "_law_other", "_law_one", "_law_some", "_law_sign"]) (sc := defScope s_law_strange) (by decide +kernel)) (fun _ _ _ _ _ => (pg_name (i := 4) sc_law_strange.nd rfl (.inl rfl))) (fun _ _ _ _ _ => (pts_one (pt_cmpR op_notIn_sign (pv 4) (pe_ix (ixT K) (pv 0) pe_int (fun _ _ => rfl)) (by rfl)))) (fun _ _ _ _ _ => (pv 4))) pe_int (fun _ _ => rfl)))
      (pss_cons (ps_set (i := 2) sc_law_strange.nd rfl (.inl rfl) (pe_ix ix_str (pe_ix (ixT K) (pv 0) pe_int (fun _ _ => rfl)) pe_int (fun _ _ => rfl)))
      (pss_cons (ps_set (i := 3) sc_law_strange.nd rfl (.inl rfl) (pe_lst (pa_cons (pv 1) (pa_cons (pe_op op_add_str (pv 2) (pv 1)) (pa_cons (pe_op op_repX (pv 2) pe_int) (pa_cons (pe_upper (pv 2)) (pa_cons pe_str (pa_cons (pe_op op_add_str (pv 2) pe_str) (pa_cons pe_str (pa_cons pe_non (pa_cons pe_bl (pa_cons pe_int (pa_cons (pe_tup (pa_cons (pv 2) pa_nil)) (pa_cons (pe_lst (pa_cons (pv 2) pa_nil)) pa_nil))))))))))))))
      (pss_cons (ps_set (i := 3) sc_law_strange.nd rfl (.inl rfl) (pe_op op_cat (pv 3) (pe_lst (pa_cons pe_dnewK (pa_cons (pe_tup pa_nil) (pa_cons (pe_lst pa_nil) pa_nil))))))
      (pss_one (ps_ret (pe_op op_cat (pv 3) (pe_lst (pa_cons (pe_op op_repX (pv 2) pe_int) (pa_cons pe_str pa_nil)))))))))), ?_⟩
    refine ⟨AZ, rfl, fun D hD => lc_str (fun i H2 => H2 D = some (.lst ((offL r (AZ.cps.toList.take i)).map fun c => V.str ⟨#[c]⟩)) ∧ Ext H H2) ⟨upd_same, Ext.new hD⟩ (fun i ch H2 hi hv => ?_) (fun H2 hv => ?_)⟩
    · obtain ⟨hL, k2⟩ := hv
      have hi12 : i < AZ.length := (Array.getElem?_eq_some_iff.mp hi).1
      have hti : AZ.cps.toList[i]? = some ch := by rw [Array.getElem?_toList]; exact hi
      refine ⟨rfl, _, rfl, _, rfl, a, _, 0, _, rfl, rfl, SqT.of (k2 _ _ hA), rfl, ch, r.letters, rfl, rfl, _, rfl, ?_⟩
      cases hin : inLx r ch with
      | true =>
        have e : decide (ch ∈ r.letters.cps.toList) = true := hin
        rw [e]
        refine iteF ⟨?_, k2⟩
        rw [List.take_add_one, hti]
        unfold offL
        rw [List.filter_append]
        have : ([ch].filter fun c => !inLx r c) = [] := by
          rw [List.filter_cons_of_neg (by rw [hin]; decide), List.filter_nil]
        show _ = some (HO.lst (List.map _ (_ ++ [ch].filter fun c => !inLx r c)))
        rw [this, List.append_nil]
        exact hL
      | false =>
        have e : decide (ch ∈ r.letters.cps.toList) = false := hin
        rw [e]
        have h26 : AZ.length = 26 := by decide +kernel
        refine iteT ⟨_, rfl, _, hL, szLt ?_, ?_, k2.put hD⟩
        · rw [List.length_map]
          have := List.length_filter_le (fun c => !inLx r c) (AZ.cps.toList.take i)
          rw [List.length_take] at this
          show (offL r _).length < _
          unfold offL
          omega
        · rw [upd_same, List.take_add_one, hti]
          unfold offL
          rw [List.filter_append]
          have : ([ch].filter fun c => !inLx r c) = [ch] := by
            rw [List.filter_cons_of_pos (by rw [hin]; decide), List.filter_nil]
          show _ = some (HO.lst (List.map _ (_ ++ [ch].filter fun c => !inLx r c)))
          rw [this, List.map_append]
          rfl
    obtain ⟨hL, k2⟩ := hv
    rw [List.take_of_length_le (by rw [Array.length_toList]; exact Nat.le_refl _)] at hL
    obtain ⟨oc, ot, eo, hoc⟩ := offL_some ok
    rw [eo] at hL
    have h0 : atI (List.map (fun c => V.str ⟨#[c]⟩) (oc :: ot)) 0 = some (V.str ⟨#[oc]⟩) := by
      rw [atI_get (by omega) (by rw [List.length_map, List.length_cons]; omega)]
      rfl
    refine ⟨D, _, 0, _, rfl, rfl, SqL.of hL, h0, ?_⟩
    refine gow_name ?_
    dsimp only
    have hA2 := k2 _ _ hA
    have hl1 := ok.let1
    obtain ⟨ch, hch, hcL⟩ : ∃ ch, r.letters.cps.toList[0]? = some ch ∧ ch ∈ r.letters.cps.toList := by
      have h : 0 < r.letters.cps.toList.length := by rw [Array.length_toList]; exact hl1
      exact ⟨_, List.getElem?_eq_getElem h, List.getElem_mem h⟩
    have hsm := ok.small ch hcL
    have hat : atI r.letters.cps.toList 0 = some ch := by
      rw [atI_get (by omega) (by rw [Array.length_toList]; show (0 : Int) < (r.letters.length : Int); omega)]
      have h : 0 < r.letters.cps.toList.length := by rw [Array.length_toList]; exact hl1
      rw [List.getElem?_eq_getElem h] at hch
      exact hch
    refine ⟨_, rfl, a, _, 0, _, rfl, rfl, SqT.of hA2, rfl, r.letters, 0, ch, rfl, rfl, szL (by have := ok.let6; omega), hat, ?_⟩
    refine gow_name ?_
    dsimp only
    obtain ⟨one, hone⟩ : ∃ o : Str, o = ⟨#[ch]⟩ := ⟨_, rfl⟩
    obtain ⟨oth, hoth⟩ : ∃ o : Str, o = ⟨#[oc]⟩ := ⟨_, rfl⟩
    rw [← hone, ← hoth]
    have l1 : one.length = 1 := by rw [hone]; rfl
    have l2' : oth.length = 1 := by rw [hoth]; rfl
    have hnot : ∀ c : Nat, c < 97 → c ∉ r.letters.cps.toList := fun c h z => by
      have := ok.small c z
      omega
    have oneS : one.cps.toList = [ch] := by rw [hone]
    have up1 : Txt.upper one = ⟨#[ch - 32]⟩ := by
      rw [hone]
      have h := SX.upper_S (a := [ch]) (by simp; omega)
      refine h.trans ?_
      show (⟨[PyProof.Rows.up1 ch].toArray⟩ : Str) = _
      unfold PyProof.Rows.up1
      rw [if_pos ⟨hsm.1, hsm.2⟩]
    refine ⟨_, rfl, _, rfl, _, rfl, _, _, rfl, rfl, szL (by omega), _, rfl, one, 13, rfl, rfl, by decide, by decide, by omega, fun w13 h13 _ => ?_⟩
    refine ⟨_, rfl, ⟨_, rfl⟩, one, rfl, rfl, by omega, ?_⟩
    rw [up1]
    refine ⟨_, rfl, _, _, rfl, rfl, szL (show one.length + 1 ≤ 1000000 by omega), _, rfl, szL (show 1 ≤ 1000000 by decide), fun t1 ht1 => ?_⟩
    have x1 := Ext.new (o := .tup [.str one]) ht1
    refine ⟨_, rfl, szL (show 1 ≤ 1000000 by decide), fun l2 hl2 => ⟨szL (show 12 ≤ 1000000 by decide), fun l3 hl3 => ?_⟩⟩
    have x2 := Ext.new (o := .lst [.str one]) hl2
    obtain ⟨us, hus⟩ : ∃ us, us = [V.str oth, .str (one ++ oth), .str w13, .str ⟨#[ch - 32]⟩, .str " ", .str (one ++ " "), .str "1", .non, .bl true, .int 0, .ref t1, .ref l2] := ⟨_, rfl⟩
    rw [← hus]
    have x3 := Ext.new (o := .lst us) hl3
    have k3 := k2.trans (x1.trans (x2.trans x3))
    have T1 : ThX (upd (upd (upd H2 t1 (.tup [.str one])) l2 (.lst [.str one])) l3 (.lst us)) (.ref t1) (.tuple []) := .tup ((x2.trans x3) _ _ upd_same)
    have T2 : ThX (upd (upd (upd H2 t1 (.tup [.str one])) l2 (.lst [.str one])) l3 (.lst us)) (.ref l2) (.list []) := .lst (x3 _ _ upd_same)
    have hL3 : upd (upd (upd H2 t1 (.tup [.str one])) l2 (.lst [.str one])) l3 (.lst us) l3 = some (.lst us) := upd_same
    generalize upd (upd (upd H2 t1 (.tup [.str one])) l2 (.lst [.str one])) l3 (.lst us) = H3 at k3 T1 T2 hL3 ⊢
    have sg : ∀ {x : Str} {c : Nat}, x.length ≤ 100 → c ∈ x.cps.toList → c < 97 → ∃ d, ThX H3 (.str x) d ∧ isSx r d = false := fun hx hc h => ⟨_, .str hx, isSx_not hc (hnot _ h)⟩
    have tus : ∀ u ∈ us, ∃ d, ThX H3 u d ∧ isSx r d = false := by
      intro u hu
      rw [hus] at hu
      simp only [List.mem_cons, List.not_mem_nil, or_false] at hu
      rcases hu with rfl | rfl | rfl | rfl | rfl | rfl | rfl | rfl | rfl | rfl | rfl | rfl
      · exact ⟨_, .str (by omega), isSx_not (c := oc) (by rw [hoth]; exact List.mem_singleton.mpr rfl) hoc⟩
      · refine ⟨_, .str ?_, isSx_not (c := oc) ?_ hoc⟩
        · show (one ++ oth).cps.size ≤ 100
          rw [Str.cps_append, Array.size_append]
          have h1 : one.cps.size = 1 := l1
          have h2 : oth.cps.size = 1 := l2'
          omega
        · rw [Str.cps_append, Array.toList_append, hoth]
          exact List.mem_append_right _ (List.mem_singleton.mpr rfl)
      · exact ⟨_, .str (by rw [h13, l1]; decide), isSx_long (by rw [h13, l1]; decide)⟩
      · exact sg (c := ch - 32) (show 1 ≤ 100 by decide) (List.mem_singleton.mpr rfl) (by omega)
      · exact sg (c := 32) (by decide +kernel) (by decide +kernel) (by decide)
      · refine sg (c := 32) ?_ ?_ (by decide)
        · show (one ++ " ").cps.size ≤ 100
          rw [Str.cps_append, Array.size_append]
          have h1 : one.cps.size = 1 := l1
          have h2 : (" " : Str).cps.size = 1 := by decide +kernel
          omega
        · rw [Str.cps_append, Array.toList_append]
          exact List.mem_append_right _ (by decide +kernel)
      · exact sg (c := 49) (by decide +kernel) (by decide +kernel) (by decide)
      · exact ⟨_, .non, rfl⟩
      · exact ⟨_, .bl _, rfl⟩
      · exact ⟨_, .int _, rfl⟩
      · exact ⟨_, T1, rfl⟩
      · exact ⟨_, T2, rfl⟩
    have hul : us.length = 12 := by rw [hus]; rfl
    clear hus T1 T2
    refine gow_name ?_
    dsimp only
    refine ⟨_, rfl, fun t4 ht4 => ⟨Nat.zero_le _, fun t5 ht5 => ⟨Nat.zero_le _, fun t6 ht6 => ⟨szL (show 3 ≤ 1000000 by decide), fun l7 hl7 => ?_⟩⟩⟩⟩
    have y4 := Ext.new (o := .dK []) ht4
    have y5 := Ext.new (o := .tup []) ht5
    have y6 := Ext.new (o := .lst []) ht6
    have y7 := Ext.new (o := .lst [.ref t4, .ref t5, .ref t6]) hl7
    have k7 := y4.trans (y5.trans (y6.trans y7))
    have S4 : ThX (upd (upd (upd (upd H3 t4 (.dK [])) t5 (.tup [])) t6 (.lst [])) l7 (.lst [.ref t4, .ref t5, .ref t6])) (.ref t4) (.dict []) := .dK ((y5.trans (y6.trans y7)) _ _ upd_same)
    have S5 : ThX (upd (upd (upd (upd H3 t4 (.dK [])) t5 (.tup [])) t6 (.lst [])) l7 (.lst [.ref t4, .ref t5, .ref t6])) (.ref t5) (.tuple []) := .tup ((y6.trans y7) _ _ upd_same)
    have S6 : ThX (upd (upd (upd (upd H3 t4 (.dK [])) t5 (.tup [])) t6 (.lst [])) l7 (.lst [.ref t4, .ref t5, .ref t6])) (.ref t6) (.list []) := .lst (y7 _ _ upd_same)
    have hL7 : upd (upd (upd (upd H3 t4 (.dK [])) t5 (.tup [])) t6 (.lst [])) l7 (.lst [.ref t4, .ref t5, .ref t6]) l7 = some (.lst [.ref t4, .ref t5, .ref t6]) := upd_same
    generalize upd (upd (upd (upd H3 t4 (.dK [])) t5 (.tup [])) t6 (.lst [])) l7 (.lst [.ref t4, .ref t5, .ref t6]) = H7 at k7 S4 S5 S6 hL7 ⊢
    refine ⟨l3, l7, us, [.ref t4, .ref t5, .ref t6], rfl, rfl, k7 _ _ hL3, hL7, szL (show us.length + 3 ≤ 1000000 by omega), fun l8 hl8 => ?_⟩
    have x8 := Ext.new (o := .lst (us ++ [.ref t4, .ref t5, .ref t6])) hl8
    have t15 : ∀ u ∈ us ++ [V.ref t4, .ref t5, .ref t6], ∃ d, ThX (upd H7 l8 (.lst (us ++ [.ref t4, .ref t5, .ref t6]))) u d ∧ isSx r d = false := by
      intro u hu
      rcases List.mem_append.mp hu with hu | hu
      · obtain ⟨d, h1, h2⟩ := tus u hu
        exact ⟨d, h1.ext (k7.trans x8), h2⟩
      · simp only [List.mem_cons, List.not_mem_nil, or_false] at hu
        rcases hu with rfl | rfl | rfl
        · exact ⟨_, S4.ext x8, rfl⟩
        · exact ⟨_, S5.ext x8, rfl⟩
        · exact ⟨_, S6.ext x8, rfl⟩
    have hL8 : upd H7 l8 (.lst (us ++ [.ref t4, .ref t5, .ref t6])) l8 = some (.lst (us ++ [V.ref t4, .ref t5, .ref t6])) := upd_same
    have l15 : (us ++ [V.ref t4, .ref t5, .ref t6]).length = 15 := by rw [List.length_append, hul]; rfl
    have k8 := k3.trans (k7.trans x8)
    generalize upd H7 l8 (.lst (us ++ [.ref t4, .ref t5, .ref t6])) = H8 at t15 hL8 k8 ⊢
    generalize us ++ [V.ref t4, V.ref t5, V.ref t6] = ws at t15 hL8 l15 ⊢
    refine gow_name ?_
    dsimp only
    refine ⟨_, rfl, _, rfl, one, 60, rfl, rfl, by decide, by decide, by omega, fun w60 h60 _ => ⟨szL (show 2 ≤ 1000000 by decide), fun l9 hl9 => ?_⟩⟩
    have x9 := Ext.new (o := .lst [.str w60, .str "\n"]) hl9
    refine ⟨l8, l9, ws, [.str w60, .str "\n"], rfl, rfl, x9 _ _ hL8, upd_same, szL (show ws.length + 2 ≤ 1000000 by omega), fun l0 hl0 => ?_⟩
    have x0 := Ext.new (o := .lst (ws ++ [.str w60, .str "\n"])) hl0
    have k0 := k8.trans (x9.trans x0)
    refine q l0 _ _ ?_ upd_same (by rw [List.length_append, l15]; show 15 + 2 ≤ 20; decide) (fun u hu => ?_) k0
    · exact (k8.trans x9).none hl0
    · rcases List.mem_append.mp hu with hu | hu
      · obtain ⟨d, h1, h2⟩ := t15 u hu
        exact ⟨d, h1.ext (x9.trans x0), h2⟩
      · simp only [List.mem_cons, List.not_mem_nil, or_false] at hu
        rcases hu with rfl | rfl
        · exact ⟨_, .str (by rw [h60, l1]; decide), isSx_long (by rw [h60, l1]; decide)⟩
        · exact ⟨_, .str (by decide +kernel), isSx_not (c := 10) (by decide +kernel) (hnot _ (by decide))⟩
abbrev CStrg (P : Program) (w : World) (K : PySem.W.Frag) (mg : Str → Option Value) (base : Heap) : Prop := Ca P w K mg base 1 "_law_strange" ["_law_given"] spStrg
end
end Pf


namespace Pf
open PySem PySem.Spec PyProof.Rows L2
theorem wid_b {ks : Fo} (h : ∀ y ∈ ks, 0 ≤ y.1 ∧ y.1 < y.2 ∧ y.2 < 12) : 0 ≤ wid ks ∧ wid ks ≤ 12 * (ks.length : Int) := by
  induction ks with
  | nil => exact ⟨by decide, by decide⟩
  | cons y r ih =>
    have h1 := h y (List.mem_cons_self ..)
    have h2 := ih fun z hz => h z (List.mem_cons_of_mem _ hz)
    rw [wid_cons, List.length_cons]
    omega
theorem mul_b {a b : Int} {n : Nat} (ha : -(n : Int) ≤ a ∧ a ≤ n) (hb : -99 ≤ b ∧ b ≤ 99) : -(n * 99 : Int) ≤ a * b ∧ a * b ≤ n * 99 := by
  have h1 : (a * b).natAbs ≤ n * 99 := by
    rw [Int.natAbs_mul]
    exact Nat.mul_le_mul (by omega) (by omega)
  omega
theorem lpW_b {r : Rl} (ok : RlOk r) (x : Str) {one : Int × Int} {ks : Fo} (h1 : 0 ≤ one.1 ∧ one.1 < one.2 ∧ one.2 < 12) (hk : ∀ y ∈ ks, 0 ≤ y.1 ∧ y.1 < y.2 ∧ y.2 < 12) (hl : ks.length ≤ 6) : -100000 < lpW r x one ks ∧ lpW r x one ks < 100000 := by
  have hw := wid_b hk
  have hf : -(100 : Nat) ≤ freeI one ks ∧ freeI one ks ≤ (100 : Nat) := by
    unfold freeI
    omega
  have b0 := lo_bound ok (show 0 < 9 by decide)
  have b1 := lo_bound ok (show 1 < 9 by decide)
  have b2 := lo_bound ok (show 2 < 9 by decide)
  have b3 := lo_bound ok (show 3 < 9 by decide)
  have b4 := lo_bound ok (show 4 < 9 by decide)
  have b5 := lo_bound ok (show 5 < 9 by decide)
  have b6 := lo_bound ok (show 6 < 9 by decide)
  have b7 := lo_bound ok (show 7 < 9 by decide)
  have m2 := mul_b hf b2
  have m5 := mul_b hf b5
  have m7 := mul_b hf b7
  have m4 := mul_b (a := (ks.length : Int)) (n := 6) ⟨by omega, by omega⟩ b4
  have sw := swI_bound (fun y hy => (ok.st y hy).2.2) (tx2 x one) (tx2 x (ks.headD (0, 0)))
  unfold lpW
  split
  · omega
  · split
    · omega
    · split
      · omega
      · omega
theorem sum_b {l : List Int} {n : Nat} (h : ∀ y ∈ l, -(n : Int) ≤ y ∧ y ≤ n) : -((n * l.length : Nat) : Int) ≤ l.sum ∧ l.sum ≤ ((n * l.length : Nat) : Int) := by
  induction l with
  | nil => exact ⟨by simp, by simp⟩
  | cons y r ih =>
    have h1 := h y (List.mem_cons_self ..)
    have h2 := ih fun z hz => h z (List.mem_cons_of_mem _ hz)
    rw [List.sum_cons, List.length_cons, Nat.mul_succ]
    omega
theorem vin_b {r : Rl} (ok : RlOk r) {x : Str} {n : Nat} {a : Int} (a0 : 0 ≤ a) (an : a + n ≤ 12) {q0 : Fo} (hq : q0 ∈ WA r x n a) : (-700000 < vin r x q0 ∧ vin r x q0 < 700000) ∧ (tops q0).length ≤ 6 ∧ 0 ≤ wid (tops q0) ∧ wid (tops q0) ≤ 72 := by
  obtain ⟨hin, hlen⟩ := WA_in r x n a q0 hq
  have hall : ∀ y ∈ q0, 0 ≤ y.1 ∧ y.1 < y.2 ∧ y.2 < 12 := fun y hy => by
    have := hin y hy
    omega
  have tl := tops_len q0
  have hw := wid_b (ks := tops q0) fun y hy => hall y (tops_sub _ y hy)
  have hs := sum_b (l := q0.map (pT r x q0)) (n := 100100) fun z hz => by
    obtain ⟨y, hy, rfl⟩ := List.mem_map.mp hz
    have h1 := lpW_b ok x (hall y hy) (ks := tops (withinC q0 y.1 y.2)) (fun z hz => hall z (List.mem_filter.mp (tops_sub _ z hz)).1) (by
      have h1 := tops_len (withinC q0 y.1 y.2)
      have h2 : (withinC q0 y.1 y.2).length ≤ q0.length := List.length_filter_le _ _
      omega)
    have h2 := pwI_bound (fun z hz => (ok.pr z hz).2) (tx2 x y)
    unfold pT
    omega
  rw [List.length_map, vin_T hq] at hs
  have : 100100 * q0.length ≤ 100100 * 6 := Nat.mul_le_mul_left _ (by omega)
  refine ⟨?_, by omega, by omega, by omega⟩
  omega
theorem oV_b {r : Rl} (ok : RlOk r) {x : Str} {n : Nat} {a : Int} (a0 : 0 ≤ a) (an : a + n ≤ 12) {q0 : Fo} (hq : q0 ∈ WA r x n a) : -10000000 < oV r x q0 ∧ oV r x q0 < 10000000 := by
  obtain ⟨h1, tl, _⟩ := vin_b ok a0 an hq
  have b8 := lo_bound ok (show 8 < 9 by decide)
  have m8 := mul_b (a := ((tops q0).length : Int)) (n := 6) ⟨by omega, by omega⟩ b8
  unfold oV
  rw [Int.mul_comm (lo r 8)]
  omega
/-! ### rules as data -/
theorem dpIntsAt {K : PySem.W.Frag} {H : Hp} : ∀ {vs : List V} {ns : List Int}, Paired (IntAt H) vs ns → DpAll K H vs (ns.map PyData.int)
  | _, _, .nil => .nil
  | _, _, .cons e t => .cons ((show _ = V.int _ from e) ▸ .int _) (dpIntsAt t)
def dPr (x : Str × Int) : PyData := .tuple [.str x.1, .int x.2]
theorem dpPairs {K : PySem.W.Frag} {H : Hp} : ∀ {vs : List V} {prs : List (Str × Int)}, Paired (PairAt H) vs prs → DpAll K H vs (prs.map dPr)
  | _, _, .nil => .nil
  | _, _, .cons ⟨_, e, h⟩ t => .cons (e ▸ .tup (SqT.of h) (.cons (.str _) (.cons (.int _) .nil))) (dpPairs t)
theorem sm_prs {prs : List (Str × Int)} (hn : prs.length ≤ 12) (h : ∀ x ∈ prs, Two x.1 ∧ -99 ≤ x.2 ∧ x.2 ≤ 99) : Sm 2000 2 (.tuple (prs.map dPr)) := by
  refine Sm.tup (n := 12) (m := 130) (k := 1) (by rw [List.length_map]; exact hn) (fun d hd => ?_) (by decide)
  obtain ⟨x, hx, rfl⟩ := List.mem_map.mp hd
  have h1 := h x hx
  refine Sm.tup (n := 2) (m := 64) (k := 0) (Nat.le_refl _) (fun d hd => ?_) (by decide)
  simp only [List.mem_cons, List.not_mem_nil, or_false] at hd
  rcases hd with rfl | rfl
  · exact (Sm.str h1.1.2.ok (Nat.le_refl _)).le (by rw [h1.1.1]; decide) (Nat.le_refl _)
  · exact Sm.int (by omega) (by omega)
def dSt (x : Str × Str × Int) : PyData := .tuple [.str x.1, .str x.2.1, .int x.2.2]
theorem dpStacks {K : PySem.W.Frag} {H : Hp} : ∀ {vs : List V} {ps : List (Str × Str × Int)}, Paired (StackAt H) vs ps → DpAll K H vs (ps.map dSt)
  | _, _, .nil => .nil
  | _, _, .cons ⟨_, e, h⟩ t => .cons (e ▸ .tup (SqT.of h) (.cons (.str _) (.cons (.str _) (.cons (.int _) .nil)))) (dpStacks t)
def dRl (r : Rl) : PyData := .tuple [.str r.letters, .tuple (r.prs.map dPr), .int r.span, .tuple (r.loops.map PyData.int), .tuple (r.stk.map dSt)]
theorem dp_rules {K : PySem.W.Frag} {H : Hp} {v : V} {r : Rl} (h : RulesAt H v r) : Dp K H v (dRl r) := by
  obtain ⟨a, vp, vl, vs, rfl, hA, ⟨ap, oz, us, rfl, hp, _, hP⟩, ⟨al, ls, rfl, hl, hL⟩, ⟨as, ss, rfl, hs, hS⟩⟩ := h
  exact .tup (SqT.of hA) (.cons (.str _) (.cons (.tup (SqT.fz hp) (dpPairs hP)) (.cons (.int _) (.cons (.tup (SqT.of hl) (dpIntsAt hL)) (.cons (.tup (SqT.of hs) (dpStacks hS)) .nil)))))
theorem sm_rules {r : Rl} (ok : RlOk r) : Sm 50000 3 (dRl r) := by
  refine Sm.tup (n := 5) (m := 5000) (k := 2) (Nat.le_refl _) (fun d hd => ?_) (by decide)
  simp only [List.mem_cons, List.not_mem_nil, or_false] at hd
  have h3 := ok.sp0
  have h4 := ok.sp3
  rcases hd with rfl | rfl | rfl | rfl | rfl
  · exact (Sm.str ok.small.ok ok.let6).le (by decide) (by decide)
  · exact (sm_prs ok.prs ok.pr).le (by decide) (by decide)
  · exact (Sm.int (by omega) (by omega)).le (by decide) (by decide)
  · refine (Sm.tup (n := 9) (m := 64) (k := 0) (by rw [List.length_map, ok.lo9]; exact Nat.le_refl _) (fun d hd => ?_) (Nat.le_refl _)).le (by decide) (by decide)
    obtain ⟨z, hz, rfl⟩ := List.mem_map.mp hd
    have := ok.lo z hz
    exact Sm.int (by omega) (by omega)
  · refine (Sm.tup (n := 12) (m := 200) (k := 1) (by rw [List.length_map]; exact ok.stk) (fun d hd => ?_) (Nat.le_refl _)).le (by decide) (by decide)
    obtain ⟨z, hz, rfl⟩ := List.mem_map.mp hd
    have hk := ok.st z hz
    refine Sm.tup (n := 3) (m := 64) (k := 0) (Nat.le_refl _) (fun d hd => ?_) (by decide)
    simp only [List.mem_cons, List.not_mem_nil, or_false] at hd
    rcases hd with rfl | rfl | rfl
    · exact (Sm.str hk.1.2.ok (Nat.le_of_eq hk.1.1)).le (by decide) (by decide)
    · exact (Sm.str hk.2.1.2.ok (Nat.le_of_eq hk.2.1.1)).le (by decide) (by decide)
    · exact Sm.int (by omega) (by omega)
end Pf


namespace Pf
open PySem PySem.Spec PyProof.Rows L2 LamX
theorem Pen.extN {H H' : Hp} {p c : Addr} {n : Nat} (h : Pen H p c n) (k : ExtN H H') : Pen H' p c n := by
  obtain ⟨cells, a, r, h1, h2, h3⟩ := h
  exact ⟨cells, a, r, k _ _ h1 (fun _ z => by cases z), k _ _ h2 (fun _ z => by cases z), h3⟩
theorem Pen.tabs {T : List (Addr × Str)} {H H' : Hp} {p c : Addr} {n : Nat} (h : Pen H p c n) (k : Kp p H H') (t : Tabs T H) : Tabs T H' := by
  obtain ⟨cells, a, r, h1, h2, h3⟩ := h
  exact k.tabs h1 t
section
variable {r : Rl} {x : Str} {m : Int}
theorem least_is (h : mn r x ("open", 0, (x.length : Int) - 1) = some m) : (∃ q ∈ WA r x x.length 0, oV r x q = m) ∧ ∀ q ∈ WA r x x.length 0, m ≤ oV r x q := by
  have h2 := mn_is r x ("open", 0, (x.length : Int) - 1)
  rw [h, SM_open r x 0 _ x.length (by omega)] at h2
  have h2 : IsMin (some m) ((WA r x x.length 0).map (oV r x)) := h2
  obtain ⟨q, hq, e⟩ := List.mem_map.mp h2.1
  exact ⟨⟨q, hq, e⟩, fun q hq => h2.2 _ (List.mem_map.mpr ⟨q, hq, rfl⟩)⟩
theorem least_neg (h : mn r x ("open", 0, (x.length : Int) - 1) = some m) : m ≤ 0 := by
  obtain ⟨t, e⟩ := WA_head r x x.length 0
  have h2 := (least_is h).2 [] (by rw [e]; exact List.mem_cons_self ..)
  have h0 : oV r x [] = 0 := by
    unfold oV vin
    simp [tops, nn]
  omega
end
theorem oV_is {r : Rl} {x : Str} {n : Nat} {a : Int} {q : Fo} (h : q ∈ WA r x n a) : oV r x q = (q.map (pT r x q)).sum + lo r 8 * (tops q).length := by
  rw [vin_T h]
  unfold oV
  omega
theorem mn_ex (r : Rl) (x : Str) : ∃ m, mn r x ("open", 0, (x.length : Int) - 1) = some m := mn_opn (L := x.length) (i := 0) (Int.le_refl _) (by omega)
section
variable {P : Program} {w : World} {K : PySem.W.Frag} {mg : Str → Option Value} {base : Heap}
abbrev CStart (P : Program) (w : World) (K : PySem.W.Frag) (mg : Str → Option Value) (base : Heap) : Prop := Ca P w K mg base 1 "_law_pen" ["_law_script"] (spStart K)
abbrev CLeastWK (P : Program) (w : World) (K : PySem.W.Frag) (mg : Str → Option Value) (base : Heap) : Prop := CaK P w K mg base 6 "least_worth" ["rules", "string"] ["string", "rules"] (permV [1, 0]) spLeastW
abbrev s_law : Stmt := topS 56
theorem sc_law : FnScope ["_law_script", "_law_pen_here", "_law_turn", "_law_writ_here", "_law_kept", "_law_due", "_law_longest", "_law_found", "_law_call", "_law_given", "_law_strange_here", "_law_one"] ["_law_script"] (defScope s_law) :=
  ⟨rfl, rfl, rfl, by decide +kernel, rfl, by decide +kernel, by decide +kernel⟩
def spLaw (K : PySem.W.Frag) (T : List (Addr × Str)) : Sp := fun vs H Q _ => ∃ (a : Addr) (ns : List Int), vs = [.ref a] ∧ SqL K H a (ns.map V.int) ∧ ns.length ≤ 63 ∧ Tabs T H ∧ ∀ H', Q (.bl true) H'
theorem ok_law {f aNoString atable_of aleast_worth aleast_folding c0 P0 : Addr} {fd : FuncData} {T : List (Addr × Str)} (F : Fun K "law" "law" s_law f fd) (hcode : fd.code = .ref c0) (TB : TabB base mg c0 P0) (hmT : (P0, ("law" : Str) ++ ".<locals>." ++ "<lambda>") ∈ T) (hu : ∀ p ∈ T, p.1 = P0 → p.2 = ("law" : Str) ++ ".<locals>." ++ "<lambda>")
    (room : Room 18 callerA) (c_law_pen : CStart P w K mg base) (c_law_pick : CPick P w K mg base) (c_law_rules : CRules P w K mg base) (c_law_writ : CWrit P w K mg base) (c_law_listed : CListed P w K mg base) (c_law_whole : CWholeD P w K mg base) (cleast_worth : CLeastW P w K mg base) (cleast_worthK : CLeastWK P w K mg base)
    (c_law_strange : CStrg P w K mg base) (c_law_is_refusedL : CaL P w K mg base "_law_is_refused" (TTref aNoString)) (cleast_foldingXK : CLFXK P w K mg base aNoString)
    (gtable_of : mg "table_of" = some (.ref atable_of)) (gleast_worth : mg "least_worth" = some (.ref aleast_worth)) (gleast_folding : mg "least_folding" = some (.ref aleast_folding))
    (vtable_of : FnV P w K mg base 6 atable_of (spOdd K aNoString)) (vleast_worth : FnV P w K mg base 6 aleast_worth (spOdd K aNoString)) (vleast_folding : FnV P w K mg base 6 aleast_folding (spOdd K aNoString))
    (mrange : mg "range" = none) (mlen : mg "len" = none) (mmin : mg "min" = none) (mrepr : mg "repr" = none) (misinstance : mg "isinstance" = none) (mint : mg "int" = none) (mbool : mg "bool" = none) : FnG P w K mg base f fd ["_law_script"] (spLaw K T) := by
  refine FnG.ofC (k := 17) F sc_law room (fun vs H Q E h => ?_) (fun cdv s H vs Q E hcd hr hG h => ?_)
  · obtain ⟨a, ns, rfl, _⟩ := h
    rfl
  · obtain rfl : cdv = .ref c0 := hcd.symm.trans hcode
    obtain ⟨a, ns, rfl, hS, hns, hT, q⟩ := h
    refine ⟨_, (pss_cons (ps_set (i := 1) sc_law.nd rfl (.inl rfl) (pe_ca c_law_pen (hr.mono (by decide)) (by rfl) (pa_cons (pv 0) pa_nil)))
      (pss_cons (ps_for PassesOwn.never rfl (pi_range1 (by rfl) mrange (pa_cons pe_int pa_nil)) (pg_name (i := 2) sc_law.nd rfl (.inl rfl)) (pss_cons (ps_set (i := 9) sc_law.nd rfl (.inr rfl) (pe_ca c_law_rules (hr.mono (by decide)) (by rfl) (pa_cons (pv 1) pa_nil)))
      (pss_cons (ps_set (i := 3) sc_law.nd rfl (.inr rfl) (pe_ca c_law_writ (hr.mono (by decide)) (by rfl) (pa_cons (pv 1) (pa_cons (pv 9) (pa_cons (pe_ca c_law_pick (hr.mono (by decide)) (by rfl) (pa_cons (pv 1) (pa_cons (pe_lst (pa_cons pe_int (pa_cons pe_int (pa_cons pe_int (pa_cons pe_int (pa_cons pe_int (pa_cons pe_int pa_nil))))))) pa_nil))) pa_nil)))))
      (pss_cons (ps_set (i := 4) sc_law.nd rfl (.inl rfl) (pe_callB (call_show K hG hr.units) (by rfl) mrepr (by decide +kernel) (pa_cons (pv 9) pa_nil)))
      (pss_cons (ps_set (i := 5) sc_law.nd rfl (.inl rfl) (pe_callB (call_show K hG hr.units) (by rfl) mrepr (by decide +kernel) (pa_cons (pe_callB (minL K rfl) (by rfl) mmin (by decide +kernel) (pa_cons (pe_lc (own := [("_law_one", 11)]) (g := gName 11) (by rfl) sc_law.nd (pi_list (pe_ca c_law_listed (hr.mono (by decide)) (by rfl) (pa_cons (pv 9) (pa_cons (pv 3) (pa_cons pe_int (pa_cons (pe_op op_sub (pe_callB call_len_str (by rfl) mlen (by decide +kernel) (pa_cons (pv 3) pa_nil)) pe_int) pa_nil)))))) (blkOk_by (own := [("_law_one", 11)]) (N := ["_law_script", "_law_pen_here", "_law_turn", "_law_writ_here", "_law_kept", "_law_due", "_law_longest", "_law_found", "_law_call", "_law_given", "_law_strange_here", "_law_one"]) (sc := defScope s_law) (by decide +kernel)) (fun _ _ _ _ _ => (pg_name (i := 11) sc_law.nd rfl (.inl rfl))) (fun _ _ _ _ _ => pts_nil) (fun _ _ _ _ _ => (pe_ca c_law_whole (hr.mono (by decide)) (by rfl) (pa_cons (pv 9) (pa_cons (pv 3) (pa_cons (pv 11) pa_nil)))))) pa_nil)) pa_nil)))
      (pss_cons (ps_if (PW.pt (pw_or (pt_cmpR op_ne (pe_callB (call_show K hG hr.units) (by rfl) mrepr (by decide +kernel) (pa_cons (pe_ca cleast_worth (hr.mono (by decide)) (by rfl) (pa_cons (pv 9) (pa_cons (pv 3) pa_nil))) pa_nil)) (pv 5) (nomark _)) (pw_or1 (pt_cmpR op_ne (pe_callB (call_show K hG hr.units) (by rfl) mrepr (by decide +kernel) (pa_cons (pe_caK cleast_worthK (hr.mono (by decide)) (by rfl) (pk_cons (pv 3) (pk_cons (pv 9) pk_nil))) pa_nil)) (pv 5) (nomark _))))) (pss_one (ps_ret pe_bl)) pss_nil)
      (pss_cons (ps_for PassesOwn.never rfl (pi_list (pe_ca c_law_strange (hr.mono (by decide)) (by rfl) (pa_cons (pv 9) pa_nil))) (pg_name (i := 10) sc_law.nd rfl (.inr rfl)) (pss_one (ps_for PassesOwn.never rfl (pi_tup (pe_tup (pa_cons (pe_glob (v := .ref atable_of) (by rfl) gtable_of rfl) (pa_cons (pe_glob (v := .ref aleast_worth) (by rfl) gleast_worth rfl) (pa_cons (pe_glob (v := .ref aleast_folding) (by rfl) gleast_folding rfl) pa_nil))))) (pg_name (i := 8) sc_law.nd rfl (.inr rfl)) (pss_one (ps_if (pt_not (pt_val (pe_lam (k := 6) c_law_is_refusedL (by rfl) TB rfl hmT hu (hr.mono (by decide)) (lamS_by (sc := defScope s_law) (by decide +kernel)) rfl (fun _ _ _ _ _ => rfl) (fun A outer s H E f c2 hr => (pe_callVs (P := P) (w := w) (K := K) (mg := mg) (base := base) (k := 6) (sp := (spOdd K aNoString)) (i := 8) ⟨rfl, rfl, rfl, rfl, rfl⟩ (hr.mono (by decide)) (takes_of rfl rfl rfl rfl) rfl (by first | exact Or.inl rfl | exact Or.inr (Or.inl rfl) | exact Or.inr (Or.inr rfl)) (pa_cons (pv 9) (pa_cons (pv 10) pa_nil))))))) (pss_one (ps_ret pe_bl)) pss_nil)))))
      (pss_one (ps_if (PW.pt (pw_or (pt_not (pt_val (pe_lam (k := 6) c_law_is_refusedL (by rfl) TB rfl hmT hu (hr.mono (by decide)) (lamS_by (sc := defScope s_law) (by decide +kernel)) rfl (fun _ _ _ _ _ => rfl) (fun A outer s H E f c2 hr => (pe_caXK cleast_foldingXK (hr.mono (by decide)) (by rfl) (takes_of rfl rfl rfl rfl) (pk_cons pe_non (pk_cons (pv 9) pk_nil))))))) (pw_or1 (pt_cmpR op_ne (pe_callB (call_show K hG hr.units) (by rfl) mrepr (by decide +kernel) (pa_cons (pv 9) pa_nil)) (pv 4) (nomark _))))) (pss_one (ps_ret pe_bl)) pss_nil)))))))))
      (pss_cons (ps_set (i := 6) sc_law.nd rfl (.inl rfl) (pe_ca c_law_writ (hr.mono (by decide)) (by rfl) (pa_cons (pv 1) (pa_cons (pv 9) (pa_cons pe_int pa_nil)))))
      (pss_cons (ps_set (i := 7) sc_law.nd rfl (.inl rfl) (pe_ca cleast_worth (hr.mono (by decide)) (by rfl) (pa_cons (pv 9) (pa_cons (pv 6) pa_nil))))
      (pss_one (ps_ret (pe_and (pe_callB (isi1 K) (by rfl) misinstance (by decide +kernel) (pa_cons (pv 7) (pa_cons (pe_bltn (v := .ty "int") (by rfl) mint (by decide +kernel) rfl) pa_nil))) (pe_and (pe_not (pe_callB (isi1 K) (by rfl) misinstance (by decide +kernel) (pa_cons (pv 7) (pa_cons (pe_bltn (v := .ty "bool") (by rfl) mbool (by decide +kernel) rfl) pa_nil)))) (pe_one (pe_cmpR op_le (pv 7) pe_int (nomark _))))))))))), ?_⟩
    refine ⟨_, rfl, a, ns, rfl, hS, hns, fun p c H1 hP1 k1 => ?_⟩
    refine gow_name ?_
    dsimp only
    refine ⟨2, rfl, by decide, by decide, for_range (n := 2) (fun i σ H2 => ∃ (y2 y3 y4 y5 y8 y9 y10 : Option V), σ = [some (.ref a), some (.ref p), y2, y3, y4, y5, none, none, y8, y9, y10, none] ∧ Pen H2 p c (2000 * i) ∧ Tabs T H2 ∧ (0 < i → ∃ v r, y9 = some v ∧ RulesAt H2 v r ∧ RlOk r))
      ⟨none, none, none, none, none, none, none, rfl, hP1, hT.ext k1, fun z => absurd z (by decide)⟩ (fun i σ H2 hi hv => ?_) (fun σ H2 hv => ?_)⟩
    · obtain ⟨y2, y3, y4, y5, y8, y9, y10, rfl, hP2, hT2, _⟩ := hv
      refine gow_name ?_
      dsimp only
      refine ⟨_, rfl, p, c, _, rfl, hP2, by omega, fun v r H3 hr3 ok _ k3 hP3 => ?_⟩
      have hT3 := hP2.tabs k3 hT2
      refine gow_name ?_
      dsimp only
      refine ⟨_, rfl, _, rfl, _, rfl, szL (show 6 ≤ 1000000 by decide), fun l4 hl4 => ⟨p, c, .ref l4, [V.int 6, .int 7, .int 0, .int 1, .int 3, .int 8], _, rfl, .inl ⟨l4, rfl, upd_same⟩, (fun z => (hP3.ne hl4).1 (by injection z)), (show 0 < 6 by decide), (show 6 < 1000000 by decide), hP3.new hl4, by omega, fun x5 H5 hx5 k5 hP5 => ?_⟩⟩
      obtain ⟨m, hm, rfl⟩ : ∃ m : Int, (0 ≤ m ∧ m ≤ 8) ∧ x5 = V.int m := by
        simp only [List.mem_cons, List.not_mem_nil, or_false] at hx5
        rcases hx5 with rfl | rfl | rfl | rfl | rfl | rfl
        all_goals exact ⟨_, by decide, rfl⟩
      have x4 := Ext.new (o := .lst [V.int 6, .int 7, .int 0, .int 1, .int 3, .int 8]) hl4
      have hT5 := (hP3.new hl4).tabs k5 (hT3.ext x4)
      have hr5 := RulesAt.mono _ _ _ _ ((TupK.ext x4).trans (TupK.of k5 (hP3.new hl4))) hr3
      refine ⟨p, c, v, r, m, _, rfl, hr5, ok, by omega, by omega, hP5, by omega, fun x H6 hxm hO k6 hP6 => ?_⟩
      have hr6 := RulesAt.mono _ _ _ _ (TupK.of k6 hP5) hr5
      have hT6 := hP5.tabs k6 hT5
      have hx : x.length ≤ 12 := by omega
      clear k6 hr5 hP5 k5 hr3 hP3 hl4 x4
      refine gow_name ?_
      dsimp only
      -- kept
      refine ⟨_, rfl, v, _, _, _, rfl, dp_rules hr6, sm_rules ok, by decide, by decide, ?_⟩
      refine gow_name ?_
      dsimp only
      generalize hTx : (dRl r).shown = TX
      -- the least of all listed
      refine ⟨_, rfl, _, rfl, _, rfl, x, rfl, szL (by omega), _, 1, rfl, rfl, v, r, x, 0, (x.length : Int), rfl, hr6, ok, hx, Int.le_refl 0, by omega, Int.le_refl _, by omega, fun l us H7 hl hL hP7 k7 => ?_⟩
      rw [show ((x.length : Int) - 0).toNat = x.length by omega] at hP7
      have hr7 := RulesAt.mono _ _ _ _ (TupK.ext k7) hr6
      have wl := WA_len r x (n := x.length) hx 0
      have hul := paired_len hP7
      refine ⟨l, rfl, ⟨_, SqL.of hL⟩, fun D hD => lc_list (K := K) (xs := us) (fun t H8 => H8 D = some (.lst ((((WA r x x.length 0).take t).map (oV r x)).map V.int)) ∧ Ext H7 H8) ⟨upd_same, Ext.new hD⟩ (fun t H8 _ hv => SqL.of (hv.2 _ _ hL)) (fun t u H8 hi hv => ?_) (fun H8 hv => ?_)⟩
      · obtain ⟨hL8, k8⟩ := hv
        obtain ⟨w0, hw, hFl⟩ := paired_get hP7 hi
        have hwm := List.mem_of_getElem? hw
        refine ⟨rfl, _, rfl, _, rfl, _, rfl, v, u, r, x, w0, rfl, RulesAt.mono _ _ _ _ (TupK.ext k8) hr7, ok, hx, hO, hFl.1.ext k8, FoOk.of hx hwm (Int.le_refl 0) (by omega), fun H9 k9 => ?_⟩
        refine ⟨_, k9 _ _ hL8, szLt ?_, ?_, (k8.trans k9).put hD⟩
        · rw [List.length_map, List.length_map, List.length_take]
          omega
        · rw [upd_same, List.take_add_one, hw, List.map_append, List.map_append, ← oV_is hwm]
          rfl
      obtain ⟨hD8, k8⟩ := hv
      rw [List.take_of_length_le (by omega)] at hD8
      have hwp : 0 < ((WA r x x.length 0).map (oV r x)).length := by
        rw [List.length_map]
        obtain ⟨t, e⟩ := WA_head r x x.length 0
        rw [e]
        exact Nat.succ_pos _
      obtain ⟨mm, hmm⟩ := mn_ex r x
      refine ⟨D, _, rfl, SqL.of hD8, hwp, fun m' hm1 hm2 => ?_⟩
      obtain ⟨⟨q1, hq1, e1⟩, hle⟩ := least_is hmm
      have em : m' = mm := by
        obtain ⟨q2, hq2, e2⟩ := List.mem_map.mp hm1
        have a1 := hle q2 hq2
        have a2 := hm2 _ (List.mem_map.mpr ⟨q1, hq1, rfl⟩)
        omega
      subst em
      have mb := oV_b ok (x := x) (Int.le_refl 0) (by omega) hq1
      rw [e1] at mb
      have k68 := k7.trans k8
      have hr8 := RulesAt.mono _ _ _ _ (TupK.ext k68) hr6
      have hP8 := hP6.ext k68
      have hT8 := hT6.ext k68
      clear hD8 k7 k8 k68 hr7 hP7 hL hm1 hm2 hwp hle
      have sm : Sm 64 0 (.int m') := Sm.int (by omega) (by omega)
      refine ⟨.int m', .int m', 64, 0, rfl, .int _, sm, by decide, by decide, ?_⟩
      generalize hTm : (PyData.int m').shown = TM
      refine gow_name ?_
      dsimp only
      refine ⟨_, rfl, _, rfl, v, r, x, rfl, hr8.w, ok, hx, hO, fun m2 H9 hm2 k9 => ?_⟩
      obtain rfl := Option.some.inj (hm2.symm.trans hmm)
      have hr9 := RulesAt.mono _ _ _ _ (TupK.ext k9) hr8
      refine ⟨.int m2, .int m2, 64, 0, rfl, .int _, sm, by decide, by decide, ?_⟩
      rw [hTm]
      refine ⟨_, rfl, rfl, _, rfl, iteNS rfl ?_⟩
      refine ⟨_, rfl, _, rfl, rfl, rfl, v, r, x, rfl, hr9.w, ok, hx, hO, fun m3 H10 hm3 k10 => ?_⟩
      obtain rfl := Option.some.inj (hm3.symm.trans hmm)
      refine ⟨.int m3, .int m3, 64, 0, rfl, .int _, sm, by decide, by decide, ?_⟩
      rw [hTm]
      refine ⟨_, rfl, rfl, _, rfl, iteNS rfl ?_⟩
      have hr10 := RulesAt.mono _ _ _ _ (TupK.ext k10) hr9
      have hT10 := (hT8.ext k9).ext k10
      have hP10 := (hP8.ext k9).ext k10
      clear hr9 hr8 hT8 hP8 hP6 hT6 hr6 hT5 hT3 hP2 hT2 hm2 hm3 k9 k10 k3
      refine ⟨_, rfl, v, r, rfl, hr10, ok, fun ls us H11 hls hL11 hul hth k11 => ?_⟩
      have hr11 := RulesAt.mono _ _ _ _ (TupK.ext k11) hr10
      have hT11 := hT10.ext k11
      have hP11 := hP10.ext k11
      refine ⟨ls, rfl, ⟨_, SqL.of hL11⟩, for_list (K := K) (xs := us) (fun j σ H12 => ∃ (y8 y10 : Option V), σ = [some (.ref a), some (.ref p), some (.int (0 + (i : Int))), some (.str x), some (.str TX), some (.str TM), none, none, y8, some v, y10, none] ∧ ExtN H11 H12 ∧ Tabs T H12)
        ⟨_, _, rfl, ExtN.refl _, hT11⟩ (fun j σ H12 _ h => by obtain ⟨_, _, _, k, _⟩ := h; exact SqL.of (k _ _ hL11 (fun _ z => by cases z))) (fun j u σ H12 hj hv => ?_) (fun σ H12 hv => ?_)⟩
      · obtain ⟨z8, z10, rfl, n12, hT12⟩ := hv
        obtain ⟨d, hd, hodd⟩ := hth u (List.mem_of_getElem? hj)
        have hd12 := hd.extN n12
        refine gow_name ?_
        dsimp only
        refine ⟨szL (show 3 ≤ 1000000 by decide), fun t13 ht13 => ?_⟩
        have x13 := Ext.new (o := .tup [.ref atable_of, .ref aleast_worth, .ref aleast_folding]) ht13
        have hF : ∀ u ∈ [V.ref atable_of, .ref aleast_worth, .ref aleast_folding], ∃ g : Addr, u = .ref g ∧ FnV P w K mg base 6 g (spOdd K aNoString) := by
          intro u hu
          simp only [List.mem_cons, List.not_mem_nil, or_false] at hu
          rcases hu with rfl | rfl | rfl
          · exact ⟨_, rfl, vtable_of⟩
          · exact ⟨_, rfl, vleast_worth⟩
          · exact ⟨_, rfl, vleast_folding⟩
        have hL13 : upd H12 t13 (.tup [.ref atable_of, .ref aleast_worth, .ref aleast_folding]) t13 = some (.tup [.ref atable_of, .ref aleast_worth, .ref aleast_folding]) := upd_same
        have hT13 := hT12.ext x13
        have n13 := n12.trans (ExtN.ext x13)
        generalize upd H12 t13 (.tup [.ref atable_of, .ref aleast_worth, .ref aleast_folding]) = H13 at hL13 hT13 n13 ⊢
        generalize [V.ref atable_of, .ref aleast_worth, .ref aleast_folding] = fns at hL13 hF ⊢
        refine ⟨t13, rfl, ⟨_, SqT.of hL13⟩, for_tup (K := K) (xs := fns) (fun m σ H14 => ∃ (y8 : Option V), σ = [some (.ref a), some (.ref p), some (.int (0 + (i : Int))), some (.str x), some (.str TX), some (.str TM), none, none, y8, some v, some u, none] ∧ ExtN H13 H14 ∧ Tabs T H14)
          ⟨_, rfl, ExtN.refl _, hT13⟩ (fun m σ H14 _ h => by obtain ⟨_, _, k, _⟩ := h; exact SqT.of (k _ _ hL13 (fun _ z => by cases z))) (fun m g σ H14 hm hv => ?_) (fun σ H14 hv => ?_)⟩
        · obtain ⟨w8, rfl, n14, hT14⟩ := hv
          obtain ⟨gf, rfl, vf⟩ := hF g (List.mem_of_getElem? hm)
          refine gow_name ?_
          dsimp only
          refine ⟨hT14, fun H15 n15 hT15 Q' => ?_⟩
          have n1115 := n13.trans (n14.trans n15)
          refine ⟨gf, rfl, vf, _, rfl, _, rfl, v, u, r, d, rfl, (RulesAt.mono _ _ _ _ (ExtN.tupk n1115) hr11).w, (hd.extN n1115).tx, hodd, fun H16 k16 => ⟨rfl, rfl, fun H17 k17 => ⟨true, rfl, iteF ?_⟩⟩⟩
          exact ⟨_, rfl, n14.trans (n15.trans (ExtN.ext (k16.trans k17))), hT15.ext (k16.trans k17)⟩
        · obtain ⟨w8, rfl, n14, hT14⟩ := hv
          exact ⟨_, _, rfl, n13.trans n14, hT14⟩
      · obtain ⟨z8, z10, rfl, n12, hT12⟩ := hv
        refine ⟨hT12, fun H15 n15 hT15 Q' => ?_⟩
        have n1115 := n12.trans n15
        have hr15 := RulesAt.mono _ _ _ _ (ExtN.tupk n1115) hr11
        refine ⟨_, rfl, rfl, rfl, v, .non, r, .none, rfl, hr15.w, Tx.non, rfl, fun H16 k16 => ⟨rfl, rfl, fun H17 k17 => ⟨true, rfl, iteF ?_⟩⟩⟩
        have k1517 := k16.trans k17
        have hr17 := RulesAt.mono _ _ _ _ (TupK.ext k1517) hr15
        refine ⟨_, rfl, v, _, _, _, rfl, dp_rules hr17, sm_rules ok, by decide, by decide, ?_⟩
        rw [hTx]
        refine ⟨_, rfl, rfl, _, rfl, iteNS rfl ?_⟩
        exact ⟨_, _, _, _, _, _, _, rfl, ((hP11.extN n1115).ext k1517).mono (by omega), hT15.ext k1517, fun _ => ⟨v, r, rfl, hr17, ok⟩⟩
    · obtain ⟨y2, y3, y4, y5, y8, y9, y10, rfl, hP2, hT2, hg⟩ := hv
      obtain ⟨v, r, rfl, hr2, ok⟩ := hg (by decide)
      refine ⟨_, rfl, _, rfl, p, c, v, r, 12, _, rfl, hr2, ok, by decide, by decide, hP2, by decide, fun x H3 hxm hO k3 hP3 => ?_⟩
      have hr3 := RulesAt.mono _ _ _ _ (TupK.of k3 hP2) hr2
      refine gow_name ?_
      dsimp only
      refine ⟨_, rfl, _, rfl, v, r, x, rfl, hr3.w, ok, by omega, hO, fun m H4 hm k4 => ?_⟩
      have hneg := least_neg hm
      refine gow_name ?_
      dsimp only
      refine ⟨_, rfl, .int m, .ty "int", _, _, true, rfl, .ty _, .base (.int m), kit_ty (by decide +kernel), true, rfl, iteT ?_⟩
      refine ⟨_, rfl, .int m, .ty "bool", _, _, false, rfl, .ty _, .base (.int m), kit_ty (by decide +kernel), false, rfl, true, rfl, iteT ?_⟩
      refine ⟨_, rfl, _, _, rfl, rfl, ?_⟩
      have e : (fun i j => V.bl (decide (i ≤ j))) m 0 = V.bl true := congrArg V.bl (decide_eq_true hneg)
      rw [e]
      exact q _
end
end Pf


namespace Pf
open PySem PySem.Spec PyProof.Rows L2 LamX
/-! ### what the top has written; the law's own head -/
theorem all_mk {l : PySem.W.OpenLaw} {w : World} {K : PySem.W.Frag} {h : Heap} {mg : Str → Option Value} {fa f0 f1 f2 f3 f4 f5 f6 f7 f8 f9 f10 f11 f12 f13 f14 f15 f16 f17 f18 f19 f20 f21 f22 f23 f24 f25 f26 f27 f28 f29 f30 f31 f32 f33 f34 f35 f36 f37 f38 f39 f40 : Addr} (X : K.In h) (G : h.Ns mainGlobals mg) (hfa : mg "law" = some (.ref fa))
    {od0 an0 od1 an1 od2 an2 od3 an3 od4 an4 od5 an5 od6 an6 od7 an7 od8 an8 od9 an9 od10 an10 od11 an11 od12 an12 od13 an13 od14 an14 od15 an15 od16 an16 od17 an17 od18 an18 od19 an19 od20 an20 od21 an21 od22 an22 od23 an23 od24 an24 od25 an25 od26 an26 od27 an27 od28 an28 od29 an29 od30 an30 od31 an31 od32 an32 od33 an33 od34 an34 od35 an35 od36 an36 od37 an37 od38 an38 od39 an39 od40 an40 : Option Addr} {sl0 sl1 sl2 sl3 sl4 sl5 sl6 sl7 sl8 sl9 sl10 sl11 sl12 sl13 sl14 sl15 sl16 sl17 sl18 sl19 sl20 sl21 sl22 sl23 sl24 sl25 sl26 sl27 sl28 sl29 sl30 sl31 sl32 sl33 sl34 sl35 sl36 sl37 sl38 sl39 sl40 : Array (Option Value)} {oc0 kV0 dc0 pm0 cd0 ct0 oc1 kV1 dc1 pm1 cd1 ct1 oc2 kV2 dc2 pm2 cd2 ct2 oc3 kV3 dc3 pm3 cd3 ct3 oc4 kV4 dc4 pm4 cd4 ct4 oc5 kV5 dc5 pm5 cd5 ct5 oc6 kV6 dc6 pm6 cd6 ct6 oc7 kV7 dc7 pm7 cd7 ct7 oc8 kV8 dc8 pm8 cd8 ct8 oc9 kV9 dc9 pm9 cd9 ct9 oc10 kV10 dc10 pm10 cd10 ct10 oc11 kV11 dc11 pm11 cd11 ct11 oc12 kV12 dc12 pm12 cd12 ct12 oc13 kV13 dc13 pm13 cd13 ct13 oc14 kV14 dc14 pm14 cd14 ct14 oc15 kV15 dc15 pm15 cd15 ct15 oc16 kV16 dc16 pm16 cd16 ct16 oc17 kV17 dc17 pm17 cd17 ct17 oc18 kV18 dc18 pm18 cd18 ct18 oc19 kV19 dc19 pm19 cd19 ct19 oc20 kV20 dc20 pm20 cd20 ct20 oc21 kV21 dc21 pm21 cd21 ct21 oc22 kV22 dc22 pm22 cd22 ct22 oc23 kV23 dc23 pm23 cd23 ct23 oc24 kV24 dc24 pm24 cd24 ct24 oc25 kV25 dc25 pm25 cd25 ct25 oc26 kV26 dc26 pm26 cd26 ct26 oc27 kV27 dc27 pm27 cd27 ct27 oc28 kV28 dc28 pm28 cd28 ct28 oc29 kV29 dc29 pm29 cd29 ct29 oc30 kV30 dc30 pm30 cd30 ct30 oc31 kV31 dc31 pm31 cd31 ct31 oc32 kV32 dc32 pm32 cd32 ct32 oc33 kV33 dc33 pm33 cd33 ct33 oc34 kV34 dc34 pm34 cd34 ct34 oc35 kV35 dc35 pm35 cd35 ct35 oc36 kV36 dc36 pm36 cd36 ct36 oc37 kV37 dc37 pm37 cd37 ct37 oc38 kV38 dc38 pm38 cd38 ct38 oc39 kV39 dc39 pm39 cd39 ct39 oc40 kV40 dc40 pm40 ct40 : Value} {cc40 P40 : Addr} {te40 : Value} {td40 : Option Addr} {tv40 : Array Value} {ts40 : Array (Option Value)} {aL : Addr} {odG : Option Addr} {slG : Array (Option Value)} {nG : Nat} {tG0 tG1 tG2 tG3 tG4 tG5 tG6 tG7 tG8 : Tok} {tI0 : Tok} {aFoldError : Addr} {aNoRules : Addr} {aNoString : Addr} {aNoFolding : Addr} {aNoText : Addr} {aNoNumber : Addr} {aNoPlace : Addr} 
    (a0 : PySem.W.nsIn K mainGlobals "_law_pen" = some (some (.ref f0))) (l0 : K.lookup f0 = some ⟨oc0, od0, .func (PySem.W.fnOf "_law_pen" "_law_pen" (defArgs s_law_pen) (defBody s_law_pen) (defScope s_law_pen) .none kV0 dc0 pm0 an0 cd0 ct0), sl0⟩) (c0 : PySem.W.codeIn K cd0 "_law_pen" = true) (k0 : PySem.W.keepIn K (.ref f0) = true)
    (a1 : PySem.W.nsIn K mainGlobals "_law_draw" = some (some (.ref f1))) (l1 : K.lookup f1 = some ⟨oc1, od1, .func (PySem.W.fnOf "_law_draw" "_law_draw" (defArgs s_law_draw) (defBody s_law_draw) (defScope s_law_draw) .none kV1 dc1 pm1 an1 cd1 ct1), sl1⟩) (c1 : PySem.W.codeIn K cd1 "_law_draw" = true) (k1 : PySem.W.keepIn K (.ref f1) = true)
    (a2 : PySem.W.nsIn K mainGlobals "_law_pick" = some (some (.ref f2))) (l2 : K.lookup f2 = some ⟨oc2, od2, .func (PySem.W.fnOf "_law_pick" "_law_pick" (defArgs s_law_pick) (defBody s_law_pick) (defScope s_law_pick) .none kV2 dc2 pm2 an2 cd2 ct2), sl2⟩) (c2 : PySem.W.codeIn K cd2 "_law_pick" = true) (k2 : PySem.W.keepIn K (.ref f2) = true)
    (a3 : PySem.W.nsIn K mainGlobals "_law_worth" = some (some (.ref f3))) (l3 : K.lookup f3 = some ⟨oc3, od3, .func (PySem.W.fnOf "_law_worth" "_law_worth" (defArgs s_law_worth) (defBody s_law_worth) (defScope s_law_worth) .none kV3 dc3 pm3 an3 cd3 ct3), sl3⟩) (c3 : PySem.W.codeIn K cd3 "_law_worth" = true) (k3 : PySem.W.keepIn K (.ref f3) = true)
    (a4 : PySem.W.nsIn K mainGlobals "_law_rules" = some (some (.ref f4))) (l4 : K.lookup f4 = some ⟨oc4, od4, .func (PySem.W.fnOf "_law_rules" "_law_rules" (defArgs s_law_rules) (defBody s_law_rules) (defScope s_law_rules) .none kV4 dc4 pm4 an4 cd4 ct4), sl4⟩) (c4 : PySem.W.codeIn K cd4 "_law_rules" = true) (k4 : PySem.W.keepIn K (.ref f4) = true)
    (a5 : PySem.W.nsIn K mainGlobals "_law_fits" = some (some (.ref f5))) (l5 : K.lookup f5 = some ⟨oc5, od5, .func (PySem.W.fnOf "_law_fits" "_law_fits" (defArgs s_law_fits) (defBody s_law_fits) (defScope s_law_fits) .none kV5 dc5 pm5 an5 cd5 ct5), sl5⟩) (c5 : PySem.W.codeIn K cd5 "_law_fits" = true) (k5 : PySem.W.keepIn K (.ref f5) = true)
    (a6 : PySem.W.nsIn K mainGlobals "_law_writ" = some (some (.ref f6))) (l6 : K.lookup f6 = some ⟨oc6, od6, .func (PySem.W.fnOf "_law_writ" "_law_writ" (defArgs s_law_writ) (defBody s_law_writ) (defScope s_law_writ) .none kV6 dc6 pm6 an6 cd6 ct6), sl6⟩) (c6 : PySem.W.codeIn K cd6 "_law_writ" = true) (k6 : PySem.W.keepIn K (.ref f6) = true)
    (a7 : PySem.W.nsIn K mainGlobals "_law_listed" = some (some (.ref f7))) (l7 : K.lookup f7 = some ⟨oc7, od7, .func (PySem.W.fnOf "_law_listed" "_law_listed" (defArgs s_law_listed) (defBody s_law_listed) (defScope s_law_listed) .none kV7 dc7 pm7 an7 cd7 ct7), sl7⟩) (c7 : PySem.W.codeIn K cd7 "_law_listed" = true) (k7 : PySem.W.keepIn K (.ref f7) = true)
    (a8 : PySem.W.nsIn K mainGlobals "_law_straight" = some (some (.ref f8))) (l8 : K.lookup f8 = some ⟨oc8, od8, .func (PySem.W.fnOf "_law_straight" "_law_straight" (defArgs s_law_straight) (defBody s_law_straight) (defScope s_law_straight) .none kV8 dc8 pm8 an8 cd8 ct8), sl8⟩) (c8 : PySem.W.codeIn K cd8 "_law_straight" = true) (k8 : PySem.W.keepIn K (.ref f8) = true)
    (a9 : PySem.W.nsIn K mainGlobals "_law_loop" = some (some (.ref f9))) (l9 : K.lookup f9 = some ⟨oc9, od9, .func (PySem.W.fnOf "_law_loop" "_law_loop" (defArgs s_law_loop) (defBody s_law_loop) (defScope s_law_loop) .none kV9 dc9 pm9 an9 cd9 ct9), sl9⟩) (c9 : PySem.W.codeIn K cd9 "_law_loop" = true) (k9 : PySem.W.keepIn K (.ref f9) = true)
    (a10 : PySem.W.nsIn K mainGlobals "_law_shut" = some (some (.ref f10))) (l10 : K.lookup f10 = some ⟨oc10, od10, .func (PySem.W.fnOf "_law_shut" "_law_shut" (defArgs s_law_shut) (defBody s_law_shut) (defScope s_law_shut) .none kV10 dc10 pm10 an10 cd10 ct10), sl10⟩) (c10 : PySem.W.codeIn K cd10 "_law_shut" = true) (k10 : PySem.W.keepIn K (.ref f10) = true)
    (a11 : PySem.W.nsIn K mainGlobals "_law_whole" = some (some (.ref f11))) (l11 : K.lookup f11 = some ⟨oc11, od11, .func (PySem.W.fnOf "_law_whole" "_law_whole" (defArgs s_law_whole) (defBody s_law_whole) (defScope s_law_whole) .none kV11 dc11 pm11 an11 cd11 ct11), sl11⟩) (c11 : PySem.W.codeIn K cd11 "_law_whole" = true) (k11 : PySem.W.keepIn K (.ref f11) = true)
    (a12 : PySem.W.nsIn K mainGlobals "pair_worth" = some (some (.ref f12))) (l12 : K.lookup f12 = some ⟨oc12, od12, .func (PySem.W.fnOf "pair_worth" "pair_worth" (defArgs s_pair_worth) (defBody s_pair_worth) (defScope s_pair_worth) .none kV12 dc12 pm12 an12 cd12 ct12), sl12⟩) (c12 : PySem.W.codeIn K cd12 "pair_worth" = true) (k12 : PySem.W.keepIn K (.ref f12) = true)
    (a13 : PySem.W.nsIn K mainGlobals "text_of" = some (some (.ref f13))) (l13 : K.lookup f13 = some ⟨oc13, od13, .func (PySem.W.fnOf "text_of" "text_of" (defArgs s_text_of) (defBody s_text_of) (defScope s_text_of) .none kV13 dc13 pm13 an13 cd13 ct13), sl13⟩) (c13 : PySem.W.codeIn K cd13 "text_of" = true) (k13 : PySem.W.keepIn K (.ref f13) = true)
    (a14 : PySem.W.nsIn K mainGlobals "may_pair" = some (some (.ref f14))) (l14 : K.lookup f14 = some ⟨oc14, od14, .func (PySem.W.fnOf "may_pair" "may_pair" (defArgs s_may_pair) (defBody s_may_pair) (defScope s_may_pair) .none kV14 dc14 pm14 an14 cd14 ct14), sl14⟩) (c14 : PySem.W.codeIn K cd14 "may_pair" = true) (k14 : PySem.W.keepIn K (.ref f14) = true)
    (a15 : PySem.W.nsIn K mainGlobals "is_string" = some (some (.ref f15))) (l15 : K.lookup f15 = some ⟨oc15, od15, .func (PySem.W.fnOf "is_string" "is_string" (defArgs s_is_string) (defBody s_is_string) (defScope s_is_string) .none kV15 dc15 pm15 an15 cd15 ct15), sl15⟩) (c15 : PySem.W.codeIn K cd15 "is_string" = true) (k15 : PySem.W.keepIn K (.ref f15) = true)
    (a16 : PySem.W.nsIn K mainGlobals "need_string" = some (some (.ref f16))) (l16 : K.lookup f16 = some ⟨oc16, od16, .func (PySem.W.fnOf "need_string" "need_string" (defArgs s_need_string) (defBody s_need_string) (defScope s_need_string) .none kV16 dc16 pm16 an16 cd16 ct16), sl16⟩) (c16 : PySem.W.codeIn K cd16 "need_string" = true) (k16 : PySem.W.keepIn K (.ref f16) = true)
    (a17 : PySem.W.nsIn K mainGlobals "stack_worth" = some (some (.ref f17))) (l17 : K.lookup f17 = some ⟨oc17, od17, .func (PySem.W.fnOf "stack_worth" "stack_worth" (defArgs s_stack_worth) (defBody s_stack_worth) (defScope s_stack_worth) .none kV17 dc17 pm17 an17 cd17 ct17), sl17⟩) (c17 : PySem.W.codeIn K cd17 "stack_worth" = true) (k17 : PySem.W.keepIn K (.ref f17) = true)
    (a18 : PySem.W.nsIn K mainGlobals "loop_worths" = some (some (.ref f18))) (l18 : K.lookup f18 = some ⟨oc18, od18, .func (PySem.W.fnOf "loop_worths" "loop_worths" (defArgs s_loop_worths) (defBody s_loop_worths) (defScope s_loop_worths) .none kV18 dc18 pm18 an18 cd18 ct18), sl18⟩) (c18 : PySem.W.codeIn K cd18 "loop_worths" = true) (k18 : PySem.W.keepIn K (.ref f18) = true)
    (a19 : PySem.W.nsIn K mainGlobals "kind_of" = some (some (.ref f19))) (l19 : K.lookup f19 = some ⟨oc19, od19, .func (PySem.W.fnOf "kind_of" "kind_of" (defArgs s_kind_of) (defBody s_kind_of) (defScope s_kind_of) .none kV19 dc19 pm19 an19 cd19 ct19), sl19⟩) (c19 : PySem.W.codeIn K cd19 "kind_of" = true) (k19 : PySem.W.keepIn K (.ref f19) = true)
    (a20 : PySem.W.nsIn K mainGlobals "loop_within" = some (some (.ref f20))) (l20 : K.lookup f20 = some ⟨oc20, od20, .func (PySem.W.fnOf "loop_within" "loop_within" (defArgs s_loop_within) (defBody s_loop_within) (defScope s_loop_within) .none kV20 dc20 pm20 an20 cd20 ct20), sl20⟩) (c20 : PySem.W.codeIn K cd20 "loop_within" = true) (k20 : PySem.W.keepIn K (.ref f20) = true)
    (a21 : PySem.W.nsIn K mainGlobals "branch_ways" = some (some (.ref f21))) (l21 : K.lookup f21 = some ⟨oc21, od21, .func (PySem.W.fnOf "branch_ways" "branch_ways" (defArgs s_branch_ways) (defBody s_branch_ways) (defScope s_branch_ways) .none kV21 dc21 pm21 an21 cd21 ct21), sl21⟩) (c21 : PySem.W.codeIn K cd21 "branch_ways" = true) (k21 : PySem.W.keepIn K (.ref f21) = true)
    (a22 : PySem.W.nsIn K mainGlobals "two_ways" = some (some (.ref f22))) (l22 : K.lookup f22 = some ⟨oc22, od22, .func (PySem.W.fnOf "two_ways" "two_ways" (defArgs s_two_ways) (defBody s_two_ways) (defScope s_two_ways) .none kV22 dc22 pm22 an22 cd22 ct22), sl22⟩) (c22 : PySem.W.codeIn K cd22 "two_ways" = true) (k22 : PySem.W.keepIn K (.ref f22) = true)
    (a23 : PySem.W.nsIn K mainGlobals "one_ways" = some (some (.ref f23))) (l23 : K.lookup f23 = some ⟨oc23, od23, .func (PySem.W.fnOf "one_ways" "one_ways" (defArgs s_one_ways) (defBody s_one_ways) (defScope s_one_ways) .none kV23 dc23 pm23 an23 cd23 ct23), sl23⟩) (c23 : PySem.W.codeIn K cd23 "one_ways" = true) (k23 : PySem.W.keepIn K (.ref f23) = true)
    (a24 : PySem.W.nsIn K mainGlobals "open_ways" = some (some (.ref f24))) (l24 : K.lookup f24 = some ⟨oc24, od24, .func (PySem.W.fnOf "open_ways" "open_ways" (defArgs s_open_ways) (defBody s_open_ways) (defScope s_open_ways) .none kV24 dc24 pm24 an24 cd24 ct24), sl24⟩) (c24 : PySem.W.codeIn K cd24 "open_ways" = true) (k24 : PySem.W.keepIn K (.ref f24) = true)
    (a25 : PySem.W.nsIn K mainGlobals "shut_ways" = some (some (.ref f25))) (l25 : K.lookup f25 = some ⟨oc25, od25, .func (PySem.W.fnOf "shut_ways" "shut_ways" (defArgs s_shut_ways) (defBody s_shut_ways) (defScope s_shut_ways) .none kV25 dc25 pm25 an25 cd25 ct25), sl25⟩) (c25 : PySem.W.codeIn K cd25 "shut_ways" = true) (k25 : PySem.W.keepIn K (.ref f25) = true)
    (a26 : PySem.W.nsIn K mainGlobals "ways_of" = some (some (.ref f26))) (l26 : K.lookup f26 = some ⟨oc26, od26, .func (PySem.W.fnOf "ways_of" "ways_of" (defArgs s_ways_of) (defBody s_ways_of) (defScope s_ways_of) .none kV26 dc26 pm26 an26 cd26 ct26), sl26⟩) (c26 : PySem.W.codeIn K cd26 "ways_of" = true) (k26 : PySem.W.keepIn K (.ref f26) = true)
    (a27 : PySem.W.nsIn K mainGlobals "rows_in_turn" = some (some (.ref f27))) (l27 : K.lookup f27 = some ⟨oc27, od27, .func (PySem.W.fnOf "rows_in_turn" "rows_in_turn" (defArgs s_rows_in_turn) (defBody s_rows_in_turn) (defScope s_rows_in_turn) .none kV27 dc27 pm27 an27 cd27 ct27), sl27⟩) (c27 : PySem.W.codeIn K cd27 "rows_in_turn" = true) (k27 : PySem.W.keepIn K (.ref f27) = true)
    (a28 : PySem.W.nsIn K mainGlobals "whole_row" = some (some (.ref f28))) (l28 : K.lookup f28 = some ⟨oc28, od28, .func (PySem.W.fnOf "whole_row" "whole_row" (defArgs s_whole_row) (defBody s_whole_row) (defScope s_whole_row) .none kV28 dc28 pm28 an28 cd28 ct28), sl28⟩) (c28 : PySem.W.codeIn K cd28 "whole_row" = true) (k28 : PySem.W.keepIn K (.ref f28) = true)
    (a29 : PySem.W.nsIn K mainGlobals "comes_to" = some (some (.ref f29))) (l29 : K.lookup f29 = some ⟨oc29, od29, .func (PySem.W.fnOf "comes_to" "comes_to" (defArgs s_comes_to) (defBody s_comes_to) (defScope s_comes_to) .none kV29 dc29 pm29 an29 cd29 ct29), sl29⟩) (c29 : PySem.W.codeIn K cd29 "comes_to" = true) (k29 : PySem.W.keepIn K (.ref f29) = true)
    (a30 : PySem.W.nsIn K mainGlobals "least_way" = some (some (.ref f30))) (l30 : K.lookup f30 = some ⟨oc30, od30, .func (PySem.W.fnOf "least_way" "least_way" (defArgs s_least_way) (defBody s_least_way) (defScope s_least_way) .none kV30 dc30 pm30 an30 cd30 ct30), sl30⟩) (c30 : PySem.W.codeIn K cd30 "least_way" = true) (k30 : PySem.W.keepIn K (.ref f30) = true)
    (a31 : PySem.W.nsIn K mainGlobals "all_ways" = some (some (.ref f31))) (l31 : K.lookup f31 = some ⟨oc31, od31, .func (PySem.W.fnOf "all_ways" "all_ways" (defArgs s_all_ways) (defBody s_all_ways) (defScope s_all_ways) .none kV31 dc31 pm31 an31 cd31 ct31), sl31⟩) (c31 : PySem.W.codeIn K cd31 "all_ways" = true) (k31 : PySem.W.keepIn K (.ref f31) = true)
    (a32 : PySem.W.nsIn K mainGlobals "least_rows" = some (some (.ref f32))) (l32 : K.lookup f32 = some ⟨oc32, od32, .func (PySem.W.fnOf "least_rows" "least_rows" (defArgs s_least_rows) (defBody s_least_rows) (defScope s_least_rows) .none kV32 dc32 pm32 an32 cd32 ct32), sl32⟩) (c32 : PySem.W.codeIn K cd32 "least_rows" = true) (k32 : PySem.W.keepIn K (.ref f32) = true)
    (a33 : PySem.W.nsIn K mainGlobals "best_way" = some (some (.ref f33))) (l33 : K.lookup f33 = some ⟨oc33, od33, .func (PySem.W.fnOf "best_way" "best_way" (defArgs s_best_way) (defBody s_best_way) (defScope s_best_way) .none kV33 dc33 pm33 an33 cd33 ct33), sl33⟩) (c33 : PySem.W.codeIn K cd33 "best_way" = true) (k33 : PySem.W.keepIn K (.ref f33) = true)
    (a34 : PySem.W.nsIn K mainGlobals "folding_by" = some (some (.ref f34))) (l34 : K.lookup f34 = some ⟨oc34, od34, .func (PySem.W.fnOf "folding_by" "folding_by" (defArgs s_folding_by) (defBody s_folding_by) (defScope s_folding_by) .none kV34 dc34 pm34 an34 cd34 ct34), sl34⟩) (c34 : PySem.W.codeIn K cd34 "folding_by" = true) (k34 : PySem.W.keepIn K (.ref f34) = true)
    (a35 : PySem.W.nsIn K mainGlobals "table_of" = some (some (.ref f35))) (l35 : K.lookup f35 = some ⟨oc35, od35, .func (PySem.W.fnOf "table_of" "table_of" (defArgs s_table_of) (defBody s_table_of) (defScope s_table_of) .none kV35 dc35 pm35 an35 cd35 ct35), sl35⟩) (c35 : PySem.W.codeIn K cd35 "table_of" = true) (k35 : PySem.W.keepIn K (.ref f35) = true)
    (a36 : PySem.W.nsIn K mainGlobals "least_worth" = some (some (.ref f36))) (l36 : K.lookup f36 = some ⟨oc36, od36, .func (PySem.W.fnOf "least_worth" "least_worth" (defArgs s_least_worth) (defBody s_least_worth) (defScope s_least_worth) .none kV36 dc36 pm36 an36 cd36 ct36), sl36⟩) (c36 : PySem.W.codeIn K cd36 "least_worth" = true) (k36 : PySem.W.keepIn K (.ref f36) = true)
    (a37 : PySem.W.nsIn K mainGlobals "least_folding" = some (some (.ref f37))) (l37 : K.lookup f37 = some ⟨oc37, od37, .func (PySem.W.fnOf "least_folding" "least_folding" (defArgs s_least_folding) (defBody s_least_folding) (defScope s_least_folding) .none kV37 dc37 pm37 an37 cd37 ct37), sl37⟩) (c37 : PySem.W.codeIn K cd37 "least_folding" = true) (k37 : PySem.W.keepIn K (.ref f37) = true)
    (a38 : PySem.W.nsIn K mainGlobals "_law_is_refused" = some (some (.ref f38))) (l38 : K.lookup f38 = some ⟨oc38, od38, .func (PySem.W.fnOf "_law_is_refused" "_law_is_refused" (defArgs s_law_is_refused) (defBody s_law_is_refused) (defScope s_law_is_refused) .none kV38 dc38 pm38 an38 cd38 ct38), sl38⟩) (c38 : PySem.W.codeIn K cd38 "_law_is_refused" = true) (k38 : PySem.W.keepIn K (.ref f38) = true)
    (a39 : PySem.W.nsIn K mainGlobals "_law_strange" = some (some (.ref f39))) (l39 : K.lookup f39 = some ⟨oc39, od39, .func (PySem.W.fnOf "_law_strange" "_law_strange" (defArgs s_law_strange) (defBody s_law_strange) (defScope s_law_strange) .none kV39 dc39 pm39 an39 cd39 ct39), sl39⟩) (c39 : PySem.W.codeIn K cd39 "_law_strange" = true) (k39 : PySem.W.keepIn K (.ref f39) = true)
    (a40 : PySem.W.nsIn K mainGlobals "law" = some (some (.ref f40))) (l40 : K.lookup f40 = some ⟨oc40, od40, .func (PySem.W.fnOf "law" "law" (defArgs s_law) (defBody s_law) (defScope s_law) .none kV40 dc40 pm40 an40 (.ref cc40) ct40), sl40⟩) (c40 : PySem.W.codeIn K (.ref cc40) "law" = true) (k40 : PySem.W.keepIn K (.ref f40) = true) (tc40 : K.lookup cc40 = some ⟨te40, td40, .fields tv40, ts40⟩) (th40 : tv40[11]? = some (.ref P40)) (nk40 : K.lookup P40 = none) (ht40 : HasTab mg h "law")
    (z0 : PySem.W.nsIn K mainGlobals "len" = some none)
    (z1 : PySem.W.nsIn K mainGlobals "abs" = some none)
    (z2 : PySem.W.nsIn K mainGlobals "int" = some none)
    (z3 : PySem.W.nsIn K mainGlobals "tuple" = some none)
    (z4 : PySem.W.nsIn K mainGlobals "range" = some none)
    (z5 : PySem.W.nsIn K mainGlobals "sorted" = some none)
    (z6 : PySem.W.nsIn K mainGlobals "repr" = some none)
    (z7 : PySem.W.nsIn K mainGlobals "min" = some none)
    (z8 : PySem.W.nsIn K mainGlobals "dict" = some none)
    (z9 : PySem.W.nsIn K mainGlobals "isinstance" = some none)
    (z10 : PySem.W.nsIn K mainGlobals "str" = some none)
    (z11 : PySem.W.nsIn K mainGlobals "all" = some none)
    (z12 : PySem.W.nsIn K mainGlobals "sum" = some none)
    (z13 : PySem.W.nsIn K mainGlobals "zip" = some none)
    (z14 : PySem.W.nsIn K mainGlobals "bool" = some none)
    (z15 : PySem.W.nsIn K mainGlobals "ValueError" = some none)
    (aG : PySem.W.nsIn K mainGlobals "LOOPS" = some (some (.ref aL))) (lG : K.lookup aL = some ⟨.type "tuple", odG, .seq #[.str "stacked" tG0, .str "inner" tG1, .str "inner free" tG2, .str "forked" tG3, .str "branch" tG4, .str "fork free" tG5, .str "lone" tG6, .str "lone free" tG7, .str "open" tG8] nG, slG⟩)
    (aI0 : PySem.W.nsIn K mainGlobals "MOST_PLACES" = some (some (.int 12 tI0)))
    (aCFoldError : PySem.W.nsIn K mainGlobals "FoldError" = some (some (.ref aFoldError)))
    (aCNoRules : PySem.W.nsIn K mainGlobals "NoRules" = some (some (.ref aNoRules)))
    (aCNoString : PySem.W.nsIn K mainGlobals "NoString" = some (some (.ref aNoString)))
    (aCNoFolding : PySem.W.nsIn K mainGlobals "NoFolding" = some (some (.ref aNoFolding)))
    (aCNoText : PySem.W.nsIn K mainGlobals "NoText" = some (some (.ref aNoText)))
    (aCNoNumber : PySem.W.nsIn K mainGlobals "NoNumber" = some (some (.ref aNoNumber)))
    (aCNoPlace : PySem.W.nsIn K mainGlobals "NoPlace" = some (some (.ref aNoPlace)))
    (xNoString_hg : PySem.W.findIn K (.ref aNoString) "__getattribute__" = some (some (.builtin "BaseException.__getattribute__")))
    (xNoString_hk : PySem.W.findIn K (.ref aNoString) "__getattr__" = some none)
    (xNoString_hs : PySem.W.subIn K (.ref aNoString) (.type "BaseException") = some true)
    (xNoString_hd : PySem.W.hasDictIn K aNoString = true)
    (xNoString_ha : PySem.W.findIn K (.ref aNoString) "__class__" = some (some (.builtin "object.__class__")))
    (xNoString_hn : PySem.W.specialIn K (.builtin "object.__class__") "__get__" = some (some (.builtin "getset_descriptor.__get__")))
    (xNoString_ht : PySem.W.takesIn K (.builtin "object.__class__") = some true)
    (xNoString_hm : PySem.W.mroIn K aNoString (.type "object") = some true)
    (xxNoString : PySem.W.excIn K aNoString [.type "ValueError", .type "Exception", .type "BaseException", .type "object"] "ValueError.__new__" = true)
    (xkNoString : PySem.W.keepIn K (.ref aNoString) = true)
    (subVE : PySem.W.subIn K (.ref aNoString) (.type "ValueError") = some true)
    (typFoldError : PySem.W.typeIn K (.ref aFoldError) = some (.type "type"))
    (clsFoldError : PySem.W.isClsIn K aFoldError = true)
    (basFoldError : PySem.W.subIn K (.ref aFoldError) (.type "BaseException") = some true)
    (typNoRules : PySem.W.typeIn K (.ref aNoRules) = some (.type "type"))
    (clsNoRules : PySem.W.isClsIn K aNoRules = true)
    (basNoRules : PySem.W.subIn K (.ref aNoRules) (.type "BaseException") = some true)
    (typNoString : PySem.W.typeIn K (.ref aNoString) = some (.type "type"))
    (clsNoString : PySem.W.isClsIn K aNoString = true)
    (basNoString : PySem.W.subIn K (.ref aNoString) (.type "BaseException") = some true)
    (typNoFolding : PySem.W.typeIn K (.ref aNoFolding) = some (.type "type"))
    (clsNoFolding : PySem.W.isClsIn K aNoFolding = true)
    (basNoFolding : PySem.W.subIn K (.ref aNoFolding) (.type "BaseException") = some true)
    (typNoText : PySem.W.typeIn K (.ref aNoText) = some (.type "type"))
    (clsNoText : PySem.W.isClsIn K aNoText = true)
    (basNoText : PySem.W.subIn K (.ref aNoText) (.type "BaseException") = some true)
    (typNoNumber : PySem.W.typeIn K (.ref aNoNumber) = some (.type "type"))
    (clsNoNumber : PySem.W.isClsIn K aNoNumber = true)
    (basNoNumber : PySem.W.subIn K (.ref aNoNumber) (.type "BaseException") = some true)
    (typNoPlace : PySem.W.typeIn K (.ref aNoPlace) = some (.type "type"))
    (clsNoPlace : PySem.W.isClsIn K aNoPlace = true)
    (basNoPlace : PySem.W.subIn K (.ref aNoPlace) (.type "BaseException") = some true)
    (subNoStringFoldError : PySem.W.subIn K (.ref aNoString) (.ref aFoldError) = some true)
    (neNoStringFoldError : (Value.ref aNoString == Value.ref aFoldError) = false)
    (subNoStringNoRules : PySem.W.subIn K (.ref aNoString) (.ref aNoRules) = some false)
    (neNoStringNoRules : (Value.ref aNoString == Value.ref aNoRules) = false)
    (subNoStringNoString : PySem.W.subIn K (.ref aNoString) (.ref aNoString) = some true)
    (subNoStringNoFolding : PySem.W.subIn K (.ref aNoString) (.ref aNoFolding) = some false)
    (neNoStringNoFolding : (Value.ref aNoString == Value.ref aNoFolding) = false)
    (subNoStringNoText : PySem.W.subIn K (.ref aNoString) (.ref aNoText) = some false)
    (neNoStringNoText : (Value.ref aNoString == Value.ref aNoText) = false)
    (subNoStringNoNumber : PySem.W.subIn K (.ref aNoString) (.ref aNoNumber) = some false)
    (neNoStringNoNumber : (Value.ref aNoString == Value.ref aNoNumber) = false)
    (subNoStringNoPlace : PySem.W.subIn K (.ref aNoString) (.ref aNoPlace) = some false)
    (neNoStringNoPlace : (Value.ref aNoString == Value.ref aNoPlace) = false) :
    ∃ (fd : FuncData) (tabs : List (Addr × Addr)) (sp : Sp), (∀ p ∈ tabs, h.get? p.2 = some { cls := .none, data := .fields #[] }) ∧ (∀ p ∈ tabs, K.lookup p.2 = none) ∧ (∀ p ∈ tabs, PySem.W.CodeHd h p.1 p.2) ∧
        (∀ (s : Shared) (u : Value), BindsTo s fd ⟨[u], []⟩ [("_law_script", u)]) ∧
        (∀ (H : Hp) (a : Addr) (ns : List Int), ns.length ≤ 63 → (∀ p ∈ tabs, H p.2 = some (.tbl #[])) → SqL K H a (ns.map V.int) → sp [.ref a] H (fun v _ => v = .bl true) fun _ _ _ => False) ∧
        ∀ base : Heap, K.In base → base.Ns mainGlobals mg → (∀ p ∈ tabs, TabB base mg p.1 p.2) → FnG l.prog w K mg base fa fd ["_law_script"] sp := by
  have e := hfa.symm.trans (PySem.W.mg_of X G a40)
  cases e
  have F0 := fun_mk (st := s_law_pen) l0 c0 k0
  have F1 := fun_mk (st := s_law_draw) l1 c1 k1
  have F2 := fun_mk (st := s_law_pick) l2 c2 k2
  have F3 := fun_mk (st := s_law_worth) l3 c3 k3
  have F4 := fun_mk (st := s_law_rules) l4 c4 k4
  have F5 := fun_mk (st := s_law_fits) l5 c5 k5
  have F6 := fun_mk (st := s_law_writ) l6 c6 k6
  have F7 := fun_mk (st := s_law_listed) l7 c7 k7
  have F8 := fun_mk (st := s_law_straight) l8 c8 k8
  have F9 := fun_mk (st := s_law_loop) l9 c9 k9
  have F10 := fun_mk (st := s_law_shut) l10 c10 k10
  have F11 := fun_mk (st := s_law_whole) l11 c11 k11
  have F12 := fun_mk (st := s_pair_worth) l12 c12 k12
  have F13 := fun_mk (st := s_text_of) l13 c13 k13
  have F14 := fun_mk (st := s_may_pair) l14 c14 k14
  have F15 := fun_mk (st := s_is_string) l15 c15 k15
  have F16 := fun_mk (st := s_need_string) l16 c16 k16
  have F17 := fun_mk (st := s_stack_worth) l17 c17 k17
  have F18 := fun_mk (st := s_loop_worths) l18 c18 k18
  have F19 := fun_mk (st := s_kind_of) l19 c19 k19
  have F20 := fun_mk (st := s_loop_within) l20 c20 k20
  have F21 := fun_mk (st := s_branch_ways) l21 c21 k21
  have F22 := fun_mk (st := s_two_ways) l22 c22 k22
  have F23 := fun_mk (st := s_one_ways) l23 c23 k23
  have F24 := fun_mk (st := s_open_ways) l24 c24 k24
  have F25 := fun_mk (st := s_shut_ways) l25 c25 k25
  have F26 := fun_mk (st := s_ways_of) l26 c26 k26
  have F27 := fun_mk (st := s_rows_in_turn) l27 c27 k27
  have F28 := fun_mk (st := s_whole_row) l28 c28 k28
  have F29 := fun_mk (st := s_comes_to) l29 c29 k29
  have F30 := fun_mk (st := s_least_way) l30 c30 k30
  have F31 := fun_mk (st := s_all_ways) l31 c31 k31
  have F32 := fun_mk (st := s_least_rows) l32 c32 k32
  have F33 := fun_mk (st := s_best_way) l33 c33 k33
  have F34 := fun_mk (st := s_folding_by) l34 c34 k34
  have F35 := fun_mk (st := s_table_of) l35 c35 k35
  have F36 := fun_mk (st := s_least_worth) l36 c36 k36
  have F37 := fun_mk (st := s_least_folding) l37 c37 k37
  have F38 := fun_mk (st := s_law_is_refused) l38 c38 k38
  have F39 := fun_mk (st := s_law_strange) l39 c39 k39
  have F40 := fun_mk (st := s_law) l40 c40 k40
  have HT40 := hasTab_at ht40 X (PySem.W.mg_of X G a40) l40 rfl tc40 th40
  have mlen := PySem.W.mg_none_of X G z0
  have mabs := PySem.W.mg_none_of X G z1
  have mint := PySem.W.mg_none_of X G z2
  have mtuple := PySem.W.mg_none_of X G z3
  have mrange := PySem.W.mg_none_of X G z4
  have msorted := PySem.W.mg_none_of X G z5
  have mrepr := PySem.W.mg_none_of X G z6
  have mmin := PySem.W.mg_none_of X G z7
  have mdict := PySem.W.mg_none_of X G z8
  have misinstance := PySem.W.mg_none_of X G z9
  have mstr := PySem.W.mg_none_of X G z10
  have mall := PySem.W.mg_none_of X G z11
  have msum := PySem.W.mg_none_of X G z12
  have mzip := PySem.W.mg_none_of X G z13
  have mbool := PySem.W.mg_none_of X G z14
  have mValueError := PySem.W.mg_none_of X G z15
  have gLOOPS := PySem.W.mg_of X G aG
  have hLO : ∀ H : Hp, SqT K H aL (LN.map V.str) := fun H => .inr ⟨_, _, _, lG, rfl, rfl, szL (show 9 ≤ 1000000 by decide), (.cons ⟨_, rfl⟩ (.cons ⟨_, rfl⟩ (.cons ⟨_, rfl⟩ (.cons ⟨_, rfl⟩ (.cons ⟨_, rfl⟩ (.cons ⟨_, rfl⟩ (.cons ⟨_, rfl⟩ (.cons ⟨_, rfl⟩ (.cons ⟨_, rfl⟩ .nil)))))))))⟩
  have gMOST_PLACES := PySem.W.mg_of X G aI0
  have gFoldError := PySem.W.mg_of X G aCFoldError
  have gNoRules := PySem.W.mg_of X G aCNoRules
  have gNoString := PySem.W.mg_of X G aCNoString
  have gNoFolding := PySem.W.mg_of X G aCNoFolding
  have gNoText := PySem.W.mg_of X G aCNoText
  have gNoNumber := PySem.W.mg_of X G aCNoNumber
  have gNoPlace := PySem.W.mg_of X G aCNoPlace
  have hCNoString : ExcC K aNoString := ⟨xNoString_hg, xNoString_hk, xNoString_hs, xNoString_hd, xNoString_ha, xNoString_hn, xNoString_ht, xNoString_hm⟩
  have kcNoStringFoldError := under_cls typFoldError clsFoldError subNoStringFoldError
  have kkNoStringFoldError := under_one kcNoStringFoldError neNoStringFoldError
  have keNoStringFoldError := meets_one basFoldError kcNoStringFoldError
  have kcNoStringNoRules := under_cls typNoRules clsNoRules subNoStringNoRules
  have kkNoStringNoRules := under_one kcNoStringNoRules neNoStringNoRules
  have keNoStringNoRules := meets_one basNoRules kcNoStringNoRules
  have kcNoStringNoString := under_cls typNoString clsNoString subNoStringNoString
  have kkNoStringNoString := under_self (K := K) (C := aNoString)
  have keNoStringNoString := meets_one basNoString kcNoStringNoString
  have kcNoStringNoFolding := under_cls typNoFolding clsNoFolding subNoStringNoFolding
  have kkNoStringNoFolding := under_one kcNoStringNoFolding neNoStringNoFolding
  have keNoStringNoFolding := meets_one basNoFolding kcNoStringNoFolding
  have kcNoStringNoText := under_cls typNoText clsNoText subNoStringNoText
  have kkNoStringNoText := under_one kcNoStringNoText neNoStringNoText
  have keNoStringNoText := meets_one basNoText kcNoStringNoText
  have kcNoStringNoNumber := under_cls typNoNumber clsNoNumber subNoStringNoNumber
  have kkNoStringNoNumber := under_one kcNoStringNoNumber neNoStringNoNumber
  have keNoStringNoNumber := meets_one basNoNumber kcNoStringNoNumber
  have kcNoStringNoPlace := under_cls typNoPlace clsNoPlace subNoStringNoPlace
  have kkNoStringNoPlace := under_one kcNoStringNoPlace neNoStringNoPlace
  have keNoStringNoPlace := meets_one basNoPlace kcNoStringNoPlace
  have eX := meets_more keNoStringFoldError (meets_more keNoStringNoNumber (meets_more (r := []) keNoStringNoPlace rfl))
  have iTup := any_no kkNoStringNoFolding (any_no kkNoStringNoRules (any_no kkNoStringNoText (any_no kkNoStringNoNumber (any_no (r := []) kkNoStringNoPlace rfl))))
  refine ⟨PySem.W.fnOf "law" "law" (defArgs s_law) (defBody s_law) (defScope s_law) .none kV40 dc40 pm40 an40 (.ref cc40) ct40, [(cc40, P40)], spLaw K [(P40, ("law" : Str) ++ ".<locals>." ++ "<lambda>")], ?_, ?_, ?_, fun s v => .of_eq rfl, ?_, fun base _ _ TBs => ?_⟩
  · exact fun p hp => by
      simp only [List.mem_cons, List.not_mem_nil, or_false] at hp
      rcases hp with rfl
      · exact HT40.2
  · exact fun p hp => by
      simp only [List.mem_cons, List.not_mem_nil, or_false] at hp
      rcases hp with rfl
      · exact nk40
  · exact fun p hp => by
      simp only [List.mem_cons, List.not_mem_nil, or_false] at hp
      rcases hp with rfl
      · exact HT40.1
  · refine fun H a ns hn hH hS => ⟨a, ns, rfl, hS, hn, ?_, fun _ => rfl⟩
    exact fun p hp => by
      simp only [List.mem_cons, List.not_mem_nil, or_false] at hp
      rcases hp with rfl
      · exact TabS.nil (hH (cc40, P40) (by simp))
  have TB40 : TabB base mg cc40 P40 := TBs (cc40, P40) (by simp)
  have mT40 : (P40, ("law" : Str) ++ ".<locals>." ++ "<lambda>") ∈ [(P40, ("law" : Str) ++ ".<locals>." ++ "<lambda>")] := by simp
  have uT40 : ∀ p ∈ [(P40, ("law" : Str) ++ ".<locals>." ++ "<lambda>")], p.1 = P40 → p.2 = ("law" : Str) ++ ".<locals>." ++ "<lambda>" := by
    intro p hp e
    simp only [List.mem_cons, List.not_mem_nil, or_false] at hp
    rcases hp with rfl
    · rfl
  have c_law_pen : Ca l.prog w K mg base 1 "_law_pen" ["_law_script"] (spStart K) := ⟨f0, _, ok_start F0, PySem.W.mg_of X G a0, F0.kp, F0.binds fun _ _ _ _ _ _ us hl => match us, hl with | [_], _ => rfl⟩
  have c_law_draw : Ca l.prog w K mg base 1 "_law_draw" ["_law_pen_here", "_law_many"] spDraw := ⟨f1, _, ok_draw F1 mlen mabs, PySem.W.mg_of X G a1, F1.kp, F1.binds fun _ _ _ _ _ _ us hl => match us, hl with | [_, _], _ => rfl⟩
  have c_law_pick : Ca l.prog w K mg base 2 "_law_pick" ["_law_pen_here", "_law_some"] spPick := ⟨f2, _, ok_pick F2 c_law_draw mlen, PySem.W.mg_of X G a2, F2.kp, F2.binds fun _ _ _ _ _ _ us hl => match us, hl with | [_, _], _ => rfl⟩
  have c_law_worth : Ca l.prog w K mg base 3 "_law_worth" ["_law_pen_here"] spWorth := ⟨f3, _, ok_worth F3 c_law_draw c_law_pick, PySem.W.mg_of X G a3, F3.kp, F3.binds fun _ _ _ _ _ _ us hl => match us, hl with | [_], _ => rfl⟩
  have c_law_rules : Ca l.prog w K mg base 4 "_law_rules" ["_law_pen_here"] spRules := ⟨f4, _, ok_rules F4 c_law_draw c_law_pick c_law_worth mlen mint mtuple mrange msorted, PySem.W.mg_of X G a4, F4.kp, F4.binds fun _ _ _ _ _ _ us hl => match us, hl with | [_], _ => rfl⟩
  have c_law_fits : Ca l.prog w K mg base 1 "_law_fits" ["_law_given", "_law_writ_here", "_law_i", "_law_j"] spMay := ⟨f5, _, ok_may F5 mdict, PySem.W.mg_of X G a5, F5.kp, F5.binds fun _ _ _ _ _ _ us hl => match us, hl with | [_, _, _, _], _ => rfl⟩
  have c_law_writ : Ca l.prog w K mg base 3 "_law_writ" ["_law_pen_here", "_law_given", "_law_many"] spWrit := ⟨f6, _, ok_writ F6 c_law_pick mrange, PySem.W.mg_of X G a6, F6.kp, F6.binds fun _ _ _ _ _ _ us hl => match us, hl with | [_, _, _], _ => rfl⟩
  have c_law_listed : Ca l.prog w K mg base 15 "_law_listed" ["_law_given", "_law_writ_here", "_law_i", "_law_j"] (spListed 13) := ⟨f7, _, ok_listed F7 (F7.binds fun _ _ _ _ _ _ us hl => match us, hl with | [_, _, _, _], _ => rfl) (PySem.W.mg_of X G a7) c_law_fits mrange 13, PySem.W.mg_of X G a7, F7.kp, F7.binds fun _ _ _ _ _ _ us hl => match us, hl with | [_, _, _, _], _ => rfl⟩
  have c_law_straight : Ca l.prog w K mg base 1 "_law_straight" ["_law_pairs_so", "_law_low", "_law_high"] spStrD := ⟨f8, _, ok_strD F8 msorted, PySem.W.mg_of X G a8, F8.kp, F8.binds fun _ _ _ _ _ _ us hl => match us, hl with | [_, _, _], _ => rfl⟩
  have c_law_loop : Ca l.prog w K mg base 2 "_law_loop" ["_law_given", "_law_writ_here", "_law_pairs_so", "_law_pair_so"] spLoopD := ⟨f9, _, ok_loopD F9 c_law_straight mlen msum, PySem.W.mg_of X G a9, F9.kp, F9.binds fun _ _ _ _ _ _ us hl => match us, hl with | [_, _, _, _], _ => rfl⟩
  have c_law_shut : Ca l.prog w K mg base 3 "_law_shut" ["_law_given", "_law_writ_here", "_law_pairs_so"] spShutD := ⟨f10, _, ok_shutD F10 c_law_loop mdict, PySem.W.mg_of X G a10, F10.kp, F10.binds fun _ _ _ _ _ _ us hl => match us, hl with | [_, _, _], _ => rfl⟩
  have c_law_whole : Ca l.prog w K mg base 4 "_law_whole" ["_law_given", "_law_writ_here", "_law_pairs_so"] spWholeD := ⟨f11, _, ok_wholeD F11 c_law_straight c_law_shut mlen, PySem.W.mg_of X G a11, F11.kp, F11.binds fun _ _ _ _ _ _ us hl => match us, hl with | [_, _, _], _ => rfl⟩
  have cpair_worth : Ca l.prog w K mg base 1 "pair_worth" ["rules", "both"] spPW := ⟨f12, _, ok_pw F12, PySem.W.mg_of X G a12, F12.kp, F12.binds fun _ _ _ _ _ _ us hl => match us, hl with | [_, _], _ => rfl⟩
  have ctext_of : Ca l.prog w K mg base 1 "text_of" ["string", "pair"] spTextOf := ⟨f13, _, ok_text_of F13, PySem.W.mg_of X G a13, F13.kp, F13.binds fun _ _ _ _ _ _ us hl => match us, hl with | [_, _], _ => rfl⟩
  have cmay_pair : Ca l.prog w K mg base 2 "may_pair" ["rules", "string", "i", "j"] spMP := ⟨f14, _, ok_mp F14 ctext_of cpair_worth mlen, PySem.W.mg_of X G a14, F14.kp, F14.binds fun _ _ _ _ _ _ us hl => match us, hl with | [_, _, _, _], _ => rfl⟩
  have cis_string : Ca l.prog w K mg base 1 "is_string" ["rules", "thing"] spIS := ⟨f15, _, ok_is F15 gMOST_PLACES misinstance mstr mlen mall, PySem.W.mg_of X G a15, F15.kp, F15.binds fun _ _ _ _ _ _ us hl => match us, hl with | [_, _], _ => rfl⟩
  have cis_stringZ : CISx l.prog w K mg base := ⟨f15, _, ok_isx F15 gMOST_PLACES misinstance mstr mlen mall, PySem.W.mg_of X G a15, F15.kp, F15.binds fun _ _ _ _ _ _ us hl => match us, hl with | [_, _], _ => rfl⟩
  have cneed_string : Ca l.prog w K mg base 2 "need_string" ["rules", "thing"] spNS := ⟨f16, _, ok_ns F16 cis_string, PySem.W.mg_of X G a16, F16.kp, F16.binds fun _ _ _ _ _ _ us hl => match us, hl with | [_, _], _ => rfl⟩
  have cneed_stringX : CNSx l.prog w K mg base aNoString := ⟨f16, _, ok_nsx F16 cis_stringZ gNoString xxNoString xkNoString basNoString typNoString, PySem.W.mg_of X G a16, F16.kp, F16.binds fun _ _ _ _ _ _ us hl => match us, hl with | [_, _], _ => rfl⟩
  have cstack_worth : Ca l.prog w K mg base 1 "stack_worth" ["rules", "outer", "within"] spSW := ⟨f17, _, ok_sw F17, PySem.W.mg_of X G a17, F17.kp, F17.binds fun _ _ _ _ _ _ us hl => match us, hl with | [_, _, _], _ => rfl⟩
  have cloop_worths : Ca l.prog w K mg base 1 "loop_worths" ["rules"] spLW := ⟨f18, _, ok_lw F18 gLOOPS hLO mdict mzip, PySem.W.mg_of X G a18, F18.kp, F18.binds fun _ _ _ _ _ _ us hl => match us, hl with | [_], _ => rfl⟩
  have ckind_of : Ca l.prog w K mg base 1 "kind_of" ["free", "branches"] spKO := ⟨f19, _, ok_ko F19, PySem.W.mg_of X G a19, F19.kp, F19.binds fun _ _ _ _ _ _ us hl => match us, hl with | [_, _], _ => rfl⟩
  have cloop_within : Ca l.prog w K mg base 2 "loop_within" ["rules", "string", "pair", "within"] spLoopW := ⟨f20, _, ok_loopw F20 cstack_worth ctext_of cloop_worths ckind_of msum mlen, PySem.W.mg_of X G a20, F20.kp, F20.binds fun _ _ _ _ _ _ us hl => match us, hl with | [_, _, _, _], _ => rfl⟩
  have cbranch_ways : Ca l.prog w K mg base 1 "branch_ways" ["branch", "i", "j"] spBr := ⟨f21, _, ok_br F21 mrange, PySem.W.mg_of X G a21, F21.kp, F21.binds fun _ _ _ _ _ _ us hl => match us, hl with | [_, _, _], _ => rfl⟩
  have ctwo_ways : Ca l.prog w K mg base 2 "two_ways" ["rules", "i", "j"] spTwo := ⟨f22, _, ok_two F22 cloop_worths cbranch_ways, PySem.W.mg_of X G a22, F22.kp, F22.binds fun _ _ _ _ _ _ us hl => match us, hl with | [_, _, _], _ => rfl⟩
  have cone_ways : Ca l.prog w K mg base 2 "one_ways" ["rules", "i", "j"] spOne := ⟨f23, _, ok_one F23 cloop_worths cbranch_ways mrange, PySem.W.mg_of X G a23, F23.kp, F23.binds fun _ _ _ _ _ _ us hl => match us, hl with | [_, _, _], _ => rfl⟩
  have copen_ways : Ca l.prog w K mg base 2 "open_ways" ["rules", "i", "last"] spOpen := ⟨f24, _, ok_open F24 cloop_worths mrange, PySem.W.mg_of X G a24, F24.kp, F24.binds fun _ _ _ _ _ _ us hl => match us, hl with | [_, _, _], _ => rfl⟩
  have cshut_ways : Ca l.prog w K mg base 3 "shut_ways" ["rules", "string", "i", "j"] spShut := ⟨f25, _, ok_shut F25 cmay_pair cpair_worth ctext_of cloop_within cloop_worths mrange, PySem.W.mg_of X G a25, F25.kp, F25.binds fun _ _ _ _ _ _ us hl => match us, hl with | [_, _, _, _], _ => rfl⟩
  have cways_of : Ca l.prog w K mg base 4 "ways_of" ["rules", "string", "row"] spWaysOf := ⟨f26, _, ok_wof F26 cshut_ways cone_ways ctwo_ways copen_ways, PySem.W.mg_of X G a26, F26.kp, F26.binds fun _ _ _ _ _ _ us hl => match us, hl with | [_, _, _], _ => rfl⟩
  have crows_in_turn : Ca l.prog w K mg base 1 "rows_in_turn" ["length"] spRows := ⟨f27, _, ok_rows F27 mrange, PySem.W.mg_of X G a27, F27.kp, F27.binds fun _ _ _ _ _ _ us hl => match us, hl with | [_], _ => rfl⟩
  have cwhole_row : Ca l.prog w K mg base 1 "whole_row" ["string"] spWhole := ⟨f28, _, ok_whole F28 mlen, PySem.W.mg_of X G a28, F28.kp, F28.binds fun _ _ _ _ _ _ us hl => match us, hl with | [_], _ => rfl⟩
  have ccomes_to : Ca l.prog w K mg base 1 "comes_to" ["way", "worths"] spCome := ⟨f29, _, ok_come F29 msum, PySem.W.mg_of X G a29, F29.kp, F29.binds fun _ _ _ _ _ _ us hl => match us, hl with | [_, _], _ => rfl⟩
  have cleast_way : Ca l.prog w K mg base 2 "least_way" ["ways", "worths"] spLeast := ⟨f30, _, ok_least F30 ccomes_to mmin, PySem.W.mg_of X G a30, F30.kp, F30.binds fun _ _ _ _ _ _ us hl => match us, hl with | [_, _], _ => rfl⟩
  have call_ways : Ca l.prog w K mg base 5 "all_ways" ["rules", "string"] spAllW := ⟨f31, _, ok_allW F31 crows_in_turn cways_of mlen, PySem.W.mg_of X G a31, F31.kp, F31.binds fun _ _ _ _ _ _ us hl => match us, hl with | [_, _], _ => rfl⟩
  have cleast_rows : Ca l.prog w K mg base 3 "least_rows" ["ways"] spRowsL := ⟨f32, _, ok_rowsL F32 cleast_way, PySem.W.mg_of X G a32, F32.kp, F32.binds fun _ _ _ _ _ _ us hl => match us, hl with | [_], _ => rfl⟩
  have cbest_way : Ca l.prog w K mg base 2 "best_way" ["ways", "worth", "worths"] spBest := ⟨f33, _, ok_best F33 ccomes_to, PySem.W.mg_of X G a33, F33.kp, F33.binds fun _ _ _ _ _ _ us hl => match us, hl with | [_, _, _], _ => rfl⟩
  have cfolding_by : Ca l.prog w K mg base 3 "folding_by" ["ways", "worths", "row"] spFB := ⟨f34, _, ok_fb F34 cbest_way msorted mtuple, PySem.W.mg_of X G a34, F34.kp, F34.binds fun _ _ _ _ _ _ us hl => match us, hl with | [_, _, _], _ => rfl⟩
  have gtable_of := PySem.W.mg_of X G a35
  have vtable_of : FnV l.prog w K mg base 6 f35 (spOdd K aNoString) := ⟨_, _, ok_tbx F35 cneed_stringX, F35.kp, F35.binds fun _ _ _ _ _ _ us hl => match us, hl with | [_, _], _ => rfl⟩
  have cleast_worth : Ca l.prog w K mg base 6 "least_worth" ["rules", "string"] spLeastW := ⟨f36, _, ok_leastW F36 cneed_string call_ways cleast_rows cwhole_row, PySem.W.mg_of X G a36, F36.kp, F36.binds fun _ _ _ _ _ _ us hl => match us, hl with | [_, _], _ => rfl⟩
  have gleast_worth := PySem.W.mg_of X G a36
  have vleast_worth : FnV l.prog w K mg base 6 f36 (spOdd K aNoString) := ⟨_, _, ok_lwx F36 cneed_stringX, F36.kp, F36.binds fun _ _ _ _ _ _ us hl => match us, hl with | [_, _], _ => rfl⟩
  have cleast_worthK : CLeastWK l.prog w K mg base := ⟨f36, _, permU [1, 0], ok_leastW F36 cneed_string call_ways cleast_rows cwhole_row, PySem.W.mg_of X G a36, F36.kp, kbn_of [1, 0] fun ws hw => match ws, hw with | [_, _], _ => rfl⟩
  have gleast_folding := PySem.W.mg_of X G a37
  have vleast_folding : FnV l.prog w K mg base 6 f37 (spOdd K aNoString) := ⟨_, _, ok_lfx F37 cneed_stringX, F37.kp, F37.binds fun _ _ _ _ _ _ us hl => match us, hl with | [_, _], _ => rfl⟩
  have cleast_foldingXK : CLFXK l.prog w K mg base aNoString := ⟨f37, _, permU [1, 0], ok_lfx F37 cneed_stringX, PySem.W.mg_of X G a37, F37.kp, kbn_of [1, 0] fun ws hw => match ws, hw with | [_, _], _ => rfl⟩
  have c_law_is_refusedL := cal_isref (P := l.prog) (w := w) (base := base) F38 (PySem.W.mg_of X G a38) (F38.binds fun _ _ _ _ _ _ us hl => match us, hl with | [_], _ => rfl) misinstance mValueError gNoString gFoldError gNoFolding gNoRules gNoText gNoNumber gNoPlace eX hCNoString kkNoStringNoString (under_ty (by decide +kernel) subVE) iTup
  have c_law_strange : Ca l.prog w K mg base 1 "_law_strange" ["_law_given"] spStrg := ⟨f39, _, ok_strg F39, PySem.W.mg_of X G a39, F39.kp, F39.binds fun _ _ _ _ _ _ us hl => match us, hl with | [_], _ => rfl⟩
  exact ok_law F40 rfl TB40 mT40 uT40 ⟨rfl, by decide, by decide⟩ c_law_pen c_law_pick c_law_rules c_law_writ c_law_listed c_law_whole cleast_worth cleast_worthK c_law_strange c_law_is_refusedL cleast_foldingXK gtable_of gleast_worth gleast_folding vtable_of vleast_worth vleast_folding mrange mlen mmin mrepr misinstance mint mbool
end Pf
open PySem PySem.W PyProof.Rows
set_option maxHeartbeats 0 in
theorem PySem.Challenge.cw_pairfolds_k16_least_worths_told_holds : PySem.Challenge.rw_pairfolds_k16_least_worths_told.Holds := by
  w_on; o_law; k_head; (case hw => w_witness2)
  k_fill
  refine Pf.walk_gT (l := PySem.Challenge.rw_pairfolds_k16_least_worths_told) (n := 63) (x := "_law_script") ["law"] rfl (by decide) rfl (by decide +kernel) (fun w h Y => PySem.W.km_in_of Y) ?F
  case F =>
    intro w mg fa h KX G hmg HTs
    refine' Pf.all_mk KX G hmg ?a0 ?l0 ?c0 ?k0 ?a1 ?l1 ?c1 ?k1 ?a2 ?l2 ?c2 ?k2 ?a3 ?l3 ?c3 ?k3 ?a4 ?l4 ?c4 ?k4 ?a5 ?l5 ?c5 ?k5 ?a6 ?l6 ?c6 ?k6 ?a7 ?l7 ?c7 ?k7 ?a8 ?l8 ?c8 ?k8 ?a9 ?l9 ?c9 ?k9 ?a10 ?l10 ?c10 ?k10 ?a11 ?l11 ?c11 ?k11 ?a12 ?l12 ?c12 ?k12 ?a13 ?l13 ?c13 ?k13 ?a14 ?l14 ?c14 ?k14 ?a15 ?l15 ?c15 ?k15 ?a16 ?l16 ?c16 ?k16 ?a17 ?l17 ?c17 ?k17 ?a18 ?l18 ?c18 ?k18 ?a19 ?l19 ?c19 ?k19 ?a20 ?l20 ?c20 ?k20 ?a21 ?l21 ?c21 ?k21 ?a22 ?l22 ?c22 ?k22 ?a23 ?l23 ?c23 ?k23 ?a24 ?l24 ?c24 ?k24 ?a25 ?l25 ?c25 ?k25 ?a26 ?l26 ?c26 ?k26 ?a27 ?l27 ?c27 ?k27 ?a28 ?l28 ?c28 ?k28 ?a29 ?l29 ?c29 ?k29 ?a30 ?l30 ?c30 ?k30 ?a31 ?l31 ?c31 ?k31 ?a32 ?l32 ?c32 ?k32 ?a33 ?l33 ?c33 ?k33 ?a34 ?l34 ?c34 ?k34 ?a35 ?l35 ?c35 ?k35 ?a36 ?l36 ?c36 ?k36 ?a37 ?l37 ?c37 ?k37 ?a38 ?l38 ?c38 ?k38 ?a39 ?l39 ?c39 ?k39 ?a40 ?l40 ?c40 ?k40 ?tc40 ?th40 ?nk40 ?ht40 ?z0 ?z1 ?z2 ?z3 ?z4 ?z5 ?z6 ?z7 ?z8 ?z9 ?z10 ?z11 ?z12 ?z13 ?z14 ?z15 ?aG ?lG ?aI0 ?aCFoldError ?aCNoRules ?aCNoString ?aCNoFolding ?aCNoText ?aCNoNumber ?aCNoPlace ?xNoString_hg ?xNoString_hk ?xNoString_hs ?xNoString_hd ?xNoString_ha ?xNoString_hn ?xNoString_ht ?xNoString_hm ?xxNoString ?xkNoString ?subVE ?typFoldError ?clsFoldError ?basFoldError ?typNoRules ?clsNoRules ?basNoRules ?typNoString ?clsNoString ?basNoString ?typNoFolding ?clsNoFolding ?basNoFolding ?typNoText ?clsNoText ?basNoText ?typNoNumber ?clsNoNumber ?basNoNumber ?typNoPlace ?clsNoPlace ?basNoPlace ?subNoStringFoldError ?neNoStringFoldError ?subNoStringNoRules ?neNoStringNoRules ?subNoStringNoString ?subNoStringNoFolding ?neNoStringNoFolding ?subNoStringNoText ?neNoStringNoText ?subNoStringNoNumber ?neNoStringNoNumber ?subNoStringNoPlace ?neNoStringNoPlace
    (case a0 => k_is); (case l0 => k_is); (case c0 => k_is); (case k0 => k_is); (case a1 => k_is); (case l1 => k_is); (case c1 => k_is); (case k1 => k_is); (case a2 => k_is); (case l2 => k_is); (case c2 => k_is); (case k2 => k_is); (case a3 => k_is); (case l3 => k_is); (case c3 => k_is); (case k3 => k_is); (case a4 => k_is); (case l4 => k_is); (case c4 => k_is); (case k4 => k_is); (case a5 => k_is); (case l5 => k_is); (case c5 => k_is); (case k5 => k_is); (case a6 => k_is); (case l6 => k_is); (case c6 => k_is); (case k6 => k_is); (case a7 => k_is); (case l7 => k_is); (case c7 => k_is); (case k7 => k_is); (case a8 => k_is); (case l8 => k_is); (case c8 => k_is); (case k8 => k_is); (case a9 => k_is); (case l9 => k_is); (case c9 => k_is); (case k9 => k_is); (case a10 => k_is); (case l10 => k_is); (case c10 => k_is); (case k10 => k_is); (case a11 => k_is); (case l11 => k_is); (case c11 => k_is); (case k11 => k_is); (case a12 => k_is); (case l12 => k_is); (case c12 => k_is); (case k12 => k_is); (case a13 => k_is); (case l13 => k_is); (case c13 => k_is); (case k13 => k_is); (case a14 => k_is); (case l14 => k_is); (case c14 => k_is); (case k14 => k_is); (case a15 => k_is); (case l15 => k_is); (case c15 => k_is); (case k15 => k_is); (case a16 => k_is); (case l16 => k_is); (case c16 => k_is); (case k16 => k_is); (case a17 => k_is); (case l17 => k_is); (case c17 => k_is); (case k17 => k_is); (case a18 => k_is); (case l18 => k_is); (case c18 => k_is); (case k18 => k_is); (case a19 => k_is); (case l19 => k_is); (case c19 => k_is); (case k19 => k_is); (case a20 => k_is); (case l20 => k_is); (case c20 => k_is); (case k20 => k_is); (case a21 => k_is); (case l21 => k_is); (case c21 => k_is); (case k21 => k_is); (case a22 => k_is); (case l22 => k_is); (case c22 => k_is); (case k22 => k_is); (case a23 => k_is); (case l23 => k_is); (case c23 => k_is); (case k23 => k_is); (case a24 => k_is); (case l24 => k_is); (case c24 => k_is); (case k24 => k_is); (case a25 => k_is); (case l25 => k_is); (case c25 => k_is); (case k25 => k_is); (case a26 => k_is); (case l26 => k_is); (case c26 => k_is); (case k26 => k_is); (case a27 => k_is); (case l27 => k_is); (case c27 => k_is); (case k27 => k_is); (case a28 => k_is); (case l28 => k_is); (case c28 => k_is); (case k28 => k_is); (case a29 => k_is); (case l29 => k_is); (case c29 => k_is); (case k29 => k_is); (case a30 => k_is); (case l30 => k_is); (case c30 => k_is); (case k30 => k_is); (case a31 => k_is); (case l31 => k_is); (case c31 => k_is); (case k31 => k_is); (case a32 => k_is); (case l32 => k_is); (case c32 => k_is); (case k32 => k_is); (case a33 => k_is); (case l33 => k_is); (case c33 => k_is); (case k33 => k_is); (case a34 => k_is); (case l34 => k_is); (case c34 => k_is); (case k34 => k_is); (case a35 => k_is); (case l35 => k_is); (case c35 => k_is); (case k35 => k_is); (case a36 => k_is); (case l36 => k_is); (case c36 => k_is); (case k36 => k_is); (case a37 => k_is); (case l37 => k_is); (case c37 => k_is); (case k37 => k_is); (case a38 => k_is); (case l38 => k_is); (case c38 => k_is); (case k38 => k_is); (case a39 => k_is); (case l39 => k_is); (case c39 => k_is); (case k39 => k_is); (case a40 => k_is); (case l40 => k_is); (case c40 => k_is); (case k40 => k_is); (case tc40 => k_is); (case th40 => rfl); (case nk40 => kernel_rfl); (case ht40 => exact HTs _ (by simp)); (case z0 => k_is); (case z1 => k_is); (case z2 => k_is); (case z3 => k_is); (case z4 => k_is); (case z5 => k_is); (case z6 => k_is); (case z7 => k_is); (case z8 => k_is); (case z9 => k_is); (case z10 => k_is); (case z11 => k_is); (case z12 => k_is); (case z13 => k_is); (case z14 => k_is); (case z15 => k_is); (case aG => k_is); (case lG => k_is); (case aI0 => k_is); (case aCFoldError => k_is); (case aCNoRules => k_is); (case aCNoString => k_is); (case aCNoFolding => k_is); (case aCNoText => k_is); (case aCNoNumber => k_is); (case aCNoPlace => k_is); (case xNoString_hg => k_is); (case xNoString_hk => k_is); (case xNoString_hs => k_is); (case xNoString_hd => k_is); (case xNoString_ha => k_is); (case xNoString_hn => k_is); (case xNoString_ht => k_is); (case xNoString_hm => k_is); (case xxNoString => k_exc); (case xkNoString => k_is); (case subVE => k_is); (case typFoldError => k_is); (case clsFoldError => k_is); (case basFoldError => k_is); (case typNoRules => k_is); (case clsNoRules => k_is); (case basNoRules => k_is); (case typNoString => k_is); (case clsNoString => k_is); (case basNoString => k_is); (case typNoFolding => k_is); (case clsNoFolding => k_is); (case basNoFolding => k_is); (case typNoText => k_is); (case clsNoText => k_is); (case basNoText => k_is); (case typNoNumber => k_is); (case clsNoNumber => k_is); (case basNoNumber => k_is); (case typNoPlace => k_is); (case clsNoPlace => k_is); (case basNoPlace => k_is); (case subNoStringFoldError => k_is); (case neNoStringFoldError => rfl); (case subNoStringNoRules => k_is); (case neNoStringNoRules => rfl); (case subNoStringNoString => k_is); (case subNoStringNoFolding => k_is); (case neNoStringNoFolding => rfl); (case subNoStringNoText => k_is); (case neNoStringNoText => rfl); (case subNoStringNoNumber => k_is); (case neNoStringNoNumber => rfl); (case subNoStringNoPlace => k_is); (case neNoStringNoPlace => rfl)
