import PyProof.Rows.All
import Wide.All
import OpenK.AllK
import Wide.FinOn
import HandS.ForMost
import HandS.Defaults
import HandS.TupMul
import HandS.TupAny
import HandS.IsInst
import HandS.Conv
import KE.SortData
import HandS.Wide
import PyProof.ReprLen
import PySem.Challenge.RW_pairfolds_k84_programs_known
import HandS.Exc
import HandS.ExcOwn
import HandS.ExcIs
import HandS.TryMany
import HandS.Lambda
import HandS.EndTab
import KE.KNest
import HandS.TupSets
import PyProof.FactsAll.subtypes_4
import PyProof.Transfer
import KE.GoesMore
import HandS.Style
import HandS.Walk
import HandS.Zip
import HandS.TupLe
import KE.KDictZip
import PyProof.EqAt
import HandS.ExcValue
import HandS.DictComp
import KE.KDictSum
import HandS.RaiseMore
set_option Elab.async false
set_option linter.all false
set_option maxRecDepth 100000
set_option maxHeartbeats 4000000
namespace Pf
open PySem PySem.Spec PyProof.Rows L2

/-! ### a def that may be called: its promise, its name, its binding -/
structure Ca (P : Program) (w : World) (K : PySem.W.Frag) (mg : Str → Option Value) (base : Heap) (k : Nat) (x : Str) (ps : List Str) (sp : Sp) : Prop where
  ex : ∃ f fd, FnOk P w K mg base CX0 k f fd ps sp ∧ mg x = some (.ref f) ∧ PySem.W.keepIn K (.ref f) = true ∧ Binds K fd ps []
structure CaK (P : Program) (w : World) (K : PySem.W.Frag) (mg : Str → Option Value) (base : Heap) (k : Nat) (x : Str) (ps ks : List Str) (gV : List V → List V → List V) (sp : Sp) : Prop where
  ex : ∃ f fd g, FnOk P w K mg base CX0 k f fd ps sp ∧ mg x = some (.ref f) ∧ PySem.W.keepIn K (.ref f) = true ∧ KBn K fd ps 0 ks g gV
section
variable {X : Cx} {k : Nat} {x : Str} {ps ks : List Str} {sp : Sp} {p pos : Pos} {e : Expr} {es : List Expr} {kws : List Keyword} {t tk : TA} {gV : List V → List V → List V}
theorem pe_ca (c : Ca X.prog X.w X.K X.mg X.base k x ps sp) (hr : Room k X.A) (hg : Gl X x) (ha : PA X (e :: es) t) (hdb : (x == ("__debug__" : Str)) = false := by decide)
    (he : starEach (e :: es) X.env = (false, eval e X.env) :: starEach es X.env := by rfl) (hpl : (backTo pos (starEach es X.env)).any (·.1) = false := by rfl) :
    PE X (.Call (.Name x p) (e :: es) [] pos) (tCall sp [] E0 t) := by
  obtain ⟨f, fd, F, hm, hk, hb⟩ := c.ex
  exact pe_call F hr hg hm hk hb .nil pass0 ha hdb he hpl
theorem pe_ca0 (c : Ca X.prog X.w X.K X.mg X.base k x ps sp) (hr : Room k X.A) (hg : Gl X x) (hdb : (x == ("__debug__" : Str)) = false := by decide) :
    PE X (.Call (.Name x p) [] [] pos) (tCall sp [] E0 tNil) := by
  obtain ⟨f, fd, F, hm, hk, hb⟩ := c.ex
  exact pe_call0 F hr hg hm hk hb .nil pass0 hdb
/-- f(k = v, ..), by names alone -/
theorem pe_caK (c : CaK X.prog X.w X.K X.mg X.base k x ps ks gV sp) (hr : Room k X.A) (hg : Gl X x) (hkw : PK X kws tk)
    (hall : (backToKw pos (keywordEach kws X.env)).all (·.1.isSome) = true := by rfl) (hks : (backToKw pos (keywordEach kws X.env)).filterMap (·.1) = ks := by rfl) (hdb : (x == ("__debug__" : Str)) = false := by decide)
    (hpl : ((backTo pos (starEach [] X.env)).any (·.1) || (backToKw pos (keywordEach kws X.env)).any (·.1.isNone)) = false := by rfl) :
    PE X (.Call (.Name x p) [] kws pos) (tCallN 0 ks.length sp gV E0 tNil tk) := by
  obtain ⟨f, fd, g, F, hm, hk, hb⟩ := c.ex
  refine ⟨fun pins s σ H Q I h => ?_⟩
  refine wpAny_Call_Name_kw (ld_glob I hg hm ?_ hdb)
  refine PySem.W.callWith_KW0 (h₀ := X.base) I.ok.mod.kin hk hall ?_ hpl
  refine thn (hkw.run pos pins s σ H _ I h) fun ws s2 ⟨zs, H2, I2, rz, l1, l2, q2⟩ => ⟨I2.kIn, ?_⟩
  rw [hks]
  exact run_fnN (us := []) (vs := []) F hr hb pass0 I2 .nil rz rfl l2 q2
end

/-! ### rules that read a list or a tuple, the written part by its letter -/
theorem ixL (K : PySem.W.Frag) {X : Cx} (h : X.K = K := by rfl) : IxR X (rIxL K) := h ▸ ix_list
theorem ixT (K : PySem.W.Frag) {X : Cx} (h : X.K = K := by rfl) : IxR X (rIxT K) := h ▸ ix_tup
theorem ixA (K : PySem.W.Frag) {X : Cx} (h : X.K = K := by rfl) : IxR X (rIx K) := h ▸ ix_seq
def rLenA (K : PySem.W.Frag) : List V → Hp → VK → Prop := fun xs H Q => ∃ x n, xs = [x] ∧ LenV K x H n ∧ Q (.int n) H
theorem lenA (K : PySem.W.Frag) {X : Cx} (h : X.K = K := by rfl) : CallR X (.builtin "len") (rLenA K) := by
  subst h
  exact call_len
theorem repT (K : PySem.W.Frag) {X : Cx} (h : X.K = K := by rfl) : OpR X (binaryOp .Mult) (rRepT K) := h ▸ op_repT
theorem slL (K : PySem.W.Frag) {X : Cx} (h : X.K = K := by rfl) : SlR X (rSlL K) := h ▸ sl_list
theorem slT (K : PySem.W.Frag) {X : Cx} (h : X.K = K := by rfl) : SlR X (rSlT K) := h ▸ sl_tup
theorem eqD (K : PySem.W.Frag) {X : Cx} (hu : X.A.units + 64 < cLine) (h : X.K = K := by rfl) : OpR X (compareOp .Eq) (rEqD K) := h ▸ op_eqD hu
theorem neD (K : PySem.W.Frag) {X : Cx} (hu : X.A.units + 64 < cLine) (h : X.K = K := by rfl) : OpR X (compareOp .NotEq) (rNeD K) := h ▸ op_neD hu
theorem catT (K : PySem.W.Frag) {X : Cx} (h : X.K = K := by rfl) : OpR X (binaryOp .Add) (rCatT K) := h ▸ op_catT
theorem catA (K : PySem.W.Frag) {X : Cx} (h : X.K = K := by rfl) : OpR X (binaryOp .Add) (rCatA K) := h ▸ op_catA
theorem slA (K : PySem.W.Frag) {X : Cx} (h : X.K = K := by rfl) : SlR X (rSlA K) := h ▸ sl_tupA
theorem isi1 (K : PySem.W.Frag) {X : Cx} (h : X.K = K := by rfl) : CallR X (.builtin "isinstance") (rIsi K) := h ▸ call_isi
theorem pgT (K : PySem.W.Frag) {X : Cx} {es : List Expr} {k n : Nat} {t : TGs} {pos : Pos} (hc : X.calm = true) (h : PGs X es t) (hK : X.K = K := by rfl) (hn : (assignEach es X.env).length = n := by rfl) (hst : (assignEach es X.env).findIdx? (·.1) = none := by rfl) :
    PG X (.Tuple es k pos) (gTup K n t) := by
  subst hK
  exact pg_tup hc h hn hst
def rLen (K : PySem.W.Frag) : List V → Hp → VK → Prop := fun xs H Q => ∃ p ys, xs = [.ref p] ∧ (SqL K H p ys ∨ SqT K H p ys) ∧ Q (.int ys.length) H
theorem lenQ (K : PySem.W.Frag) {X : Cx} (h : X.K = K := by rfl) : CallR X (.builtin "len") (rLen K) := by
  subst h
  exact call_len_seq
def rListOf (K : PySem.W.Frag) : List V → Hp → VK → Prop := fun xs H Q => ∃ p ys, xs = [.ref p] ∧ (SqL K H p ys ∨ SqT K H p ys) ∧ ∀ l, H l = none → Q (.ref l) (upd H l (.lst ys))
theorem listOf (K : PySem.W.Frag) {X : Cx} (h : X.K = K := by rfl) : CallR X (.type "list") (rListOf K) := by
  subst h
  exact call_list_of
def rTupleOf (K : PySem.W.Frag) : List V → Hp → VK → Prop := fun xs H Q => ∃ p ys, xs = [.ref p] ∧ ((SqL K H p ys ∧ ∀ l, H l = none → Q (.ref l) (upd H l (.tup ys))) ∨ (SqT K H p ys ∧ Q (.ref p) H))
theorem tupleOf (K : PySem.W.Frag) {X : Cx} (h : X.K = K := by rfl) : CallR X (.type "tuple") (rTupleOf K) := by
  subst h
  exact call_tuple_of

/-! ### repr of a plain thing -/
def repV : V → Str
  | .non => "None"
  | .bl b => if b then "True" else "False"
  | .int i => toString i
  | _ => ""
def RepOk : V → Prop
  | .non => True
  | .bl _ => True
  | .int i => i.natAbs.log2 < 1920
  | _ => False
theorem call_repr {X : Cx} : CallR X (.builtin "repr") (fun xs H Q => ∃ v, xs = [v] ∧ RepOk v ∧ Q (.str (repV v)) H) := by
  intro pins s σ H xs us Q I r h
  obtain ⟨v, rfl, hz, q⟩ := h
  cases v with
  | non =>
    obtain ⟨u, rfl, rfl⟩ := vals1 r
    exact PySem.P.repr_of_none ⟨.str _, H, I.tok _, ⟨_, rfl⟩, q⟩
  | bl b =>
    obtain ⟨u, rfl, rfl⟩ := vals1 r
    exact PySem.P.repr_of_bool ⟨.str _, H, I.tok _, ⟨_, rfl⟩, by cases b <;> exact q⟩
  | int i =>
    obtain ⟨u, rfl, t, rfl⟩ := vals1 r
    exact PySem.P.repr_of_int hz ⟨.str _, H, I.tok _, ⟨_, rfl⟩, q⟩
  | str _ => exact hz.elim
  | byt _ => exact hz.elim
  | flt _ => exact hz.elim
  | ref _ => exact hz.elim
  | ty _ => exact hz.elim

/-! ### texts of small letters -/
def Small (x : Str) : Prop := ∀ c ∈ x.cps.toList, 97 ≤ c ∧ c ≤ 122
theorem Small.app {a b : Str} (ha : Small a) (hb : Small b) : Small (a ++ b) := fun c h => by
  rw [Str.cps_append, Array.toList_append, List.mem_append] at h
  rcases h with h | h
  · exact ha c h
  · exact hb c h
theorem Small.one {c : Nat} (h : 97 ≤ c ∧ c ≤ 122) : Small ⟨#[c]⟩ := fun d hd => by
  have e : d = c := by simpa using hd
  subst e
  exact h
theorem Small.at {x : Str} (h : Small x) {i c : Nat} (hi : x.cps[i]? = some c) : 97 ≤ c ∧ c ≤ 122 := by
  refine h c ?_
  have := Array.mem_of_getElem? hi
  exact Array.mem_toList_iff.mpr this
theorem Small.ok {x : Str} (h : Small x) : PyData.strOk x = true := by
  show x.cps.all (· < 0x110000) = true
  rw [Array.all_eq_true_iff_forall_mem]
  intro c hc
  have := h c (Array.mem_toList_iff.mpr hc)
  exact decide_eq_true (by omega)
/-! ### a chain of three comparisons -/
def tChain3 (r1 r2 r3 : R2) (ta tb tc td : TE) : TE := fun σ H Q => ta σ H fun x H1 => tb σ H1 fun y H2 => r1 x y H2 fun z H3 => ∃ k, z = .bl k ∧
  (if k = true then tc σ H3 fun u H4 => r2 y u H4 fun z2 H5 => ∃ k2, z2 = .bl k2 ∧ (if k2 = true then td σ H5 fun v H6 => r3 u v H6 Q else Q (.bl false) H5) else Q (.bl false) H3)
theorem pt_chain3 {X : Cx} {o1 o2 o3 : CmpOp} {r1 r2 r3 : R2} {a b c d : Expr} {ta tb tc td : TE} {pos : Pos} (h1 : OpR X (compareOp o1) r1) (h2 : OpR X (compareOp o2) r2) (h3 : OpR X (compareOp o3) r3)
    (ha : PE X a ta) (hb : PE X b tb) (hc : PE X c tc) (hd : PE X d td) (hm : lastMarks [o1, o2, o3] [b, c, d] = false := by with_unfolding_all rfl) :
    PT X (.Compare a [o1, o2, o3] [b, c, d] pos) (tTest (tChain3 r1 r2 r3 ta tb tc td)) := by
  refine ⟨fun pins s σ H Q I h => isTrue_chain (thn (ha.run pins s σ H _ I h) fun v s1 ⟨x, H1, I1, e1, q1⟩ => test_link ?_) hm⟩
  refine thn (hb.run pins s1 σ H1 _ I1 q1) fun u s2 ⟨y, H2, I2, e2, q2⟩ => ?_
  refine thn (h1 pins s2 σ H2 x y v u _ I2 e1 e2 q2) fun dv s3 ⟨z, H3, I3, e3, k, ek, q3⟩ => ?_
  subst ek
  cases e3
  refine wpAny_truthy_bool ?_
  cases k with
  | false =>
    obtain ⟨k', e', q'⟩ := q3
    cases e'
    exact ite_ff ⟨H3, I3, q'⟩
  | true =>
    refine ite_tt (test_link ?_)
    refine thn (hc.run pins s3 σ H3 _ I3 q3) fun u4 s4 ⟨y4, H4, I4, e4, q4⟩ => ?_
    refine thn (h2 pins s4 σ H4 y y4 u u4 _ I4 e2 e4 q4) fun dv5 s5 ⟨z5, H5, I5, e5, k5, ek5, q5⟩ => ?_
    subst ek5
    cases e5
    refine wpAny_truthy_bool ?_
    cases k5 with
    | false =>
      obtain ⟨k', e', q'⟩ := q5
      cases e'
      exact ite_ff ⟨H5, I5, q'⟩
    | true =>
      refine ite_tt (test_last ?_)
      refine thn (hd.run pins s5 σ H5 _ I5 q5) fun u6 s6 ⟨y6, H6, I6, e6, q6⟩ => ?_
      refine thn (h3 pins s6 σ H6 y4 y6 u4 u6 _ I6 e4 e6 q6) fun dv7 s7 ⟨z7, H7, I7, e7, k7, ek7, q7⟩ => ?_
      subst ek7
      cases e7
      exact wpAny_truthy_bool ⟨H7, I7, q7⟩
theorem inSeq (K : PySem.W.Frag) {X : Cx} (h : X.K = K := by rfl) : OpR X (compareOp .In) (rIn K false) := h ▸ op_in_seq
theorem notInSeq (K : PySem.W.Frag) {X : Cx} (h : X.K = K := by rfl) : OpR X (compareOp .NotIn) (rIn K true) := h ▸ op_notIn_seq
/-! ### join with nothing between -/
theorem join_str (ys : List Str) : Txt.join "" ys = Str.join "" ys := eq_of_beq (join_closes (ys := ys) rfl)
theorem sjoin_le {m : Nat} : ∀ {ys : List Str}, (∀ y ∈ ys, y.length ≤ m) → (Str.join "" ys).length ≤ ys.length * m
  | [], _ => Nat.zero_le _
  | [y], h => by
    have := h y (List.mem_cons_self ..)
    show y.length ≤ 1 * m
    omega
  | y :: z :: r, h => by
    have h1 := h y (List.mem_cons_self ..)
    have h2 := sjoin_le (ys := z :: r) fun x hx => h x (List.mem_cons_of_mem _ hx)
    show (y ++ "" ++ Str.join "" (z :: r)).length ≤ _
    rw [Str.length_append, Str.length_append, List.length_cons, Nat.succ_mul]
    show y.length + 0 + _ ≤ _
    omega
theorem small_nil : Small "" := by
  unfold Small
  decide +kernel
theorem sjoin_small : ∀ {ys : List Str}, (∀ y ∈ ys, Small y) → Small (Str.join "" ys)
  | [], _ => small_nil
  | [y], h => h y (List.mem_cons_self ..)
  | y :: z :: r, h => ((h y (List.mem_cons_self ..)).app small_nil).app (sjoin_small (ys := z :: r) fun x hx => h x (List.mem_cons_of_mem _ hx))
theorem join_le {m : Nat} {ys : List Str} (h : ∀ y ∈ ys, y.length ≤ m) : (Txt.join "" ys).length ≤ ys.length * m := by
  rw [join_str]
  exact sjoin_le h
theorem join_small {ys : List Str} (h : ∀ y ∈ ys, Small y) : Small (Txt.join "" ys) := by
  rw [join_str]
  exact sjoin_small h

/-! ### a walk over a text's signs -/
theorem for_str {x : Str} {g : TG} {tb : TS} {D : Ends} {σ : L2.St} {H : Hp} (Pv : Nat → L2.St → Hp → Prop) (h0 : Pv 0 σ H)
    (hs : ∀ i c σ H, x.cps[i]? = some c → Pv i σ H → g (.str ⟨#[c]⟩) σ H fun σ2 H2 => tb { D with nx := Pv (i + 1), ct := Pv (i + 1), bk := D.nx } σ2 H2) (hd : ∀ σ H, Pv x.cps.size σ H → D.nx σ H) :
    ∃ W : Nat → Nat → L2.St → Hp → Prop, (∃ m, W 0 m σ H) ∧ ∀ i m σ H, W i m σ H →
      ((Its x).stop i H ∧ D.nx σ H) ∨ ((Its x).go i H ∧ ∃ N : L2.St → Hp → Prop, (∀ σ' H', N σ' H' → ∃ m', m' < m ∧ W (i + 1) m' σ' H') ∧ ∀ y H', (Its x).yld i H y H' → g y σ H' fun σ2 H2 => tb { D with nx := N, ct := N, bk := D.nx } σ2 H2) := by
  refine ⟨fun i m σ H => m = x.cps.size - i ∧ i ≤ x.cps.size ∧ Pv i σ H, ⟨x.cps.size, by simp, Nat.zero_le _, h0⟩, ?_⟩
  rintro i m σ H ⟨rfl, hi, p⟩
  by_cases hlt : i < x.cps.size
  · refine .inr ⟨hlt, Pv (i + 1), fun σ' H' p' => ⟨x.cps.size - (i + 1), by omega, rfl, hlt, p'⟩, fun y H' z => ?_⟩
    obtain ⟨e, c, hc, ev⟩ := z
    subst e ev
    exact hs i c σ _ hc p
  · have e : i = x.cps.size := by omega
    subst e
    exact .inl ⟨Nat.le_refl _, hd σ H p⟩
theorem lc_str {x : Str} {g : TG} {tt : TT} {te : TE} {vs : List Nat} {σ : L2.St} {H1 : Hp} {D : Addr} {Qd : Hp → Prop} (Pv : Nat → Hp → Prop) (h0 : Pv 0 (upd H1 D (.lst [])))
    (hs : ∀ i c H, x.cps[i]? = some c → Pv i H → g (.str ⟨#[c]⟩) (wipe σ vs) H fun σ2 H2 => wipe σ2 vs = wipe σ vs ∧ tt σ2 H2 fun b H3 =>
      if b = true then te σ2 H3 fun y H4 => ∃ acc, H4 D = some (.lst acc) ∧ acc.length < sizeLine ∧ Pv (i + 1) (upd H4 D (.lst (acc ++ [y]))) else Pv (i + 1) H3) (hd : ∀ H, Pv x.cps.size H → Qd H) :
    ∃ W : Nat → Nat → Hp → Prop, (∃ m, W 0 m (upd H1 D (.lst []))) ∧ ∀ i m H, W i m H →
      ((Its x).stop i H ∧ Qd H) ∨ ((Its x).go i H ∧ ∃ Nx : Hp → Prop, (∀ H', Nx H' → ∃ m', m' < m ∧ W (i + 1) m' H') ∧ ∀ y H', (Its x).yld i H y H' → g y (wipe σ vs) H' fun σ2 H2 => wipe σ2 vs = wipe σ vs ∧ tt σ2 H2 fun b H3 =>
        if b = true then te σ2 H3 fun y H4 => ∃ acc, H4 D = some (.lst acc) ∧ acc.length < sizeLine ∧ Nx (upd H4 D (.lst (acc ++ [y]))) else Nx H3) := by
  refine ⟨fun i m H => m = x.cps.size - i ∧ i ≤ x.cps.size ∧ Pv i H, ⟨x.cps.size, by simp, Nat.zero_le _, h0⟩, ?_⟩
  rintro i m H ⟨rfl, hi, p⟩
  by_cases hlt : i < x.cps.size
  · refine .inr ⟨hlt, Pv (i + 1), fun H' p' => ⟨x.cps.size - (i + 1), by omega, rfl, hlt, p'⟩, fun y H' z => ?_⟩
    obtain ⟨e, c, hc, ev⟩ := z
    subst e ev
    exact hs i c _ hc p
  · have e : i = x.cps.size := by omega
    subst e
    exact .inl ⟨Nat.le_refl _, hd H p⟩

/-! ### what stays in the heap, but the thing at p -/
def Kp (p : Addr) (H H' : Hp) : Prop := ∀ b o, b ≠ p → H b = some o → H' b = some o
theorem Kp.refl {p : Addr} {H : Hp} : Kp p H H := fun _ _ _ e => e
theorem Kp.trans {p : Addr} {H H1 H2 : Hp} (a : Kp p H H1) (b : Kp p H1 H2) : Kp p H H2 := fun c o n e => b c o n (a c o n e)
theorem Kp.new {p q : Addr} {H : Hp} {o : HO} (h : H q = none) : Kp p H (upd H q o) := fun b x _ e => by
  rw [upd_ne (ne_of_none e h)]
  exact e
theorem Kp.at {p : Addr} {H : Hp} {o : HO} : Kp p H (upd H p o) := fun b x n e => by
  rw [upd_ne n]
  exact e
/-- a change of what stood nowhere in H -/
theorem Kp.put {p q : Addr} {H H1 : Hp} {o : HO} (k : Kp p H H1) (h : H q = none) : Kp p H (upd H1 q o) := fun b x n e => by
  rw [upd_ne (ne_of_none e h)]
  exact k b x n e
theorem Kp.tup {p : Addr} {H H' : Hp} {ys : List V} {b : Addr} {xs : List V} (k : Kp p H H') (hp : H p = some (.lst ys)) (h : H b = some (.tup xs)) : H' b = some (.tup xs) :=
  k b _ (ne_of h hp (by intro z; cases z)) h
theorem Kp.some {p : Addr} {H H' : Hp} (k : Kp p H H') (hp : ∃ o, H' p = some o) {b : Addr} (h : H' b = none) : H b = none := by
  cases e : H b with
  | none => rfl
  | some o =>
    by_cases n : b = p
    · subst n
      obtain ⟨o', e'⟩ := hp
      rw [e'] at h
      cases h
    · rw [k b o n e] at h
      cases h

/-! ### arguments by names, in another order -/
def permV (js : List Nat) : List V → List V → List V := fun _ zs => js.map fun j => zs.getD j .non
def permU (js : List Nat) : List Value → List Value → List Value := fun _ ws => js.map fun j => ws.getD j .none
theorem vals_getD : ∀ {zs : List V} {ws : List Value} (j : Nat), Vals zs ws → RelV (zs.getD j .non) (ws.getD j .none)
  | _, _, _, .nil => rfl
  | _, _, 0, .cons r _ => r
  | _, _, j + 1, .cons _ t => vals_getD j t
theorem perm_rel {zs : List V} {ws : List Value} (r : Vals zs ws) : ∀ js : List Nat, Vals (js.map fun j => zs.getD j .non) (js.map fun j => ws.getD j .none)
  | [] => .nil
  | j :: js => .cons (vals_getD j r) (perm_rel r js)
theorem kbn_of {K : PySem.W.Frag} {fd : FuncData} {ps ks : List Str} (js : List Nat) (h : ∀ ws : List Value, ws.length = ks.length → bindArgs fd ⟨[], ks.zip ws⟩ = pure (ps.zip (js.map fun j => ws.getD j .none))) :
    KBn K fd ps 0 ks (permU js) (permV js) where
  to := fun s us ws _ hu hw => by
    obtain rfl := List.length_eq_zero_iff.mp hu
    exact .of_eq (h ws hw)
  rel := fun _ r => perm_rel r js
/-! ### what is added, and nothing changed -/
def Ext (H H' : Hp) : Prop := ∀ b o, H b = some o → H' b = some o
theorem Ext.refl {H : Hp} : Ext H H := fun _ _ e => e
theorem Ext.trans {H H1 H2 : Hp} (a : Ext H H1) (b : Ext H1 H2) : Ext H H2 := fun c o e => b c o (a c o e)
theorem Ext.new {q : Addr} {H : Hp} {o : HO} (h : H q = none) : Ext H (upd H q o) := fun b x e => by
  rw [upd_ne (ne_of_none e h)]
  exact e
theorem Ext.put {q : Addr} {H H1 : Hp} {o : HO} (k : Ext H H1) (h : H q = none) : Ext H (upd H1 q o) := fun b x e => by
  rw [upd_ne (ne_of_none e h)]
  exact k b x e
theorem Ext.none {H H' : Hp} (k : Ext H H') {q : Addr} (h : H' q = none) : H q = none := by
  cases e : H q with
  | none => rfl
  | some o =>
    rw [k q o e] at h
    cases h

theorem atI_get {α : Type} {xs : List α} {i : Int} (h0 : 0 ≤ i) (h1 : i < xs.length) : atI xs i = some (xs[i.toNat]'(by omega)) := by
  unfold atI ixN
  rw [if_pos h0, if_pos h1]
  exact List.getElem?_eq_getElem _
theorem atI_ints {ns : List Int} {i : Int} (h0 : 0 ≤ i) (h1 : i < ns.length) : ∃ z, z ∈ ns ∧ atI (ns.map V.int) i = some (.int z) := by
  have h2 : i < (ns.map V.int).length := by rw [List.length_map]; exact h1
  refine ⟨ns[i.toNat]'(by omega), List.getElem_mem _, ?_⟩
  rw [atI_get h0 h2, List.getElem_map]
theorem atI_mem {α : Type} {xs : List α} {i : Int} (h0 : 0 ≤ i) (h1 : i < xs.length) : ∃ v, v ∈ xs ∧ atI xs i = some v :=
  ⟨xs[i.toNat]'(by omega), List.getElem_mem _, atI_get h0 h1⟩
theorem len_pos {x : Str} (h : ¬ x = "") : 1 ≤ x.length := by
  obtain ⟨⟨l⟩⟩ := x
  cases l with
  | nil => exact absurd (by decide +kernel) h
  | cons a r =>
    show 1 ≤ (a :: r).length
    exact Nat.succ_pos _
theorem natAbs_lt_of {i : Int} {n : Nat} (h0 : -(n : Int) < i) (h1 : i < n) : i.natAbs < n := by omega
theorem log2_small {i : Int} (h : i.natAbs < 2 ^ 64) : i.natAbs.log2 < 1920 := by
  by_cases z : i.natAbs = 0
  · rw [z]
    decide
  · exact (Nat.log2_lt z).mpr (Nat.lt_of_lt_of_le h (Nat.pow_le_pow_right (by decide) (by decide)))
theorem szL {n : Nat} (h : n ≤ 1000000) : n ≤ sizeLine := by
  rw [sizeLine_eq]
  omega
theorem szLt {n : Nat} (h : n < 1000000) : n < sizeLine := by
  rw [sizeLine_eq]
  omega
end Pf


namespace Pf
open PySem PySem.Spec PyProof.Rows L2
/-! ### the law's own call: made by nobody, nothing being shown meanwhile -/
structure FnG (P : Program) (w : World) (K : PySem.W.Frag) (mg : Str → Option Value) (base : Heap) (f : Addr) (fd : FuncData) (ps : List Str) (sp : Sp) : Prop where
  run : ∀ (s : Shared) (H : Hp) (args : Args) (us : List Value) (vs : List V) (Q : VK) (E : XK), Env0 P w K mg base callerA [] s H → BindsTo s fd args (ps.zip us) → Vals vs us → sp vs H Q E →
    codeAny (model P w) callerA (.call (.ref f) args) (CR CX0 [] P w H s Q E) s
theorem FnG.of {P : Program} {w : World} {K : PySem.W.Frag} {mg : Str → Option Value} {base : Heap} {k : Nat} {f : Addr} {fd : FuncData} {x qual : Str} {st : Stmt} {N ps : List Str} {sp : Sp} (F : Fun K x qual st f fd) (S : FnScope N ps (defScope st))
    (room : Room (k + 1) callerA) (len : ∀ vs H Q E, sp vs H Q E → vs.length = ps.length)
    (body : ∀ (cdv : Value) (s : Shared) (H : Hp) (vs : List V) (Q : VK) (E : XK), Room k (callerA.deeper (envOfC qual (defScope st) s.heap.objs.size f cdv)) → (callerA.deeper (envOfC qual (defScope st) s.heap.objs.size f cdv)).guards = some [] → sp vs H Q E →
      ∃ t, PSs (cxOf CX0 P w K mg base N qual (defScope st) f cdv callerA [] s H E).nox (defBody st) t ∧ t { nx := fun _ H' => Q .non H', rt := Q } (start N vs) H) : FnG P w K mg base f fd ps sp := by
  obtain ⟨oc, od, kV, doc, pm, an, cdv, ct, osl, rfl, lk, hcd⟩ := F.ex
  refine ⟨fun s H args us vs Q E env0 bnd rel hsp => ?_⟩
  have inS : K.In s.heap := env0.mod.kin.keeps fun b o e => (env0.bs b o e).1
  have limS : s.heap.NoLimit := env0.mod.nolimit.keeps fun b o e => (env0.bs b o e).1
  have kinds : ∀ y ∈ ps.zip us, (defScope st).names.lookup y.1 = some .local ∨ ((defScope st).names.lookup y.1 = some .cell ∧ ((cellsFrom (s.heap.objs.size + 1) (defScope st).names []).lookup y.1).isSome = true) := by
    rintro ⟨n, v⟩ hy
    cases S.par n (List.of_mem_zip hy).1 with
    | inl q => exact .inl q
    | inr q => exact .inr ⟨q, PySem.W.cellsFrom_some _ _ _ (.inl q)⟩
  refine codeAny_call_function room.depth (inS _ _ lk) rfl S.co S.gen rfl (PySem.W.codeRec_of inS hcd) (bnd _ _ _ _ ?_)
  refine wpAny_newFunctionEnv_cells S.kind kinds fun env0' he s1 inC => ?_
  subst he
  refine ⟨limS.keeps inC.toInCall.keep, codeAny_func ?_⟩
  obtain ⟨t, ht, hq⟩ := body cdv s H vs Q E (room.deeper _) rfl hsp
  have I0 : Inv (cxOf CX0 P w K mg base N qual (defScope st) f cdv callerA [] s H E) [] (start N vs) H s1 := inv_start S room.hd env0 (len _ _ _ _ hsp) rel inC
  refine wpAny_mono (ht.nox.run [] s1 (start N vs) H _ I0 hq) (fun fl s' hs => ?_) fun _ _ z => z
  cases fl with
  | ret u =>
    obtain ⟨v, σ', H', J, rv, q⟩ := hs
    exact ⟨v, H', J.os, J.bare, J.base, J.hok, rv, q⟩
  | next =>
    obtain ⟨σ', H', J, q⟩ := hs
    exact ⟨.non, H', J.os, J.bare, J.base, J.hok, rfl, q⟩
  | brk => exact False.elim (by obtain ⟨_, _, _, q⟩ := hs; exact q)
  | cont => exact False.elim (by obtain ⟨_, _, _, q⟩ := hs; exact q)
/-- its end: from an abstract heap that holds the script or nothing -/
theorem FnG.ends {P : Program} {w : World} {K : PySem.W.Frag} {mg mb : Str → Option Value} {fa a : Addr} {fd : FuncData} {x : Str} {sp : Sp} {s1 : Shared} {vs : List Value} {ns : List Int}
    (inK : K.In s1.heap) (gl : s1.heap.Ns mainGlobals mg) (bl : s1.heap.Ns builtinsNs mb) (bb : ∀ x : Str, x ≠ "__name__" → mb x = bootBuiltins x) (lim : s1.heap.NoLimit) (gens : s1.gens = #[])
    (hscr : s1.heap.get? a = some { cls := .type "list", data := .seq vs.toArray }) (hin : IntsAre vs ns) (F : ∀ base : Heap, K.In base → base.Ns mainGlobals mg → FnG P w K mg base fa fd [x] sp) (bnd : ∀ (s : Shared) (u : Value), BindsTo s fd ⟨[u], []⟩ [(x, u)])
    {H : Hp} (only : Only H) (hsp : sp [.ref a] H (fun v _ => v = .bl true) fun _ _ _ => False) (hok : HOk P w H s1.heap) (hA : ∀ b, H b ≠ none → b = a) (hK : H a ≠ none → K.lookup a = none) :
    codeAny (model P w) callerA (.call (.ref fa) ⟨[.ref a], []⟩) (fun r s' => r = .ok (.ret (.bool true)) ∧ OldK s1.heap s'.heap ∧ s'.os = s1.os ∧ AllBare s'.gens) s1 := by
  have isA : ∀ {b : Addr} {u : HO}, H b = some u → b = a := fun {b u} q => hA b (by rw [q]; exact Option.some_ne_none _)
  have hid : ∀ {b : Addr} {o : Obj}, s1.heap.get? b = some o → H b = none → (hidT s1.heap H).get? b = some o := fun e n => hidT_get e n
  have dictN : ∀ {b : Addr} {o : Obj} {es : Array DictEntry} {ep : Nat}, s1.heap.get? b = some o → o.data = .dict es ep → H b = none := by
    intro b o es ep e d
    cases q : H b with
    | none => rfl
    | some u =>
      obtain rfl := isA q
      rw [hscr] at e
      cases e
      exact nomatch d
  have nsH : ∀ {b : Addr} {m : Str → Option Value}, s1.heap.Ns b m → (hidT s1.heap H).Ns b m := by
    rintro b m ⟨o, es, ep, e, d, r⟩
    exact ⟨o, es, ep, hid e (dictN e d), d, r⟩
  have inB : K.In (hidT s1.heap H) := by
    intro b o e
    refine hid (inK b o e) ?_
    cases q : H b with
    | none => rfl
    | some u =>
      obtain rfl := isA q
      rw [hK (by rw [q]; exact Option.some_ne_none _)] at e
      cases e
  have limB : (hidT s1.heap H).NoLimit := by
    obtain ⟨mc, h1, h2⟩ := lim
    exact ⟨mc, nsH h1, h2⟩
  have env0 : Env0 P w K mg (hidT s1.heap H) callerA [] s1 H :=
    ⟨rfl, ⟨inB, nsH gl, ⟨mb, nsH bl, bb⟩, limB⟩, fun b o e => of_hidT e, Nat.le_of_eq (hidT_size _ _), trivial, fun b hb => (nomatch (show b ∈ ([] : List Addr) from hb)), hok, .of_eq gens⟩
  refine codeAny_mono ((F _ inB (nsH gl)).run s1 H ⟨[.ref a], []⟩ [.ref a] [.ref a] _ _ env0 (bnd s1 (.ref a)) (.cons rfl .nil) hsp) fun r s' h => ?_
  match r, h with
  | .error _, h => exact False.elim h
  | .ok .next, h => exact False.elim h
  | .ok .brk, h => exact False.elim h
  | .ok .cont, h => exact False.elim h
  | .ok (.ret u), h =>
    obtain ⟨v, H', os, bare, un, hok', rel, q⟩ := h
    obtain rfl : v = .bl true := q
    obtain rfl : u = Value.bool true := rel
    refine ⟨rfl, OldK.of_keep fun b o e => ?_, os, bare⟩
    cases q : H b with
    | none => exact un.keep b o e q (fun z => (nomatch (show b ∈ ([] : List Addr) from z))) (by simp)
    | some u =>
      cases only b with
      | inl z => rw [q] at z; cases z
      | inr z =>
        obtain ⟨ob, xs, z⟩ := z
        have kept := (hok' b _ (un.frzs b ob _ z)).1
        have was := (hok b _ z).1
        rw [e] at was
        cases was
        exact kept
theorem walk_g {l : PySem.W.OpenLaw} {n : Nat} {q : Program} {loose : List Str} {XP : (Str → Option Value) → Heap → Prop} {YP : World → Heap → Prop} {d : DefRec} {K : Params → PySem.W.Frag} {sp : World → Sp} {x : Str}
    (hn : l.most = some n) (hn2 : n ≤ sizeLine) (hdf : d.params.defaults = []) (hY : ∀ (w : World) (h : Heap), YP w h → (K w.params).In h)
    (F : ∀ (w : World) (mg : Str → Option Value) (fa : Addr) (h : Heap), (K w.params).In h → h.Ns mainGlobals mg → mg d.name = some (.ref fa) →
      ∃ fd : FuncData, (∀ (s : Shared) (u : Value), BindsTo s fd ⟨[u], []⟩ [(x, u)]) ∧ ∀ base : Heap, (K w.params).In base → base.Ns mainGlobals mg → FnG l.prog w (K w.params) mg base fa fd [x] (sp w))
    (hsp : ∀ (w : World) (H : Hp) (a : Addr) (ns : List Int), ns.length ≤ n → SqL (K w.params) H a (ns.map V.int) → sp w [.ref a] H (fun v _ => v = .bl true) fun _ _ _ => False) :
    PySem.W.WalkO q loose XP YP l.row.toRowW d [] (fun f vs => PySem.call f vs) := by
  refine Att.attach_call hn hdf fun w s0 s1 mg mb fa o pm cd doc a vs ns G Y ho hd hcd hmg hobj hints hlen hg => ?_
  have inK := hY w _ Y
  obtain ⟨fd, bnd, hF⟩ := F w mg fa _ inK G.T.g hmg
  have szs : ns.length ≤ sizeLine := Nat.le_trans hlen hn2
  have vals := vals_ints hints
  cases hk : (K w.params).lookup a with
  | some ob =>
    have e := inK a ob hk
    rw [hobj] at e
    cases e
    have here : SqL (K w.params) (fun _ => none) a (ns.map V.int) := .inr ⟨_, vs.toArray, _, hk, rfl, rfl, rfl, by rw [List.size_toArray, hints.length]; exact szs, by simpa using vals⟩
    exact FnG.ends inK G.T.g G.T.b G.T.builtins G.T.nolimit hg hobj hints hF bnd (fun _ => .inl rfl) (hsp w _ a ns hlen here) (fun _ _ z => (nomatch z)) (fun b z => absurd rfl z) fun z => absurd rfl z
  | none =>
    have here : SqL (K w.params) (fun b => if b = a then some (.frz { cls := .type "list", data := .seq vs.toArray } (.lst (ns.map V.int))) else none) a (ns.map V.int) := .inl (.inr ⟨_, if_pos rfl⟩)
    refine FnG.ends inK G.T.g G.T.b G.T.builtins G.T.nolimit hg hobj hints hF bnd (fun b => ?_) (hsp w _ a ns hlen here) (fun b u z => ?_) (fun b z => ?_) fun _ => hk
    · exact if h : b = a then .inr ⟨_, _, if_pos h⟩ else .inl (if_neg h)
    · by_cases h : b = a
      · rw [if_pos h] at z
        cases z
        subst h
        exact ⟨hobj, by rw [List.length_map]; exact szs, vs, _, vals, hobj⟩
      · rw [if_neg h] at z
        cases z
    · by_cases h : b = a
      · exact h
      · exact absurd (if_neg h) z
/-! ### data that are small: how much they weigh, how deep they are -/
structure Sm (m k : Nat) (d : PyData) : Prop where
  lay : d.canLay0 = true
  sho : d.showable = true
  ish : d.intsShort 13 = true
  wt : d.weight ≤ m
  dep : d.depth ≤ k
theorem Sm.le {m k m' k' : Nat} {d : PyData} (h : Sm m k d) (hm : m ≤ m') (hk : k ≤ k') : Sm m' k' d := ⟨h.lay, h.sho, h.ish, Nat.le_trans h.wt hm, Nat.le_trans h.dep hk⟩
theorem Sm.non : Sm 0 0 .none := ⟨by simp [PyData.canLay0], by simp [PyData.showable], by simp [PyData.intsShort], by simp [PyData.weight], by simp [PyData.depth]⟩
theorem Sm.bl (b : Bool) : Sm 0 0 (.bool b) := ⟨by simp [PyData.canLay0], by simp [PyData.showable], by simp [PyData.intsShort], by simp [PyData.weight], by simp [PyData.depth]⟩
theorem Sm.int {i : Int} (h0 : -1000000000 < i) (h1 : i < 1000000000) : Sm 64 0 (.int i) := by
  have hb : i.natAbs < 2 ^ 64 := by omega
  have hl : i.natAbs.log2 < 64 := by
    by_cases z : i.natAbs = 0
    · rw [z]
      decide
    · exact (Nat.log2_lt z).mpr hb
  refine ⟨by simp [PyData.canLay0], ?_, ?_, ?_, by simp [PyData.depth]⟩
  · simp only [PyData.showable]
    exact decide_eq_true (by omega)
  · simp only [PyData.intsShort, PyData.shown]
    refine decide_eq_true ?_
    by_cases hn : i < 0
    · rw [len_text_neg hn]
      have := toString_length_le (v := 0 - i) (k := 9) (by omega) (by decide) (by omega)
      omega
    · have := toString_length_le (v := i) (k := 9) (by omega) (by decide) (by omega)
      omega
  · simp only [PyData.weight]
    split <;> omega
theorem Sm.str {x : Str} {n : Nat} (h : PyData.strOk x = true) (hn : x.length ≤ n) : Sm n 0 (.str x) :=
  ⟨by simpa only [PyData.canLay0] using h, by simp [PyData.showable], by simp [PyData.intsShort], by simp only [PyData.weight]; exact hn, by simp [PyData.depth]⟩
structure SmA (n m k : Nat) (ds : List PyData) : Prop where
  lay : PyData.canLayAll0 ds = true
  sho : PyData.showableAll ds = true
  ish : PyData.intsShortAll 13 ds = true
  wt : PyData.weightAll ds ≤ ds.length * (m + 1)
  dep : PyData.depthAll ds ≤ k
theorem SmA.of {m k : Nat} : ∀ {ds : List PyData}, (∀ d ∈ ds, Sm m k d) → SmA ds.length m k ds
  | [], _ => ⟨by simp [PyData.canLayAll0], by simp [PyData.showableAll], by simp [PyData.intsShortAll], by simp [PyData.weightAll], by simp [PyData.depthAll]⟩
  | d :: ds, h => by
    have h1 := h d (List.mem_cons_self ..)
    have h2 := SmA.of (ds := ds) fun x hx => h x (List.mem_cons_of_mem _ hx)
    refine ⟨by simp [PyData.canLayAll0, h1.lay, h2.lay], by simp [PyData.showableAll, h1.sho, h2.sho], by simp [PyData.intsShortAll, h1.ish, h2.ish], ?_, ?_⟩
    · have e1 := h1.wt
      have e2 := h2.wt
      simp only [PyData.weightAll, List.length_cons, Nat.succ_mul]
      omega
    · simp only [PyData.depthAll]
      exact Nat.max_le.mpr ⟨h1.dep, h2.dep⟩
theorem Sm.lst {n m k M : Nat} {ds : List PyData} (hn : ds.length ≤ n) (h : ∀ d ∈ ds, Sm m k d) (hM : n * (m + 1) ≤ M) : Sm M (k + 1) (.list ds) := by
  have a := SmA.of h
  have hw : ds.length * (m + 1) ≤ n * (m + 1) := Nat.mul_le_mul_right _ hn
  exact ⟨by simpa only [PyData.canLay0] using a.lay, by simpa only [PyData.showable] using a.sho, by simpa only [PyData.intsShort] using a.ish, by simp only [PyData.weight]; exact Nat.le_trans a.wt (Nat.le_trans hw hM), by simp only [PyData.depth]; exact Nat.succ_le_succ a.dep⟩
theorem Sm.tup {n m k M : Nat} {ds : List PyData} (hn : ds.length ≤ n) (h : ∀ d ∈ ds, Sm m k d) (hM : n * (m + 1) ≤ M) : Sm M (k + 1) (.tuple ds) := by
  have a := SmA.of h
  have hw : ds.length * (m + 1) ≤ n * (m + 1) := Nat.mul_le_mul_right _ hn
  exact ⟨by simpa only [PyData.canLay0] using a.lay, by simpa only [PyData.showable] using a.sho, by simpa only [PyData.intsShort] using a.ish, by simp only [PyData.weight]; exact Nat.le_trans a.wt (Nat.le_trans hw hM), by simp only [PyData.depth]; exact Nat.succ_le_succ a.dep⟩
theorem Sm.shaped {m k : Nat} {d : PyData} (h : Sm m k d) (hk : k ≤ 50) : SeqAt.shaped d = true := by
  show (d.canLay0 && decide (d.depth ≤ 64)) = true
  rw [h.lay, decide_eq_true (show d.depth ≤ 64 from Nat.le_trans h.dep (by omega))]
  rfl
theorem Sm.short {m k : Nat} {d : PyData} (h : Sm m k d) (hm : m ≤ 1000000) (hk : k ≤ 50) : d.shown.length ≤ sizeLine := by
  have e : PyData.layable0 d = true := by
    show (d.canLay0 && decide (d.depth ≤ 64) && decide (d.weight ≤ 2 ^ 20)) = true
    rw [h.lay, decide_eq_true (show d.depth ≤ 64 from Nat.le_trans h.dep (by omega)), decide_eq_true (show d.weight ≤ 2 ^ 20 from Nat.le_trans h.wt (by omega))]
    rfl
  have := shown_le13 e h.ish
  rw [sizeLine_eq]
  omega
/-! ### repr of data at any depth -/
def rShow (K : PySem.W.Frag) : List V → Hp → VK → Prop := fun xs H Q => ∃ v d m k, xs = [v] ∧ Dp K H v d ∧ Sm m k d ∧ m ≤ 1000000 ∧ k ≤ 50 ∧ Q (.str d.shown) H
theorem call_show (K : PySem.W.Frag) {X : Cx} (hg : X.A.guards = some []) (hu : X.A.units + 64 < cLine) (hK : X.K = K := by rfl) : CallR X (.builtin "repr") (rShow K) := by
  subst hK
  intro pins s σ H xs us Q I r h
  obtain ⟨v, d, m, k, rfl, hd, sh, hm, hk, q⟩ := h
  have hdep := sh.dep
  have hz := sh.short hm hk
  cases hd with
  | non =>
    obtain ⟨u, rfl, rfl⟩ := vals1 r
    exact PySem.P.repr_of_none ⟨.str _, H, I.tok _, ⟨_, rfl⟩, by simpa only [PyData.shown] using q⟩
  | bl b =>
    obtain ⟨u, rfl, rfl⟩ := vals1 r
    refine PySem.P.repr_of_bool ⟨.str _, H, I.tok _, ⟨_, rfl⟩, ?_⟩
    simp only [PyData.shown] at q
    cases b <;> exact q
  | int i =>
    obtain ⟨u, rfl, t, rfl⟩ := vals1 r
    have hi : i.natAbs.log2 < 1920 := by simpa [PyData.showable] using sh.sho
    exact PySem.P.repr_of_int hi ⟨.str _, H, I.tok _, ⟨_, rfl⟩, by simpa only [PyData.shown] using q⟩
  | str x =>
    obtain ⟨u, rfl, t, rfl⟩ := vals1 r
    simp only [PyData.shown] at q hz
    exact PySem.P.repr_of_str ⟨.str _, H, I.tok _, ⟨_, rfl⟩, q⟩ hz
  | @lst a ys ds hs hds =>
    obtain ⟨u, rfl, rfl⟩ := vals1 r
    obtain ⟨as, rd⟩ := Dp.reads I _ _ _ (Dp.lst hs hds) (show RelV (.ref a) (.ref a) from rfl)
    exact PySem.repr_of_reads' rd sh.sho (PyData.noDict_hsm (PyData.hasDict_of_canLay _ sh.lay)) hg (by omega) (fun _ _ e => e) (fun h' u tk keep => ⟨.str _, H, I.kept keep, ⟨_, rfl⟩, q⟩) hz
  | @tup a ys ds hs hds =>
    obtain ⟨u, rfl, rfl⟩ := vals1 r
    obtain ⟨as, rd⟩ := Dp.reads I _ _ _ (Dp.tup hs hds) (show RelV (.ref a) (.ref a) from rfl)
    exact PySem.repr_of_reads' rd sh.sho (PyData.noDict_hsm (PyData.hasDict_of_canLay _ sh.lay)) hg (by omega) (fun _ _ e => e) (fun h' u tk keep => ⟨.str _, H, I.kept keep, ⟨_, rfl⟩, q⟩) hz
/-! ### sorted of data -/
def rSortD (K : PySem.W.Frag) : List V → Hp → VK → Prop := fun vs H Q => ∃ (β : Type) (v : β → V) (d : β → PyData) (a : Addr) (bs : List β), vs = [.ref a] ∧ SqL K H a (bs.map v) ∧ (∀ b ∈ bs, Dp K H (v b) (d b) ∧ (d b).depth ≤ 50) ∧
  PySem.W.AllAlike (bs.map d) ∧ PySem.W.Sortable (bs.map d) ∧ ∀ p, H p = none → Q (.ref p) (upd H p (.lst ((bs.mergeSort (PySem.W.dataLe false d)).map v)))
section
variable {β : Type} {v : β → V} {d : β → PyData}
theorem each_vals : ∀ {bs : List β} {its : List Value}, Vals (bs.map v) its → PySem.W.EachIs (fun (u : Value) (b : β) => RelV (v b) u) its bs
  | [], _, .nil => .nil
  | _ :: _, _, .cons r t => .cons r (each_vals t)
theorem vals_each : ∀ {bs : List β} {its : List Value}, PySem.W.EachIs (fun (u : Value) (b : β) => RelV (v b) u) its bs → Vals (bs.map v) its
  | [], _, .nil => .nil
  | _ :: _, _, .cons r t => .cons r (vals_each t)
theorem each_reads {X : Cx} {pins : List (Addr × Obj)} {σ : L2.St} {H : Hp} {s : Shared} (I : Inv X pins σ H s) : ∀ {bs : List β} {its : List Value}, Vals (bs.map v) its → (∀ b ∈ bs, Dp X.K H (v b) (d b)) → PySem.W.EachIs (fun (u : Value) (b : β) => ∃ as, Reads s.heap u (d b) as) its bs
  | [], _, .nil, _ => .nil
  | b :: _, _, .cons r t, h => .cons (Dp.reads I _ _ _ (h b (List.mem_cons_self ..)) r) (each_reads I t fun x hx => h x (List.mem_cons_of_mem _ hx))
end
theorem cr_sortD (K : PySem.W.Frag) {X : Cx} (hu : X.A.units + 64 < cLine) (hK : X.K = K := by rfl) : CallR X (.builtin "sorted") (rSortD K) := by
  subst hK
  intro pins s σ H vs us Q I r h
  obtain ⟨β, v, d, a, bs, rfl, hs, hd, al, so, q⟩ := h
  obtain ⟨u, rfl, rfl⟩ := vals1 r
  obtain ⟨its, rv, hl, hz⟩ := I.list hs
  rw [List.length_map] at hz
  refine PySem.W.sorted_data (enc := d) (R := fun (u : Value) (b : β) => RelV (v b) u) hl.isList (each_vals rv) (each_reads I rv fun b hb => (hd b hb).1) al so hz (fun b hb => ?_) fun out hlen he => ?_
  · have := (hd b hb).2
    omega
  · obtain ⟨ep, he'⟩ := PyProof.Rows.sortedAll_at s.heap its out.toArray
    have hlen2 : ((bs.mergeSort (PySem.W.dataLe false d)).map v).length ≤ sizeLine := by
      rw [List.length_map, List.length_mergeSort]
      exact hz
    exact ⟨.ref _, upd H (s.heap.objs.size + 1) (.lst ((bs.mergeSort (PySem.W.dataLe false d)).map v)), I.laid (t' := s.toks) (fun _ _ => PyProof.Rows.sortedAll_old) (Nat.le_succ _) ⟨hlen2, out, ep, vals_each he, by simpa using he'⟩, rfl, q _ (I.hok.fresh (Nat.le_succ _))⟩
end Pf


namespace Pf
open PySem PySem.Spec PyProof.Rows L2
/-! ### tuples stay -/
structure TupK (H H' : Hp) : Prop where
  tup : ∀ b xs, H b = some (.tup xs) → H' b = some (.tup xs)
  frz : ∀ b o u, H b = some (.frz o u) → H' b = some (.frz o u)
instance {H H' : Hp} : CoeFun (TupK H H') (fun _ => ∀ b xs, H b = some (.tup xs) → H' b = some (.tup xs)) := ⟨TupK.tup⟩
theorem TupK.refl {H : Hp} : TupK H H := ⟨fun _ _ e => e, fun _ _ _ e => e⟩
theorem TupK.trans {H H1 H2 : Hp} (a : TupK H H1) (b : TupK H1 H2) : TupK H H2 := ⟨fun c xs e => b.tup c xs (a.tup c xs e), fun c o u e => b.frz c o u (a.frz c o u e)⟩
theorem TupK.ext {H H' : Hp} (k : Ext H H') : TupK H H' := ⟨fun b _ e => k b _ e, fun b _ _ e => k b _ e⟩
theorem TupK.new {q : Addr} {H : Hp} {o : HO} (h : H q = none) : TupK H (upd H q o) := TupK.ext (Ext.new h)
theorem TupK.lst {q : Addr} {H : Hp} {o : HO} {ys : List V} (h : H q = some (.lst ys)) : TupK H (upd H q o) := by
  refine ⟨fun b xs e => ?_, fun b o u e => ?_⟩
  · rw [upd_ne (ne_of e h (by intro z; cases z))]
    exact e
  · rw [upd_ne (ne_of e h (by intro z; cases z))]
    exact e
theorem paired_imp {α β : Type} {R S : α → β → Prop} (h : ∀ a b, R a b → S a b) : ∀ {xs : List α} {ys : List β}, Paired R xs ys → Paired S xs ys
  | _, _, .nil => .nil
  | _, _, .cons r t => .cons (h _ _ r) (paired_imp h t)
theorem paired_get {α β : Type} {R : α → β → Prop} : ∀ {xs : List α} {ys : List β} {i : Nat} {x : α}, Paired R xs ys → xs[i]? = some x → ∃ y, ys[i]? = some y ∧ R x y
  | _, _, _, _, .nil, e => by simp at e
  | _, _, 0, _, .cons r _, e => by
    simp at e
    subst e
    exact ⟨_, rfl, r⟩
  | _, _, i + 1, x, .cons _ t, e => by
    obtain ⟨y, h1, h2⟩ := paired_get (i := i) (x := x) t (by simpa using e)
    exact ⟨y, by simpa using h1, h2⟩
theorem paired_len {α β : Type} {R : α → β → Prop} : ∀ {xs : List α} {ys : List β}, Paired R xs ys → xs.length = ys.length
  | _, _, .nil => rfl
  | _, _, .cons _ t => by rw [List.length_cons, List.length_cons, paired_len t]
theorem paired_app {α β : Type} {R : α → β → Prop} : ∀ {xs xs' : List α} {ys ys' : List β}, Paired R xs ys → Paired R xs' ys' → Paired R (xs ++ xs') (ys ++ ys')
  | _, _, _, _, .nil, s => s
  | _, _, _, _, .cons r t, s => .cons r (paired_app t s)
/-! ### things as they lie in the heap -/
def PairAt (H : Hp) (v : V) (x : Str × Int) : Prop := ∃ a, v = .ref a ∧ H a = some (.tup [.str x.1, .int x.2])
def StackAt (H : Hp) (v : V) (x : Str × Str × Int) : Prop := ∃ a, v = .ref a ∧ H a = some (.tup [.str x.1, .str x.2.1, .int x.2.2])
def TwoAt (H : Hp) (v : V) (x : Int × Int) : Prop := ∃ a, v = .ref a ∧ H a = some (.tup [.int x.1, .int x.2])
def TupOf {α : Type} (R : Hp → V → α → Prop) (H : Hp) (v : V) (xs : List α) : Prop := ∃ a vs, v = .ref a ∧ H a = some (.tup vs) ∧ Paired (R H) vs xs
def Mono {α : Type} (R : Hp → V → α → Prop) : Prop := ∀ H H' v x, TupK H H' → R H v x → R H' v x
theorem PairAt.mono : Mono PairAt := fun H H' v x k ⟨a, e, h⟩ => ⟨a, e, k _ _ h⟩
theorem StackAt.mono : Mono StackAt := fun H H' v x k ⟨a, e, h⟩ => ⟨a, e, k _ _ h⟩
theorem TwoAt.mono : Mono TwoAt := fun H H' v x k ⟨a, e, h⟩ => ⟨a, e, k _ _ h⟩
theorem TupOf.mono {α : Type} {R : Hp → V → α → Prop} (m : Mono R) : Mono (TupOf R) := fun H H' v x k ⟨a, vs, e, h, r⟩ => ⟨a, vs, e, k _ _ h, paired_imp (fun _ _ => m _ _ _ _ k) r⟩
/-- a tuple whose object is known to have no dict -/
def FrzOf {α : Type} (R : Hp → V → α → Prop) (H : Hp) (v : V) (xs : List α) : Prop := ∃ (a : Addr) (o : Obj) (vs : List V), v = .ref a ∧ H a = some (.frz o (.tup vs)) ∧ o.dict = none ∧ Paired (R H) vs xs
theorem FrzOf.mono {α : Type} {R : Hp → V → α → Prop} (m : Mono R) : Mono (FrzOf R) := fun H H' v x k ⟨a, o, vs, e, h, hd, r⟩ => ⟨a, o, vs, e, k.frz _ _ _ h, hd, paired_imp (fun _ _ => m _ _ _ _ k) r⟩
theorem SqT.fz {K : PySem.W.Frag} {H : Hp} {a : Addr} {o : Obj} {xs : List V} (h : H a = some (.frz o (.tup xs))) : SqT K H a xs := .inl (.inr ⟨o, h⟩)
def IntAt (_ : Hp) (v : V) (x : Int) : Prop := v = .int x
theorem IntAt.mono : Mono IntAt := fun _ _ _ _ _ e => e
theorem paired_ints {H : Hp} : ∀ ns : List Int, Paired (IntAt H) (ns.map V.int) ns
  | [] => .nil
  | _ :: r => .cons rfl (paired_ints r)
structure Rl where
  letters : Str
  prs : List (Str × Int)
  span : Int
  loops : List Int
  stk : List (Str × Str × Int)
def RulesAt (H : Hp) (v : V) (r : Rl) : Prop := ∃ a vp vl vs, v = .ref a ∧ H a = some (.tup [.str r.letters, vp, .int r.span, vl, vs]) ∧ FrzOf PairAt H vp r.prs ∧ TupOf IntAt H vl r.loops ∧ TupOf StackAt H vs r.stk
theorem RulesAt.mono : Mono RulesAt := fun H H' v x k ⟨a, vp, vl, vs, e, h, h1, h2, h3⟩ => ⟨a, vp, vl, vs, e, k _ _ h, FrzOf.mono PairAt.mono _ _ _ _ k h1, TupOf.mono IntAt.mono _ _ _ _ k h2, TupOf.mono StackAt.mono _ _ _ _ k h3⟩
/-- pairs as a tuple of either make -/
def PrsW (H : Hp) (v : V) (xs : List (Str × Int)) : Prop := ∃ (a : Addr) (vs : List V), v = .ref a ∧ ((∃ o, H a = some (.frz o (.tup vs))) ∨ H a = some (.tup vs)) ∧ Paired (PairAt H) vs xs
theorem PrsW.mono : Mono PrsW := fun H H' v x k ⟨a, vs, e, h, r⟩ => ⟨a, vs, e, h.elim (fun ⟨o, h⟩ => .inl ⟨o, k.frz _ _ _ h⟩) (fun h => .inr (k _ _ h)), paired_imp (fun _ _ => PairAt.mono _ _ _ _ k) r⟩
theorem SqT.w {K : PySem.W.Frag} {H : Hp} {a : Addr} {xs : List V} (h : (∃ o, H a = some (.frz o (.tup xs))) ∨ H a = some (.tup xs)) : SqT K H a xs := h.elim (fun ⟨_, h⟩ => SqT.fz h) (fun h => SqT.of h)
def RulesW (H : Hp) (v : V) (r : Rl) : Prop := ∃ a vp vl vs, v = .ref a ∧ H a = some (.tup [.str r.letters, vp, .int r.span, vl, vs]) ∧ PrsW H vp r.prs ∧ TupOf IntAt H vl r.loops ∧ TupOf StackAt H vs r.stk
theorem RulesW.mono : Mono RulesW := fun H H' v x k ⟨a, vp, vl, vs, e, h, h1, h2, h3⟩ => ⟨a, vp, vl, vs, e, k _ _ h, PrsW.mono _ _ _ _ k h1, TupOf.mono IntAt.mono _ _ _ _ k h2, TupOf.mono StackAt.mono _ _ _ _ k h3⟩
theorem RulesAt.w {H : Hp} {v : V} {r : Rl} (h : RulesAt H v r) : RulesW H v r := by
  obtain ⟨a, vp, vl, vs, e, h, ⟨ap, o, us, e1, h1, _, p⟩, h2, h3⟩ := h
  exact ⟨a, vp, vl, vs, e, h, ⟨ap, us, e1, .inl ⟨o, h1⟩, p⟩, h2, h3⟩
def Two (t : Str) : Prop := t.length = 2 ∧ Small t
structure RlOk (r : Rl) : Prop where
  let6 : r.letters.length ≤ 6
  let1 : 1 ≤ r.letters.length
  small : Small r.letters
  prs : r.prs.length ≤ 12
  pr : ∀ x ∈ r.prs, Two x.1 ∧ -99 ≤ x.2 ∧ x.2 ≤ 99
  sp0 : 0 ≤ r.span
  sp3 : r.span ≤ 3
  lo9 : r.loops.length = 9
  lo : ∀ x ∈ r.loops, -99 ≤ x ∧ x ≤ 99
  stk : r.stk.length ≤ 12
  st : ∀ x ∈ r.stk, Two x.1 ∧ Two x.2.1 ∧ -99 ≤ x.2.2 ∧ x.2.2 ≤ 99
  nd : (r.stk.map fun x => (x.1, x.2.1)).Nodup
  pn : (r.prs.map (·.1)).Nodup
/-! ### a dict by two texts -/
def encE (x : Str × Str × Int) : List Key × V := ([.inr x.1, .inr x.2.1], .int x.2.2)
def putE (es : List (Str × Str × Int)) (a b : Str) (i : Int) : List (Str × Str × Int) :=
  if (es.any fun x => decide (x.1 = a ∧ x.2.1 = b)) = true then es.map (fun x => if x.1 = a ∧ x.2.1 = b then (x.1, x.2.1, i) else x) else es ++ [(a, b, i)]
theorem encE_key (x : Str × Str × Int) (a b : Str) : ((encE x).1 = [Sum.inr a, Sum.inr b]) ↔ (x.1 = a ∧ x.2.1 = b) := by
  unfold encE
  constructor
  · intro h
    injection h with h1 h2
    injection h2 with h3 _
    exact ⟨Sum.inr.inj h1, Sum.inr.inj h3⟩
  · rintro ⟨h1, h2⟩
    rw [h1, h2]
theorem put_enc (es : List (Str × Str × Int)) (a b : Str) (i : Int) : putK (es.map encE) [Sum.inr a, Sum.inr b] (.int i) = (putE es a b i).map encE := by
  have hany : ((es.map encE).any fun kv => decide (kv.1 = [Sum.inr a, Sum.inr b])) = es.any fun x => decide (x.1 = a ∧ x.2.1 = b) := by
    rw [List.any_map]
    congr 1
    funext x
    exact decide_eq_decide.mpr (encE_key x a b)
  unfold putK putE
  rw [hany]
  by_cases h : (es.any fun x => decide (x.1 = a ∧ x.2.1 = b)) = true
  · rw [if_pos h, if_pos h, List.map_map, List.map_map]
    refine List.map_congr_left fun x _ => ?_
    show (if (encE x).1 = [Sum.inr a, Sum.inr b] then ((encE x).1, V.int i) else encE x) = encE (if x.1 = a ∧ x.2.1 = b then (x.1, x.2.1, i) else x)
    by_cases e : x.1 = a ∧ x.2.1 = b
    · rw [if_pos ((encE_key x a b).mpr e), if_pos e]
      rfl
    · rw [if_neg (fun z => e ((encE_key x a b).mp z)), if_neg e]
  · rw [if_neg h, if_neg h, List.map_append]
    rfl
theorem putE_keys (es : List (Str × Str × Int)) (a b : Str) (i : Int) (hn : (es.map fun x => (x.1, x.2.1)).Nodup) : ((putE es a b i).map fun x => (x.1, x.2.1)).Nodup := by
  unfold putE
  split
  · rw [List.map_map]
    have e : ((fun x : Str × Str × Int => (x.1, x.2.1)) ∘ fun x => if x.1 = a ∧ x.2.1 = b then (x.1, x.2.1, i) else x) = fun x => (x.1, x.2.1) := by
      funext x
      show (fun x : Str × Str × Int => (x.1, x.2.1)) (if x.1 = a ∧ x.2.1 = b then (x.1, x.2.1, i) else x) = _
      split <;> rfl
    rw [e]
    exact hn
  · rename_i h
    rw [List.map_append]
    refine List.nodup_append.mpr ⟨hn, by simp, fun x hx y hy e => ?_⟩
    obtain ⟨z, hz, rfl⟩ := List.mem_map.mp hx
    have hy' : y = (a, b) := by simpa using hy
    rw [hy'] at e
    injection e with e1 e2
    exact h (List.any_eq_true.mpr ⟨z, hz, decide_eq_true ⟨e1, e2⟩⟩)
theorem putE_len (es : List (Str × Str × Int)) (a b : Str) (i : Int) : (putE es a b i).length ≤ es.length + 1 := by
  unfold putE
  split
  · rw [List.length_map]
    omega
  · rw [List.length_append]
    exact Nat.le_refl _
theorem putE_all {Pd : Str × Str × Int → Prop} {es : List (Str × Str × Int)} {a b : Str} {i : Int} (h : ∀ x ∈ es, Pd x) (hn : Pd (a, b, i)) : ∀ x ∈ putE es a b i, Pd x := by
  intro x hx
  unfold putE at hx
  split at hx
  · obtain ⟨y, hy, rfl⟩ := List.mem_map.mp hx
    split
    · rename_i e
      rw [e.1, e.2]
      exact hn
    · exact h y hy
  · rcases List.mem_append.mp hx with hx | hx
    · exact h x hx
    · rw [List.mem_singleton.mp hx]
      exact hn
theorem val_enc {es : List (Str × Str × Int)} {a b : Str} {i : Int} (hn : (es.map fun x => (x.1, x.2.1)).Nodup) (h : (a, b, i) ∈ es) : valV (es.map encE) [Sum.inr a, Sum.inr b] = some (.int i) := by
  induction es with
  | nil => cases h
  | cons y r ih =>
    rw [List.map_cons]
    rw [List.map_cons, List.nodup_cons] at hn
    by_cases e : y.1 = a ∧ y.2.1 = b
    · rw [valV_pos ((encE_key y a b).mpr e)]
      rcases List.mem_cons.mp h with z | z
      · rw [← z]
        rfl
      · exact absurd (List.mem_map.mpr ⟨_, z, by rw [e.1, e.2]⟩) hn.1
    · rw [valV_neg (fun z => e ((encE_key y a b).mp z))]
      rcases List.mem_cons.mp h with z | z
      · rw [← z] at e
        exact absurd ⟨rfl, rfl⟩ e
      · exact ih hn.2 z
theorem map_erase {α β : Type} (f : α → β) : ∀ (xs : List α) (k : Nat), (xs.map f).eraseIdx k = (xs.eraseIdx k).map f
  | [], _ => rfl
  | _ :: _, 0 => rfl
  | x :: r, k + 1 => by
    show f x :: (r.map f).eraseIdx k = f x :: (r.eraseIdx k).map f
    rw [map_erase f r k]
theorem dpStrs {K : PySem.W.Frag} {H : Hp} : ∀ us : List Str, DpAll K H (us.map V.str) (us.map PyData.str)
  | [] => .nil
  | _ :: r => .cons (.str _) (dpStrs r)
theorem sm_strs {us : List Str} {n m : Nat} (hn : us.length ≤ n) (h : ∀ t ∈ us, Small t ∧ t.length ≤ m) (hM : n * (m + 1) ≤ 1000000) : Sm 1000000 1 (.list (us.map PyData.str)) := by
  refine Sm.lst (n := n) (m := m) (k := 0) (by rw [List.length_map]; exact hn) (fun d hd => ?_) hM
  obtain ⟨t, ht, rfl⟩ := List.mem_map.mp hd
  exact Sm.str (h t ht).1.ok (h t ht).2
theorem keys_zip {H : Hp} : ∀ {es : List (Str × Str × Int)} {bs : List Addr}, IsKeys H (es.map encE) bs → ∃ bes : List (Addr × (Str × Str × Int)), bes.map (·.1) = bs ∧ bes.map (·.2) = es ∧ ∀ x ∈ bes, H x.1 = some (.tup [.str x.2.1, .str x.2.2.1])
  | [], _, .nil => ⟨[], rfl, rfl, fun x h => by cases h⟩
  | e :: es, b :: bs, .cons r t => by
    obtain ⟨bes, h1, h2, h3⟩ := keys_zip (es := es) t
    refine ⟨(b, e) :: bes, by rw [List.map_cons, h1], by rw [List.map_cons, h2], fun x hx => ?_⟩
    rcases List.mem_cons.mp hx with rfl | hx
    · exact r
    · exact h3 x hx
theorem ixN_in {n : Nat} {i : Int} (h0 : 0 ≤ i) (h1 : i < n) : seqIndex? i n = some i.toNat := by
  refine (ixN_seq ?_).1
  unfold ixN
  rw [if_pos h0, if_pos h1]
end Pf


namespace Pf
open PySem PySem.Spec PyProof.Rows L2
/-! ### a def that is called while nothing is being shown -/
structure FnOg (P : Program) (w : World) (K : PySem.W.Frag) (mg : Str → Option Value) (base : Heap) (k : Nat) (f : Addr) (fd : FuncData) (ps : List Str) (sp : Sp) : Prop where
  len : ∀ vs H Q E, sp vs H Q E → vs.length = ps.length
  run : ∀ (A : Around) (outer : List Env) (s : Shared) (H : Hp) (args : Args) (us : List Value) (vs : List V) (Q : VK) (E : XK), A.guards = some [] → Room k A → Env0 P w K mg base A outer s H → BindsTo s fd args (ps.zip us) → Vals vs us → sp vs H Q E →
    codeAny (model P w) A (.call (.ref f) args) (CR CX0 outer P w H s Q E) s
theorem FnOg.of {P : Program} {w : World} {K : PySem.W.Frag} {mg : Str → Option Value} {base : Heap} {k : Nat} {f : Addr} {fd : FuncData} {x qual : Str} {st : Stmt} {N ps : List Str} {sp : Sp} (F : Fun K x qual st f fd) (S : FnScope N ps (defScope st))
    (len : ∀ vs H Q E, sp vs H Q E → vs.length = ps.length)
    (body : ∀ (cdv : Value) (A : Around) (outer : List Env) (s : Shared) (H : Hp) (vs : List V) (Q : VK) (E : XK), Room k (A.deeper (envOfC qual (defScope st) s.heap.objs.size f cdv)) → (A.deeper (envOfC qual (defScope st) s.heap.objs.size f cdv)).guards = some [] → sp vs H Q E →
      ∃ t, PSs (cxOf CX0 P w K mg base N qual (defScope st) f cdv A outer s H E).nox (defBody st) t ∧ t { nx := fun _ H' => Q .non H', rt := Q } (start N vs) H) : FnOg P w K mg base (k + 1) f fd ps sp := by
  obtain ⟨oc, od, kV, doc, pm, an, cdv, ct, osl, rfl, lk, hcd⟩ := F.ex
  refine ⟨len, fun A outer s H args us vs Q E hG room env0 bnd rel hsp => ?_⟩
  have inS : K.In s.heap := env0.mod.kin.keeps fun b o e => (env0.bs b o e).1
  have limS : s.heap.NoLimit := env0.mod.nolimit.keeps fun b o e => (env0.bs b o e).1
  have kinds : ∀ y ∈ ps.zip us, (defScope st).names.lookup y.1 = some .local ∨ ((defScope st).names.lookup y.1 = some .cell ∧ ((cellsFrom (s.heap.objs.size + 1) (defScope st).names []).lookup y.1).isSome = true) := by
    rintro ⟨n, v⟩ hy
    cases S.par n (List.of_mem_zip hy).1 with
    | inl q => exact .inl q
    | inr q => exact .inr ⟨q, PySem.W.cellsFrom_some _ _ _ (.inl q)⟩
  refine codeAny_call_function room.depth (inS _ _ lk) rfl S.co S.gen rfl (PySem.W.codeRec_of inS hcd) (bnd _ _ _ _ ?_)
  refine wpAny_newFunctionEnv_cells S.kind kinds fun env0' he s1 inC => ?_
  subst he
  refine ⟨limS.keeps inC.toInCall.keep, codeAny_func ?_⟩
  obtain ⟨t, ht, hq⟩ := body cdv A outer s H vs Q E (room.deeper _) hG hsp
  have I0 : Inv (cxOf CX0 P w K mg base N qual (defScope st) f cdv A outer s H E) [] (start N vs) H s1 := inv_start S room.hd env0 (len _ _ _ _ hsp) rel inC
  refine wpAny_mono (ht.nox.run [] s1 (start N vs) H _ I0 hq) (fun fl s' hs => ?_) fun _ _ z => z
  cases fl with
  | ret u =>
    obtain ⟨v, σ', H', J, rv, q⟩ := hs
    exact ⟨v, H', J.os, J.bare, J.base, J.hok, rv, q⟩
  | next =>
    obtain ⟨σ', H', J, q⟩ := hs
    exact ⟨.non, H', J.os, J.bare, J.base, J.hok, rfl, q⟩
  | brk => exact False.elim (by obtain ⟨_, _, _, q⟩ := hs; exact q)
  | cont => exact False.elim (by obtain ⟨_, _, _, q⟩ := hs; exact q)
structure CaG (P : Program) (w : World) (K : PySem.W.Frag) (mg : Str → Option Value) (base : Heap) (k : Nat) (x : Str) (ps : List Str) (sp : Sp) : Prop where
  ex : ∃ f fd, FnOg P w K mg base k f fd ps sp ∧ mg x = some (.ref f) ∧ PySem.W.keepIn K (.ref f) = true ∧ Binds K fd ps []
/-- a def whose last arguments are left out -/
structure CaD (P : Program) (w : World) (K : PySem.W.Frag) (mg : Str → Option Value) (base : Heap) (k : Nat) (x : Str) (ps : List Str) (dvs : List V) (sp : Sp) : Prop where
  ex : ∃ f fd ds, FnOk P w K mg base CX0 k f fd ps sp ∧ mg x = some (.ref f) ∧ PySem.W.keepIn K (.ref f) = true ∧ Vals dvs ds ∧ Binds K fd ps ds
section
variable {X : Cx} {k : Nat} {x : Str} {ps ks : List Str} {sp : Sp} {p pos : Pos} {e : Expr} {es : List Expr} {kws : List Keyword} {t tk : TA} {gV : List V → List V → List V} {dvs : List V}
theorem run_fnG {f : Addr} {fd : FuncData} {pins : List (Addr × Obj)} {σ : L2.St} {H : Hp} {s : Shared} {Q : VK} {us : List Value} {vs : List V} (F : FnOg X.prog X.w X.K X.mg X.base k f fd ps sp) (hG : X.A.guards = some []) (hr : Room k X.A) (hb : Binds X.K fd ps [])
    (I : Inv X pins σ H s) (r : Vals vs us) (h : sp (vs ++ []) H Q E0) : wpAny (model X.prog X.w) X.A (call (.ref f) us) (EP X pins σ Q) X.xe s := by
  have r2 : Vals (vs ++ []) (us ++ []) := r.append .nil
  have hl : (us ++ []).length = ps.length := by rw [← r2.length]; exact F.len _ _ _ _ h
  refine wpAny_call (codeAny_mono (F.run X.A X.stack s H ⟨us, []⟩ (us ++ []) (vs ++ []) Q E0 hG hr I.env0 (hb s us I.kIn hl) r2 h) fun r s' hq => ?_)
  cases r with
  | error e => exact False.elim hq
  | ok fl =>
    cases fl with
    | ret u => exact I.after hq
    | next => exact False.elim hq
    | brk => exact False.elim hq
    | cont => exact False.elim hq
theorem pe_caG (c : CaG X.prog X.w X.K X.mg X.base k x ps sp) (hG : X.A.guards = some []) (hr : Room k X.A) (hg : Gl X x) (ha : PA X (e :: es) t) (hdb : (x == ("__debug__" : Str)) = false := by decide)
    (he : starEach (e :: es) X.env = (false, eval e X.env) :: starEach es X.env := by rfl) (hpl : (backTo pos (starEach es X.env)).any (·.1) = false := by rfl) :
    PE X (.Call (.Name x p) (e :: es) [] pos) (tCall sp [] E0 t) := by
  obtain ⟨f, fd, F, hm, hk, hb⟩ := c.ex
  refine ⟨fun pins s σ H Q I h => ?_⟩
  refine wpAny_Call_Name_kw (ld_glob I hg hm ?_ hdb)
  refine PySem.W.callWith_K (h₀ := X.base) I.ok.mod.kin hk (thn (ha.run pos pins s σ H _ I h) fun us s1 ⟨vs, H1, I1, r, q⟩ => ⟨I1.kIn, ?_⟩) he hpl
  exact run_fnG F hG hr hb I1 r q
theorem pe_caD (c : CaD X.prog X.w X.K X.mg X.base k x ps dvs sp) (hr : Room k X.A) (hg : Gl X x) (ha : PA X (e :: es) t) (hdb : (x == ("__debug__" : Str)) = false := by decide)
    (he : starEach (e :: es) X.env = (false, eval e X.env) :: starEach es X.env := by rfl) (hpl : (backTo pos (starEach es X.env)).any (·.1) = false := by rfl) :
    PE X (.Call (.Name x p) (e :: es) [] pos) (tCall sp dvs E0 t) := by
  obtain ⟨f, fd, ds, F, hm, hk, hv, hb⟩ := c.ex
  exact pe_call F hr hg hm hk hb hv pass0 ha hdb he hpl
end
/-- nobody calls it -/
theorem fn_false {P : Program} {w : World} {K : PySem.W.Frag} {mg : Str → Option Value} {base : Heap} {f : Addr} {fd : FuncData} {ps : List Str} : FnOk P w K mg base CX0 0 f fd ps (fun _ _ _ _ => False) :=
  ⟨fun _ _ _ _ h => h.elim, fun _ _ _ _ _ _ _ _ _ _ _ _ _ h => h.elim⟩
/-- by names alone, of a def with defaults -/
theorem kb_D {K : PySem.W.Frag} {x qual : Str} {params : Arguments} {body : List Stmt} {scope : Scope} {dvs : List V} {f : Addr} {fd : FuncData} {ps ks : List Str} (F : FunD K x qual params body scope dvs [] f fd) (js : List Nat) (hd : dvs ≠ [])
    (h : ∀ (T : Addr) (kV doc pm : Value) (an : Option Addr) (cdv ct : Value) (ws its : List Value), ws.length = ks.length → its.length = dvs.length →
      ∃ k, bindArgs (PySem.W.fnOf x qual params body scope (.ref T) kV doc pm an cdv ct) ⟨[], ks.zip ws⟩ = seqItems? (.ref T) >>= k ∧ k (some its.toArray) = pure (ps.zip (js.map fun j => ws.getD j .none))) : KBn K fd ps 0 ks (permU js) (permV js) := by
  obtain ⟨oc, od, dV, kV, doc, pm, an, cdv, ct, osl, rfl, lk, hcd, hD, hK⟩ := F.ex
  rcases hD with ⟨e, _⟩ | ⟨_, T, o, its, m, rfl, lT, oT, rT⟩
  · exact absurd e hd
  · refine ⟨fun s us ws X hu hw => ?_, fun _ r => perm_rel r js⟩
    obtain rfl := List.length_eq_zero_iff.mp hu
    obtain ⟨k, e1, e2⟩ := h T kV doc pm an cdv ct ws its hw rT.length.symm
    refine BindsTo.of_looks fun M => ?_
    rw [e1]
    exact looks_items X lT oT (.of_pure e2)
/-! ### // by a great divisor of either sign -/
def CDivNW (_ j : Int) : Prop := j ≠ 0 ∧ j.natAbs.log2 < 9000
theorem op_fdivNW {X : Cx} : OpR X (binaryOp .FloorDiv) (rI CDivNW fun i j => .int (i.fdiv j)) := opI fun i j _ _ _ _ _ hc q => floordiv_int hc.1 q (.inl (PyProof.noPylong_of_log2 hc.2))
/-! ### repr of data with great numbers -/
structure Bg (B m k : Nat) (d : PyData) : Prop where
  lay : d.canLay0 = true
  sho : d.showable = true
  ish : d.leavesShort B = true
  wt : d.weight ≤ m
  dep : d.depth ≤ k
theorem Bg.int {i : Int} {B : Nat} (hB : 1 < B) (h9 : B ≤ 1900) (h : i.natAbs < 2 ^ B) : Bg (B + 1) B 0 (.int i) := by
  have hl : i.natAbs.log2 < B := PySem.Flt.log2_lt_of (by omega) h
  have h10 : (2 : Nat) ^ B ≤ 10 ^ B := Nat.pow_le_pow_left (by decide) B
  refine ⟨by simp [PyData.canLay0], ?_, ?_, ?_, by simp [PyData.depth]⟩
  · simp only [PyData.showable]
    exact decide_eq_true (by omega)
  · simp only [PyData.leavesShort, PyData.shown]
    refine decide_eq_true ?_
    have hc : ((10 ^ B : Nat) : Int) = (10 : Int) ^ B := by simp
    have hh : (i.natAbs : Int) < (10 : Int) ^ B := by
      rw [← hc]
      exact Int.ofNat_lt.mpr (Nat.lt_of_lt_of_le h h10)
    by_cases hn : i < 0
    · rw [len_text_neg hn]
      have := toString_length_le (v := 0 - i) (k := B) (by omega) (by omega) (by omega)
      omega
    · have := toString_length_le (v := i) (k := B) (by omega) (by omega) (by omega)
      omega
  · simp only [PyData.weight]
    split <;> omega
theorem Bg.le {B m k m' k' : Nat} {d : PyData} (h : Bg B m k d) (hm : m ≤ m') (hk : k ≤ k') : Bg B m' k' d := ⟨h.lay, h.sho, h.ish, Nat.le_trans h.wt hm, Nat.le_trans h.dep hk⟩
structure BgA (B m k : Nat) (ds : List PyData) : Prop where
  lay : PyData.canLayAll0 ds = true
  sho : PyData.showableAll ds = true
  ish : PyData.leavesShortAll B ds = true
  wt : PyData.weightAll ds ≤ ds.length * (m + 1)
  dep : PyData.depthAll ds ≤ k
theorem BgA.of {B m k : Nat} : ∀ {ds : List PyData}, (∀ d ∈ ds, Bg B m k d) → BgA B m k ds
  | [], _ => ⟨by simp [PyData.canLayAll0], by simp [PyData.showableAll], by simp [PyData.leavesShortAll], by simp [PyData.weightAll], by simp [PyData.depthAll]⟩
  | d :: ds, h => by
    have h1 := h d (List.mem_cons_self ..)
    have h2 := BgA.of (ds := ds) fun x hx => h x (List.mem_cons_of_mem _ hx)
    refine ⟨by simp [PyData.canLayAll0, h1.lay, h2.lay], by simp [PyData.showableAll, h1.sho, h2.sho], by simp [PyData.leavesShortAll, h1.ish, h2.ish], ?_, ?_⟩
    · have e1 := h1.wt
      have e2 := h2.wt
      simp only [PyData.weightAll, List.length_cons, Nat.succ_mul]
      omega
    · simp only [PyData.depthAll]
      exact Nat.max_le.mpr ⟨h1.dep, h2.dep⟩
theorem Bg.lst {B n m k M : Nat} {ds : List PyData} (hn : ds.length ≤ n) (h : ∀ d ∈ ds, Bg B m k d) (hM : n * (m + 1) ≤ M) : Bg B M (k + 1) (.list ds) := by
  have a := BgA.of h
  have hw : ds.length * (m + 1) ≤ n * (m + 1) := Nat.mul_le_mul_right _ hn
  exact ⟨by simpa only [PyData.canLay0] using a.lay, by simpa only [PyData.showable] using a.sho, by simpa only [PyData.leavesShort] using a.ish, by simp only [PyData.weight]; exact Nat.le_trans a.wt (Nat.le_trans hw hM), by simp only [PyData.depth]; exact Nat.succ_le_succ a.dep⟩
theorem Bg.tup {B n m k M : Nat} {ds : List PyData} (hn : ds.length ≤ n) (h : ∀ d ∈ ds, Bg B m k d) (hM : n * (m + 1) ≤ M) : Bg B M (k + 1) (.tuple ds) := by
  have a := BgA.of h
  have hw : ds.length * (m + 1) ≤ n * (m + 1) := Nat.mul_le_mul_right _ hn
  exact ⟨by simpa only [PyData.canLay0] using a.lay, by simpa only [PyData.showable] using a.sho, by simpa only [PyData.leavesShort] using a.ish, by simp only [PyData.weight]; exact Nat.le_trans a.wt (Nat.le_trans hw hM), by simp only [PyData.depth]; exact Nat.succ_le_succ a.dep⟩
theorem Bg.short {B m k : Nat} {d : PyData} (h : Bg B m k d) (hB : 8 ≤ B) (hm : (B + 2) * m + B ≤ 15000000) : d.shown.length ≤ sizeLine := by
  have h1 := PyData.shown_le B hB d h.ish
  have h2 : (B + 2) * d.weight ≤ (B + 2) * m := Nat.mul_le_mul_left _ h.wt
  rw [sizeLine_eq]
  omega
def rShowB (K : PySem.W.Frag) : List V → Hp → VK → Prop := fun xs H Q => ∃ v d B m k, xs = [v] ∧ Dp K H v d ∧ Bg B m k d ∧ 8 ≤ B ∧ (B + 2) * m + B ≤ 15000000 ∧ k ≤ 50 ∧ Q (.str d.shown) H
theorem call_showB (K : PySem.W.Frag) {X : Cx} (hg : X.A.guards = some []) (hu : X.A.units + 64 < cLine) (hK : X.K = K := by rfl) : CallR X (.builtin "repr") (rShowB K) := by
  subst hK
  intro pins s σ H xs us Q I r h
  obtain ⟨v, d, B, m, k, rfl, hd, sh, hB, hm, hk, q⟩ := h
  have hdep := sh.dep
  have hz := sh.short hB hm
  cases hd with
  | non =>
    obtain ⟨u, rfl, rfl⟩ := vals1 r
    exact PySem.P.repr_of_none ⟨.str _, H, I.tok _, ⟨_, rfl⟩, by simpa only [PyData.shown] using q⟩
  | bl b =>
    obtain ⟨u, rfl, rfl⟩ := vals1 r
    refine PySem.P.repr_of_bool ⟨.str _, H, I.tok _, ⟨_, rfl⟩, ?_⟩
    simp only [PyData.shown] at q
    cases b <;> exact q
  | int i =>
    obtain ⟨u, rfl, t, rfl⟩ := vals1 r
    have hi : i.natAbs.log2 < 1920 := by simpa [PyData.showable] using sh.sho
    exact PySem.P.repr_of_int hi ⟨.str _, H, I.tok _, ⟨_, rfl⟩, by simpa only [PyData.shown] using q⟩
  | str x =>
    obtain ⟨u, rfl, t, rfl⟩ := vals1 r
    simp only [PyData.shown] at q hz
    exact PySem.P.repr_of_str ⟨.str _, H, I.tok _, ⟨_, rfl⟩, q⟩ hz
  | @lst a ys ds hs hds =>
    obtain ⟨u, rfl, rfl⟩ := vals1 r
    obtain ⟨as, rd⟩ := Dp.reads I _ _ _ (Dp.lst hs hds) (show RelV (.ref a) (.ref a) from rfl)
    exact PySem.repr_of_reads' rd sh.sho (PyData.noDict_hsm (PyData.hasDict_of_canLay _ sh.lay)) hg (by omega) (fun _ _ e => e) (fun h' u tk keep => ⟨.str _, H, I.kept keep, ⟨_, rfl⟩, q⟩) hz
  | @tup a ys ds hs hds =>
    obtain ⟨u, rfl, rfl⟩ := vals1 r
    obtain ⟨as, rd⟩ := Dp.reads I _ _ _ (Dp.tup hs hds) (show RelV (.ref a) (.ref a) from rfl)
    exact PySem.repr_of_reads' rd sh.sho (PyData.noDict_hsm (PyData.hasDict_of_canLay _ sh.lay)) hg (by omega) (fun _ _ e => e) (fun h' u tk keep => ⟨.str _, H, I.kept keep, ⟨_, rfl⟩, q⟩) hz
end Pf


namespace Pf
open PySem PySem.Spec PyProof.Rows L2
def topS (i : Nat) : Stmt := PySem.Challenge.pw_pairfolds_k84_programs_known.main.body.getD i (.Pass ⟨0, 0, 0, 0⟩)
/-! ### the pen: a list of cells, a place, a rest -/
def Pen (H : Hp) (p c : Addr) (n : Nat) : Prop := ∃ (cells : List Int) (a r : Int), H p = some (.lst [.ref c, .int a, .int r]) ∧ H c = some (.lst (cells.map V.int)) ∧ 0 ≤ a ∧ a ≤ n ∧ 0 ≤ r ∧ cells.length ≤ 63
section
variable {H H' : Hp} {p c q : Addr} {n m : Nat} {o : HO}
theorem Pen.mono (h : Pen H p c n) (l : n ≤ m) : Pen H p c m := by
  obtain ⟨cells, a, r, h1, h2, h3, h4, h5, h6⟩ := h
  exact ⟨cells, a, r, h1, h2, h3, by omega, h5, h6⟩
theorem Pen.put (h : Pen H p c n) (hp : q ≠ p) (hc : q ≠ c) : Pen (upd H q o) p c n := by
  obtain ⟨cells, a, r, h1, h2, h3⟩ := h
  exact ⟨cells, a, r, by rw [upd_ne hp.symm]; exact h1, by rw [upd_ne hc.symm]; exact h2, h3⟩
theorem Pen.ne (h : Pen H p c n) (hq : H q = none) : q ≠ p ∧ q ≠ c := by
  obtain ⟨cells, a, r, h1, h2, h3⟩ := h
  exact ⟨(ne_of_none h1 hq).symm, (ne_of_none h2 hq).symm⟩
theorem Pen.new (h : Pen H p c n) (hq : H q = none) : Pen (upd H q o) p c n := h.put (h.ne hq).1 (h.ne hq).2
theorem Pen.tup (h : Pen H p c n) {b : Addr} {xs : List V} (e : H b = some (.tup xs)) : b ≠ p := by
  obtain ⟨cells, a, r, h1, _⟩ := h
  exact ne_of e h1 (by intro z; cases z)
theorem Pen.frz (h : Pen H p c n) {b : Addr} {ob : Obj} {u : HO} (e : H b = some (.frz ob u)) : b ≠ p := by
  obtain ⟨cells, a, r, h1, _⟩ := h
  exact ne_of e h1 (by intro z; cases z)
theorem Pen.ext (h : Pen H p c n) (k : Ext H H') : Pen H' p c n := by
  obtain ⟨cells, a, r, h1, h2, h3⟩ := h
  exact ⟨cells, a, r, k _ _ h1, k _ _ h2, h3⟩
end
theorem TupK.of {p c : Addr} {n : Nat} {H H' : Hp} (k : Kp p H H') (hP : Pen H p c n) : TupK H H' := ⟨fun b _ e => k b _ (hP.tup e) e, fun b _ _ e => k b _ (hP.frz e) e⟩
theorem Kp.ext {p : Addr} {H H' : Hp} (k : Ext H H') : Kp p H H' := fun b o _ e => k b o e
theorem cut_ints (ns : List Int) (lo hi : Option Int) : ∃ cs : List Int, cutV (ns.map V.int) lo hi = cs.map V.int ∧ cs.length ≤ ns.length := by
  unfold cutV
  refine ⟨(ns.drop _).take _, by rw [List.map_take, List.map_drop], ?_⟩
  rw [List.length_take, List.length_drop]
  omega
theorem mod_b (z m : Int) (h : 0 < m) (h2 : m < 2 ^ 64) : -(2 ^ 64) < z % m ∧ z % m < 2 ^ 64 := by
  have h3 := Int.emod_nonneg z (show m ≠ 0 by omega)
  have h4 := Int.emod_lt_of_pos z h
  omega
theorem draw_b1 {z a : Int} (a0 : 0 ≤ a) (a1 : a ≤ 1000000) : (z % 2147483563 + 9461 * a + 257).natAbs < 2 ^ 64 := by
  have h3 := Int.emod_nonneg z (show (2147483563 : Int) ≠ 0 by decide)
  have h4 := Int.emod_lt_of_pos z (show (0 : Int) < 2147483563 by decide)
  omega
theorem draw_b3 (y z : Int) {a : Int} (a0 : 0 ≤ a) (a1 : a ≤ 1000000) : (z % 2147483647 * (a + 50021) + y % 1033).natAbs < 2 ^ 64 := by
  have h3 := Int.emod_nonneg z (show (2147483647 : Int) ≠ 0 by decide)
  have h4 := Int.emod_lt_of_pos z (show (0 : Int) < 2147483647 by decide)
  have h5 := Int.emod_nonneg y (show (1033 : Int) ≠ 0 by decide)
  have h6 := Int.emod_lt_of_pos y (show (0 : Int) < 1033 by decide)
  have h1 : z % 2147483647 * (a + 50021) ≤ 2147483647 * 1050021 := Int.mul_le_mul (by omega) (by omega) (by omega) (by decide)
  have h2 : 0 ≤ z % 2147483647 * (a + 50021) := Int.mul_nonneg h3 (by omega)
  omega
section
variable {P : Program} {w : World} {K : PySem.W.Frag} {mg : Str → Option Value} {base : Heap}
abbrev s_law_pen : Stmt := topS 16
theorem sc_law_pen : FnScope ["_law_script"] ["_law_script"] (defScope s_law_pen) :=
  ⟨rfl, rfl, rfl, by decide +kernel, rfl, by decide +kernel, by decide +kernel⟩
def spStart (K : PySem.W.Frag) : Sp := fun vs H Q _ => ∃ (a : Addr) (ns : List Int), vs = [.ref a] ∧ SqL K H a (ns.map V.int) ∧ ns.length ≤ 63 ∧ ∀ p c H', Pen H' p c 0 → Q (.ref p) H'
theorem ok_start {f : Addr} {fd : FuncData} {k : Nat} (F : Fun K "_law_pen" "_law_pen" s_law_pen f fd) : FnOk P w K mg base CX0 (k + 1) f fd ["_law_script"] (spStart K) := by
  refine F.ok sc_law_pen (fun vs H Q E h => ?_) (fun cdv A outer s H vs Q E hr h => ?_)
  · obtain ⟨a, ns, rfl, _⟩ := h
    rfl
  · obtain ⟨a, ns, rfl, hS, hns, q⟩ := h
    refine ⟨_, (pss_one (ps_ret (pe_lst (pa_cons (pe_slice (slL K) (pv 0) po_none (po_some pe_int)) (pa_cons pe_int (pa_cons pe_int pa_nil)))))), ?_⟩
    obtain ⟨cs, hcs, hcl⟩ := cut_ints ns none (some 63)
    refine ⟨_, rfl, 63, rfl, a, _, rfl, hS, fun c hc => ?_⟩
    rw [hcs]
    refine ⟨szL (show 3 ≤ 1000000 by decide), fun p hp => ?_⟩
    refine q p c _ ⟨cs, 0, 0, upd_same, ?_, by decide, by decide, by decide, by omega⟩
    exact Ext.new hp _ _ upd_same
abbrev s_law_take : Stmt := topS 17
theorem sc_law_take : FnScope ["_law_pen_here", "_law_many", "_law_digit", "_law_turn", "_law_cell", "_law_whole", "_law_stirred"] ["_law_pen_here", "_law_many"] (defScope s_law_take) :=
  ⟨rfl, rfl, rfl, by decide +kernel, rfl, by decide +kernel, by decide +kernel⟩
def spDraw : Sp := fun vs H Q _ => ∃ (p c : Addr) (m : Int) (n : Nat), vs = [.ref p, .int m] ∧ Pen H p c n ∧ n < 1000000 ∧ 0 < m ∧ m ≤ 1000000 ∧
  ∀ r H', 0 ≤ r → r < m → Kp p H H' → Pen H' p c (n + 1) → Q (.int r) H'
theorem ok_draw {f : Addr} {fd : FuncData} {k : Nat} (F : Fun K "_law_take" "_law_take" s_law_take f fd) (mlen : mg "len" = none) (mabs : mg "abs" = none) (mint : mg "int" = none) : FnOk P w K mg base CX0 (k + 1) f fd ["_law_pen_here", "_law_many"] spDraw := by
  refine F.ok sc_law_take (fun vs H Q E h => ?_) (fun cdv A outer s H vs Q E hr h => ?_)
  · obtain ⟨p, c, m, n, rfl, _⟩ := h
    rfl
  · obtain ⟨p, c, m, n, rfl, hP, hn, m0, m1, q⟩ := h
    obtain ⟨cells, a, r, hp, hc, a0, a1, r0, cl⟩ := hP
    refine ⟨_, (pss_cons (ps_if (pt_cmpR op_gt (pe_ix (ixL K) (pv 0) pe_int (fun _ _ => rfl)) pe_int (nomark _)) (pss_cons (ps_set (i := 2) sc_law_take.nd rfl (.inl rfl) (pe_op op_mod (pe_ix (ixL K) (pv 0) pe_int (fun _ _ => rfl)) (pv 1)))
      (pss_cons (ps_asg (pe_op op_fdiv (pe_ix (ixL K) (pv 0) pe_int (fun _ _ => rfl)) (pv 1)) (pg_sub (pv 0) pe_int set_list))
      (pss_one (ps_ret (pv 2))))) pss_nil)
      (pss_cons (ps_set (i := 3) sc_law_take.nd rfl (.inl rfl) (pe_ix (ixL K) (pv 0) pe_int (fun _ _ => rfl)))
      (pss_cons (ps_asg (pe_op op_add (pv 3) pe_int) (pg_sub (pv 0) pe_int set_list))
      (pss_cons (ps_set (i := 4) sc_law_take.nd rfl (.inl rfl) pe_int)
      (pss_cons (ps_if (pt_cmpR op_gt (pe_callB (lenQ K) (by rfl) mlen (by decide +kernel) (pa_cons (pe_ix (ixL K) (pv 0) pe_int (fun _ _ => rfl)) pa_nil)) pe_int (nomark _)) (pss_one (ps_set (i := 4) sc_law_take.nd rfl (.inl rfl) (pe_ix (ixL K) (pe_ix (ixL K) (pv 0) pe_int (fun _ _ => rfl)) (pe_op op_mod (pv 3) (pe_callB (lenQ K) (by rfl) mlen (by decide +kernel) (pa_cons (pe_ix (ixL K) (pv 0) pe_int (fun _ _ => rfl)) pa_nil))) (fun _ _ => rfl)))) pss_nil)
      (pss_cons (ps_if (PW.pt (pw_and (pt_cmpR op_lt (pv 3) (pe_callB (lenQ K) (by rfl) mlen (by decide +kernel) (pa_cons (pe_ix (ixL K) (pv 0) pe_int (fun _ _ => rfl)) pa_nil)) (nomark _)) (pw_and1 (pt_cmpR op_ge (pe_callB call_abs (by rfl) mabs (by decide +kernel) (pa_cons (pv 4) pa_nil)) (pe_op op_pow pe_int pe_int) (nomark _))))) (pss_cons (ps_set (i := 5) sc_law_take.nd rfl (.inl rfl) (pe_op op_add (pe_op op_mul pe_int (pe_callB call_abs (by rfl) mabs (by decide +kernel) (pa_cons (pv 4) pa_nil))) (pe_callTy call_int1 (by rfl) mint (by decide +kernel) (pa_cons (pe_cmpR op_lt (pv 4) pe_int (nomark _)) pa_nil))))
      (pss_cons (ps_asg (pe_op op_fdiv (pv 5) (pv 1)) (pg_sub (pv 0) pe_int set_list))
      (pss_one (ps_ret (pe_op op_mod (pv 5) (pv 1)))))) pss_nil)
      (pss_cons (ps_set (i := 6) sc_law_take.nd rfl (.inl rfl) (pe_op op_mod (pe_op op_pow (pe_op op_add (pe_op op_add (pe_op op_mod (pv 4) pe_int) (pe_op op_mul pe_int (pv 3))) pe_int) pe_int) pe_int))
      (pss_cons (ps_set (i := 6) sc_law_take.nd rfl (.inl rfl) (pe_op op_mod (pe_op op_pow (pe_op op_add (pe_op op_mul (pv 6) (pe_op op_add (pv 3) pe_int)) (pe_op op_mod (pv 4) pe_int)) pe_int) pe_int))
      (pss_one (ps_ret (pe_op op_mod (pe_op op_fdiv (pv 6) pe_int) (pv 1)))))))))))), ?_⟩
    have ncp : c ≠ p := ne_of hc hp (by
      intro z
      injection z with z
      cases cells with
      | nil => cases z
      | cons x y => injection z with z1 _; cases z1)
    refine ⟨.ref p, rfl, p, _, 2, .int r, rfl, rfl, SqL.of hp, rfl, _, _, rfl, rfl, _, rfl, ite2 (fun e => ?_) (fun e => ?_)⟩
    · refine ⟨.ref p, rfl, p, _, 2, .int r, rfl, rfl, SqL.of hp, rfl, .int m, rfl, r, m, rfl, rfl, m0, ?_⟩
      refine ⟨.ref p, rfl, p, _, 2, .int r, rfl, rfl, SqL.of hp, rfl, .int m, rfl, r, m, rfl, rfl, ⟨m0, by omega⟩, .ref p, rfl, p, _, 2, 2, rfl, rfl, hp, rfl, ?_⟩
      refine ⟨_, rfl, q _ _ (Int.emod_nonneg _ (by omega)) (Int.emod_lt_of_pos _ m0) Kp.at ⟨cells, a, r / m, upd_same, ?_, a0, by omega, Int.ediv_nonneg r0 (by omega), cl⟩⟩
      rw [upd_ne ncp]
      exact hc
    · refine ⟨.ref p, rfl, p, _, 1, .int a, rfl, rfl, SqL.of hp, rfl, ?_⟩
      refine ⟨.int a, rfl, a, 1, rfl, rfl, .ref p, rfl, p, _, 1, 1, rfl, rfl, hp, rfl, ?_⟩
      have hp2 : (upd H p (.lst [.ref c, .int (a + 1), .int r])) p = some (.lst [.ref c, .int (a + 1), .int r]) := upd_same
      have hc2 : (upd H p (.lst [.ref c, .int (a + 1), .int r])) c = some (.lst (cells.map V.int)) := by
        rw [upd_ne ncp]
        exact hc
      have k2 : Kp p H (upd H p (.lst [.ref c, .int (a + 1), .int r])) := Kp.at
      have hl1 : ((cells.map V.int).length : Int) = cells.length := by rw [List.length_map]
      refine ⟨.ref p, rfl, p, _, 0, .ref c, rfl, rfl, SqL.of hp2, rfl, c, _, rfl, .inl (SqL.of hc2), _, _, rfl, rfl, _, rfl, ite2 (fun e1 => ?_) (fun e1 => ?_)⟩
      · have hl2 : (0 : Int) < ((cells.map V.int).length : Int) := by simpa using e1
        obtain ⟨z, _, hat⟩ := atI_ints (ns := cells) (Int.emod_nonneg a (show ((cells.map V.int).length : Int) ≠ 0 by omega)) (by
          have := Int.emod_lt_of_pos a (show (0 : Int) < ((cells.map V.int).length : Int) by omega)
          omega)
        refine ⟨.ref p, rfl, p, _, 0, .ref c, rfl, rfl, SqL.of hp2, rfl, .int a, rfl, .ref p, rfl, p, _, 0, .ref c, rfl, rfl, SqL.of hp2, rfl, c, _, rfl, .inl (SqL.of hc2), _, _, rfl, rfl, hl2, c, _, _, _, rfl, rfl, SqL.of hc2, hat, ?_⟩
        refine ⟨.int a, rfl, .ref p, rfl, p, _, 0, .ref c, rfl, rfl, SqL.of hp2, rfl, c, _, rfl, .inl (SqL.of hc2), _, _, rfl, rfl, _, rfl, ite2 (fun e2 => ?_) (fun e2 => ?_)⟩
        refine ⟨_, rfl, _, rfl, 10, 18, rfl, rfl, ⟨by decide, by decide, by decide⟩, _, _, rfl, rfl, _, rfl, ite2 (fun e3 => ?_) (fun e3 => ?_)⟩
        · refine ⟨_, rfl, _, rfl, 2, _, rfl, rfl, .inl ⟨by decide, by decide⟩, _, rfl, _, _, rfl, rfl, .inr ⟨_, rfl, ?_⟩⟩
          obtain ⟨e, he⟩ : ∃ e : Int, e = (if decide (z < 0) = true then 1 else 0) := ⟨_, rfl⟩
          have he2 : 0 ≤ e ∧ e < 2 := by
            rw [he]
            split <;> omega
          rw [← he]
          have hw0 : 0 ≤ 2 * (if z < 0 then -z else z) + e := by
            have : 0 ≤ (if z < 0 then -z else z) := by split <;> omega
            omega
          refine ⟨_, _, rfl, rfl, ?_⟩
          refine ⟨_, rfl, .int m, rfl, _, m, rfl, rfl, ⟨m0, by omega⟩, .ref p, rfl, p, _, 2, 2, rfl, rfl, hp2, rfl, ?_⟩
          refine ⟨_, rfl, .int m, rfl, _, m, rfl, rfl, m0, q _ _ (Int.emod_nonneg _ (by omega)) (Int.emod_lt_of_pos _ m0) (k2.trans Kp.at) ⟨cells, a + 1, _, upd_same, ?_, by omega, by omega, Int.ediv_nonneg hw0 (by omega), cl⟩⟩
          rw [upd_ne ncp]
          exact hc2
        all_goals
          refine ⟨.int z, rfl, z, 2147483563, rfl, rfl, (show (0 : Int) < 2147483563 by decide), .int a, rfl, 9461, a, rfl, rfl, .inl ⟨by decide, by decide⟩, _, _, rfl, rfl, _, 257, rfl, rfl, _, 3, rfl, rfl, ⟨by decide, by decide, draw_b1 a0 (by omega)⟩, _, 2147483647, rfl, rfl, (show (0 : Int) < 2147483647 by decide), ?_⟩
          refine ⟨_, rfl, .int a, rfl, a, 50021, rfl, rfl, _, _, rfl, rfl, .inl (mod_b _ _ (by decide) (by decide)), .int z, rfl, z, 1033, rfl, rfl, (show (0 : Int) < 1033 by decide), _, _, rfl, rfl, _, 2, rfl, rfl, ⟨by decide, by decide, draw_b3 _ _ a0 (by omega)⟩, _, 2147483629, rfl, rfl, (show (0 : Int) < 2147483629 by decide), ?_⟩
          refine ⟨_, rfl, _, 128, rfl, rfl, ⟨by decide, by decide⟩, .int m, rfl, _, m, rfl, rfl, m0, q _ _ (Int.emod_nonneg _ (by omega)) (Int.emod_lt_of_pos _ m0) k2 ⟨cells, a + 1, r, hp2, hc2, by omega, by omega, r0, cl⟩⟩
      · refine ⟨.int a, rfl, .ref p, rfl, p, _, 0, .ref c, rfl, rfl, SqL.of hp2, rfl, c, _, rfl, .inl (SqL.of hc2), _, _, rfl, rfl, _, rfl, ite2 (fun e2 => ?_) (fun e2 => ?_)⟩
        · exfalso
          have h1 : ¬ (0 : Int) < ((cells.map V.int).length : Int) := by simpa using e1
          have h2 : a < ((cells.map V.int).length : Int) := by simpa using e2
          omega
        · refine ⟨.int 127, rfl, 127, 2147483563, rfl, rfl, (show (0 : Int) < 2147483563 by decide), .int a, rfl, 9461, a, rfl, rfl, .inl ⟨by decide, by decide⟩, _, _, rfl, rfl, _, 257, rfl, rfl, _, 3, rfl, rfl, ⟨by decide, by decide, draw_b1 a0 (by omega)⟩, _, 2147483647, rfl, rfl, (show (0 : Int) < 2147483647 by decide), ?_⟩
          refine ⟨_, rfl, .int a, rfl, a, 50021, rfl, rfl, _, _, rfl, rfl, .inl (mod_b _ _ (by decide) (by decide)), .int 127, rfl, 127, 1033, rfl, rfl, (show (0 : Int) < 1033 by decide), _, _, rfl, rfl, _, 2, rfl, rfl, ⟨by decide, by decide, draw_b3 _ _ a0 (by omega)⟩, _, 2147483629, rfl, rfl, (show (0 : Int) < 2147483629 by decide), ?_⟩
          refine ⟨_, rfl, _, 128, rfl, rfl, ⟨by decide, by decide⟩, .int m, rfl, _, m, rfl, rfl, m0, q _ _ (Int.emod_nonneg _ (by omega)) (Int.emod_lt_of_pos _ m0) k2 ⟨cells, a + 1, r, hp2, hc2, by omega, by omega, r0, cl⟩⟩
abbrev CDraw (P : Program) (w : World) (K : PySem.W.Frag) (mg : Str → Option Value) (base : Heap) : Prop := Ca P w K mg base 1 "_law_take" ["_law_pen_here", "_law_many"] spDraw
end
end Pf


namespace Pf
open PySem PySem.Spec PyProof.Rows L2
/-! ### an exception that was caught, kept in a variable -/
/-- the object at a: an exception of the class cls with the dict d -/
def ExI (cls : Value) (d : Option Addr) (a : Addr) : HO := .ext fun hp => ∃ (ob : Obj) (fl : Array Value), hp.get? a = some ob ∧ Zc cls d ob ∧ ob.data = .fields fl
theorem exI_ok {P : Program} {w : World} {H : Hp} {hp : Heap} {a : Addr} {cls : Value} {d : Option Addr} {ob : Obj} {fl : Array Value} (e : hp.get? a = some ob) (z : Zc cls d ob) (dt : ob.data = .fields fl) : ObjOk P w H hp a (ExI cls d a) :=
  ⟨⟨ob, fl, e, z, dt⟩, ⟨ob, e⟩, fun _ _ ⟨o, v, q, r⟩ k => ⟨o, v, k o q, r⟩⟩
/-- an object that stands in the heap, and was not there at the entry, is told from now on -/
theorem told_now {X : Cx} {pins : List (Addr × Obj)} {σ : L2.St} {H : Hp} {s : Shared} {a : Addr} {o : HO} (I : Inv X pins σ H s) (ha : H a = none) (h0 : X.s_0.heap.get? a = none) (nL : a ≠ X.env.locals) (nC : ∀ x c, X.env.cells.lookup x = some c → c ≠ a) (np : ∀ p ∈ X.pn ++ pins, p.1 ≠ a)
    (new : ObjOk X.prog X.w (upd H a o) s.heap a o) : Inv X pins σ (upd H a o) s := by
  have ne : ∀ {b : Addr} {u : HO}, H b = some u → b ≠ a := fun e z => by
    rw [z, ha] at e
    cases e
  refine ⟨I.ok, I.os, I.bare, ⟨I.base.keep, I.base.slot, fun b u e hn hx => ?_, I.base.there, fun b xs e => ?_, fun b u xs e => ?_, fun b ps e => ?_⟩, I.loc, I.cell, ?_, fun x c e => ?_, fun p hp => ?_, fun b u e => ?_, I.len⟩
  · rw [upd_ne (fun z => by rw [z, h0] at e; cases e)]
    exact I.base.free b u e hn hx
  · have q := I.base.tups b xs e
    rw [upd_ne (ne q)]
    exact q
  · have q := I.base.frzs b u xs e
    rw [upd_ne (ne q)]
    exact q
  · obtain ⟨m, q⟩ := I.base.tbls b ps e
    exact ⟨m, by rw [upd_ne (ne q)]; exact q⟩
  · rw [upd_ne nL.symm]
    exact I.free
  · rw [upd_ne (nC x c e)]
    exact I.freeC x c e
  · obtain ⟨p1, p2, p3⟩ := I.pin p hp
    exact ⟨p1, by rw [upd_ne (np p hp)]; exact p2, p3⟩
  · by_cases hb : b = a
    · subst hb
      rw [upd_same] at e
      cases e
      exact new
    · rw [upd_ne hb] at e
      exact (I.hok b u e).stay (fun c v _ q => q) (fun c q => by rw [upd_ne (ne_of_none q ha)]; exact q) fun c xs q => by rw [upd_ne (ne_of_none q ha)]; exact q
def wKeep (K : PySem.W.Frag) (ks : List Value) (i : Nat) (ts : Addr → Value → Option Addr → TS) (D : Ends) : WX := fun cls d σ H => PySem.W.exmAny K cls ks = some true ∧ ∀ a, H a = none → ts a cls d { nx := fun σ' H' => D.nx (σ'.set i none) (upd H' a (ExI cls d a)), rt := fun _ _ => False } (σ.set i (some (.ref a))) H
theorem ps_try_keep {X : Cx} {x1 x2 x3 n : Str} {c1 c2 c3 : Value} {i kk : Nat} {body rest : List Stmt} {st1 : Stmt} {q1 q2 q3 qt pos pos' : Pos} {tb : WX → TS} {ts : Addr → Value → Option Addr → TS}
    (hs : X.stack = X.env :: X.outer) (hf : X.env.frame = some X.env.locals) (hex : X.ex = []) (hN : X.N.Nodup) (hi : X.N[i]? = some n) (hln : X.env.kindOf n = some .local) (n1 : Names X x1 c1) (n2 : Names X x2 c2) (n3 : Names X x3 c3)
    (hb : ∀ (W : WX) (pn : List (Addr × Obj)) (xe : Value → Shared → Prop), Takes (X.tr pn xe) W →
      PassesOwn (model X.prog X.w) X.A X.env xe → PSs (X.tr pn xe) body (tb W))
    (hsu : ∀ (a : Addr) (ob : Obj) (cls : Value) (d : Option Addr) (pn : List (Addr × Obj)), Zc cls d ob →
      (∃ fl, ob.data = .fields fl) → PSs (X.suite a ((a, ob) :: pn)) (st1 :: rest) (ts a cls d)) :
    PS X (.Try body [.ExceptHandler (some (.Tuple [.Name x1 q1, .Name x2 q2, .Name x3 q3] kk qt)) (some n) (st1 :: rest) pos'] [] [] pos) (fun D σ H => tb (wKeep X.K [c1, c2, c3] i ts D) D σ H) := by
  refine ⟨fun pins s σ H D I h => ?_⟩
  have okX := I.ok
  have frs0 : X.A.frames = some (X.env :: X.outer) := okX.frames.trans (by rw [hs])
  have lc : Loc X.env.scope n := .inl hln
  refine wpAny_Try_except ?_
  refine wpAny_mono ((hb (wKeep X.K [c1, c2, c3] i ts D) (X.pn ++ pins)
    (fun u t0 => wpAny (model X.prog X.w) X.A (noteFrame u X.env)
      (fun _ t1 => wpAny (model X.prog X.w) X.A (setFlight u none)
        (fun _ t2 => wpAny (model X.prog X.w) X.A
          (handleBy u X.env [.ExceptHandler (some (.Tuple [.Name x1 q1, .Name x2 q2, .Name x3 q3] kk qt)) (some n) (st1 :: rest) pos'])
          (L2.SP X pins D) X.xe t2) X.xe t1) X.xe t0)
    (fun u t0 xx => ?_) PassesOwn.looking).run [] s σ H D (I.toTry _) h) (fun f t1 hsp => ?_) (fun e t1 he => he)
  · -- the catch
    obtain ⟨a, B, sI, pins2, σ2, H2, cls, d, rfl, J0, nb, up, sky, na, os, ag, hm, hgo⟩ := xx
    have J : Inv X pins σ2 H2 sI := J0.ofTry okX
    rw [hs] at sky
    show wpAny (model X.prog X.w) X.A (noteFrame (.ref a) X.env) _ _ _
    refine Sky.land Zc.steady frs0 hf sky fun hA flA upA => ?_
    have JA : Inv X pins σ2 H2 { t0 with heap := hA } := J.landed nb flA.1 (up.trans upA) os ag
    obtain ⟨obA, fvA, heA, hzA, hdA⟩ := flA.there
    have notF : ∀ {g : Heap} {o : Obj} {fv : Array Value}, g.FunFrames B (X.env :: X.outer) → g.get? a = some o →
        o.data = .fields fv → a ∉ frs (X.env :: X.outer) := fun ff e dd hmem => by
      obtain ⟨_, o2, e2, hnf⟩ := ff.mem hmem
      rw [e] at e2
      cases e2
      exact hnf _ dd
    have nfr := notF flA.2.2.1 heA hdA
    have nL : a ≠ X.env.locals := fun z =>
      nfr (List.mem_filterMap.mpr ⟨X.env, List.mem_cons_self, by rw [hf, z]⟩)
    have nF : a ∉ X.fs := fun hmem => by
      obtain ⟨e, he, q⟩ := List.mem_filterMap.mp hmem
      exact nfr (List.mem_filterMap.mpr ⟨e, List.mem_cons_of_mem _ he, q⟩)
    have nI : sI.heap.get? a = none := by
      cases e : sI.heap.get? a with
      | none => rfl
      | some o =>
        have z := nb a o e (by rw [hs]; exact nfr)
        rw [flA.2.1] at z
        cases z
    have n0 : X.s_0.heap.get? a = none := by
      cases e : X.s_0.heap.get? a with
      | none => rfl
      | some o =>
        obtain ⟨o2, z⟩ := J.base.there a o e (by rw [hex]; exact fun q => nomatch q)
        rw [nI] at z
        cases z
    have npin : ∀ p ∈ X.pn ++ pins, p.1 ≠ a := fun p hp z => by
      have := (J.pin p hp).1
      rw [z, nI] at this
      cases this
    have SA := JA.suite heA hdA na nL nF
    refine wpAny_handleBy_cons (codeAny_handlers_test ?_) (by intro q; cases q)
    have nameIs : ∀ {y : Str} {c : Value} {yp : Pos} {Q : Value → Shared → Prop} {E : Value → Shared → Prop}, Names X y c → Q c { t0 with heap := hA } →
        wpAny (model X.prog X.w) (X.A.mark (some (.ref a))) (eval (.Name y yp) X.env) Q E { t0 with heap := hA } := fun hc q => by
      obtain ⟨hg, hdbg, hm2 | ⟨hm2, hv, hnn⟩⟩ := hc
      · exact ld_glob (X := X.suite a ((a, obA) :: (X.pn ++ pins))) SA hg hm2 q hdbg
      · exact ld_blt (X := X.suite a ((a, obA) :: (X.pn ++ pins))) SA hg hm2 hv q hnn hdbg
    have hpush : ∀ b o, hA.get? b = some o → (hA.push { cls := .type "tuple", data := .seq #[c1, c2, c3] }).get? b = some o := fun b o e => Heap.get?_push_of_some _ e
    have szN : (hA.push { cls := .type "tuple", data := .seq #[c1, c2, c3] }).get? hA.objs.size = some { cls := .type "tuple", data := .seq #[c1, c2, c3] } := Heap.get?_push_size _ rfl
    refine wpAny_Tuple_spliced ?_
    refine Calls.spliced_cons (nameIs n1 (Calls.spliced_cons (nameIs n2 (Calls.spliced_cons (nameIs n3 (Calls.spliced_nil ⟨?_, ?_⟩))))))
    · show 3 ≤ sizeLine
      rw [sizeLine_eq]
      decide
    have flP : HandSPX.FlyingZ B (X.env :: X.outer) a (Zc cls d) (hA.push { cls := .type "tuple", data := .seq #[c1, c2, c3] }) := by
      obtain ⟨f1, f2, f3, ob, fv, T, oT, tv, g1, g2, g3, g4, g5, g6, g7, g8, g9⟩ := id flA
      exact ⟨fun b o e => hpush b o (f1 b o e), f2, f3.of_keeps fun b o e _ => ⟨o, hpush b o e, rfl⟩, ob, fv, T, oT, tv, hpush _ _ g1, g2, g3, g4, g5, g6, hpush _ _ g7, g8, g9⟩
    have upP : hA.UpToSlots (hA.push { cls := .type "tuple", data := .seq #[c1, c2, c3] }) := .of_keeps hpush
    have LT : PySem.W.Looks (model X.prog X.w) (hA.push { cls := .type "tuple", data := .seq #[c1, c2, c3] }) (typeOf (.ref a)) cls := fun A Q E u k q =>
      wpAny_typeOf_ref (k _ _ (hpush _ _ heA)) (by rw [hzA.1]; exact q)
    have KP : X.K.In (hA.push { cls := .type "tuple", data := .seq #[c1, c2, c3] }) := JA.kIn.keeps hpush
    refine (PySem.W.exm_tup3 (M := model X.prog X.w) KP LT szN hm).here ?_
    refine codeAny_handlers_suite_as ?_
    refine HandSPX.lands_againZ flP fun hB flB upB => ?_
    have JB : Inv X pins σ2 H2 { t0 with heap := hB } := J.landed nb flB.1 (((up.trans upA).trans upP).trans upB) os ag
    obtain ⟨obB, fvB, heB, hzB, hdB⟩ := flB.there
    have SB := JB.suite heB hdB na nL nF
    refine store_ok (X := X.suite a ((a, obB) :: (X.pn ++ pins))) (v := .ref a) SB hN hi lc rfl (fun t5 S5 => ?_) (.inr hln)
    refine wpAny_mono ((hsu a obB cls d (X.pn ++ pins) hzB ⟨_, hdB⟩).run [] t5 _ H2 _ S5 (hgo a na)) (fun f t6 hsp => ?_) (fun _ _ z => False.elim z)
    cases f with
    | next =>
      obtain ⟨σ6, H6, S6, q6⟩ := hsp
      have P6 : Inv X ((a, obB) :: pins) σ6 H6 t6 := (S6.unsuite okX).pins_of fun p hp => by
        rcases List.mem_cons.mp hp with e | hp
        · rw [e]
          exact S6.pin (a, obB) (List.mem_append_left _ List.mem_cons_self)
        · exact S6.pin p (List.mem_append_left _ (List.mem_cons_of_mem _ (List.mem_append_right _ hp)))
      refine gone_ok P6 hN hi hln fun t7 J7 => ?_
      have pa := J7.pin (a, obB) (List.mem_append_right _ List.mem_cons_self)
      have J8 : Inv X pins (σ6.set i none) H6 t7 := J7.pins_of fun p hp => J7.pin p (List.mem_append_right _ (List.mem_cons_of_mem _ hp))
      refine ⟨_, _, told_now (o := ExI cls d a) J8 pa.2.1 n0 nL (fun x c e z => ?_) npin (exI_ok pa.1 hzB hdB), q6⟩
      obtain ⟨v, o, ho, hcd⟩ := J8.cell x c e
      rw [z, pa.1] at ho
      cases ho
      exact pa.2.2.2.2 v hcd
    | ret u =>
      obtain ⟨v6, σ6, H6, S6, r6, q6⟩ := hsp
      exact q6.elim
    | brk =>
      obtain ⟨σ6, H6, S6, q6⟩ := hsp
      exact False.elim q6
    | cont =>
      obtain ⟨σ6, H6, S6, q6⟩ := hsp
      exact False.elim q6
  · cases f with
    | next =>
      obtain ⟨σ2, H2, J2, q⟩ := hsp
      exact wpAny_execs_nil ⟨σ2, H2, J2.ofTry okX, q⟩
    | ret u =>
      obtain ⟨v, σ2, H2, J2, r, q⟩ := hsp
      exact ⟨v, σ2, H2, J2.ofTry okX, r, q⟩
    | brk =>
      obtain ⟨σ2, H2, J2, q⟩ := hsp
      exact ⟨σ2, H2, J2.ofTry okX, q⟩
    | cont =>
      obtain ⟨σ2, H2, J2, q⟩ := hsp
      exact ⟨σ2, H2, J2.ofTry okX, q⟩
/-- isinstance of an exception that was kept: by one class -/
def rIsX (K : PySem.W.Frag) : List V → Hp → VK → Prop := fun xs H Q => ∃ (a C : Addr) (c : V) (cv : Value) (b : Bool), xs = [.ref a, c] ∧ H a = some (ExI (.ref C) none a) ∧ ExcC K C ∧ (∀ u, RelV c u → u = cv) ∧ PySem.W.kitOne K (.ref C) cv = some b ∧ Q (.bl b) H
theorem exI_at {X : Cx} {pins : List (Addr × Obj)} {σ : L2.St} {H : Hp} {s : Shared} {a C : Addr} (I : Inv X pins σ H s) (h : H a = some (ExI (.ref C) none a)) : ∃ ob, PySem.W.InstAt s.heap a ob C none := by
  obtain ⟨⟨ob, fl, e, z, dt⟩, _⟩ := I.hok a _ h
  obtain ⟨oc, od, oda, osl⟩ := ob
  obtain ⟨z1, z2⟩ := z
  dsimp only at z1 z2 dt
  subst z1 z2 dt
  exact ⟨_, e, rfl, rfl, trivial⟩
theorem call_isX (K : PySem.W.Frag) {X : Cx} (hK : X.K = K := by rfl) : CallR X (.builtin "isinstance") (rIsX K) := by
  subst hK
  intro pins s σ H xs us Q I r h
  obtain ⟨a, C, c, cv, b, rfl, hA, hC, hcv, e, q⟩ := h
  obtain ⟨ob, J⟩ := exI_at I hA
  cases r with
  | cons rx rr =>
    cases rr with
    | cons rt rr =>
      cases rr
      cases rx
      have ec := hcv _ rt
      subst ec
      exact PySem.W.kia_one (PySem.W.handS_kitx_exc hC.hg hC.hk hC.hs hC.hd hC.ha hC.hn hC.ht hC.hm) I.kIn J e
        (fun z => nomatch z) fun tk => ⟨.bl b, H, I.kept (t' := tk) fun _ _ z => z, rfl, q⟩
theorem vals_refs : ∀ {Cs : List Addr} {us : List Value}, Vals (Cs.map V.ref) us → us = Cs.map Value.ref
  | [], _, r => by cases r; rfl
  | C :: Cs, _, r => by
    cases r with
    | cons r1 r2 =>
      rw [List.map_cons, ← vals_refs r2]
      have r1 : _ = Value.ref C := r1
      rw [r1]
/-- isinstance of an exception that was kept: by a tuple of classes -/
def rIsXT (K : PySem.W.Frag) : List V → Hp → VK → Prop := fun xs H Q => ∃ (a C t : Addr) (Cs : List Addr) (b : Bool), xs = [.ref a, .ref t] ∧ H a = some (ExI (.ref C) none a) ∧ ExcC K C ∧ H t = some (.tup (Cs.map V.ref)) ∧ PySem.W.kitAny K (.ref C) (Cs.map Value.ref) = some b ∧ Q (.bl b) H
theorem call_isXT (K : PySem.W.Frag) {X : Cx} (hK : X.K = K := by rfl) : CallR X (.builtin "isinstance") (rIsXT K) := by
  subst hK
  intro pins s σ H xs us Q I r h
  obtain ⟨a, C, t, Cs, b, rfl, hA, hC, hT, e, q⟩ := h
  obtain ⟨ob, J⟩ := exI_at I hA
  cases r with
  | cons rx rr =>
    cases rr with
    | cons rt rr =>
      cases rr
      cases rx
      cases rt
      obtain ⟨_, ws, rv, ot, ho, hcl, nn, hdt⟩ := I.hok t _ hT
      obtain ⟨oc, od, oda, osl⟩ := ot
      dsimp only at hcl hdt
      subst hcl hdt
      have ew := vals_refs rv
      subst ew
      exact PySem.W.kia_tup (PySem.W.handS_kitx_exc hC.hg hC.hk hC.hs hC.hd hC.ha hC.hn hC.ht hC.hm) I.kIn J ho e
        (fun z => nomatch z) fun tk => ⟨.bl b, H, I.kept (t' := tk) fun _ _ z => z, rfl, q⟩
/-- a def that may raise, by its promise; called within a try -/
structure CaX (P : Program) (w : World) (K : PySem.W.Frag) (mg : Str → Option Value) (base : Heap) (k : Nat) (x : Str) (ps : List Str) (sp : Sp) : Prop where
  ex : ∃ f fd, FnOk P w K mg base (L2.CX P w) k f fd ps sp ∧ mg x = some (.ref f) ∧ PySem.W.keepIn K (.ref f) = true ∧ Binds K fd ps []
theorem pe_caX {X : Cx} {W : WX} {k : Nat} {x : Str} {ps : List Str} {sp : Sp} {p pos : Pos} {e : Expr} {es : List Expr} {t : TA} (c : CaX X.prog X.w X.K X.mg X.base k x ps sp) (hr : Room k X.A) (hg : Gl X x) (tk : Takes X W)
    (ha : PA X (e :: es) t) (hdb : (x == ("__debug__" : Str)) = false := by decide)
    (he : starEach (e :: es) X.env = (false, eval e X.env) :: starEach es X.env := by rfl)
    (hpl : (backTo pos (starEach es X.env)).any (·.1) = false := by rfl) : PE X (.Call (.Name x p) (e :: es) [] pos) (tCallS sp (WE W) t) := by
  obtain ⟨f, fd, F, hm, hk, hb⟩ := c.ex
  exact pe_callS F hr hg hm hk hb (fun σ => passAt tk σ) ha hdb he hpl
end Pf
namespace Pf
open PySem PySem.Spec PyProof.Rows L2
/-! ### which class is under which, out of what the top holds -/
theorem under_cls {K : PySem.W.Frag} {t : Value} {C : Addr} {b : Bool} (h1 : PySem.W.typeIn K (.ref C) = some (.type "type")) (h2 : PySem.W.isClsIn K C = true) (h3 : PySem.W.subIn K t (.ref C) = some b) : PySem.W.kitCls K t (.ref C) = some b := by
  have h4 : (PySem.W.clsIn K C).isSome = true := h2
  unfold PySem.W.kitCls
  simp only [h1, h3, h4]
  simp
theorem under_one {K : PySem.W.Frag} {t : Value} {C : Addr} {b : Bool} (h : PySem.W.kitCls K t (.ref C) = some b) (hn : (t == Value.ref C) = false) : PySem.W.kitOne K t (.ref C) = some b := by
  unfold PySem.W.kitOne
  rw [hn]
  exact h
theorem under_self {K : PySem.W.Frag} {C : Addr} : PySem.W.kitOne K (.ref C) (.ref C) = some true := by
  unfold PySem.W.kitOne
  rw [if_pos (by simp)]
theorem meets_one {K : PySem.W.Frag} {t : Value} {C : Addr} {b : Bool} (h0 : PySem.W.subIn K (.ref C) (.type "BaseException") = some true) (h : PySem.W.kitCls K t (.ref C) = some b) : PySem.W.exmOne K t (.ref C) = some b := by
  unfold PySem.W.exmOne
  rw [h0]
  exact h
theorem any_no {K : PySem.W.Frag} {t : Value} {c : Value} {r : List Value} {b : Bool} (h1 : PySem.W.kitOne K t c = some false) (h2 : PySem.W.kitAny K t r = some b) : PySem.W.kitAny K t (c :: r) = some b := by
  show (match PySem.W.kitOne K t c with | some true => some true | some false => PySem.W.kitAny K t r | none => none) = _
  rw [h1]
  exact h2
theorem any_yes {K : PySem.W.Frag} {t : Value} {c : Value} {r : List Value} (h1 : PySem.W.kitOne K t c = some true) : PySem.W.kitAny K t (c :: r) = some true := by
  show (match PySem.W.kitOne K t c with | some true => some true | some false => PySem.W.kitAny K t r | none => none) = _
  rw [h1]
theorem meets_more {K : PySem.W.Frag} {t : Value} {c : Value} {r : List Value} {b d : Bool} (h1 : PySem.W.exmOne K t c = some b) (h2 : PySem.W.exmAny K t r = some d) : PySem.W.exmAny K t (c :: r) = some (b || d) := by
  show (match PySem.W.exmOne K t c, PySem.W.exmAny K t r with | some b, some d => some (b || d) | _, _ => none) = _
  rw [h1, h2]
end Pf


namespace Pf
open PySem PySem.Spec PyProof.Rows L2 LamX
/-! ### try: .. except C as e: kept = e, by one class -/
def wKeep1 (K : PySem.W.Frag) (c : Value) (i : Nat) (ts : Addr → Value → Option Addr → TS) (D : Ends) : WX := fun cls d σ H => PySem.W.exmOne K cls c = some true ∧ ∀ a, H a = none → ts a cls d { nx := fun σ' H' => D.nx (σ'.set i none) (upd H' a (ExI cls d a)), rt := fun _ _ => False } (σ.set i (some (.ref a))) H
theorem ps_try_keep1 {X : Cx} {x1 n : Str} {c1 : Value} {i : Nat} {body rest : List Stmt} {st1 : Stmt} {q1 pos pos' : Pos} {tb : WX → TS} {ts : Addr → Value → Option Addr → TS}
    (hs : X.stack = X.env :: X.outer) (hf : X.env.frame = some X.env.locals) (hex : X.ex = []) (hN : X.N.Nodup) (hi : X.N[i]? = some n) (hln : X.env.kindOf n = some .local) (n1 : Names X x1 c1)
    (hb : ∀ (W : WX) (pn : List (Addr × Obj)) (xe : Value → Shared → Prop), Takes (X.tr pn xe) W →
      PassesOwn (model X.prog X.w) X.A X.env xe → PSs (X.tr pn xe) body (tb W))
    (hsu : ∀ (a : Addr) (ob : Obj) (cls : Value) (d : Option Addr) (pn : List (Addr × Obj)), Zc cls d ob →
      (∃ fl, ob.data = .fields fl) → PSs (X.suite a ((a, ob) :: pn)) (st1 :: rest) (ts a cls d)) :
    PS X (.Try body [.ExceptHandler (some (.Name x1 q1)) (some n) (st1 :: rest) pos'] [] [] pos) (fun D σ H => tb (wKeep1 X.K c1 i ts D) D σ H) := by
  refine ⟨fun pins s σ H D I h => ?_⟩
  have okX := I.ok
  have frs0 : X.A.frames = some (X.env :: X.outer) := okX.frames.trans (by rw [hs])
  have lc : Loc X.env.scope n := .inl hln
  refine wpAny_Try_except ?_
  refine wpAny_mono ((hb (wKeep1 X.K c1 i ts D) (X.pn ++ pins)
    (fun u t0 => wpAny (model X.prog X.w) X.A (noteFrame u X.env)
      (fun _ t1 => wpAny (model X.prog X.w) X.A (setFlight u none)
        (fun _ t2 => wpAny (model X.prog X.w) X.A
          (handleBy u X.env [.ExceptHandler (some (.Name x1 q1)) (some n) (st1 :: rest) pos'])
          (L2.SP X pins D) X.xe t2) X.xe t1) X.xe t0)
    (fun u t0 xx => ?_) PassesOwn.looking).run [] s σ H D (I.toTry _) h) (fun f t1 hsp => ?_) (fun e t1 he => he)
  · -- the catch
    obtain ⟨a, B, sI, pins2, σ2, H2, cls, d, rfl, J0, nb, up, sky, na, os, ag, hm, hgo⟩ := xx
    have J : Inv X pins σ2 H2 sI := J0.ofTry okX
    rw [hs] at sky
    show wpAny (model X.prog X.w) X.A (noteFrame (.ref a) X.env) _ _ _
    refine Sky.land Zc.steady frs0 hf sky fun hA flA upA => ?_
    have JA : Inv X pins σ2 H2 { t0 with heap := hA } := J.landed nb flA.1 (up.trans upA) os ag
    obtain ⟨obA, fvA, heA, hzA, hdA⟩ := flA.there
    have notF : ∀ {g : Heap} {o : Obj} {fv : Array Value}, g.FunFrames B (X.env :: X.outer) → g.get? a = some o →
        o.data = .fields fv → a ∉ frs (X.env :: X.outer) := fun ff e dd hmem => by
      obtain ⟨_, o2, e2, hnf⟩ := ff.mem hmem
      rw [e] at e2
      cases e2
      exact hnf _ dd
    have nfr := notF flA.2.2.1 heA hdA
    have nL : a ≠ X.env.locals := fun z =>
      nfr (List.mem_filterMap.mpr ⟨X.env, List.mem_cons_self, by rw [hf, z]⟩)
    have nF : a ∉ X.fs := fun hmem => by
      obtain ⟨e, he, q⟩ := List.mem_filterMap.mp hmem
      exact nfr (List.mem_filterMap.mpr ⟨e, List.mem_cons_of_mem _ he, q⟩)
    have nI : sI.heap.get? a = none := by
      cases e : sI.heap.get? a with
      | none => rfl
      | some o =>
        have z := nb a o e (by rw [hs]; exact nfr)
        rw [flA.2.1] at z
        cases z
    have n0 : X.s_0.heap.get? a = none := by
      cases e : X.s_0.heap.get? a with
      | none => rfl
      | some o =>
        obtain ⟨o2, z⟩ := J.base.there a o e (by rw [hex]; exact fun q => nomatch q)
        rw [nI] at z
        cases z
    have npin : ∀ p ∈ X.pn ++ pins, p.1 ≠ a := fun p hp z => by
      have := (J.pin p hp).1
      rw [z, nI] at this
      cases this
    have SA := JA.suite heA hdA na nL nF
    refine wpAny_handleBy_cons (codeAny_handlers_test ?_) (by intro q; cases q)
    have nameIs : ∀ {Q : Value → Shared → Prop} {E : Value → Shared → Prop}, Q c1 { t0 with heap := hA } →
        wpAny (model X.prog X.w) (X.A.mark (some (.ref a))) (eval (.Name x1 q1) X.env) Q E { t0 with heap := hA } := fun q => by
      obtain ⟨hg, hdbg, hm2 | ⟨hm2, hv, hnn⟩⟩ := n1
      · exact ld_glob (X := X.suite a ((a, obA) :: (X.pn ++ pins))) SA hg hm2 q hdbg
      · exact ld_blt (X := X.suite a ((a, obA) :: (X.pn ++ pins))) SA hg hm2 hv q hnn hdbg
    have LT : PySem.W.Looks (model X.prog X.w) hA (typeOf (.ref a)) cls := fun A Q E u k q =>
      wpAny_typeOf_ref (k _ _ heA) (by rw [hzA.1]; exact q)
    have LM := PySem.W.exm_one (M := model X.prog X.w) (JA.kIn) LT hm
    refine nameIs (LM.here ?_)
    refine codeAny_handlers_suite_as ?_
    refine HandSPX.lands_againZ flA fun hB flB upB => ?_
    have JB : Inv X pins σ2 H2 { t0 with heap := hB } := J.landed nb flB.1 ((up.trans upA).trans upB) os ag
    obtain ⟨obB, fvB, heB, hzB, hdB⟩ := flB.there
    have SB := JB.suite heB hdB na nL nF
    refine store_ok (X := X.suite a ((a, obB) :: (X.pn ++ pins))) (v := .ref a) SB hN hi lc rfl (fun t5 S5 => ?_) (.inr hln)
    refine wpAny_mono ((hsu a obB cls d (X.pn ++ pins) hzB ⟨_, hdB⟩).run [] t5 _ H2 _ S5 (hgo a na)) (fun f t6 hsp => ?_) (fun _ _ z => False.elim z)
    cases f with
    | next =>
      obtain ⟨σ6, H6, S6, q6⟩ := hsp
      have P6 : Inv X ((a, obB) :: pins) σ6 H6 t6 := (S6.unsuite okX).pins_of fun p hp => by
        rcases List.mem_cons.mp hp with e | hp
        · rw [e]
          exact S6.pin (a, obB) (List.mem_append_left _ List.mem_cons_self)
        · exact S6.pin p (List.mem_append_left _ (List.mem_cons_of_mem _ (List.mem_append_right _ hp)))
      refine gone_ok P6 hN hi hln fun t7 J7 => ?_
      have pa := J7.pin (a, obB) (List.mem_append_right _ List.mem_cons_self)
      have J8 : Inv X pins (σ6.set i none) H6 t7 := J7.pins_of fun p hp => J7.pin p (List.mem_append_right _ (List.mem_cons_of_mem _ hp))
      refine ⟨_, _, told_now (o := ExI cls d a) J8 pa.2.1 n0 nL (fun x c e z => ?_) npin (exI_ok pa.1 hzB hdB), q6⟩
      obtain ⟨v, o, ho, hcd⟩ := J8.cell x c e
      rw [z, pa.1] at ho
      cases ho
      exact pa.2.2.2.2 v hcd
    | ret u =>
      obtain ⟨v6, σ6, H6, S6, r6, q6⟩ := hsp
      exact q6.elim
    | brk =>
      obtain ⟨σ6, H6, S6, q6⟩ := hsp
      exact False.elim q6
    | cont =>
      obtain ⟨σ6, H6, S6, q6⟩ := hsp
      exact False.elim q6
  · cases f with
    | next =>
      obtain ⟨σ2, H2, J2, q⟩ := hsp
      exact wpAny_execs_nil ⟨σ2, H2, J2.ofTry okX, q⟩
    | ret u =>
      obtain ⟨v, σ2, H2, J2, r, q⟩ := hsp
      exact ⟨v, σ2, H2, J2.ofTry okX, r, q⟩
    | brk =>
      obtain ⟨σ2, H2, J2, q⟩ := hsp
      exact ⟨σ2, H2, J2.ofTry okX, q⟩
    | cont =>
      obtain ⟨σ2, H2, J2, q⟩ := hsp
      exact ⟨σ2, H2, J2.ofTry okX, q⟩
/-! ### a promise that may raise, kept where nothing is raised -/
theorem FnOk.calm {P : Program} {w : World} {K : PySem.W.Frag} {mg : Str → Option Value} {base : Heap} {k : Nat} {f : Addr} {fd : FuncData} {ps : List Str} {sp sp' : Sp} (F : FnOk P w K mg base (L2.CX P w) k f fd ps sp)
    (h : ∀ vs H Q E, sp' vs H Q E → sp vs H Q E0) : FnOk P w K mg base CX0 k f fd ps sp' where
  len := fun vs H Q E z => F.len vs H Q E0 (h vs H Q E z)
  run := fun A outer s H args us vs Q E hr e0 hb r z => by
    refine codeAny_mono (F.run A outer s H args us vs Q E0 hr e0 hb r (h _ _ _ _ z)) fun r s' hq => ?_
    cases r with
    | error e =>
      obtain ⟨_, _, _, _, _, _, _, _, _, _, _, _, z⟩ := show L2.CX P w outer H s E0 e s' from hq
      exact False.elim z
    | ok fl => cases fl <;> exact hq
end Pf


namespace Pf
open PySem PySem.Spec PyProof.Rows L2 LamX
section
variable {P : Program} {w : World} {K : PySem.W.Frag} {mg : Str → Option Value} {base : Heap}
/-! ### what behind a refusal is never reached -/
theorem pss_void {X : Cx} {l : List Stmt} : PSs X l (fun _ _ _ => False) := ⟨fun _ _ _ _ _ _ h => h.elim⟩
/-- two promises of one def: it may be asked by either -/
theorem FnOk.orX {k : Nat} {f : Addr} {fd : FuncData} {ps : List Str} {sp1 sp2 : Sp} (F : FnOk P w K mg base CX0 k f fd ps sp1) (G : FnOk P w K mg base (L2.CX P w) k f fd ps sp2) :
    FnOk P w K mg base (L2.CX P w) k f fd ps (fun vs H Q E => sp1 vs H Q L2.E0 ∨ sp2 vs H Q E) where
  len := fun vs H Q E z => z.elim (F.len vs H Q _) (G.len vs H Q _)
  run := fun A outer s H args us vs Q E hr e0 hb r z => by
    rcases z with z | z
    · refine codeAny_mono (F.run A outer s H args us vs Q L2.E0 hr e0 hb r z) fun r s' hq => ?_
      cases r with
      | error e => exact (show False from hq).elim
      | ok fl => cases fl <;> exact hq
    · exact G.run A outer s H args us vs Q E hr e0 hb r z
/-! ### defs that make lambdas: the code object that they run is known -/
theorem Fun.okC {x qual : Str} {st : Stmt} {f : Addr} {fd : FuncData} {N ps : List Str} {k : Nat} {sp : Sp} (F : Fun K x qual st f fd) (S : FnScope N ps (defScope st)) (len : ∀ vs H Q E, sp vs H Q E → vs.length = ps.length)
    (body : ∀ (cdv : Value) (A : Around) (outer : List Env) (s : Shared) (H : Hp) (vs : List V) (Q : VK) (E : XK), fd.code = cdv → Room k (A.deeper (envOfC qual (defScope st) s.heap.objs.size f cdv)) → sp vs H Q E →
      ∃ t, PSs (cxOf CX0 P w K mg base N qual (defScope st) f cdv A outer s H E).nox (defBody st) t ∧ t { nx := fun _ H' => Q .non H', rt := Q } (start N vs) H) : FnOk P w K mg base CX0 (k + 1) f fd ps sp := by
  obtain ⟨oc, od, kV, doc, pm, an, cdv, ct, osl, rfl, look, code⟩ := F.ex
  refine fn_of look code S len fun A outer s H vs Q E hr h => ?_
  obtain ⟨t, d, z⟩ := body cdv A outer s H vs Q E rfl hr h
  exact ⟨t, d.nox, z⟩
theorem FnG.ofC {k : Nat} {f : Addr} {fd : FuncData} {x qual : Str} {st : Stmt} {N ps : List Str} {sp : Sp} (F : Fun K x qual st f fd) (S : FnScope N ps (defScope st))
    (room : Room (k + 1) callerA) (len : ∀ vs H Q E, sp vs H Q E → vs.length = ps.length)
    (body : ∀ (cdv : Value) (s : Shared) (H : Hp) (vs : List V) (Q : VK) (E : XK), fd.code = cdv → Room k (callerA.deeper (envOfC qual (defScope st) s.heap.objs.size f cdv)) → (callerA.deeper (envOfC qual (defScope st) s.heap.objs.size f cdv)).guards = some [] → sp vs H Q E →
      ∃ t, PSs (cxOf CX0 P w K mg base N qual (defScope st) f cdv callerA [] s H E).nox (defBody st) t ∧ t { nx := fun _ H' => Q .non H', rt := Q } (start N vs) H) : FnG P w K mg base f fd ps sp := by
  obtain ⟨oc, od, kV, doc, pm, an, cdv, ct, osl, rfl, lk, hcd⟩ := F.ex
  refine ⟨fun s H args us vs Q E env0 bnd rel hsp => ?_⟩
  have inS : K.In s.heap := env0.mod.kin.keeps fun b o e => (env0.bs b o e).1
  have limS : s.heap.NoLimit := env0.mod.nolimit.keeps fun b o e => (env0.bs b o e).1
  have kinds : ∀ y ∈ ps.zip us, (defScope st).names.lookup y.1 = some .local ∨ ((defScope st).names.lookup y.1 = some .cell ∧ ((cellsFrom (s.heap.objs.size + 1) (defScope st).names []).lookup y.1).isSome = true) := by
    rintro ⟨n, v⟩ hy
    cases S.par n (List.of_mem_zip hy).1 with
    | inl q => exact .inl q
    | inr q => exact .inr ⟨q, PySem.W.cellsFrom_some _ _ _ (.inl q)⟩
  refine codeAny_call_function room.depth (inS _ _ lk) rfl S.co S.gen rfl (PySem.W.codeRec_of inS hcd) (bnd _ _ _ _ ?_)
  refine wpAny_newFunctionEnv_cells S.kind kinds fun env0' he s1 inC => ?_
  subst he
  refine ⟨limS.keeps inC.toInCall.keep, codeAny_func ?_⟩
  obtain ⟨t, ht, hq⟩ := body cdv s H vs Q E rfl (room.deeper _) rfl hsp
  have I0 : Inv (cxOf CX0 P w K mg base N qual (defScope st) f cdv callerA [] s H E) [] (start N vs) H s1 := inv_start S room.hd env0 (len _ _ _ _ hsp) rel inC
  refine wpAny_mono (ht.nox.run [] s1 (start N vs) H _ I0 hq) (fun fl s' hs => ?_) fun _ _ z => z
  cases fl with
  | ret u =>
    obtain ⟨v, σ', H', J, rv, q⟩ := hs
    exact ⟨v, H', J.os, J.bare, J.base, J.hok, rv, q⟩
  | next =>
    obtain ⟨σ', H', J, q⟩ := hs
    exact ⟨.non, H', J.os, J.bare, J.base, J.hok, rfl, q⟩
  | brk => exact False.elim (by obtain ⟨_, _, _, q⟩ := hs; exact q)
  | cont => exact False.elim (by obtain ⟨_, _, _, q⟩ := hs; exact q)
/-! ### a def that is handed a lambda, and calls it -/
/-- TT: what it makes of the lambda's reading -/
structure CaL (P : Program) (w : World) (K : PySem.W.Frag) (mg : Str → Option Value) (base : Heap) (x : Str) (TT : (XK → Hp → VK → Prop) → Hp → VK → Prop) : Prop where
  ex : ∃ (st : Stmt) (Ng : List Str) (a : Str) (g : Addr) (od an : Option Addr) (oc kV doc pm cdv ct : Value) (osl : Array (Option Value)),
    mg x = some (.ref g) ∧ PySem.W.keepIn K (.ref g) = true ∧ K.lookup g = some ⟨oc, od, .func (PySem.W.fnOf x x (defArgs st) (defBody st) (defScope st) .none kV doc pm an cdv ct), osl⟩ ∧ PySem.W.codeIn K cdv x = true ∧
    Binds K (PySem.W.fnOf x x (defArgs st) (defBody st) (defScope st) .none kV doc pm an cdv ct) [a] [] ∧ FnScope Ng [a] (defScope st) ∧ Ng[0]? = some a ∧ Vis (defScope st) a ∧ (a == ("__debug__" : Str)) = false ∧ (a == ("__classdict__" : Str)) = false ∧
    ∀ (X : Cx) (q : Str), GivesTo { X with prog := P, w := w, K := K, mg := mg, base := base } Ng x (defScope st) g cdv (defBody st) a q TT
theorem pe_lam {X : Cx} {T : List (Addr × Str)} {TT : (XK → Hp → VK → Prop) → Hp → VK → Prop} {x : Str} {c P : Addr} {k : Nat} {params : Arguments} {body : Expr} {scope : Scope} {t : XK → TE} {p lpos pos : Pos}
    (C : CaL X.prog X.w X.K X.mg X.base x TT) (hg : Gl X x) (TB : TabB X.base X.mg c P) (hcode : X.env.code = .ref c) (hmT : (P, X.env.qual ++ "<lambda>") ∈ T) (hu : ∀ p ∈ T, p.1 = P → p.2 = X.env.qual ++ "<lambda>")
    (hr : Room (k + 2) X.A) (L : LamS X.env.scope scope) (hdef : defaultsOf params X.env = ([], []))
    (hbind : ∀ (q : Str) (cl : List (Str × Addr)) (pm cv ctv : Value), bindArgs (PySem.W.kla_fn "<lambda>" q params body scope cl pm cv ctv) ⟨[], []⟩ = pure [])
    (hbody : ∀ (A : Around) (outer : List Env) (s : Shared) (H : Hp) (E : XK) (f c' : Addr), Room k (A.deeper (lamEnv X scope s.heap.objs.size f c')) → PE (lamCx X A outer s H E scope f c') body (t E))
    (hdb : (x == ("__debug__" : Str)) = false := by decide) : PE X (.Call (.Name x p) [.Lambda params body scope lpos] [] pos) (tLam T TT t) := by
  obtain ⟨st, Ng, a, g, od, an, oc, kV, doc, pm, cdv, ct, osl, e1, e2, e3, e4, e5, e6, e7, e8, e9, e10, e11⟩ := C.ex
  exact pe_lamcall hg e1 e2 e3 e4 e5 e6 e7 e8 (e11 X _) TB hcode hmT hu hr L hdef hbind hbody hdb e9 e10
theorem takes_len {X : Cx} {W : WX} (tk : Takes X W) : Takes X (fun c d σ H => σ.length = X.N.length → W c d σ H) := fun u s' z => by
  obtain ⟨a, B, sI, pins, σ, H, cls, d, e, I, nb, up, sky, na, os, ag, hw⟩ := z
  exact tk u s' ⟨a, B, sI, pins, σ, H, cls, d, e, I, nb, up, sky, na, os, ag, hw I.len⟩
/-- the row a() of such a def, within its try -/
def tAsk (f c' : Addr) (q : Str) (n : Nat) (tl : XK → Hp → VK → Prop) (W : WX) : TS := fun D σ H =>
  ∃ E1 : XK, (∀ cls d σ' H', σ'.length = n → E1 cls d H' → W cls d σ' H') ∧ σ[0]? = some (some (.ref f)) ∧ H c' = some (CodeO c' q) ∧ tl E1 H fun _ H' => D.nx σ H'
theorem pss_ask {X : Cx} {Ng : List Str} {x a q : Str} {sg : Scope} {g f c' : Addr} {cdg : Value} {s : Shared} {H : Hp} {tl : XK → Hp → VK → Prop} {W : WX} {pn : List (Addr × Obj)} {xe : Value → Shared → Prop} {p1 p2 p3 : Pos}
    (act : ∀ (W : WX) (pn : List (Addr × Obj)) (xe : Value → Shared → Prop) (E : XK) (p1 p2 : Pos), Takes ((cxOf C8.CX0 X.prog X.w X.K X.mg X.base Ng x sg g cdg X.A X.stack s H C8.E0).tr pn xe) W → (∀ cls d σ' H', E cls d H' → W cls d σ' H') →
      PE ((cxOf C8.CX0 X.prog X.w X.K X.mg X.base Ng x sg g cdg X.A X.stack s H C8.E0).tr pn xe) (.Call (.Name a p1) [] [] p2) (fun σZ HZ Q => σZ[0]? = some (some (.ref f)) ∧ HZ c' = some (CodeO c' q) ∧ tl E HZ Q))
    (tk : Takes ((cxOf C8.CX0 X.prog X.w X.K X.mg X.base Ng x sg g cdg X.A X.stack s H C8.E0).nox.tr pn xe) W) :
    PSs ((cxOf C8.CX0 X.prog X.w X.K X.mg X.base Ng x sg g cdg X.A X.stack s H C8.E0).nox.tr pn xe) [.Expr (.Call (.Name a p1) [] [] p2) p3] (tAsk f c' q Ng.length tl W) := by
  refine ⟨fun pins s' σ H' D I h' => ?_⟩
  obtain ⟨E1, hW, h1, h2, h3⟩ := h'
  have tk2 := takes_len tk
  have hp := act (fun c d σ H => σ.length = Ng.length → W c d σ H) pn xe E1 p1 p2 tk2 (fun cls d σ' H' hE hl => hW cls d σ' H' hl hE)
  exact (pss_one (ps_expr (pos := p3) hp)).run pins s' σ H' D I ⟨h1, h2, h3⟩
end
/-! ### what stays where tables of code objects grow -/
theorem ExtN.ext {H H' : Hp} (k : Ext H H') : ExtN H H' := fun b o e _ => k b o e
theorem ExtN.tr {H H1 H2 : Hp} (a : ExtN H H1) (b : ExtN H1 H2) : ExtN H H2 := a.trans b
theorem ExtN.tupk {H H' : Hp} (k : ExtN H H') : TupK H H' := ⟨fun b xs e => k b _ e (fun _ z => by cases z), fun b o u e => k b _ e (fun _ z => by cases z)⟩
theorem ExtN.upd {H H' : Hp} {l : Addr} {o : HO} (k : ExtN H H') (h : H l = none) : ExtN H (upd H' l o) := fun b u e n => by
  rw [upd_ne (ne_of_none e h)]
  exact k b u e n
theorem tabs_lst {T : List (Addr × Str)} {H : Hp} {l : Addr} {xs ys : List V} (t : Tabs T H) (h : H l = some (.lst xs)) : Tabs T (L2.upd H l (.lst ys)) := fun p hp => by
  obtain ⟨ps, h1, h2, h3⟩ := t p hp
  refine ⟨ps, ?_, h2, fun pos cv hc => ?_⟩
  · rw [upd_ne (fun z => by rw [z, h] at h1; cases h1)]
    exact h1
  · obtain ⟨c, e1, e2⟩ := h3 pos cv hc
    refine ⟨c, e1, ?_⟩
    rw [upd_ne (fun z => by rw [z, h] at e2; unfold CodeO at e2; cases e2)]
    exact e2
theorem Kp.tabs {T : List (Addr × Str)} {p : Addr} {H H' : Hp} {xs : List V} (k : Kp p H H') (hp : H p = Option.some (.lst xs)) (t : Tabs T H) : Tabs T H' := fun q hq => by
  obtain ⟨ps, h1, h2, h3⟩ := t q hq
  refine ⟨ps, k _ _ (fun z => ?_) h1, h2, fun pos cv hc => ?_⟩
  · rw [z, hp] at h1
    cases h1
  · obtain ⟨c, e1, e2⟩ := h3 pos cv hc
    refine ⟨c, e1, k _ _ (fun z => ?_) e2⟩
    rw [z, hp] at e2
    unfold CodeO at e2
    cases e2
/-! ### the end of a law, with tables -/
def HasTab (mg : Str → Option Value) (h : Heap) (x : Str) : Prop := ∃ (a : Addr) (o : Obj) (fd : FuncData) (c P : Addr), mg x = some (.ref a) ∧ h.get? a = some o ∧ o.data = .func fd ∧ fd.code = .ref c ∧ PySem.W.CodeHd h c P ∧ h.get? P = some { cls := .none, data := .fields #[] }
theorem hasTab_at {K : PySem.W.Frag} {h : Heap} {mg : Str → Option Value} {x : Str} {f c P : Addr} {oc e : Value} {od dd : Option Addr} {fd : FuncData} {sl sl2 : Array (Option Value)} {vs : Array Value} (T : HasTab mg h x) (X : K.In h) (hm : mg x = some (.ref f))
    (l : K.lookup f = some ⟨oc, od, .func fd, sl⟩) (hc : fd.code = .ref c) (tc : K.lookup c = some ⟨e, dd, .fields vs, sl2⟩) (h11 : vs[11]? = some (.ref P)) : PySem.W.CodeHd h c P ∧ h.get? P = some { cls := .none, data := .fields #[] } := by
  obtain ⟨a, o, fd2, c2, P2, g1, g2, g3, g4, g5, g6⟩ := T
  rw [hm] at g1
  cases g1
  rw [X _ _ l] at g2
  cases g2
  cases g3
  rw [hc] at g4
  cases g4
  have g5' := g5
  obtain ⟨o3, us, file, tf, flags, tg, inF, text, tt, k1, k2, k3, k4, _⟩ := g5'
  rw [X _ _ tc] at k1
  cases k1
  cases k3
  rw [h11] at k4
  cases k4
  exact ⟨g5, g6⟩
end Pf


namespace Pf
open PySem PySem.Spec PyProof.Rows L2 LamX
/-- the end of a law's own call, with tables of code objects: from an abstract heap that holds the script or not, and the tables -/
theorem FnG.endsT {P : Program} {w : World} {K : PySem.W.Frag} {mg mb : Str → Option Value} {fa a : Addr} {tabs : List (Addr × Addr)} {fd : FuncData} {x : Str} {sp : Sp} {s1 : Shared} {vs : List Value} {ns : List Int}
    (inK : K.In s1.heap) (gl : s1.heap.Ns mainGlobals mg) (bl : s1.heap.Ns builtinsNs mb) (bb : ∀ x : Str, x ≠ "__name__" → mb x = bootBuiltins x) (lim : s1.heap.NoLimit) (gens : s1.gens = #[])
    (tabE : ∀ p ∈ tabs, s1.heap.get? p.2 = some { cls := .none, data := .fields #[] }) (tabK : ∀ p ∈ tabs, K.lookup p.2 = none) (tabC : ∀ p ∈ tabs, PySem.W.CodeHd s1.heap p.1 p.2)
    (bmain : ∃ (bm : Addr) (ob : Obj), mg "__builtins__" = some (.ref bm) ∧ bm ≠ builtinsNs ∧ s1.heap.get? bm = some ob ∧ ob.cls = .type "module" ∧ ob.dict = some builtinsNs ∧ ob.data = .plain)
    (hscr : s1.heap.get? a = some { cls := .type "list", data := .seq vs.toArray }) (hin : IntsAre vs ns)
    (F : ∀ base : Heap, K.In base → base.Ns mainGlobals mg → (∀ p ∈ tabs, TabB base mg p.1 p.2) → FnG P w K mg base fa fd [x] sp) (bnd : ∀ (s : Shared) (u : Value), BindsTo s fd ⟨[u], []⟩ [(x, u)])
    {H : Hp} (only : ∀ b, H b = none ∨ b ∈ tabs.map (·.2) ∨ ∃ o xs, H b = some (.frz o (.lst xs))) (tabH : ∀ p ∈ tabs, H p.2 = some (.tbl #[])) (hsp : sp [.ref a] H (fun v _ => v = .bl true) fun _ _ _ => False) (hok : HOk P w H s1.heap)
    (hA : ∀ b, H b ≠ none → b = a ∨ b ∈ tabs.map (·.2)) (hK : H a ≠ none → K.lookup a = none) :
    codeAny (model P w) callerA (.call (.ref fa) ⟨[.ref a], []⟩) (fun r s' => r = .ok (.ret (.bool true)) ∧ OldK s1.heap s'.heap ∧ s'.os = s1.os ∧ AllBare s'.gens) s1 := by
  have mem_tab : ∀ {b : Addr}, b ∈ tabs.map (·.2) → ∃ p ∈ tabs, p.2 = b := fun hb => by
    obtain ⟨p, hp, e⟩ := List.mem_map.mp hb
    exact ⟨p, hp, e⟩
  have hid : ∀ {b : Addr} {o : Obj}, s1.heap.get? b = some o → H b = none → (hidT s1.heap H).get? b = some o := fun e n => hidT_get e n
  -- what is no list and no empty table is not tracked
  have loose : ∀ {b : Addr} {o : Obj}, s1.heap.get? b = some o → (∀ (us : Array Value) (n : Nat), o.data ≠ .seq us n) → (o.data ≠ .fields #[]) → H b = none := by
    intro b o e n1 n2
    cases q : H b with
    | none => rfl
    | some u =>
      rcases hA b (by rw [q]; exact Option.some_ne_none _) with z | z
      · subst z
        rw [hscr] at e
        cases e
        exact absurd rfl (n1 _ _)
      · obtain ⟨p, hp, rfl⟩ := mem_tab z
        rw [tabE p hp] at e
        cases e
        exact absurd rfl n2
  have nsH : ∀ {b : Addr} {m : Str → Option Value}, s1.heap.Ns b m → (hidT s1.heap H).Ns b m := by
    rintro b m ⟨o, es, ep, e, d, r⟩
    exact ⟨o, es, ep, hid e (loose e (fun us n z => by rw [d] at z; cases z) fun z => by rw [d] at z; cases z), d, r⟩
  have inB : K.In (hidT s1.heap H) := by
    intro b o e
    refine hid (inK b o e) ?_
    cases q : H b with
    | none => rfl
    | some u =>
      rcases hA b (by rw [q]; exact Option.some_ne_none _) with z | z
      · subst z
        rw [hK (by rw [q]; exact Option.some_ne_none _)] at e
        cases e
      · obtain ⟨p, hp, rfl⟩ := mem_tab z
        rw [tabK p hp] at e
        cases e
  have limB : (hidT s1.heap H).NoLimit := by
    obtain ⟨mc, h1, h2⟩ := lim
    exact ⟨mc, nsH h1, h2⟩
  have tabB : ∀ p ∈ tabs, TabB (hidT s1.heap H) mg p.1 p.2 := by
    intro p hp
    have eT := tabE p hp
    constructor
    · obtain ⟨o, us, file, tf, flags, tg, inF, text, tt, k1, k2, k3, k4, k5⟩ := tabC p hp
      refine ⟨o, us, file, tf, flags, tg, inF, text, tt, hid k1 (loose k1 (fun _ _ z => by rw [k3] at z; cases z) fun z => ?_), k2, k3, k4, k5⟩
      rw [k3] at z
      injection z with z
      rw [z] at k4
      cases k4
    · obtain ⟨bm, ob, b1, b2, b3, b4, b5, b6⟩ := bmain
      refine ⟨bm, ob, b1, b2, fun z => ?_, fun z => ?_, hid b3 (loose b3 (fun _ _ z => by rw [b6] at z; cases z) fun z => by rw [b6] at z; cases z), b4, b5, b6⟩
      · obtain ⟨o, es, ep, e, d, _⟩ := gl
        rw [← z, b3] at e
        cases e
        rw [d] at b6
        cases b6
      · rw [z, eT] at b3
        cases b3
        cases b6
    · intro z
      obtain ⟨o, es, ep, e, d, _⟩ := gl
      rw [z, eT] at e
      cases e
      cases d
  have env0 : Env0 P w K mg (hidT s1.heap H) callerA [] s1 H :=
    ⟨rfl, ⟨inB, nsH gl, ⟨mb, nsH bl, bb⟩, limB⟩, fun b o e => of_hidT e, Nat.le_of_eq (hidT_size _ _), trivial, fun b hb => (nomatch (show b ∈ ([] : List Addr) from hb)), hok, .of_eq gens⟩
  refine codeAny_mono ((F _ inB (nsH gl) tabB).run s1 H ⟨[.ref a], []⟩ [.ref a] [.ref a] _ _ env0 (bnd s1 (.ref a)) (.cons rfl .nil) hsp) fun r s' h => ?_
  match r, h with
  | .error _, h => exact False.elim h
  | .ok .next, h => exact False.elim h
  | .ok .brk, h => exact False.elim h
  | .ok .cont, h => exact False.elim h
  | .ok (.ret u), h =>
    obtain ⟨v, H', os, bare, un, hok', rel, q⟩ := h
    obtain rfl : v = .bl true := q
    obtain rfl : u = Value.bool true := rel
    have kept : ∀ b o, b ∉ tabs.map (·.2) → s1.heap.get? b = some o → s'.heap.get? b = some o := by
      intro b o nb e
      cases q : H b with
      | none => exact un.keep b o e q (fun z => (nomatch (show b ∈ ([] : List Addr) from z))) (by simp)
      | some u =>
        rcases only b with z | z | ⟨ob, xs, z⟩
        · rw [q] at z; cases z
        · exact absurd z nb
        · have now := (hok' b _ (un.frzs b ob _ z)).1
          have was := (hok b _ z).1
          rw [e] at was
          cases was
          exact now
    have grew : ∀ p ∈ tabs, ∃ more : Array Value, s'.heap.get? p.2 = some { cls := .none, data := .fields more } := by
      intro p hp
      obtain ⟨more, z⟩ := un.tbls p.2 #[] (tabH p hp)
      have z2 := hok' p.2 _ z
      exact ⟨_, z2⟩
    refine ⟨rfl, ⟨fun b o e => ?_, fun b o e => ?_⟩, os, bare⟩
    · by_cases hb : b ∈ tabs.map (·.2)
      · obtain ⟨p, hp, rfl⟩ := mem_tab hb
        obtain ⟨more, hm⟩ := grew p hp
        have eT := tabE p hp
        rw [eT] at e
        cases e
        refine .inr (.inl ⟨((tabC p hp).tab eT).isCodeTable, rfl, #[], more, rfl, ?_⟩)
        rw [Array.empty_append]
        exact hm
      · exact .inl (kept b o hb e)
    · by_cases hb : b ∈ tabs.map (·.2)
      · obtain ⟨p, hp, rfl⟩ := mem_tab hb
        obtain ⟨more, hm⟩ := grew p hp
        exact ⟨_, hm⟩
      · exact ⟨o, kept b o hb e⟩
theorem walk_gT {l : PySem.W.OpenLaw} {n : Nat} {q : Program} {loose : List Str} {XP : (Str → Option Value) → Heap → Prop} {YP : World → Heap → Prop} {d : DefRec} {K : Params → PySem.W.Frag} {x : Str} (ds : List Str)
    (hn : l.most = some n) (hn2 : n ≤ sizeLine) (hdf : d.params.defaults = []) (hds : (ds.all fun y => (recsOf q).any fun e => e.name == y) = true) (hY : ∀ (w : World) (h : Heap), YP w h → (K w.params).In h)
    (F : ∀ (w : World) (mg : Str → Option Value) (fa : Addr) (h : Heap), (K w.params).In h → h.Ns mainGlobals mg → mg d.name = some (.ref fa) → (∀ y ∈ ds, HasTab mg h y) →
      ∃ (fd : FuncData) (tabs : List (Addr × Addr)) (sp : Sp), (∀ p ∈ tabs, h.get? p.2 = some { cls := .none, data := .fields #[] }) ∧ (∀ p ∈ tabs, (K w.params).lookup p.2 = none) ∧ (∀ p ∈ tabs, PySem.W.CodeHd h p.1 p.2) ∧
        (∀ (s : Shared) (u : Value), BindsTo s fd ⟨[u], []⟩ [(x, u)]) ∧
        (∀ (H : Hp) (a : Addr) (ns : List Int), ns.length ≤ n → (∀ p ∈ tabs, H p.2 = some (.tbl #[])) → SqL (K w.params) H a (ns.map V.int) → sp [.ref a] H (fun v _ => v = .bl true) fun _ _ _ => False) ∧
        ∀ base : Heap, (K w.params).In base → base.Ns mainGlobals mg → (∀ p ∈ tabs, TabB base mg p.1 p.2) → FnG l.prog w (K w.params) mg base fa fd [x] sp) :
    PySem.W.WalkO q loose XP YP l.row.toRowW d [] (fun f vs => PySem.call f vs) := by
  refine Att.attach_call hn hdf fun w s0 s1 mg mb fa o pm cd doc a vs ns G Y ho hd hcd hmg hobj hints hlen hg => ?_
  have inK := hY w _ Y
  have has : ∀ y ∈ ds, HasTab mg s1.heap y := by
    intro y hy
    obtain ⟨e, he, en⟩ := List.any_eq_true.mp (List.all_eq_true.mp hds y hy)
    have en : e.name = y := beq_iff_eq.mp en
    obtain ⟨b, ob, fb, cb, pb, h1, h2, h3, h4, h5, h6⟩ := G.T.tab e he
    rw [en] at h1
    have h7 := h6.2
    exact ⟨b, ob, fb, cb, pb, h1, h2, h3, h4, PySem.W.CodeHd.of h5 h6, h7⟩
  obtain ⟨fd, tabs, sp, tabE, tabK, tabC, bnd, hsp, hF⟩ := F w mg fa _ inK G.T.g hmg has
  have szs : ns.length ≤ sizeLine := Nat.le_trans hlen hn2
  have vals := vals_ints hints
  have memT : ∀ p ∈ tabs, p.2 ∈ tabs.map (·.2) := fun p hp => List.mem_map.mpr ⟨p, hp, rfl⟩
  have isT : ∀ b, b ∈ tabs.map (·.2) → s1.heap.get? b = some { cls := .none, data := .fields #[] } := fun b hb => by
    obtain ⟨p, hp, e⟩ := List.mem_map.mp hb
    rw [← e]
    exact tabE p hp
  have aT : a ∉ tabs.map (·.2) := fun z => by
    have e := isT a z
    rw [hobj] at e
    cases e
  cases hk : (K w.params).lookup a with
  | some ob =>
    have e := inK a ob hk
    rw [hobj] at e
    cases e
    refine FnG.endsT inK G.T.g G.T.b G.T.builtins G.T.nolimit hg tabE tabK tabC G.T.bmain hobj hints hF bnd (H := fun b => if b ∈ tabs.map (·.2) then some (.tbl #[]) else none) (fun b => ?_) (fun p hp => if_pos (memT p hp))
      (hsp _ a ns hlen (fun p hp => if_pos (memT p hp)) (.inr ⟨_, vs.toArray, _, hk, rfl, rfl, rfl, by rw [List.size_toArray, hints.length]; exact szs, by simpa using vals⟩)) (fun b u z => ?_) (fun b z => ?_) fun z => absurd (if_neg aT) z
    · by_cases hb : b ∈ tabs.map (·.2)
      · exact .inr (.inl hb)
      · exact .inl (if_neg hb)
    · by_cases hb : b ∈ tabs.map (·.2)
      · have y := (if_pos hb).symm.trans z
        cases y
        exact isT b hb
      · have y := (if_neg hb).symm.trans z
        cases y
    · by_cases hb : b ∈ tabs.map (·.2)
      · exact .inr hb
      · exact absurd (if_neg hb) z
  | none =>
    have nA : ∀ p ∈ tabs, ¬ p.2 = a := fun p hp z => aT (by rw [← z]; exact memT p hp)
    refine FnG.endsT inK G.T.g G.T.b G.T.builtins G.T.nolimit hg tabE tabK tabC G.T.bmain hobj hints hF bnd (H := fun b => if b = a then some (.frz { cls := .type "list", data := .seq vs.toArray } (.lst (ns.map V.int))) else if b ∈ tabs.map (·.2) then some (.tbl #[]) else none) (fun b => ?_)
      (fun p hp => (if_neg (nA p hp)).trans (if_pos (memT p hp))) (hsp _ a ns hlen (fun p hp => (if_neg (nA p hp)).trans (if_pos (memT p hp))) (.inl (.inr ⟨_, if_pos rfl⟩))) (fun b u z => ?_) (fun b z => ?_) fun _ => hk
    · by_cases h : b = a
      · exact .inr (.inr ⟨_, _, if_pos h⟩)
      · by_cases hb : b ∈ tabs.map (·.2)
        · exact .inr (.inl hb)
        · exact .inl ((if_neg h).trans (if_neg hb))
    · by_cases h : b = a
      · have y := (if_pos h).symm.trans z
        cases y
        subst h
        exact ⟨hobj, by rw [List.length_map]; exact szs, vs, _, vals, hobj⟩
      · have y := (if_neg h).symm.trans z
        by_cases hb : b ∈ tabs.map (·.2)
        · have y2 := (if_pos hb).symm.trans y
          cases y2
          exact isT b hb
        · have y2 := (if_neg hb).symm.trans y
          cases y2
    · by_cases h : b = a
      · exact .inl h
      · by_cases hb : b ∈ tabs.map (·.2)
        · exact .inr hb
        · exact absurd ((if_neg h).trans (if_neg hb)) z
end Pf


namespace Pf
open PySem PySem.Spec PyProof.Rows L2
/-! ### a tuple's items, gathered -/
section
variable {prog : Program} {w : World} {A : Around} {E : Value → Shared → Prop} {s : Shared}
theorem gather_tup {a : Addr} {us : List Value} {Q : List Value → Shared → Prop} (ht : s.heap.IsTuple a us.toArray) (hz : us.length ≤ sizeLine)
    (q : Q us { s with heap := (s.heap.push (seqObj "list" #[] 0)).update s.heap.objs.size (Obj.mapSeq (· ++ us.toArray)) }) : wpAny (model prog w) A (collect (.ref a)) Q E s := by
  obtain ⟨ob, hob, hcl, n, hda⟩ := id ht
  have hob1 : (s.heap.push (seqObj "list" #[] 0)).get? a = some ob := Heap.get?_push_of_some _ hob
  have hnew : (s.heap.push (seqObj "list" #[] 0)).get? s.heap.objs.size = some (seqObj "list" #[] 0) := Heap.get?_push_size _ rfl
  unfold collect
  refine wpAny_bind (wpAny_runValue ?_)
  refine codeAny_builtin entry_proto_collect' ?_
  show wpAny _ _ (do again (.builtin "list.__iadd__" ⟨[← newList [], .ref a], []⟩)) _ _ s
  refine wpAny_bind (wpAny_newList (wpAny_pure ⟨Code.quiet_builtin _ (by decide +kernel), ?_⟩))
  refine codeAny_builtin entry_list_iadd' ?_
  show wpAny _ _ (Builtin.List.listExtendWith (.ref s.heap.objs.size) (.ref a) _) _ _ { s with heap := s.heap.push (seqObj "list" #[] 0) }
  unfold Builtin.List.listExtendWith
  refine wpAny_bind (wpAny_typeOf (T := "tuple") ⟨ob, hob1, hcl⟩ ?_)
  rw [if_pos (by rw [show (Value.type "tuple" == Value.type "tuple") = true from rfl, Bool.or_true])]
  refine wpAny_bind (listItems_at hob1 hda ?_)
  refine wpAny_bind (listItems_at (xs := #[]) (n := 0) hnew rfl ?_)
  rw [if_neg (by simp)]
  have hsz : ((#[] : Array Value) ++ us.toArray).size ≤ sizeLine + 1 := by
    rw [Array.size_append, List.size_toArray]
    show 0 + us.length ≤ _
    omega
  refine wpAny_bind (listUpdate_at (xs := #[]) (n := 0) hnew rfl ?_ (Nat.zero_le _) hsz)
  refine wpAny_pure ?_
  refine wpAny_bind (wpAny_load (get?_update_seq hnew _) ?_)
  have e : ((#[] : Array Value) ++ us.toArray).toList = us := by simp
  show wpAny _ _ (pure ((#[] : Array Value) ++ us.toArray).toList) Q E _
  rw [e]
  exact wpAny_pure q
theorem sorted_tup {β : Type} {R : Value → β → Prop} {enc : β → PyData} {a : Addr} {us : List Value} {bs : List β} {Q : Value → Shared → Prop} (ht : s.heap.IsTuple a us.toArray) (e : PySem.W.EachIs R us bs) (er : PySem.W.EachIs (fun v b => ∃ as, Reads s.heap v (enc b) as) us bs) (al : PySem.W.AllAlike (bs.map enc)) (so : PySem.W.Sortable (bs.map enc))
    (hz : bs.length ≤ sizeLine) (hu : ∀ b, b ∈ bs → A.units + 2 + (enc b).depth < cLine) (q : ∀ out, out.length = bs.length → PySem.W.EachIs R out (bs.mergeSort (PySem.W.dataLe false enc)) → Q (.ref (s.heap.objs.size + 1)) { s with heap := sortedAll s.heap us out.toArray }) :
    wpAny (model prog w) A (call (.builtin "sorted") [.ref a]) Q E s := by
  have hul : us.length ≤ sizeLine := by
    rw [e.length]
    exact hz
  refine Calls.call_function_entry kind_sorted plain_sorted
    entry_sorted (args_sorted1 _) ?_
  unfold Builtin.«sorted»
  refine wpAny_bind (m := checkCount "sorted" 1 1 _) (wpAny_pure ?_)
  refine wpAny_bind (gather_tup ht hul ?_)
  refine wpAny_bind (wpAny_newList ?_ hul)
  have hsz : ((s.heap.push (seqObj "list" #[] 0)).update s.heap.objs.size (Obj.mapSeq (· ++ us.toArray))).objs.size = s.heap.objs.size + 1 := by
    rw [Heap.size_update, size_push']
  have er2 : PySem.W.EachIs (fun v b => ∃ as, Reads (PySem.W.copyHeap s.heap us) v (enc b) as ∧ s.heap.objs.size + 1 ∉ as) us bs := er.mono fun v b ⟨as, r⟩ => by
    refine ⟨as, PyProof.Rows.Reads.keeps (fun _ _ h => PySem.W.copyHeap_old h) r, fun hm => ?_⟩
    obtain ⟨o, ho⟩ := PyProof.On.reads_mem_get r _ hm
    exact absurd (Nat.lt_of_succ_lt (Heap.lt_size ho)) (Nat.lt_irrefl _)
  show wpAny _ _ _ _ _ { s with heap := PySem.W.copyHeap s.heap us }
  rw [hsz]
  refine wpAny_bind (wpAny_holding (PySem.W.list_sort_data (s := { s with heap := PySem.W.copyHeap s.heap us }) (PySem.W.copyHeap_at s.heap us) e er2 al so hz (fun b hb => ?_) fun out h1 h2 => ?_))
  · have := hu b hb
    have e1 : A.in1.units = A.units + 1 := rfl
    rw [e1]
    exact this
  · exact wpAny_pure ⟨_, rfl, q out h1 h2⟩
end
def rSortTD (K : PySem.W.Frag) : List V → Hp → VK → Prop := fun vs H Q => ∃ (β : Type) (v : β → V) (d : β → PyData) (a : Addr) (bs : List β), vs = [.ref a] ∧ SqT K H a (bs.map v) ∧ (∀ b ∈ bs, Dp K H (v b) (d b) ∧ (d b).depth ≤ 50) ∧
  PySem.W.AllAlike (bs.map d) ∧ PySem.W.Sortable (bs.map d) ∧ ∀ p, H p = none → Q (.ref p) (upd H p (.lst ((bs.mergeSort (PySem.W.dataLe false d)).map v)))
/-- sorted(xs), xs a tuple of data -/
theorem cr_sortTD (K : PySem.W.Frag) {X : Cx} (hu : X.A.units + 64 < cLine) (hK : X.K = K := by rfl) : CallR X (.builtin "sorted") (rSortTD K) := by
  subst hK
  intro pins s σ H vs us Q I r h
  obtain ⟨β, v, d, a, bs, rfl, hs, hd, al, so, q⟩ := h
  obtain ⟨u, rfl, rfl⟩ := vals1 r
  obtain ⟨its, rv, ht, hz⟩ := I.tuple hs
  rw [List.length_map] at hz
  refine sorted_tup (enc := d) (R := fun (u : Value) (b : β) => RelV (v b) u) (show s.heap.IsTuple a its.toArray from ht) (each_vals rv) (each_reads I rv fun b hb => (hd b hb).1) al so hz (fun b hb => by have := (hd b hb).2; omega) fun out hlen he => ?_
  obtain ⟨ep, he'⟩ := PyProof.Rows.sortedAll_at s.heap its out.toArray
  have hlen2 : ((bs.mergeSort (PySem.W.dataLe false d)).map v).length ≤ sizeLine := by
    rw [List.length_map, List.length_mergeSort]
    exact hz
  exact ⟨.ref _, upd H (s.heap.objs.size + 1) (.lst ((bs.mergeSort (PySem.W.dataLe false d)).map v)), I.laid (t' := s.toks) (fun _ _ => PyProof.Rows.sortedAll_old) (Nat.le_succ _) ⟨hlen2, out, ep, vals_each he, by simpa using he'⟩, rfl, q _ (I.hok.fresh (Nat.le_succ _))⟩
def rSortLT (K : PySem.W.Frag) : List V → Hp → VK → Prop := fun vs H Q => rSortD K vs H Q ∨ rSortTD K vs H Q
/-- sorted(xs), xs a list or a tuple of data -/
theorem cr_sortLT (K : PySem.W.Frag) {X : Cx} (hu : X.A.units + 64 < cLine) (hK : X.K = K := by rfl) : CallR X (.builtin "sorted") (rSortLT K) := fun pins s σ H vs us Q I r h => h.elim (cr_sortD K hu hK pins s σ H vs us Q I r) (cr_sortTD K hu hK pins s σ H vs us Q I r)
/-! ### going through a list or a tuple -/
def iSeq (K : PySem.W.Frag) (tl : TE) : TI := fun σ H R => tl σ H fun x H1 => ∃ a, x = .ref a ∧ (((∃ xs, SqL K H1 a xs) ∧ R (Itl K a) H1) ∨ ((∃ xs, SqT K H1 a xs) ∧ R (Itt K a) H1))
theorem pi_seq {X : Cx} {tg l : Expr} {tl : TE} (K : PySem.W.Frag) (hl : PE X l tl) (hK : X.K = K := by rfl) : PI X tg l (iSeq K tl) := by
  subst hK
  refine ⟨fun pins s σ H R I h => ?_⟩
  have h1 := hl.run pins s σ H _ I h
  refine thn h1 fun v s1 ⟨x, H1, I1, r1, q1⟩ => ?_
  obtain ⟨a, rfl, ⟨hq, q⟩ | ⟨hq, q⟩⟩ := q1
  · obtain ⟨xs, hq⟩ := hq
    cases r1
    obtain ⟨its, rv, hp, hz⟩ := I1.list hq
    refine wpAny_pyIter_list hp.isList ?_
    have kk := I1.kept (h' := s1.heap.push { cls := .type "list_iterator", data := .fields #[.ref a, .int 0 0] }) (t' := s1.toks) fun b o e => Heap.get?_push_of_some _ e
    exact ⟨s1.heap.objs.size, [s1.heap.objs.size], _, _, H1, rfl, kk, turn_list a _, ⟨_, Heap.get?_push_size _ rfl, rfl, rfl⟩, fun b hb => by
      rw [show b = s1.heap.objs.size by simpa using hb]
      exact I1.fpOk (Nat.le_refl s1.heap.objs.size) (I1.hok.fresh (Nat.le_refl _)), q⟩
  · obtain ⟨xs, hq⟩ := hq
    cases r1
    obtain ⟨its, rv, hp, hz⟩ := I1.tuple hq
    refine wpAny_pyIter_tuple (show s1.heap.IsTuple a its.toArray from hp) ?_
    exact ⟨s1.heap.objs.size, [s1.heap.objs.size], _, _, H1, rfl, I1.kept (t' := s1.toks) (fun b o e => Heap.get?_push_of_some _ e), turn_tuple a _, ⟨_, Heap.get?_push_size _ rfl, rfl, rfl⟩, fun b hb => by
      rw [show b = s1.heap.objs.size by simpa using hb]
      exact I1.fpOk (Nat.le_refl s1.heap.objs.size) (I1.hok.fresh (Nat.le_refl _)), q⟩
/-- a list (true) or a tuple -/
def bo (b : Bool) (us : List V) : HO := match b with
  | true => .lst us
  | false => .tup us
def Sq2 (K : PySem.W.Frag) (H : Hp) (a : Addr) (xs : List V) (b : Bool) : Prop := match b with
  | true => SqL K H a xs
  | false => SqT K H a xs
theorem Sq2.of {K : PySem.W.Frag} {H : Hp} {a : Addr} {xs : List V} {b : Bool} (h : H a = some (bo b xs)) : Sq2 K H a xs b := by
  cases b with
  | true => exact SqL.of h
  | false => exact SqT.of h
theorem for_seq {K : PySem.W.Frag} {a : Addr} {xs : List V} {b : Bool} {g : TG} {tb : TS} {D : Ends} {σ : L2.St} {H : Hp} (e : Sq2 K H a xs b) (Pv : Nat → L2.St → Hp → Prop) (h0 : Pv 0 σ H) (hl : ∀ i σ H, i ≤ xs.length → Pv i σ H → Sq2 K H a xs b)
    (hs : ∀ i x σ H, xs[i]? = some x → Pv i σ H → g x σ H fun σ2 H2 => tb { D with nx := Pv (i + 1), ct := Pv (i + 1), bk := D.nx } σ2 H2) (hd : ∀ σ H, Pv xs.length σ H → D.nx σ H) :
    ((∃ xs, SqL K H a xs) ∧ ∃ W : Nat → Nat → L2.St → Hp → Prop, (∃ m, W 0 m σ H) ∧ ∀ i m σ H, W i m σ H →
      ((Itl K a).stop i H ∧ D.nx σ H) ∨ ((Itl K a).go i H ∧ ∃ N : L2.St → Hp → Prop, (∀ σ' H', N σ' H' → ∃ m', m' < m ∧ W (i + 1) m' σ' H') ∧ ∀ x H', (Itl K a).yld i H x H' → g x σ H' fun σ2 H2 => tb { D with nx := N, ct := N, bk := D.nx } σ2 H2)) ∨
    ((∃ xs, SqT K H a xs) ∧ ∃ W : Nat → Nat → L2.St → Hp → Prop, (∃ m, W 0 m σ H) ∧ ∀ i m σ H, W i m σ H →
      ((Itt K a).stop i H ∧ D.nx σ H) ∨ ((Itt K a).go i H ∧ ∃ N : L2.St → Hp → Prop, (∀ σ' H', N σ' H' → ∃ m', m' < m ∧ W (i + 1) m' σ' H') ∧ ∀ x H', (Itt K a).yld i H x H' → g x σ H' fun σ2 H2 => tb { D with nx := N, ct := N, bk := D.nx } σ2 H2)) := by
  cases b with
  | true => exact .inl ⟨⟨xs, e⟩, for_list Pv h0 hl hs hd⟩
  | false => exact .inr ⟨⟨xs, e⟩, for_tup Pv h0 hl hs hd⟩
theorem sort_lt {K : PySem.W.Frag} {β : Type} {v : β → V} {d : β → PyData} {a : Addr} {bs : List β} {b : Bool} {H : Hp} {Q : VK} (h : Sq2 K H a (bs.map v) b) (hd : ∀ y ∈ bs, Dp K H (v y) (d y) ∧ (d y).depth ≤ 50) (al : PySem.W.AllAlike (bs.map d)) (so : PySem.W.Sortable (bs.map d)) (q : ∀ p, H p = none → Q (.ref p) (upd H p (.lst ((bs.mergeSort (PySem.W.dataLe false d)).map v)))) : rSortLT K [.ref a] H Q := by
  cases b with
  | true => exact .inl ⟨β, v, d, a, bs, rfl, h, hd, al, so, q⟩
  | false => exact .inr ⟨β, v, d, a, bs, rfl, h, hd, al, so, q⟩
/-! ### set(xs), xs a tuple of tuples of ints -/
section
variable {P : Program} {w : World} {A : Around} {E : Value → Shared → Prop} {s : Shared}
abbrev newS (w : World) : Obj := { cls := .type "set", dict := none, data := .set #[] 0 (.fresh 0 0 (!w.params.followText "set-order")) }
theorem set_of_tup {a : Addr} {items : Array Value} (ks : List (Addr × List Int)) {Q : Value → Shared → Prop} (hh : A.handled = none) (ht : s.heap.IsTuple a items) (hit : items.toList = ks.map fun p => Value.ref p.1)
    (hk : ∀ p ∈ ks, IsT P w s.heap p.2 p.1) (hfew : ks.length < 64) (hu : A.units + 3 < cLine)
    (q : ∀ (h' : Heap) (tk : Nat) L es ep t, SetTR P w h' s.heap.objs.size L es ep t → Got ks ks.length L → (∀ b o, s.heap.get? b = some o → h'.get? b = some o) → Q (.ref s.heap.objs.size) { s with heap := h', toks := tk }) :
    wpAny (model P w) A (call (.type "set") [.ref a]) Q E s := by
  have hsz : items.size = ks.length := by
    have z := congrArg List.length hit
    rwa [Array.length_toList, List.length_map] at z
  obtain ⟨c, tl, hmro⟩ := F.called_set.mro
  have hmade := F.called_set.made
  have hsub := F.called_set.sub
  have h1 := F.called_set.notType
  have h2 := F.called_set.canCreate
  have hct := F.typeCall_set_1 (.ref a)
  refine wpAny_call (codeAny_of_tree ?_)
  show wpAny _ _ (callAny (.type "set") _) _ _ _
  refine wpAny_pure ⟨Code.quiet_builtin _ (by decide +kernel), ?_⟩
  refine codeAny_builtin F.entry_type_call ?_
  rw [Around.under_plain (weight_type_call_type "set" [.ref a] []) rfl]
  repeat (any_goals (first
    | assumption
    | wp_step))
  refine codeAny_mono (code_set_led1 (.ref a) (E := E) (Q₁ := fun obj s₁ => obj = .ref s.heap.objs.size ∧ s₁ = { s with heap := s.heap.push (newS w) }) ⟨rfl, rfl⟩) fun r s₁ hr => ?_
  cases r with
  | error e => exact hr
  | ok fl =>
    cases fl with
    | ret obj =>
      obtain ⟨rfl, rfl⟩ := hr
      have hS : (s.heap.push (newS w)).get? s.heap.objs.size = some (newS w) := Heap.get?_push_size _ rfl
      have hT : Shared.TypeIs { s with heap := s.heap.push (newS w) } (.ref s.heap.objs.size) "set" := ⟨_, hS, rfl⟩
      have hli := F.called_set.init.lookup
      have hbi := F.called_set.init.bind (.ref s.heap.objs.size)
      repeat (any_goals (first
        | assumption
        | wp_step))
      refine codeAny_mono (codeAny_call_builtin (R := wants (fun r s₂ => r = .none ∧ ∃ h' tk L es ep t, s₂ = { s with heap := h', toks := tk } ∧ SetTR P w h' s.heap.objs.size L es ep t ∧ Got ks ks.length L ∧ (∀ b o, s.heap.get? b = some o → h'.get? b = some o)) E)
        F.called_set.init.plain F.entry_set_init (check_set_init_1 hT ?_)) fun r₂ s₂ hr₂ => ?_
      · have ht1 : (s.heap.push (newS w)).IsTuple a items := ht.push _
        obtain ⟨ob, hob, hcl, nl, hda⟩ := id ht1
        obtain ⟨ocls, odict, odata, oslots⟩ := ob
        simp only at hcl hda
        subst hcl; subst hda
        have hsls := PySem.F.sub_tuple_set
        have hslf := PySem.F.sub_tuple_frozenset
        have hne : (Value.type "tuple" == Value.type "dict") = false := by decide
        unfold Builtin.«set.__init__» noKeywords Builtin.Frozenset.updateFrom
        generalize hPI : pyIter = PI
        wp_walk
        subst hPI
        refine wpAny_pyIter_tuple ht1 ?_
        refine wpAny_bind (wpAny_runValue ?_)
        obtain ⟨ob0, hob0, _⟩ := ht
        have hlt : a < s.heap.objs.size := Heap.lt_size hob0
        have hin : A.in1.in1.in1.handled = none := by simp [hh]
        have hz1 : (s.heap.push (newS w)).objs.size = s.heap.objs.size + 1 := Heap.size_push ..
        have hneI : a ≠ (s.heap.push (newS w)).objs.size := by
          rw [hz1]
          exact Nat.ne_of_lt (Nat.lt_succ_of_lt hlt)
        have hSf : s.heap.objs.size ∉ [(s.heap.push (newS w)).objs.size, a] := fun hm => by
          rw [hz1] at hm
          rcases List.mem_cons.mp hm with e | hm
          · exact absurd e (Nat.ne_of_lt (Nat.lt_succ_self _))
          · exact absurd (List.mem_singleton.mp hm) (Nat.ne_of_gt hlt)
        have hval : ∀ (i : Nat) (v : Value), items[i]? = some v → ∃ p, ks[i]? = some p ∧ v = .ref p.1 := fun i v hv => by
          rw [← Array.getElem?_toList, hit, List.getElem?_map] at hv
          obtain ⟨p, hp, e⟩ := Option.map_eq_some_iff.mp hv
          exact ⟨p, hp, e.symm⟩
        have gone : ∀ b, s.heap.objs.size ≤ b → s.heap.get? b = none := fun b hb => by
          cases z : s.heap.get? b with
          | none => rfl
          | some o => exact absurd (Nat.lt_of_lt_of_le (Heap.lt_size z) hb) (Nat.lt_irrefl _)
        have hgone : ∀ b ∈ [(s.heap.push (newS w)).objs.size], s.heap.get? b = none := fun b hb => gone b (by
          rw [List.mem_singleton.mp hb, hz1]
          exact Nat.le_succ _)
        refine set_update_tups ((Walks.tuple hin _ a hneI items).toS) s.heap.objs.size hSf ks hsz hfew hval s.heap hk (gone _ (Nat.le_refl _)) hgone hu (items.size - 0) 0 _ (by omega) (Nat.zero_le _)
          ⟨⟨_, Heap.get?_push_size _ rfl, rfl, rfl⟩, ht1.push _⟩ (fun b o e => Heap.get?_push_of_some _ (Heap.get?_push_of_some _ e)) ⟨[], #[], 0, _, setTR_fresh (Heap.get?_push_of_some _ hS), Got.zero ks⟩ fun s' L es ep t hm hS' g' hkp => ?_
        obtain ⟨h', g2, d', tk', os'⟩ := s'
        have eg : g2 = s.gens := hm.gens
        have ed : d' = s.drawn := hm.drawn
        have eo : os' = s.os := hm.os
        subst eg ed eo
        rw [hsz] at g'
        show wpAny _ _ _ _ _ _
        refine wpAny_pure ?_
        show wpAny _ _ (ret Value.none) _ _ _
        exact wpAny_pure ⟨rfl, h', tk', L, es, ep, t, rfl, hS', g', hkp⟩
      · cases r₂ with
        | error e => exact hr₂
        | ok fl₂ =>
          cases fl₂ with
          | ret r =>
            obtain ⟨rfl, h', tk, L, es, ep, t, rfl, hS', g', hk'⟩ := hr₂
            repeat (any_goals (first
              | assumption
              | wp_step))
            exact q _ _ _ _ _ _ hS' g' hk'
          | _ => exact hr₂.elim
    | _ => exact hr.elim
end
def rSetT (K : PySem.W.Frag) (P : Program) (w : World) : List V → Hp → VK → Prop := fun xs H Q => ∃ (l : Addr) (ks : List (Addr × List Int)), xs = [V.ref l] ∧ SqT K H l (ks.map fun p => V.ref p.1) ∧ (∀ p ∈ ks, SqT K H p.1 (p.2.map V.int)) ∧ ks.length < 64 ∧
  ∀ a L, H a = none → (∀ p ∈ L, p ∈ ks) → (∀ p ∈ ks, p.2 ∈ L.map (·.2)) → Q (.ref a) (upd H a (SetTO P w a L))
/-- set(xs), xs a tuple of fewer than 64 tuples of ints -/
theorem cr_setT {X : Cx} (hc : X.calm = true) (hu : X.A.units + 64 < cLine) : CallR X (.type "set") (rSetT X.K X.prog X.w) := by
  intro pins s σ H xs us Q I r h
  obtain ⟨l, ks, rfl, hl, hk, hf, q⟩ := h
  rw [Vals.ref1 r]
  obtain ⟨its, rv, ht, hz⟩ := I.tuple hl
  refine set_of_tup (P := X.prog) (w := X.w) ks (I.ok.hd hc) (show s.heap.IsTuple l its.toArray from ht) (by simpa using refs_of_vals rv) (fun p hp => I.isT (hk p hp)) hf (by omega) fun h' tk L es ep t R g k => ?_
  have hn : H s.heap.objs.size = none := I.hok.fresh (Nat.le_refl _)
  exact ⟨.ref s.heap.objs.size, upd H s.heap.objs.size (SetTO X.prog X.w s.heap.objs.size L), I.laid (t' := tk) k (Nat.le_refl _) (setTO_new R.t0), rfl, q _ L hn (fun p hp => List.mem_of_mem_take (g.sub p hp)) fun p hp => g.all p (by rw [List.take_length]; exact hp)⟩
theorem setT {X : Cx} {P : Program} {w : World} (K : PySem.W.Frag) (hc : X.calm = true) (hu : X.A.units + 64 < cLine) (h1 : X.K = K := by rfl) (h2 : X.prog = P := by rfl) (h3 : X.w = w := by rfl) : CallR X (.type "set") (rSetT K P w) := by
  subst h1 h2 h3
  exact cr_setT hc hu
theorem sortedT {X : Cx} {P : Program} {w : World} (K : PySem.W.Frag) (hc : X.calm = true) (h1 : X.K = K := by rfl) (h2 : X.prog = P := by rfl) (h3 : X.w = w := by rfl) : CallR X (.builtin "sorted") (rSortedT K P w) := by
  subst h1 h2 h3
  exact cr_sortedT hc
end Pf


namespace Pf
open PySem PySem.Spec PyProof.Rows L2
/-! ### enumerate of a text -/
def ItES (x : Str) : It :=
  ⟨fun i _ => i < x.cps.size, fun i H v H' => ∃ T c, v = .ref T ∧ H T = none ∧ H' = upd H T (.tup [.int (i : Nat), .str ⟨#[c]⟩]) ∧ x.cps[i]? = some c, fun i _ => i = x.cps.size⟩
theorem turn_es {P : Program} {w : World} {K : PySem.W.Frag} {elts : List Expr} {kk : Nat} {tpos : Pos} (x : Str) (t : Tok) (e it : Addr) :
    Turn P w K (.Tuple elts kk tpos) (ItES x) [e, it] e (fun i h => (∃ old, IsEnum h e it ((i : Nat) : Int) old) ∧ h.IsStrIter it (strIterType x) x t i ∧ e ≠ it) where
  mem := by simp
  obj := fun i h st b hb => by
    obtain ⟨⟨old, he⟩, ⟨o, ho, hc, hd⟩, _⟩ := st
    have e' : b = e ∨ b = it := by simpa using hb
    cases e' with
    | inl z =>
      rw [z]
      exact ⟨_, he, fun v q => nomatch q⟩
    | inr z =>
      rw [z]
      exact ⟨o, ho, fun v q => by rw [hd] at q; cases q⟩
  keep := fun i h h' st k => by
    obtain ⟨⟨old, he⟩, ⟨o, ho, r⟩, hne⟩ := st
    exact ⟨⟨old, k e (by simp) _ he⟩, ⟨o, k it (by simp) o ho, r⟩, hne⟩
  item := by
    intro X hP hw hK hc i pins s σ H E I hf st hg
    subst hP hw hK
    obtain ⟨⟨old, he⟩, hit, hne⟩ := st
    have hel : e < s.heap.objs.size := Heap.lt_size he
    have hil : it < s.heap.objs.size := by
      obtain ⟨_, q, _⟩ := hit
      exact Heap.lt_size q
    have D := Draws.text (prog := X.prog) (w := X.w) (A := X.A.in1) (show X.A.in1.handled = none from I.ok.hd hc) it x t
    refine wpAny_pyNext_enum_itemD D he hit hg hne (by simpa using hne) fun u h' tk hu ho hit' hT hsz hk => ?_
    obtain ⟨c, t2, hcx, rfl⟩ := hu
    refine ⟨_, rfl, wpAny_letOwnedTupleGo_enum (s := { s with heap := h', toks := tk + 1 }) ho fun h'' he' sb => ?_⟩
    have hT2 := (sb.2 _ (Nat.ne_of_gt hel)).trans hT
    have new : ObjOk X.prog X.w (upd H s.heap.objs.size (.tup [.int (i : Nat), .str ⟨#[c]⟩])) h'' s.heap.objs.size (.tup [.int (i : Nat), .str ⟨#[c]⟩]) :=
      ⟨by show 2 ≤ sizeLine; decide, [.int i tk, .str ⟨#[c]⟩ t2], .cons ⟨_, rfl⟩ (.cons ⟨_, rfl⟩ .nil), ⟨_, hT2, rfl, _, rfl⟩⟩
    have I1 : Inv X pins σ (upd H s.heap.objs.size (.tup [.int (i : Nat), .str ⟨#[c]⟩])) { s with heap := h'', toks := tk + 1 } :=
      I.turnedNew (ch := [e, it]) (fun b ob hb q => (sb.2 b (fun z => hb (by simp [z]))).trans (hk b ob (fun z => hb (by simp [z])) (fun z => hb (by simp [z])) q)) hf (Nat.le_refl _) new
    obtain ⟨oi, hoi, ri⟩ := hit'
    refine ⟨.ref s.heap.objs.size, _, I1, rfl, ⟨_, c, rfl, I.hok.fresh (Nat.le_refl _), rfl, hcx⟩, ⟨⟨.str ⟨#[c]⟩ t2, ?_⟩, ⟨oi, (sb.2 it (Ne.symm hne)).trans hoi, ri⟩, hne⟩, fun b hb => ?_⟩
    · have e1 : ((i + 1 : Nat) : Int) = (i : Int) + 1 := by omega
      rw [e1]
      exact he'
    · have hb' : b < s.heap.objs.size := by
        have e' : b = e ∨ b = it := by simpa using hb
        cases e' with
        | inl z => rw [z]; exact hel
        | inr z => rw [z]; exact hil
      rw [upd_ne (Nat.ne_of_lt hb')]
      exact (hf b hb).1
  done := by
    intro X hP hw hK hc i pins s σ H E I hf st hg
    subst hP hw hK
    obtain ⟨⟨old, he⟩, hit, hne⟩ := st
    have hi : i = x.cps.size := hg
    subst hi
    obtain ⟨f0, f1, f2, f3, f4, f5⟩ := hf it (by simp)
    have D := Draws.text (prog := X.prog) (w := X.w) (A := X.A.in1) (show X.A.in1.handled = none from I.ok.hd hc) it x t
    exact wpAny_pyNext_enum_endD D he hit fun h' eb => ⟨rfl, I.turned (t' := s.toks) (fun b o hb q => eb b o hb q) f0 f1 f3 f4 f5⟩
  self := fun A i s Q E st h => by
    obtain ⟨⟨_, he⟩, _⟩ := st
    exact wpAny_pyIter_enum he h
def iEnumS (ta : TA) : TI := fun σ H R => ta σ H fun vs H1 => ∃ x, vs = [.str x] ∧ R (ItES x) H1
theorem pi_enumS {X : Cx} {e : Expr} {ta : TA} {p pos tpos : Pos} {elts : List Expr} {kk : Nat} (hg : Gl X "enumerate") (hm : X.mg "enumerate" = none) (ha : PA X [e] ta) (hs : starEach [e] X.env = [(false, eval e X.env)] := by rfl) :
    PI X (.Tuple elts kk tpos) (.Call (.Name "enumerate" p) [e] [] pos) (iEnumS ta) := by
  refine ⟨fun pins s σ H R I h => ?_⟩
  refine Call_ (ld_blt I hg hm boot_enumerate (PyProof.Rows.callWith_type1 (thn (ha.run pos pins s σ H _ I h) fun us s1 ⟨vs, H1, I1, r1, q1⟩ => ?_) hs rfl))
  obtain ⟨x, rfl, q⟩ := q1
  obtain ⟨u, rfl, t, rfl⟩ := vals1 r1
  refine call_enumerate_str fun h' he hit hsz hk => wpAny_pyIter_enum he ?_
  refine ⟨s1.heap.objs.size + 1, [s1.heap.objs.size + 1, s1.heap.objs.size], _, _, H1, rfl, I1.kept (t' := s1.toks) hk, turn_es x t (s1.heap.objs.size + 1) s1.heap.objs.size, ⟨⟨.none, he⟩, hit, Nat.succ_ne_self _⟩, fun b hb => ?_, q⟩
  have e' : b = s1.heap.objs.size + 1 ∨ b = s1.heap.objs.size := by simpa using hb
  have hle : s1.heap.objs.size ≤ b := by
    cases e' with
    | inl z => rw [z]; exact Nat.le_add_right _ _
    | inr z => rw [z]; exact Nat.le_refl _
  exact I1.fpOk hle (I1.hok.fresh hle)
theorem for_es {x : Str} {g : TG} {tb : TS} {D : Ends} {σ : L2.St} {H : Hp} (Pv : Nat → L2.St → Hp → Prop) (h0 : Pv 0 σ H)
    (hs : ∀ i c T σ H, x.cps[i]? = some c → Pv i σ H → H T = none → g (.ref T) σ (upd H T (.tup [.int (i : Nat), .str ⟨#[c]⟩])) fun σ2 H2 => tb { D with nx := Pv (i + 1), ct := Pv (i + 1), bk := D.nx } σ2 H2) (hd : ∀ σ H, Pv x.cps.size σ H → D.nx σ H) :
    ∃ W : Nat → Nat → L2.St → Hp → Prop, (∃ m, W 0 m σ H) ∧ ∀ i m σ H, W i m σ H →
      ((ItES x).stop i H ∧ D.nx σ H) ∨ ((ItES x).go i H ∧ ∃ N : L2.St → Hp → Prop, (∀ σ' H', N σ' H' → ∃ m', m' < m ∧ W (i + 1) m' σ' H') ∧ ∀ y H', (ItES x).yld i H y H' → g y σ H' fun σ2 H2 => tb { D with nx := N, ct := N, bk := D.nx } σ2 H2) := by
  refine ⟨fun i m σ H => m = x.cps.size - i ∧ i ≤ x.cps.size ∧ Pv i σ H, ⟨x.cps.size, by simp, Nat.zero_le _, h0⟩, ?_⟩
  rintro i m σ H ⟨rfl, hi, p⟩
  by_cases hlt : i < x.cps.size
  · refine .inr ⟨hlt, Pv (i + 1), fun σ' H' p' => ⟨x.cps.size - (i + 1), by omega, rfl, hlt, p'⟩, fun y H' z => ?_⟩
    obtain ⟨T, c, rfl, hT, rfl, hc⟩ := z
    exact hs i c T σ _ hc p hT
  · have e : i = x.cps.size := by omega
    subst e
    exact .inl ⟨rfl, hd σ H p⟩
theorem lc_es {x : Str} {g : TG} {tt : TT} {te : TE} {vs : List Nat} {σ : L2.St} {H1 : Hp} {D : Addr} {Qd : Hp → Prop} (Pv : Nat → Hp → Prop) (h0 : Pv 0 (upd H1 D (.lst [])))
    (hs : ∀ i c T H, x.cps[i]? = some c → Pv i H → H T = none → g (.ref T) (wipe σ vs) (upd H T (.tup [.int (i : Nat), .str ⟨#[c]⟩])) fun σ2 H2 => wipe σ2 vs = wipe σ vs ∧ tt σ2 H2 fun b H3 =>
      if b = true then te σ2 H3 fun y H4 => ∃ acc, H4 D = some (.lst acc) ∧ acc.length < sizeLine ∧ Pv (i + 1) (upd H4 D (.lst (acc ++ [y]))) else Pv (i + 1) H3) (hd : ∀ H, Pv x.cps.size H → Qd H) :
    ∃ W : Nat → Nat → Hp → Prop, (∃ m, W 0 m (upd H1 D (.lst []))) ∧ ∀ i m H, W i m H →
      ((ItES x).stop i H ∧ Qd H) ∨ ((ItES x).go i H ∧ ∃ Nx : Hp → Prop, (∀ H', Nx H' → ∃ m', m' < m ∧ W (i + 1) m' H') ∧ ∀ y H', (ItES x).yld i H y H' → g y (wipe σ vs) H' fun σ2 H2 => wipe σ2 vs = wipe σ vs ∧ tt σ2 H2 fun b H3 =>
        if b = true then te σ2 H3 fun y H4 => ∃ acc, H4 D = some (.lst acc) ∧ acc.length < sizeLine ∧ Nx (upd H4 D (.lst (acc ++ [y]))) else Nx H3) := by
  refine ⟨fun i m H => m = x.cps.size - i ∧ i ≤ x.cps.size ∧ Pv i H, ⟨x.cps.size, by simp, Nat.zero_le _, h0⟩, ?_⟩
  rintro i m H ⟨rfl, hi, p⟩
  by_cases hlt : i < x.cps.size
  · refine .inr ⟨hlt, Pv (i + 1), fun H' p' => ⟨x.cps.size - (i + 1), by omega, rfl, hlt, p'⟩, fun y H' z => ?_⟩
    obtain ⟨T, c, rfl, hT, rfl, hc⟩ := z
    exact hs i c T _ hc p hT
  · have e : i = x.cps.size := by omega
    subst e
    exact .inl ⟨rfl, hd H p⟩
/-! ### a text backwards: some text, no longer -/
def tRevS (te : TE) : TE := fun σ H Q => te σ H fun x H1 => ∃ z : Str, x = .str z ∧ z.length ≤ sizeLine ∧ ∀ y : Str, y.length ≤ z.length → (∀ c ∈ y.cps.toList, c ∈ z.cps.toList) → Q (.str y) H1
theorem sliceBy_mem (x : Str) (l u : Option (Int × Tok)) (st : Int × Tok) : ∀ c ∈ (Txt.sliceBy x l u st).cps.toList, c ∈ x.cps.toList := by
  intro c hc
  unfold Txt.sliceBy at hc
  split at hc
  · exact hc
  · have hc : c ∈ List.filterMap (x.cps[·]?) _ := hc
    obtain ⟨i, _, hi⟩ := List.mem_filterMap.mp hc
    exact Array.mem_toList_iff.mpr (Array.mem_of_getElem? hi)
theorem pe_revS {X : Cx} {e : Expr} {te : TE} {k : Nat} {p1 p2 p3 pos : Pos} (he : PE X e te) : PE X (.Subscript e (.Slice none none (some (.UnaryOp .USub (.Constant (.int 1) k p1) p2)) p3) pos) (tRevS te) := by
  refine ⟨fun pins s σ H Q I h => ?_⟩
  refine Subscript_ (thn (he.run pins s σ H _ I h) fun v s1 ⟨x, H1, I1, r1, q1⟩ => ?_)
  obtain ⟨z, rfl, hz, q⟩ := q1
  obtain ⟨t, rfl⟩ := r1
  have hst : PO X (some (.UnaryOp .USub (.Constant (.int 1) k p1) p2)) (tPart (tUn (rU fun i => .int (-i)) (tC (.int 1)))) := po_some (pe_un un_neg pe_int)
  refine wpAny_Slice (thn (po_none.run pins s1 σ H1 (fun o H2 => o = none ∧ H2 = H1) I1 ⟨rfl, rfl⟩) fun vl s2 ⟨l, H2, I2, pl, el, e2⟩ => ?_)
  subst el e2
  refine thn (po_none.run pins s2 σ H2 (fun o H3 => o = none ∧ H3 = H2) I2 ⟨rfl, rfl⟩) fun vu s3 ⟨u, H3, I3, pu, eu, e3⟩ => ?_
  subst eu e3
  refine thn (hst.run pins s3 σ H3 (fun o H4 => o = some (-1) ∧ H4 = H3) I3 ⟨1, rfl, -1, rfl, rfl, rfl⟩) fun vs s4 ⟨o, H4, I4, ps, eo, e4⟩ => ?_
  subst eo e4
  cases pl
  cases pu
  cases ps with
  | int i t5 =>
    refine tail_any (ops := [.str z t, .ref s4.heap.objs.size]) (typeIs_str _ _ _) (PySem.F.slot_str_getitem.lookup) ?_ (by with_unfolding_all rfl)
    refine wpAny_getItem_str_slice (l := none) (u := none) (st := some (-1, t5)) ⟨_, Heap.get?_push_size _ rfl, rfl, rfl⟩ rfl ?_
    refine post_val_or_str ⟨Nat.le_trans (Txt.sliceBy_le z none none (-1, t5) (show (-1 : Int) ≠ 0 by decide)) hz, fun t6 tk => ?_⟩
    exact ⟨.str _, H4, (I4.kept (t' := tk) fun b ob q => Heap.get?_push_of_some _ q), ⟨_, rfl⟩, q _ (Txt.sliceBy_le z none none (-1, t5) (show (-1 : Int) ≠ 0 by decide)) (sliceBy_mem z none none (-1, t5))⟩
end Pf


namespace Pf
open PySem PySem.Spec PyProof.Rows L2
/-! ### enumerate of a tuple -/
abbrev EnO (a : Addr) : Obj := { cls := .type "enumerate", data := .fields #[.none, .bool false, .ref a, rawInt 0, .none, .none] }
theorem meets_en1 {u : Value} {ob : Obj} {G : Heap → Prop} (B : Begins u ob G) : Meets (Builtin.«enumerate.__new__» ⟨[.type "enumerate", u], []⟩) (fun _ R s => G s.heap ∧ R (.ok (.ret (.ref (s.heap.push ob).objs.size))) { s with heap := (s.heap.push ob).push (EnO s.heap.objs.size) }) :=
  .of_wp fun prog w A R s z => by
    obtain ⟨hp, g, d, tk, os⟩ := s
    obtain ⟨z1, z⟩ := z
    have hse := sub_enumerate
    have q : ∀ {A' : Around} {E : Value → Shared → Prop} {Q : Value → Shared → Prop}, Q (.ref hp.objs.size) ⟨hp.push ob, g, d, tk, os⟩ → wpAny (model prog w) A' (pyIter u) Q E ⟨hp, g, d, tk, os⟩ := fun r => B.iter prog w _ _ ⟨hp, g, d, tk, os⟩ _ z1 r
    wp_walk using q
    refine wpAny_stack_any fun sk => wpAny_pure ?_
    split
    · rename_i c _ _ _ _ _
      cases ec : (c == Value.type "enumerate")
      · wp_walk using q
        exact ⟨_, rfl, z⟩
      · wp_walk using q
        exact ⟨_, rfl, z⟩
    · wp_walk using q
      exact ⟨_, rfl, z⟩
theorem en1_begins {P : Program} {w : World} {A : Around} {E : Value → Shared → Prop} {s : Shared} {u : Value} {ob : Obj} {G : Heap → Prop} {Q : Value → Shared → Prop} (B : Begins u ob G) (z1 : G s.heap)
    (z : ∀ h', IsEnum h' (s.heap.objs.size + 1) s.heap.objs.size 0 .none → h'.get? s.heap.objs.size = some ob → h'.objs.size = s.heap.objs.size + 2 → (∀ b o, s.heap.get? b = some o → h'.get? b = some o) → Q (.ref (s.heap.objs.size + 1)) { s with heap := h' }) :
    wpAny (model P w) A (call (.type "enumerate") [u]) Q E s := by
  refine callType_new F.called_enumerate (by decide) (F.typeCall_enumerate_1 _) (F.newCall_enumerate_1 _) (fun obj => F.args_object_init_2 obj _) F.entry_enumerate_new (meets_en1 B) ⟨z1, ?_⟩
  have e1 : (s.heap.push ob).objs.size = s.heap.objs.size + 1 := Heap.size_push ..
  show _ ∧ _
  rw [e1]
  have hen : IsEnum ((s.heap.push ob).push (EnO s.heap.objs.size)) (s.heap.objs.size + 1) s.heap.objs.size 0 .none := by
    have := Heap.get?_push_size (s.heap.push ob) (o := EnO s.heap.objs.size) rfl
    rw [e1] at this
    exact this
  exact ⟨⟨_, hen, rfl⟩, z _ hen (Heap.get?_push_of_some _ (Heap.get?_push_size _ B.free)) (by rw [Heap.size_push, e1]) fun b o y => Heap.get?_push_of_some _ (Heap.get?_push_of_some _ y)⟩
def ItET (K : PySem.W.Frag) (a : Addr) : It :=
  ⟨fun i H => ∃ (xs : List V) (x : V), SqT K H a xs ∧ xs[i]? = some x, fun i H v H' => ∃ T x, v = .ref T ∧ H T = none ∧ H' = upd H T (.tup [.int (i : Nat), x]) ∧ ∀ xs, SqT K H a xs → xs[i]? = some x, fun i H => ∃ xs : List V, SqT K H a xs ∧ xs.length = i⟩
theorem turn_et {P : Program} {w : World} {K : PySem.W.Frag} {elts : List Expr} {kk : Nat} {tpos : Pos} (a e it : Addr) :
    Turn P w K (.Tuple elts kk tpos) (ItET K a) [e, it] e (fun i h => (∃ old, IsEnum h e it ((i : Nat) : Int) old) ∧ h.IsTupleIter it a i ∧ e ≠ it ∧ e ≠ a ∧ a ≠ it) where
  mem := by simp
  obj := fun i h st b hb => by
    obtain ⟨⟨old, he⟩, ⟨o, ho, hc, hd⟩, _⟩ := st
    have e' : b = e ∨ b = it := by simpa using hb
    cases e' with
    | inl z =>
      rw [z]
      exact ⟨_, he, fun v q => nomatch q⟩
    | inr z =>
      rw [z]
      exact ⟨o, ho, fun v q => by rw [hd] at q; cases q⟩
  keep := fun i h h' st k => by
    obtain ⟨⟨old, he⟩, ⟨o, ho, r⟩, hne⟩ := st
    exact ⟨⟨old, k e (by simp) _ he⟩, ⟨o, k it (by simp) o ho, r⟩, hne⟩
  item := by
    intro X hP hw hK hc i pins s σ H E I hf st hg
    subst hP hw hK
    obtain ⟨⟨old, he⟩, hit, hne, hea, hai⟩ := st
    obtain ⟨xs, x, hq, hx⟩ := hg
    obtain ⟨its, rv, pt, hz⟩ := I.tuple hq
    obtain ⟨u, hu, ru⟩ := rv.get hx
    have hel : e < s.heap.objs.size := Heap.lt_size he
    have hil : it < s.heap.objs.size := by
      obtain ⟨_, q, _⟩ := hit
      exact Heap.lt_size q
    have hti : s.heap.IsTuple a its.toArray := pt
    have D := Draws.tuple (prog := X.prog) (w := X.w) (A := X.A.in1) (show X.A.in1.handled = none from I.ok.hd hc) it a hai its.toArray
    refine wpAny_pyNext_enum_itemD D he ⟨hit, hti⟩ (by have := (List.getElem?_eq_some_iff.mp hu).1; simpa using this) hne (by simp [hne, hea]) fun y h' tk hy ho hit' hT hsz hk => ?_
    have ey : y = u := by
      have h2 : its[i]? = some y := by simpa using hy
      rw [hu] at h2
      exact (Option.some.inj h2).symm
    subst ey
    refine ⟨_, rfl, wpAny_letOwnedTupleGo_enum (s := { s with heap := h', toks := tk + 1 }) ho fun h'' he' sb => ?_⟩
    have hT2 := (sb.2 _ (Nat.ne_of_gt hel)).trans hT
    have new : ObjOk X.prog X.w (upd H s.heap.objs.size (.tup [.int (i : Nat), x])) h'' s.heap.objs.size (.tup [.int (i : Nat), x]) :=
      ⟨by show 2 ≤ sizeLine; decide, [.int i tk, y], .cons ⟨_, rfl⟩ (.cons ru .nil), ⟨_, hT2, rfl, _, rfl⟩⟩
    have I1 : Inv X pins σ (upd H s.heap.objs.size (.tup [.int (i : Nat), x])) { s with heap := h'', toks := tk + 1 } :=
      I.turnedNew (ch := [e, it]) (fun b ob hb q => (sb.2 b (fun z => hb (by simp [z]))).trans (hk b ob (fun z => hb (by simp [z])) (fun z => hb (by simp [z])) q)) hf (Nat.le_refl _) new
    obtain ⟨oi, hoi, ri⟩ := hit'.1
    refine ⟨.ref s.heap.objs.size, _, I1, rfl, ⟨_, x, rfl, I.hok.fresh (Nat.le_refl _), rfl, fun ys hy => by rw [I.tuple_inj hy hq]; exact hx⟩, ⟨⟨y, ?_⟩, ⟨oi, (sb.2 it (Ne.symm hne)).trans hoi, ri⟩, hne, hea, hai⟩, fun b hb => ?_⟩
    · have e1 : ((i + 1 : Nat) : Int) = (i : Int) + 1 := by omega
      rw [e1]
      exact he'
    · have hb' : b < s.heap.objs.size := by
        have e' : b = e ∨ b = it := by simpa using hb
        cases e' with
        | inl z => rw [z]; exact hel
        | inr z => rw [z]; exact hil
      rw [upd_ne (Nat.ne_of_lt hb')]
      exact (hf b hb).1
  done := by
    intro X hP hw hK hc i pins s σ H E I hf st hg
    subst hP hw hK
    obtain ⟨⟨old, he⟩, hit, hne, hea, hai⟩ := st
    obtain ⟨xs, hq, hx⟩ := hg
    obtain ⟨its, rv, pt, hz⟩ := I.tuple hq
    have hln := rv.length
    obtain ⟨f0, f1, f2, f3, f4, f5⟩ := hf it (by simp)
    have hti : s.heap.IsTuple a its.toArray := pt
    have D := Draws.tuple (prog := X.prog) (w := X.w) (A := X.A.in1) (show X.A.in1.handled = none from I.ok.hd hc) it a hai its.toArray
    have ei : its.toArray.size = i := by
      rw [List.size_toArray]
      omega
    exact wpAny_pyNext_enum_endD D he ⟨by rw [ei]; exact hit, hti⟩ fun h' eb => ⟨rfl, I.turned (t' := s.toks) (fun b o hb q => eb b o hb q) f0 f1 f3 f4 f5⟩
  self := fun A i s Q E st h => by
    obtain ⟨⟨_, he⟩, _⟩ := st
    exact wpAny_pyIter_enum he h
def iEnumT (K : PySem.W.Frag) (ta : TA) : TI := fun σ H R => ta σ H fun vs H1 => ∃ a xs, vs = [.ref a] ∧ SqT K H1 a xs ∧ R (ItET K a) H1
theorem pi_enumT {X : Cx} {e : Expr} {ta : TA} {p pos tpos : Pos} {elts : List Expr} {kk : Nat} (hg : Gl X "enumerate") (hm : X.mg "enumerate" = none) (ha : PA X [e] ta) (hs : starEach [e] X.env = [(false, eval e X.env)] := by rfl) :
    PI X (.Tuple elts kk tpos) (.Call (.Name "enumerate" p) [e] [] pos) (iEnumT X.K ta) := by
  refine ⟨fun pins s σ H R I h => ?_⟩
  refine Call_ (ld_blt I hg hm boot_enumerate (PyProof.Rows.callWith_type1 (thn (ha.run pos pins s σ H _ I h) fun us s1 ⟨vs, H1, I1, r1, q1⟩ => ?_) hs rfl))
  obtain ⟨a, xs, rfl, hq, q⟩ := q1
  obtain ⟨u, rfl, er⟩ := vals1 r1
  cases er
  obtain ⟨its, rv, pt, hz⟩ := I1.tuple hq
  have hti : s1.heap.IsTuple a its.toArray := pt
  have hal : a < s1.heap.objs.size := by
    obtain ⟨_, q, _⟩ := hti
    exact Heap.lt_size q
  refine en1_begins (begins_tuple a its.toArray) hti fun h' he hit hsz hk => wpAny_pyIter_enum he ?_
  refine ⟨s1.heap.objs.size + 1, [s1.heap.objs.size + 1, s1.heap.objs.size], _, _, H1, rfl, I1.kept (t' := s1.toks) hk, turn_et a (s1.heap.objs.size + 1) s1.heap.objs.size, ⟨⟨.none, he⟩, ⟨_, hit, rfl, rfl⟩, Nat.succ_ne_self _, Nat.ne_of_gt (Nat.lt_succ_of_lt hal), Nat.ne_of_lt hal⟩, fun b hb => ?_, q⟩
  have e' : b = s1.heap.objs.size + 1 ∨ b = s1.heap.objs.size := by simpa using hb
  have hle : s1.heap.objs.size ≤ b := by
    cases e' with
    | inl z => rw [z]; exact Nat.le_add_right _ _
    | inr z => rw [z]; exact Nat.le_refl _
  exact I1.fpOk hle (I1.hok.fresh hle)
theorem walk_et {K : PySem.W.Frag} {a : Addr} {xs : List V} : Walk (ItET K a) xs.length (fun H => SqT K H a xs) (YPair (fun i => some (.int (i : Nat))) (fun i => xs[i]?)) :=
  ⟨fun i H hi q => ⟨xs, _, q, List.getElem?_eq_getElem hi⟩, fun H q => ⟨xs, q, rfl⟩, fun i H x H' hi q ⟨T, y, e1, e2, e3, e4⟩ => ⟨T, _, y, e1, e2, e3, rfl, e4 xs q⟩⟩
theorem walk_zt {K : PySem.W.Frag} {a b : Addr} {xs ys : List V} {n : Nat} (hn : n = min xs.length ys.length) : Walk (RZ.ItzT K a b) n (fun H => SqT K H a xs ∧ SqT K H b ys) (YPair (fun i => xs[i]?) (fun i => ys[i]?)) := by
  subst hn
  refine ⟨fun i H hi q => ⟨xs, ys, _, _, q.1, q.2, List.getElem?_eq_getElem (by omega), List.getElem?_eq_getElem (by omega)⟩, fun H q => ⟨xs, ys, q.1, q.2, by omega⟩, fun i H x H' hi q ⟨T, y, z, e1, e2, e3, e4, e5⟩ => ⟨T, y, z, e1, e2, e3, e4 xs q.1, e5 ys q.2⟩⟩
/-! ### two fors in a comprehension -/
def LcIn (J1 : It) (g1 : TG) (tt1 : TT) (te : TE) (vs1 : List Nat) (σ2 : L2.St) (D : Addr) (H4 : Hp) (Nx : Hp → Prop) : Prop := ∃ W1 : Nat → Nat → Hp → Prop, (∃ m, W1 0 m H4) ∧ ∀ j k H, W1 j k H →
  (J1.stop j H ∧ Nx H) ∨ (J1.go j H ∧ ∃ Nx1 : Hp → Prop, (∀ H', Nx1 H' → ∃ k', k' < k ∧ W1 (j + 1) k' H') ∧ ∀ x H', J1.yld j H x H' → g1 x (wipe σ2 vs1) H' fun σ3 H5 => wipe σ3 vs1 = wipe σ2 vs1 ∧ tt1 σ3 H5 fun b H6 => if b = true then te σ3 H6 fun y H7 => ∃ acc, H7 D = some (.lst acc) ∧ acc.length < sizeLine ∧ Nx1 (upd H7 D (.lst (acc ++ [y]))) else Nx1 H6)
theorem lc_in {J1 : It} {n : Nat} {G : Hp → Prop} {Y : Nat → Hp → V → Hp → Prop} (w : Walk J1 n G Y) {g1 : TG} {tt1 : TT} {te : TE} {vs1 : List Nat} {σ2 : L2.St} {D : Addr} {H4 : Hp} {Nx : Hp → Prop} (Pv : Nat → Hp → Prop) (h0 : Pv 0 H4) (hG : ∀ i H, i ≤ n → Pv i H → G H)
    (hs : ∀ i x H H', i < n → Pv i H → Y i H x H' → g1 x (wipe σ2 vs1) H' fun σ3 H5 => wipe σ3 vs1 = wipe σ2 vs1 ∧ tt1 σ3 H5 fun b H6 => if b = true then te σ3 H6 fun y H7 => ∃ acc, H7 D = some (.lst acc) ∧ acc.length < sizeLine ∧ Pv (i + 1) (upd H7 D (.lst (acc ++ [y]))) else Pv (i + 1) H6)
    (hd : ∀ H, Pv n H → Nx H) : LcIn J1 g1 tt1 te vs1 σ2 D H4 Nx := by
  refine ⟨fun i m H => m = n - i ∧ i ≤ n ∧ Pv i H, ⟨n, rfl, Nat.zero_le _, h0⟩, ?_⟩
  rintro i m H ⟨rfl, hi, pv⟩
  have hq := hG i H hi pv
  by_cases hlt : i < n
  · exact .inr ⟨w.goes i H hlt hq, Pv (i + 1), fun H' p' => ⟨n - (i + 1), by omega, rfl, hlt, p'⟩, fun x H' y => hs i x H H' hlt pv (w.yields i H x H' hlt hq y)⟩
  · obtain rfl : i = n := by omega
    exact .inl ⟨w.stops H hq, hd H pv⟩
theorem lc_two {J : It} {n : Nat} {G : Hp → Prop} {Y : Nat → Hp → V → Hp → Prop} (w : Walk J n G Y) {g : TG} {tt : TT} {wi1 : TI} {g1 : TG} {tt1 : TT} {te : TE} {vs vs1 : List Nat} {σ : L2.St} {H1 : Hp} {D : Addr} {Qd : Hp → Prop} (Pv : Nat → Hp → Prop) (h0 : Pv 0 (upd H1 D (.lst []))) (hG : ∀ i H, i ≤ n → Pv i H → G H)
    (hs : ∀ i x H H', i < n → Pv i H → Y i H x H' → g x (wipe σ vs) H' fun σ2 H2 => wipe σ2 vs = wipe σ vs ∧ tt σ2 H2 fun b H3 => if b = true then wi1 σ2 H3 fun J1 H4 => LcIn J1 g1 tt1 te vs1 σ2 D H4 (Pv (i + 1)) else Pv (i + 1) H3)
    (hd : ∀ H, Pv n H → Qd H) :
    ∃ W : Nat → Nat → Hp → Prop, (∃ m, W 0 m (upd H1 D (.lst []))) ∧ ∀ i m H, W i m H → (J.stop i H ∧ Qd H) ∨ (J.go i H ∧ ∃ Nx : Hp → Prop, (∀ H', Nx H' → ∃ m', m' < m ∧ W (i + 1) m' H') ∧ ∀ x H', J.yld i H x H' → g x (wipe σ vs) H' fun σ2 H2 => wipe σ2 vs = wipe σ vs ∧ tt σ2 H2 fun b H3 =>
      if b = true then wi1 σ2 H3 fun J1 H4 => LcIn J1 g1 tt1 te vs1 σ2 D H4 Nx else Nx H3) := by
  refine ⟨fun i m H => m = n - i ∧ i ≤ n ∧ Pv i H, ⟨n, rfl, Nat.zero_le _, h0⟩, ?_⟩
  rintro i m H ⟨rfl, hi, pv⟩
  have hq := hG i H hi pv
  by_cases hlt : i < n
  · exact .inr ⟨w.goes i H hlt hq, Pv (i + 1), fun H' p' => ⟨n - (i + 1), by omega, rfl, hlt, p'⟩, fun x H' y => hs i x H H' hlt pv (w.yields i H x H' hlt hq y)⟩
  · obtain rfl : i = n := by omega
    exact .inl ⟨w.stops H hq, hd H pv⟩
/-! ### tuples of numbers compared; truths by identity -/
theorem ltT (K : PySem.W.Frag) {X : Cx} (hu : X.A.units < cLine) (h : X.K = K := by rfl) : OpR X (compareOp .Lt) (rLtT K) := h ▸ op_ltT hu
theorem lex2 (a b c d : Int) : HT.lexLt [a, b] [c, d] = decide (a < c ∨ (a = c ∧ b < d)) := by
  rw [HT.lexLt_cons, HT.lexLt_cons, HT.lexLt_nil_nil]
  by_cases e : a = c
  · rw [if_pos e]
    by_cases e2 : b = d
    · rw [if_pos e2]
      exact (decide_eq_false (by omega)).symm
    · rw [if_neg e2]
      exact decide_eq_decide.mpr (by omega)
  · rw [if_neg e]
    exact decide_eq_decide.mpr (by omega)
/-! ### parts of tuples -/
theorem piT (K : PySem.W.Frag) {X : Cx} {tg l : Expr} {tl : TE} (hl : PE X l tl) (h : X.K = K := by rfl) : PI X tg l (iTup K tl) := by
  subst h
  exact pi_tup hl
theorem piL (K : PySem.W.Frag) {X : Cx} {tg l : Expr} {tl : TE} (hl : PE X l tl) (h : X.K = K := by rfl) : PI X tg l (iList K tl) := by
  subst h
  exact pi_list hl
/-- a part of a tuple: the same one, or another -/
def rSlE (K : PySem.W.Frag) : V → Option Int → Option Int → Hp → VK → Prop := fun x lo hi H Q => ∃ a xs, x = .ref a ∧ H a = some (.tup xs) ∧ ∀ p H', Ext H H' → H' p = some (.tup (cutV xs lo hi)) → Q (.ref p) H'
theorem slE (K : PySem.W.Frag) {X : Cx} (h : X.K = K := by rfl) : SlR X (rSlE K) := fun pins s σ H x v vl vu lo hi sl Q I rx hs pl pu ⟨a, xs, ex, ha, q⟩ => by
  refine slA K h pins s σ H x v vl vu lo hi sl Q I rx hs pl pu ⟨a, xs, ex, SqT.of ha, fun z => ?_, fun _ p hp => q p _ (Ext.new hp) upd_same⟩
  refine q a H Ext.refl ?_
  have e : cutV xs lo hi = xs := by
    unfold cutV
    rw [z.1, z.2, List.drop_zero, Nat.sub_zero, List.take_length]
  rw [e]
  exact ha
theorem cut_from {xs : List V} {k : Nat} : cutV xs (some (k : Int)) none = xs.drop k := by
  unfold cutV
  have e1 : HT.sIx xs.length 0 (some (k : Int)) = min k xs.length := HT.sIx_nat _ _ _
  have e2 : HT.sIx xs.length xs.length none = xs.length := rfl
  rw [e1, e2, List.take_of_length_le (by rw [List.length_drop]; omega)]
  by_cases h : k ≤ xs.length
  · rw [Nat.min_eq_left h]
  · rw [Nat.min_eq_right (by omega), List.drop_length, List.drop_eq_nil_of_le (by omega)]
theorem cut_to {xs : List V} {k : Nat} : cutV xs none (some (k : Int)) = xs.take k := by
  unfold cutV
  have e1 : HT.sIx xs.length 0 none = 0 := rfl
  have e2 : HT.sIx xs.length xs.length (some (k : Int)) = min k xs.length := HT.sIx_nat _ _ _
  rw [e1, e2, List.drop_zero, Nat.sub_zero]
  by_cases h : k ≤ xs.length
  · rw [Nat.min_eq_left h]
  · rw [Nat.min_eq_right (by omega), List.take_length, List.take_of_length_le (by omega)]
theorem paired_take {α β : Type} {R : α → β → Prop} : ∀ {xs : List α} {ys : List β} (k : Nat), Paired R xs ys → Paired R (xs.take k) (ys.take k)
  | _, _, 0, _ => by rw [List.take_zero, List.take_zero]; exact .nil
  | _, _, k + 1, .nil => by rw [List.take_nil, List.take_nil]; exact .nil
  | _, _, k + 1, .cons r t => by rw [List.take_succ_cons, List.take_succ_cons]; exact .cons r (paired_take k t)
theorem paired_drop {α β : Type} {R : α → β → Prop} : ∀ {xs : List α} {ys : List β} (k : Nat), Paired R xs ys → Paired R (xs.drop k) (ys.drop k)
  | _, _, 0, h => by rw [List.drop_zero, List.drop_zero]; exact h
  | _, _, k + 1, .nil => by rw [List.drop_nil, List.drop_nil]; exact .nil
  | _, _, k + 1, .cons r t => by rw [List.drop_succ_cons, List.drop_succ_cons]; exact paired_drop k t
/-- two tuples put together: one of them, or another -/
def rCatE (K : PySem.W.Frag) : R2 := fun x y H Q => ∃ a b xs ys, x = .ref a ∧ y = .ref b ∧ H a = some (.tup xs) ∧ H b = some (.tup ys) ∧ xs.length + ys.length ≤ sizeLine ∧ ∀ p H', Ext H H' → H' p = some (.tup (xs ++ ys)) → Q (.ref p) H'
theorem catE (K : PySem.W.Frag) {X : Cx} (h : X.K = K := by rfl) : OpR X (binaryOp .Add) (rCatE K) := fun pins s σ H x y v u Q I rx ry ⟨a, b, xs, ys, ex, ey, ha, hb, hz, q⟩ => by
  refine catA K h pins s σ H x y v u Q I rx ry ⟨a, b, xs, ys, ex, ey, SqT.of ha, SqT.of hb, hz, fun z => ?_, fun _ z => ?_, fun _ _ p hp => q p _ (Ext.new hp) upd_same⟩
  · exact q b H Ext.refl (by rw [z]; exact hb)
  · exact q a H Ext.refl (by rw [z, List.append_nil]; exact ha)
end Pf


namespace Pf
open PySem PySem.Spec PyProof.Rows L2
/-! ### dict(zip(a, b)) of two tuples -/
section
variable {P : Program} {w : World} {A : Around} {E : Value → Shared → Prop} {s : Shared} {q U O G j1 j2 m1 m2 : Addr} {f : Bool} {og : Obj} {k1 k2 : Nat} {us vs : Array Value}
theorem zn_item {u v : Value} {R : Value → Shared → Prop} (D : ZipApart q U O j1 j2 m1 m2) (hq : IsZipHeld s.heap q U O G f) (hG : s.heap.get? G = some og) (hU : IsPair s.heap U (.ref j1) (.ref j2)) (t1 : s.heap.IsTupleIter j1 m1 k1) (t2 : s.heap.IsTupleIter j2 m2 k2) (b1 : s.heap.IsTuple m1 us) (b2 : s.heap.IsTuple m2 vs) (eu : us[k1]? = some u) (ev : vs[k2]? = some v)
    (next : ∀ h', IsZipHeld h' q U O G true → h'.IsTupleIter j1 m1 (k1 + 1) → h'.IsTupleIter j2 m2 (k2 + 1) → IsPair h' s.heap.objs.size u v → (∀ c o, c ≠ q → c ≠ j1 → c ≠ j2 → s.heap.get? c = some o → h'.get? c = some o) → R (.ref s.heap.objs.size) { s with heap := h' }) :
    wpAny (model P w) A (Builtin.«zip.__next__» ⟨[.ref q], []⟩) (fun fin s' => ∃ v, fin = .done (.ret v) ∧ R v s') E s := by
  show wpAny _ _ (field (.ref q) 2 >>= _) _ _ _
  refine wpAny_bind (wpAny_field hq rfl (x := .bool false) rfl ?_)
  show wpAny _ _ (field (.ref q) 3 >>= _) _ _ _
  refine wpAny_bind (wpAny_field hq rfl (x := .ref U) rfl (wpAny_bind (wpAny_seqItems hU rfl ?_)))
  show wpAny _ _ (Builtin.SmallTypes.ownedTupleIsFree (.ref q) >>= _) _ _ _
  refine wpAny_bind (wpAny_tupleHeld_zip hq hG fun g1 q1 e1 => ?_)
  simp only [Bool.false_eq_true, if_false]; refine wpAny_bind ?_; rw [← Array.forIn_toList]; simp only [List.forIn_cons, List.forIn_nil]
  refine wpAny_bind (wpAny_bind (wpAny_holding ?_))
  show wpAny _ _ (Builtin.SmallTypes.nextOf (.ref j1) >>= _) _ _ _
  refine wpAny_bind (RZ.nextOf_tuple_item (s := { s with heap := g1 }) (t1.extBut e1.extBut D.i1z) (b1.extBut e1.extBut D.l1z) eu fun g2 t1b e2 => wpAny_pure (wpAny_pure ?_))
  refine wpAny_bind (wpAny_bind (wpAny_holding ?_))
  show wpAny _ _ (Builtin.SmallTypes.nextOf (.ref j2) >>= _) _ _ _
  refine wpAny_bind (RZ.nextOf_tuple_item (s := { s with heap := g2 }) ((t2.extBut e1.extBut D.i2z).extBut e2.extBut D.i12.symm) ((b2.extBut e1.extBut D.l2z).extBut e2.extBut D.l2i1) ev fun g3 t2b e3 => wpAny_pure (wpAny_pure (wpAny_pure ?_)))
  show wpAny _ _ (newTuple [u, v] >>= _) _ _ _
  refine wpAny_bind (wpAny_newTuple (wpAny_pure ⟨_, rfl, ?_⟩))
  have sz : g3.objs.size = s.heap.objs.size := by rw [e3.1, e2.1, e1.1]
  have q3 : IsZipHeld g3 q U O G true := e3.extBut _ _ D.i2z.symm (e2.extBut _ _ D.i1z.symm q1)
  have pr : IsPair (g3.push { cls := .type "tuple", data := .seq #[u, v] }) g3.objs.size u v := Heap.get?_push_size _ rfl
  show R (.ref g3.objs.size) _
  rw [sz] at pr ⊢
  exact next _ (Heap.get?_push_of_some _ q3) ((t1b.extBut e3.extBut D.i12).at fun o e => Heap.get?_push_of_some _ e) (t2b.at fun o e => Heap.get?_push_of_some _ e) pr fun c o c1 c2 c3 e => Heap.get?_push_of_some _ (e3.extBut _ _ c3 (e2.extBut _ _ c2 (e1.extBut _ _ c1 e)))
theorem zn_end {R : Fin → Shared → Prop} (hh : A.handled = none) (D : ZipApart q U O j1 j2 m1 m2) (hq : IsZipHeld s.heap q U O G f) (hG : s.heap.get? G = some og) (hU : IsPair s.heap U (.ref j1) (.ref j2)) (t1 : s.heap.IsTupleIter j1 m1 k1) (b1 : s.heap.IsTuple m1 us) (eu : us[k1]? = none)
    (next : ∀ h' e, (∀ c o, c ≠ q → c ≠ j1 → s.heap.get? c = some o → h'.get? c = some o) → (∃ o, h'.get? e = some o ∧ o.cls = .type "StopIteration") → E (.ref e) { s with heap := h' }) :
    wpAny (model P w) A (Builtin.«zip.__next__» ⟨[.ref q], []⟩) R E s := by
  show wpAny _ _ (field (.ref q) 2 >>= _) _ _ _
  refine wpAny_bind (wpAny_field hq rfl (x := .bool false) rfl ?_)
  show wpAny _ _ (field (.ref q) 3 >>= _) _ _ _
  refine wpAny_bind (wpAny_field hq rfl (x := .ref U) rfl (wpAny_bind (wpAny_seqItems hU rfl ?_)))
  show wpAny _ _ (Builtin.SmallTypes.ownedTupleIsFree (.ref q) >>= _) _ _ _
  refine wpAny_bind (wpAny_tupleHeld_zip hq hG fun g1 q1 e1 => ?_)
  simp only [Bool.false_eq_true, if_false]; refine wpAny_bind ?_; rw [← Array.forIn_toList]; simp only [List.forIn_cons, List.forIn_nil]
  refine wpAny_bind (wpAny_bind (wpAny_holding ?_))
  show wpAny _ _ (Builtin.SmallTypes.nextOf (.ref j1) >>= _) _ _ _
  exact wpAny_bind (RZ.nextOf_tuple_end (s := { s with heap := g1 }) hh (t1.extBut e1.extBut D.i1z) (b1.extBut e1.extBut D.l1z) eu fun g2 e e2 he => next g2 e (fun c o c1 c2 x => e2 _ _ c2 (e1.extBut _ _ c1 x)) he)
theorem zp_item {u v : Value} {R : Option Value → Shared → Prop} (D : ZipApart q U O j1 j2 m1 m2) (hq : IsZipHeld s.heap q U O G f) (hG : s.heap.get? G = some og) (hU : IsPair s.heap U (.ref j1) (.ref j2)) (t1 : s.heap.IsTupleIter j1 m1 k1) (t2 : s.heap.IsTupleIter j2 m2 k2) (b1 : s.heap.IsTuple m1 us) (b2 : s.heap.IsTuple m2 vs) (eu : us[k1]? = some u) (ev : vs[k2]? = some v)
    (next : ∀ h', IsZipHeld h' q U O G true → h'.IsTupleIter j1 m1 (k1 + 1) → h'.IsTupleIter j2 m2 (k2 + 1) → IsPair h' s.heap.objs.size u v → (∀ c o, c ≠ q → c ≠ j1 → c ≠ j2 → s.heap.get? c = some o → h'.get? c = some o) → R (some (.ref s.heap.objs.size)) { s with heap := h' }) :
    wpAny (model P w) A (pyNext (.ref q)) R E s := by
  have ty : s.TypeIs (.ref q) "zip" := ⟨_, hq, rfl⟩
  unfold pyNext
  exact wpAny_bind (wpAny_attempt (wpAny_callSpecial?_slot (name := Str.ofString "__next__") ty F.slot_zip_next (wpAny_call_entry F.slot_zip_next ty F.entry_zip_next (zn_item D hq hG hU t1 t2 b1 b2 eu ev fun h' a1 a3 a4 a5 a7 => wpAny_pure (next h' a1 a3 a4 a5 a7)) (F.args_zip_next_1 _))))
theorem zp_end {R : Option Value → Shared → Prop} (hh : A.handled = none) (D : ZipApart q U O j1 j2 m1 m2) (hq : IsZipHeld s.heap q U O G f) (hG : s.heap.get? G = some og) (hU : IsPair s.heap U (.ref j1) (.ref j2)) (t1 : s.heap.IsTupleIter j1 m1 k1) (b1 : s.heap.IsTuple m1 us) (eu : us[k1]? = none)
    (next : ∀ h', (∀ c o, c ≠ q → c ≠ j1 → s.heap.get? c = some o → h'.get? c = some o) → R none { s with heap := h' }) : wpAny (model P w) A (pyNext (.ref q)) R E s := by
  have ty : s.TypeIs (.ref q) "zip" := ⟨_, hq, rfl⟩
  unfold pyNext
  refine wpAny_bind (wpAny_attempt (wpAny_callSpecial?_slot (name := Str.ofString "__next__") ty F.slot_zip_next (wpAny_call_entry F.slot_zip_next ty F.entry_zip_next (zn_end hh D hq hG hU t1 b1 eu fun h' e kp ⟨o, ho, hc⟩ => ?_) (F.args_zip_next_1 _))))
  exact wpAny_bind (wpAny_isInstance (T := "StopIteration") (b := true) ⟨o, ho, hc⟩ isSubtype_stop (wpAny_pure (next _ kp)))
end
theorem zipT_arg {P : Program} {w : World} (q U O j1 j2 m1 m2 : Addr) (D : ZipApart q U O j1 j2 m1 m2) (us vs : Array Value) (hl : us.size = vs.size) :
    PairArg P w "zip" q [q, U, O, j1, j2, m1, m2] [q, O, j1, j2] us.size (fun i k v => us[i]? = some k ∧ vs[i]? = some v)
      (fun h => IsZip h q U O .none ∧ IsPair h U (.ref j1) (.ref j2) ∧ (∃ a b, IsPair h O a b) ∧ h.IsTupleIter j1 m1 0 ∧ h.IsTupleIter j2 m2 0 ∧ h.IsTuple m1 us ∧ h.IsTuple m2 vs) where
  type := fun s ok => ⟨_, ok.1, rfl⟩
  notDict := by decide
  keep := fun h h' ⟨z0, z1, ⟨a, b, z2⟩, z3, z4, z5, z6⟩ k => ⟨k _ _ z0, k _ _ z1, ⟨a, b, k _ _ z2⟩, z3.at fun o e => k _ o e, z4.at fun o e => k _ o e, z5.at fun o e => k _ o e, z6.at fun o e => k _ o e⟩
  there := fun h ⟨z0, z1, ⟨a, b, z2⟩, ⟨_, z3, _⟩, ⟨_, z4, _⟩, ⟨_, z5, _⟩, ⟨_, z6, _⟩⟩ c hc => by
    simp only [List.mem_cons, List.not_mem_nil, or_false] at hc
    rcases hc with rfl | rfl | rfl | rfl | rfl | rfl | rfl
    · exact ⟨_, z0⟩
    · exact ⟨_, z1⟩
    · exact ⟨_, z2⟩
    · exact ⟨_, z3⟩
    · exact ⟨_, z4⟩
    · exact ⟨_, z5⟩
    · exact ⟨_, z6⟩
  sub := fun b hb => by simp only [List.mem_cons, List.not_mem_nil, or_false] at hb ⊢; rcases hb with rfl | rfl | rfl | rfl <;> simp
  noKeys := fun A s Q E hA ok h => getAttrOr_miss_zip ok.1 rfl rfl rfl zip_no_keys (by decide +kernel) hA h
  iter := fun A s d Q E hA ⟨z0, z1, ⟨a, b, z2⟩, z3, z4, z5, z6⟩ hd hdf h => by
    simp only [List.mem_cons, List.not_mem_nil, or_false, not_or] at hdf
    obtain ⟨d0, d1, d2, d3, d4, d5, d6⟩ := hdf
    refine wpAny_pyIter_zip z0 (h q [q, O, j1, j2] (fun i h => IsPair h U (.ref j1) (.ref j2) ∧ h.IsTupleIter j1 m1 i ∧ h.IsTupleIter j2 m2 i ∧ h.IsTuple m1 us ∧ h.IsTuple m2 vs ∧ ((IsZip h q U O .none ∧ ∃ a b, IsPair h O a b) ∨ ∃ G f og, IsZipHeld h q U O G f ∧ h.get? G = some og ∧ G ≠ q ∧ G ≠ j1 ∧ G ≠ j2 ∧ G ≠ d)) s.heap s.toks ?_ ⟨z1, z3, z4, z5, z6, .inl ⟨z0, a, b, z2⟩⟩ (fun _ _ e => e) fun b hb => .inl hb)
    refine { off := fun hm => ?_, frame := fun i g1 g2 st k => ?_, item := fun i s1 Q1 E1 hi st hds next => ?_, done := fun s1 Q1 E1 st next => ?_ }
    · simp only [List.mem_cons, List.not_mem_nil, or_false] at hm
      rcases hm with e | e | e | e
      · exact d0 e
      · exact d2 e
      · exact d3 e
      · exact d4 e
    · obtain ⟨y1, y3, y4, y5, y6, y⟩ := st
      refine ⟨k _ _ (Ne.symm d1) y1, y3.at fun o e => k _ o (Ne.symm d3) e, y4.at fun o e => k _ o (Ne.symm d4) e, y5.at fun o e => k _ o (Ne.symm d5) e, y6.at fun o e => k _ o (Ne.symm d6) e, ?_⟩
      rcases y with ⟨y0, a, b, y2⟩ | ⟨G, f, og, y0, yG, r1, r2, r3, r4⟩
      · exact .inl ⟨k _ _ (Ne.symm d0) y0, a, b, k _ _ (Ne.symm d2) y2⟩
      · exact .inr ⟨G, f, og, k _ _ (Ne.symm d0) y0, k _ _ r4 yG, r1, r2, r3, r4⟩
    · obtain ⟨y1, y3, y4, y5, y6, y⟩ := st
      have eu := Array.getElem?_eq_getElem hi
      have ev := Array.getElem?_eq_getElem (hl ▸ hi : i < vs.size)
      have lt : ∀ {c o}, s1.heap.get? c = some o → s1.heap.objs.size ≠ c := fun e => Nat.ne_of_gt (Heap.lt_size e)
      have n1 : s1.heap.objs.size ≠ j1 := let ⟨_, e, _⟩ := y3; lt e
      have n2 : s1.heap.objs.size ≠ j2 := let ⟨_, e, _⟩ := y4; lt e
      rcases y with ⟨y0, a, b, y2⟩ | ⟨G, f, og, y0, yG, r1, r2, r3, r4⟩
      · refine RZ.pyNext_zipT_item D y0 y1 y2 y3 y4 y5 y6 eu ev fun h' a1 a2 a3 a4 a5 a6 k => ?_
        refine next s1.heap.objs.size _ _ h' s1.toks ⟨eu, ev⟩ (.inl ⟨_, a5, rfl, _, rfl⟩) ⟨k _ _ D.TIz D.TITO D.TIi1 D.TIi2 y1, a3, a4, y5.at fun o e => k _ o D.l1z D.l1TO D.l1i1 D.l1i2 e, y6.at fun o e => k _ o D.l2z D.l2TO D.l2i1 D.l2i2 e, .inr ⟨s1.heap.objs.size, false, _, a1, a5, lt y0, n1, n2, Nat.ne_of_gt hds⟩⟩ fun c o hc e => ?_
        simp only [List.mem_cons, List.not_mem_nil, or_false, not_or] at hc
        exact k c o hc.1 hc.2.1 hc.2.2.1 hc.2.2.2 e
      · refine zp_item D y0 yG y1 y3 y4 y5 y6 eu ev fun h' a1 a3 a4 a5 k => ?_
        refine next s1.heap.objs.size _ _ h' s1.toks ⟨eu, ev⟩ (.inl ⟨_, a5, rfl, _, rfl⟩) ⟨k _ _ D.TIz D.TIi1 D.TIi2 y1, a3, a4, y5.at fun o e => k _ o D.l1z D.l1i1 D.l1i2 e, y6.at fun o e => k _ o D.l2z D.l2i1 D.l2i2 e, .inr ⟨G, true, og, a1, k _ _ r1 r2 r3 yG, r1, r2, r3, r4⟩⟩ fun c o hc e => ?_
        simp only [List.mem_cons, List.not_mem_nil, or_false, not_or] at hc
        exact k c o hc.1 hc.2.2.1 hc.2.2.2 e
    · obtain ⟨y1, y3, y4, y5, y6, y⟩ := st
      have eu : us[us.size]? = none := Array.getElem?_eq_none (Nat.le_refl _)
      rcases y with ⟨y0, a, b, y2⟩ | ⟨G, f, og, y0, yG, r1, r2, r3, r4⟩
      · refine RZ.pyNext_zipT_end hA D y0 y1 y2 y3 y4 y5 y6 (.inl eu) fun h' k => next h' s1.toks fun c o hc e => ?_
        simp only [List.mem_cons, List.not_mem_nil, or_false, not_or] at hc
        exact k c o hc.1 hc.2.1 hc.2.2.1 hc.2.2.2 e
      · refine zp_end hA D y0 yG y1 y3 y5 eu fun h' k => next h' s1.toks fun c o hc e => ?_
        simp only [List.mem_cons, List.not_mem_nil, or_false, not_or] at hc
        exact k c o hc.1 hc.2.2.1 e
theorem kv_zip {P : Program} {w : World} : ∀ {kvs : List (Key × V)} {its its2 : List Value}, Vals (kvs.map fun x => kV x.1) its → Vals (kvs.map (·.2)) its2 → ∃ prs : List (Key × Value), KV kvs prs ∧ prs.length = kvs.length ∧ ∀ (i : Nat) (key v : Value), its[i]? = some key → its2[i]? = some v → ∃ k, prs[i]? = some (k, v) ∧ (mixKind P w).is k key = true
  | [], _, _, r1, r2 => ⟨[], .nil, rfl, fun i key v e _ => by
      cases r1
      cases e⟩
  | (k, y) :: rest, _, _, r1, r2 => by
    rw [List.map_cons] at r1 r2
    cases r1 with
    | cons a1 t1 =>
      cases r2 with
      | cons a2 t2 =>
        obtain ⟨prs, r, hl, hp⟩ := kv_zip (P := P) (w := w) t1 t2
        refine ⟨(k, _) :: prs, .cons ⟨rfl, a2⟩ r, by rw [List.length_cons, List.length_cons, hl], fun i key v e e2 => ?_⟩
        cases i with
        | zero =>
          rw [List.getElem?_cons_zero] at e e2
          cases e
          cases e2
          exact ⟨k, rfl, kV_is a1⟩
        | succ i =>
          rw [List.getElem?_cons_succ] at e e2
          exact hp i key v e e2
def tDz (K : PySem.W.Frag) (ta : TA) : TE := fun σ H Q => ta σ H fun vs H1 => ∃ (a b : Addr) (kvs : List (Key × V)), vs = [.ref a, .ref b] ∧ SqT K H1 a (kvs.map fun x => kV x.1) ∧ SqT K H1 b (kvs.map (·.2)) ∧ ∀ p, H1 p = none → Q (.ref p) (upd H1 p (.dK (mergeK [] kvs)))
theorem pe_dictZip {X : Cx} {e e2 : Expr} {ta : TA} {p p2 pos pos2 : Pos} (hgd : Gl X "dict") (hmd : X.mg "dict" = none) (hg : Gl X "zip") (hm : X.mg "zip" = none) (hcalm : X.calm = true) (ha : PA X [e, e2] ta)
    (na : starEach [.Call (.Name "zip" p2) [e, e2] [] pos2] X.env = (false, eval (.Call (.Name "zip" p2) [e, e2] [] pos2) X.env) :: starEach [] X.env := by rfl)
    (hs : starEach [e, e2] X.env = (false, eval e X.env) :: starEach [e2] X.env := by rfl) (hpl : (backTo pos2 (starEach [e2] X.env)).any (·.1) = false := by rfl) :
    PE X (.Call (.Name "dict" p) [.Call (.Name "zip" p2) [e, e2] [] pos2] [] pos) (tDz X.K ta) := by
  refine ⟨fun pins s σ H Q I h => ?_⟩
  refine Call_ (ld_blt I hgd hmd PyProof.Rows.boot_dict (PyProof.Rows.callWith_type1 (args_cons (Call_ (ld_blt I hg hm PyProof.Rows.boot_zip (PyProof.Rows.callWith_type1 (thn (ha.run pos2 pins s σ H _ I h) fun us s1 ⟨vs, H1, I1, r1, q1⟩ => ?_) hs hpl))) na) na))
  obtain ⟨a, b, kvs, rfl, ha1, hb1, q⟩ := q1
  cases r1 with
  | cons ra rr =>
    cases rr with
    | cons rb rr =>
      cases rr
      cases ra
      cases rb
      obtain ⟨its, v1, p1, hz1⟩ := I1.tuple ha1
      obtain ⟨its2, v2, p2', hz2⟩ := I1.tuple hb1
      obtain ⟨o1, ho1, y1⟩ := id p1
      obtain ⟨o2, ho2, y2⟩ := id p2'
      obtain ⟨prs, rel, hl, hp⟩ := kv_zip (P := X.prog) (w := X.w) v1 v2
      have l1 : its.length = kvs.length := by
        have := v1.length
        rw [List.length_map] at this
        exact this.symm
      have l2 : its2.length = kvs.length := by
        have := v2.length
        rw [List.length_map] at this
        exact this.symm
      rw [List.length_map] at hz1
      refine RZ.call_zipT (show s1.heap.IsTuple a its.toArray from p1) (show s1.heap.IsTuple b its2.toArray from p2') fun h' hz hTI hTO t1 t2 hsz hk => args_nil ?_
      have D := PySem.W.ktu_apart s1.heap.objs.size a b (Heap.lt_size ho1) (Heap.lt_size ho2)
      refine PySem.call_dict_pairs (knd := mixKind X.prog X.w) (kvs := prs) (zipT_arg _ _ _ _ _ a b D its.toArray its2.toArray (by rw [List.size_toArray, List.size_toArray, l1, l2])) (I1.ok.hd hcalm) ⟨hz, hTI, ⟨_, _, hTO⟩, t1, t2, ⟨o1, hk _ _ ho1, y1⟩, ⟨o2, hk _ _ ho2, y2⟩⟩ ⟨?_, fun i key v e => ?_⟩ ?_ fun h2 tk hd hk2 => ?_
      · rw [hl, List.size_toArray, l1]
      · exact hp i key v (by simpa using e.1) (by simpa using e.2)
      · rw [List.size_toArray, l1]
        exact hz1
      · have keep : ∀ c o, s1.heap.get? c = some o → h2.get? c = some o := fun c o e => by
          have hlt := Heap.lt_size e
          refine hk2 c o (fun hm => ?_) (hk c o e)
          simp only [List.mem_cons, List.not_mem_nil, or_false] at hm
          rcases hm with z | z | z | z
          · exact Nat.not_lt.mpr (Nat.le_add_right _ _) (z ▸ hlt)
          · exact Nat.not_lt.mpr (Nat.le_add_right _ _) (z ▸ hlt)
          · exact Nat.not_lt.mpr (Nat.le_refl _) (z ▸ hlt)
          · exact Nat.not_lt.mpr (Nat.le_add_right _ _) (z ▸ hlt)
        have hle : s1.heap.objs.size ≤ h'.objs.size := by
          rw [hsz]
          exact Nat.le_add_right _ _
        have hm : (h'.objs.size == sysModules) = false := beq_eq_false_iff_ne.mpr (Nat.ne_of_gt (Nat.lt_of_lt_of_le I1.big hle))
        have hlen : (mergeK [] kvs).length ≤ sizeLine := by
          refine Nat.le_trans (length_mergeK kvs []) ?_
          rw [List.length_nil, Nat.zero_add]
          exact hz1
        exact ⟨.ref h'.objs.size, upd H1 h'.objs.size (.dK (mergeK [] kvs)), I1.laid (t' := tk) keep hle (show ObjOk X.prog X.w _ _ _ (.dK (mergeK [] kvs)) from ⟨hlen, hm, merged [] prs, KV.merge rel .nil, hd⟩), rfl, q _ (I1.hok.fresh hle)⟩
end Pf


namespace Pf
open PySem PySem.Spec PyProof.Rows L2
/-! ### sum(lists, start) -/
abbrev LiO (its : List Value) (n : Nat) : Obj := { cls := .type "list", dict := none, data := .seq its.toArray n, slots := #[] }
section
variable {P : Program} {w : World} {A : Around} {R : Result → Shared → Prop} {I l S : Addr} {items : Array Value}
theorem suml_loop (hh : A.in1.handled = none) (nIS : I ≠ S) (nIl : l ≠ I) (nSl : l ≠ S) : ∀ (rest : List (Addr × List Value)) (i : Nat) (s : Shared) (t : Addr) (acc : List Value) (c1 ct : Nat), items.size = i + rest.length → s.heap.IsListIter I l i → s.heap.IsList l items →
    (∀ (j : Nat) (x : Addr × List Value), rest[j]? = some x → items[i + j]? = some (.ref x.1) ∧ x.1 ≠ I ∧ x.1 ≠ S ∧ ∃ c, s.heap.get? x.1 = some (LiO x.2 c)) → s.heap.get? S = some (LiO [.ref t] c1) → s.heap.get? t = some (LiO acc ct) → t ≠ I → t ≠ S →
    acc.length + (rest.map (·.2)).flatten.length ≤ sizeLine →
    (∀ h' tk t' c', h'.get? t' = some (LiO (acc ++ (rest.map (·.2)).flatten) c') → (rest = [] → t' = t) → (rest ≠ [] → s.heap.objs.size ≤ t') → (∀ b o, b ≠ I → b ≠ S → s.heap.get? b = some o → h'.get? b = some o) → R (.ok (.ret (.ref t'))) { s with heap := h', toks := tk }) →
    codeAny (model P w) A (.builtin "sum.loop" ⟨[.ref I, .ref S, rawInt 2, rawInt 0], []⟩) R s
  | [], i, s, t, acc, c1, ct, hn, it, hl, _, hS, ht, _, _, _, hR => by
    refine codeAny_builtin F.entry_sum_loop ?_; rw [Around.under_plainId F.plain_sum_loop _]
    show wpAny _ A.in1 (seqItems? (.ref S) >>= _) _ _ _
    refine wpAny_bind (wpAny_seqItems hS rfl ?_)
    show wpAny _ A.in1 (tryCatch (pyNext (.ref I)) _ >>= _) _ _ _
    refine wpAny_bind (wpAny_tryCatch (wpAny_pyNext_list_end hh it hl (Array.getElem?_eq_none (by rw [hn]; exact Nat.le_refl _)) fun h' he => ?_))
    exact wpAny_pure (hR h' s.toks t ct (by rw [List.map_nil, List.flatten_nil, List.append_nil]; exact he t _ (by assumption) ht) (fun _ => rfl) (fun z => absurd rfl z) fun b o n1 _ e => he b o n1 e)
  | (b, ys) :: rest, i, s, t, acc, c1, ct, hn, it, hl, hx, hS, ht, ntI, ntS, hz, hR => by
    obtain ⟨e0, nbI, nbS, cb, hb⟩ := hx 0 (b, ys) rfl
    rw [List.map_cons, List.flatten_cons] at hR
    rw [List.map_cons, List.flatten_cons, List.length_append] at hz
    have hz : acc.length + (ys.length + (rest.map (·.2)).flatten.length) ≤ sizeLine := hz
    refine codeAny_builtin F.entry_sum_loop ?_; rw [Around.under_plainId F.plain_sum_loop _]
    show wpAny _ A.in1 (seqItems? (.ref S) >>= _) _ _ _
    refine wpAny_bind (wpAny_seqItems hS rfl ?_)
    show wpAny _ A.in1 (tryCatch (pyNext (.ref I)) _ >>= _) _ _ _
    refine wpAny_bind (wpAny_tryCatch (wpAny_pyNext_list_item it hl e0 fun h1 it1 s1 => ?_))
    have hS1 := s1.extBut _ _ nIS.symm hS
    have ht1 := s1.extBut _ _ ntI ht
    have hb1 := s1.extBut _ _ nbI hb
    show wpAny _ A.in1 ((holding [Value.ref b] (binaryOp .Add (.ref t) (.ref b))).attempt >>= _) _ _ _
    refine wpAny_bind (wpAny_attempt (wpAny_holding (PySem.P.add_list (n := ct) (n2 := cb) ht1 hb1 ?_ (by rw [List.size_toArray, List.size_toArray]; show acc.length + ys.length ≤ _; omega))))
    have ea : acc.toArray ++ ys.toArray = (acc ++ ys).toArray := by simp
    rw [ea]
    have sz1 : h1.objs.size = s.heap.objs.size := s1.1
    generalize hh2 : h1.push { cls := Value.type "list", data := Data.seq (acc ++ ys).toArray } = h2
    have up2 : ∀ c o, h1.get? c = some o → h2.get? c = some o := fun c o e => hh2 ▸ Heap.get?_push_of_some _ e
    have new2 : h2.get? h1.objs.size = some (LiO (acc ++ ys) 0) := hh2 ▸ Heap.get?_push_size _ rfl
    have sz2 : h2.objs.size = h1.objs.size + 1 := hh2 ▸ Heap.size_push ..
    have ltS : S < h1.objs.size := Heap.lt_size hS1
    have ltI : I < h1.objs.size := by
      obtain ⟨_, e, _⟩ := it1
      exact Heap.lt_size e
    show wpAny _ A.in1 (updateSeq S (fun _ => #[.ref h1.objs.size]) >>= _) _ _ _
    refine wpAny_bind (wpAny_updateSeq (up2 _ _ hS1) rfl ?_)
    have hS3 := Heap.get?_update_self (Obj.mapSeq fun _ => #[Value.ref h1.objs.size]) (up2 _ _ hS1) rfl
    refine wpAny_bind (wpAny_letGo ?_)
    refine wpAny_bind (wpAny_updateSeq hS3 rfl (wpAny_pure ⟨plainId_quiet F.plain_sum_loop _, ?_⟩))
    have hS4 := Heap.get?_update_self (Obj.mapSeq fun _ => #[Value.ref h1.objs.size]) hS3 rfl
    have up4 : ∀ c o, c ≠ S → h2.get? c = some o → ((h2.update S (Obj.mapSeq fun _ => #[Value.ref h1.objs.size])).update S (Obj.mapSeq fun _ => #[Value.ref h1.objs.size])).get? c = some o := fun c o n e => (Heap.get?_update_other _ _ n.symm).trans ((Heap.get?_update_other _ _ n.symm).trans e)
    have all : ∀ c o, c ≠ I → c ≠ S → s.heap.get? c = some o → ((h2.update S (Obj.mapSeq fun _ => #[Value.ref h1.objs.size])).update S (Obj.mapSeq fun _ => #[Value.ref h1.objs.size])).get? c = some o := fun c o n1 n2 e => up4 c o n2 (up2 _ _ (s1.extBut _ _ n1 e))
    refine suml_loop hh nIS nIl nSl rest (i + 1) { s with heap := (h2.update S (Obj.mapSeq fun _ => #[Value.ref h1.objs.size])).update S (Obj.mapSeq fun _ => #[Value.ref h1.objs.size]) } h1.objs.size (acc ++ ys) _ 0 ?_ ?_ ?_ (fun j x hj => ?_) hS4 (up4 _ _ (Nat.ne_of_gt ltS) new2) (Nat.ne_of_gt ltI) (Nat.ne_of_gt ltS) ?_ fun h' tk t' c' g1 g2 g3 g4 => ?_
    · rw [hn, List.length_cons]
      omega
    · exact it1.at fun o e => up4 _ _ nIS (up2 _ _ e)
    · exact hl.at fun o e => all _ _ nIl nSl e
    · obtain ⟨y1, y2, y3, c, y4⟩ := hx (j + 1) x hj
      exact ⟨by rw [show i + 1 + j = i + (j + 1) by omega]; exact y1, y2, y3, c, all _ _ y2 y3 y4⟩
    · rw [List.length_append]
      omega
    · refine hR h' tk t' c' (by rw [← List.append_assoc]; exact g1) (fun z => nomatch z) (fun _ => ?_) fun b o n1 n2 e => g4 b o n1 n2 (all _ _ n1 n2 e)
      cases hr : rest with
      | nil =>
        rw [g2 hr, sz1]
        exact Nat.le_refl _
      | cons y r =>
        have := g3 (by rw [hr]; intro z; cases z)
        have e4 : ((h2.update S (Obj.mapSeq fun _ => #[Value.ref h1.objs.size])).update S (Obj.mapSeq fun _ => #[Value.ref h1.objs.size])).objs.size = h2.objs.size := by
          rw [Heap.size_update, Heap.size_update]
        exact Nat.le_trans (by rw [← sz1, ← Nat.lt_succ_iff]; show h1.objs.size < _; rw [e4, sz2]; exact Nat.lt_succ_of_le (Nat.le_succ _)) this
end
theorem sub_ls : isSubtype (.type "list") (.type "str") = pure false := by rw [isSubtype_type]; kernel_rfl
theorem sub_lb : isSubtype (.type "list") (.type "bytes") = pure false := by rw [isSubtype_type]; kernel_rfl
theorem sub_la : isSubtype (.type "list") (.type "bytearray") = pure false := by rw [isSubtype_type]; kernel_rfl
theorem args_sum2 (a b : Value) : argsOk "sum" ⟨[a, b], []⟩ := by unfold argsOk; kernel_rfl
theorem lists_of {X : Cx} {pins : List (Addr × Obj)} {σ : L2.St} {H : Hp} {s : Shared} (I : Inv X pins σ H s) : ∀ {ls : List (Addr × List V)}, (∀ x ∈ ls, H x.1 = some (.lst x.2)) → ∃ rest : List (Addr × List Value), rest.map (·.1) = ls.map (·.1) ∧ Vals (ls.map (·.2)).flatten (rest.map (·.2)).flatten ∧ ∀ x ∈ rest, ∃ c, s.heap.get? x.1 = some (LiO x.2 c)
  | [], _ => ⟨[], rfl, .nil, fun x h => by cases h⟩
  | (a, ys) :: ls, h => by
    obtain ⟨rest, r1, r2, r3⟩ := lists_of I (ls := ls) fun x hx => h x (List.mem_cons_of_mem _ hx)
    obtain ⟨_, its, n, r, _, e⟩ := I.lstM (h (a, ys) (List.mem_cons_self ..))
    refine ⟨(a, its) :: rest, by rw [List.map_cons, List.map_cons, r1], ?_, fun x hx => ?_⟩
    · rw [List.map_cons, List.map_cons, List.flatten_cons, List.flatten_cons]
      exact r.append r2
    · rcases List.mem_cons.mp hx with rfl | hx
      · exact ⟨n, e⟩
      · exact r3 x hx
def rSumL (K : PySem.W.Frag) : List V → Hp → VK → Prop := fun vs H Q => ∃ (a b : Addr) (ls : List (Addr × List V)) (xs : List V), vs = [.ref a, .ref b] ∧ SqL K H a (ls.map fun x => .ref x.1) ∧ (∀ x ∈ ls, H x.1 = some (.lst x.2)) ∧ H b = some (.lst xs) ∧ xs.length + (ls.map (·.2)).flatten.length ≤ sizeLine ∧
  (ls = [] → Q (.ref b) H) ∧ (ls ≠ [] → ∀ p, H p = none → Q (.ref p) (upd H p (.lst (xs ++ (ls.map (·.2)).flatten))))
theorem cr_sumL (K : PySem.W.Frag) {X : Cx} (hcalm : X.calm = true) (hK : X.K = K := by rfl) : CallR X (.builtin "sum") (rSumL K) := by
  subst hK
  intro pins s σ H vs us Q I r h
  obtain ⟨a, b, ls, xs, rfl, ha, hls, hb, hz, q0, q1⟩ := h
  cases r with
  | cons ra rr =>
    cases rr with
    | cons rb rr =>
      cases rr
      cases ra
      cases rb
      obtain ⟨its, v1, pl, _⟩ := I.list ha
      obtain ⟨rest, r1, r2, r3⟩ := lists_of I hls
      obtain ⟨_, bs, nb, vb, _, eb⟩ := I.lstM hb
      have hl : s.heap.IsList a its.toArray := pl.isList
      have ei : its = rest.map fun x => Value.ref x.1 := by
        have e1 : (ls.map fun x => V.ref x.1) = (ls.map (·.1)).map V.ref := by rw [List.map_map]; rfl
        rw [e1] at v1
        rw [refs_at v1, ← r1, List.map_map]
        rfl
      refine call_function_tree F.kind_sum F.plain_sum F.entry_sum (args_sum2 _ _) ?_
      unfold Builtin.«sum»; simp only [List.length_cons, List.length_nil]; rw [if_neg (by decide)]
      refine wpAny_bind (wpAny_of_eq (show Builtin.Builtins.bindParams "sum" ["start"] 0 ⟨[.ref b], []⟩ = pure [some (.ref b)] from rfl) ?_)
      refine wpAny_bind (wpAny_pyIter_list hl ?_)
      have tb : ∀ tk, Shared.TypeIs { s with heap := s.heap.push { cls := .type "list_iterator", data := .fields #[.ref a, .int 0 0] }, toks := tk } (.ref b) "list" := fun _ => ⟨_, Heap.get?_push_of_some _ eb, rfl⟩
      refine wpAny_bind (wpAny_pure ?_)
      simp only [List.forIn_cons, List.forIn_nil]
      refine wpAny_bind (wpAny_bind (wpAny_bind (wpAny_isInstance (T := "list") (b := false) (tb _) sub_ls ?_))); simp only [Bool.false_eq_true, if_false]
      refine wpAny_pure (wpAny_bind (wpAny_bind (wpAny_isInstance (T := "list") (b := false) (tb _) sub_lb ?_))); simp only [Bool.false_eq_true, if_false]
      refine wpAny_pure (wpAny_bind (wpAny_bind (wpAny_isInstance (T := "list") (b := false) (tb _) sub_la ?_))); simp only [Bool.false_eq_true, if_false]
      refine wpAny_pure (wpAny_pure (wpAny_bind (wpAny_newObj_type (wpAny_pure ⟨plainId_quiet F.plain_sum_loop _, ?_⟩))))
      have lt : ∀ {c o}, s.heap.get? c = some o → c < s.heap.objs.size := fun e => Heap.lt_size e
      have la : a < s.heap.objs.size := pl.lt
      have lb : b < s.heap.objs.size := lt eb
      have sz : (s.heap.push { cls := .type "list_iterator", data := .fields #[.ref a, .int 0 0] }).objs.size = s.heap.objs.size + 1 := Heap.size_push ..
      have up : ∀ c o, s.heap.get? c = some o → ((s.heap.push { cls := .type "list_iterator", data := .fields #[.ref a, .int 0 0] }).push (LiO [.ref b] 0)).get? c = some o := fun c o e => Heap.get?_push_of_some _ (Heap.get?_push_of_some _ e)
      have off : ∀ {c}, c < s.heap.objs.size + 1 → c ≠ (s.heap.push { cls := .type "list_iterator", data := .fields #[.ref a, .int 0 0] }).objs.size := fun h => by
        rw [sz]
        exact Nat.ne_of_lt h
      refine suml_loop (P := X.prog) (w := X.w) (A := X.A) (I := s.heap.objs.size) (l := a) (S := (s.heap.push { cls := .type "list_iterator", data := .fields #[.ref a, .int 0 0] }).objs.size) (items := its.toArray) (I.ok.hd hcalm) (off (Nat.lt_succ_self _)) (Nat.ne_of_lt la) (off (Nat.lt_succ_of_lt la)) rest 0 { s with heap := (s.heap.push { cls := .type "list_iterator", data := .fields #[.ref a, .int 0 0] }).push (LiO [.ref b] 0) } b bs 0 nb ?_ ⟨_, Heap.get?_push_of_some _ (Heap.get?_push_size _ rfl), rfl, rfl⟩ (hl.at fun o e => up _ _ e) (fun j x hj => ?_) ?_ (up _ _ eb) (Nat.ne_of_lt lb) (off (Nat.lt_succ_of_lt lb)) ?_ fun h' tk t' c' g1 g2 g3 g4 => ?_
      · rw [List.size_toArray, ei, List.length_map, Nat.zero_add]
      · obtain ⟨c, hc⟩ := r3 x (List.mem_of_getElem? hj)
        have lx := lt hc
        refine ⟨?_, Nat.ne_of_lt lx, off (Nat.lt_succ_of_lt lx), c, up _ _ hc⟩
        rw [Nat.zero_add, List.getElem?_toArray, ei, List.getElem?_map, hj]
        rfl
      · exact Heap.get?_push_size _ rfl
      · have := r2.length
        have := vb.length
        omega
      · have keep : ∀ c o, s.heap.get? c = some o → h'.get? c = some o := fun c o e => g4 c o (Nat.ne_of_lt (lt e)) (off (Nat.lt_succ_of_lt (lt e))) (up c o e)
        cases hr : ls with
        | nil =>
          have hrest : rest = [] := by
            rw [hr] at r1
            cases rest with
            | nil => rfl
            | cons y z => cases r1
          rw [g2 hrest]
          exact ⟨.ref b, H, I.kept keep, rfl, q0 hr⟩
        | cons y z =>
          have hrest : rest ≠ [] := fun e => by
            rw [e, hr] at r1
            cases r1
          have hle : s.heap.objs.size ≤ t' := Nat.le_trans (by rw [Heap.size_push, Heap.size_push]; omega) (g3 hrest)
          refine ⟨.ref t', upd H t' (.lst (xs ++ (ls.map (·.2)).flatten)), I.laid keep hle (show ObjOk X.prog X.w _ _ _ (.lst (xs ++ (ls.map (·.2)).flatten)) from ⟨?_, bs ++ (rest.map (·.2)).flatten, c', vb.append r2, g1⟩), rfl, q1 (by rw [hr]; intro e; cases e) _ (I.hok.fresh hle)⟩
          rw [List.length_append]
          exact hz
/-! ### tuple(xs) of a list, its object known; dict(ps) of such a tuple of pairs -/
def rTupleFz (K : PySem.W.Frag) : List V → Hp → VK → Prop := fun xs H Q => ∃ p ys, xs = [.ref p] ∧ SqL K H p ys ∧ ∀ (l : Addr) (o : Obj), H l = none → o.dict = none → Q (.ref l) (upd H l (.frz o (.tup ys)))
theorem tupleFz (K : PySem.W.Frag) {X : Cx} (hK : X.K = K := by rfl) : CallR X (.type "tuple") (rTupleFz K) := by
  subst hK
  intro pins s σ H vs us Q I r h
  obtain ⟨p, ys, rfl, hs, q⟩ := h
  obtain ⟨u, rfl, rfl⟩ := vals1 r
  obtain ⟨its, rv, pl, hz⟩ := I.list hs
  refine call_tuple_list pl.isList (fun h' hk => ?_) (by rw [List.size_toArray, ← rv.length]; exact hz)
  have I1 : Inv X pins σ H { s with heap := h' } := I.kept (t' := s.toks) hk
  refine ⟨.ref h'.objs.size, _, I1.laid (t' := s.toks) (o := .frz { cls := .type "tuple", data := .seq its.toArray } (.tup ys)) (fun b o e => Heap.get?_push_of_some _ e) (Nat.le_refl _) ?_, rfl, q _ _ (I1.hok.fresh (Nat.le_refl _)) rfl⟩
  exact ⟨Heap.get?_push_size _ rfl, hz, its, rv, IsTup.new _ _⟩
theorem trips {X : Cx} {pins : List (Addr × Obj)} {σ : L2.St} {H : Hp} {s : Shared} (I : Inv X pins σ H s) : ∀ {ps : List Addr} {kvs : List (Key × V)}, Paired (fun p kv => SqT X.K H p [kV kv.1, kv.2]) ps kvs →
    ∃ tr : List (Key × Value × Value), tr.length = ps.length ∧ KV kvs (tr.map fun t => (t.1, t.2.2)) ∧ ∀ (j : Nat) (t : Key × Value × Value), tr[j]? = some t → ∃ b : Addr, ps[j]? = some b ∧ IsTup s.heap b #[t.2.1, t.2.2] ∧ (mixKind X.prog X.w).is t.1 t.2.1 = true
  | _, _, .nil => ⟨[], rfl, .nil, fun j t e => by simp at e⟩
  | _, _, .cons (a := p) (b := kv) h t => by
    obtain ⟨tr, hl, r, hp⟩ := trips I t
    obtain ⟨its, rv, ht, _⟩ := I.tuple h
    obtain ⟨u, y, ei, ru, ry⟩ := vals2 rv
    subst ei
    refine ⟨(kv.1, u, y) :: tr, by rw [List.length_cons, List.length_cons, hl], .cons ⟨rfl, ry⟩ r, fun j t e => ?_⟩
    cases j with
    | zero =>
      rw [List.getElem?_cons_zero] at e
      cases e
      exact ⟨p, rfl, ht, kV_is ru⟩
    | succ j =>
      rw [List.getElem?_cons_succ] at e
      obtain ⟨b, e1, e2⟩ := hp j t e
      exact ⟨b, by rw [List.getElem?_cons_succ]; exact e1, e2⟩
def rDictT (K : PySem.W.Frag) : List V → Hp → VK → Prop := fun xs H Q => ∃ (a : Addr) (o : Obj) (ps : List Addr) (kvs : List (Key × V)), xs = [.ref a] ∧ H a = some (.frz o (.tup (ps.map V.ref))) ∧ o.dict = none ∧ Paired (fun p kv => SqT K H p [kV kv.1, kv.2]) ps kvs ∧ ∀ p, H p = none → Q (.ref p) (upd H p (.dK (mergeK [] kvs)))
theorem dictT (K : PySem.W.Frag) {X : Cx} (hcalm : X.calm = true := by rfl) (hK : X.K = K := by rfl) : CallR X (.type "dict") (rDictT K) := by
  subst hK
  intro pins s σ H xs us Q I r h
  obtain ⟨a, o, ps, kvs, rfl, ha, hd, hp, q⟩ := h
  obtain ⟨u, rfl, rfl⟩ := vals1 r
  obtain ⟨e, hz, its, rv, o', e', hc, n, hdat⟩ := I.hok a _ ha
  have eo : o' = o := by
    rw [e] at e'
    exact (Option.some.inj e').symm
  subst eo
  obtain ⟨tr, hl, rel, htr⟩ := trips I hp
  have ei : its = ps.map Value.ref := refs_at rv
  rw [List.length_map] at hz
  refine PySem.call_dict_pairs (knd := mixKind X.prog X.w) (kvs := tr.map fun t => (t.1, t.2.2)) (PairArg.tuple a its.toArray (fun j => ps.getD j 0) (tr.map fun t => (t.2.1, t.2.2))) (I.ok.hd hcalm) ⟨⟨o', n, e, hc, hd, hdat⟩, ?_, fun j k v hj => ?_⟩ ⟨?_, fun i key v hi => ?_⟩ ?_ fun h' tk hd' k => ?_
  · rw [List.size_toArray, ei, List.length_map, List.length_map, hl]
  · rw [List.getElem?_map] at hj
    cases ht : tr[j]? with
    | none =>
      rw [ht] at hj
      cases hj
    | some t =>
      rw [ht] at hj
      cases hj
      obtain ⟨b, e1, e2, _⟩ := htr j t ht
      have eb : ps.getD j 0 = b := by
        rw [List.getD_eq_getElem?_getD, e1]
        rfl
      refine ⟨?_, .inl ?_⟩
      · rw [List.getElem?_toArray, ei, List.getElem?_map, e1]
        show some (Value.ref b) = some (Value.ref (ps.getD j 0))
        rw [eb]
      · show s.heap.IsTuple (ps.getD j 0) _
        rw [eb]
        exact e2
  · rw [List.length_map, List.length_map]
  · have hi : (tr.map fun t => (t.2.1, t.2.2))[i]? = some (key, v) := hi
    rw [List.getElem?_map] at hi
    cases ht : tr[i]? with
    | none =>
      rw [ht] at hi
      cases hi
    | some t =>
      rw [ht] at hi
      cases hi
      obtain ⟨b, _, _, e3⟩ := htr i t ht
      exact ⟨t.1, by rw [List.getElem?_map, ht]; rfl, e3⟩
  · rw [List.length_map, hl]
    exact hz
  · have hm : (s.heap.objs.size == sysModules) = false := beq_eq_false_iff_ne.mpr (Nat.ne_of_gt I.big)
    have hkl : kvs.length = ps.length := by
      have := rel.length
      rw [List.length_map, hl] at this
      exact this
    have hlen : (mergeK [] kvs).length ≤ sizeLine := by
      refine Nat.le_trans (length_mergeK kvs []) ?_
      rw [List.length_nil, Nat.zero_add, hkl]
      exact hz
    exact ⟨.ref s.heap.objs.size, upd H s.heap.objs.size (.dK (mergeK [] kvs)), I.laid (t' := tk) (fun b o e => k b o (fun z => nomatch z) e) (Nat.le_refl _) (show ObjOk X.prog X.w _ _ _ (.dK (mergeK [] kvs)) from ⟨hlen, hm, merged [] _, KV.merge rel .nil, hd'⟩), rfl, q _ (I.hok.fresh (Nat.le_refl _))⟩
end Pf


namespace Pf
open PySem PySem.Spec PyProof.Rows L2
/-! ### things of any kind -/
inductive Dq (K : PySem.W.Frag) (H : Hp) : V → PyData → Prop
  | dp {v : V} {d : PyData} : Dp K H v d → Dq K H v d
  | emp {a : Addr} : H a = some (.dK []) → Dq K H (.ref a) (.dict [])
def tyD : PyData → String
  | .none => "NoneType"
  | .bool _ => "bool"
  | .int _ => "int"
  | .str _ => "str"
  | .list _ => "list"
  | .tuple _ => "tuple"
  | .dict _ => "dict"
theorem sqT_ty {K : PySem.W.Frag} {H : Hp} {a : Addr} {xs : List V} (h : SqT K H a xs) : TyX K H (.ref a) (.type "tuple") := by
  rcases h with (h | ⟨o, h⟩) | ⟨o, _, _, h, c, _⟩
  · exact .base (.tup h)
  · exact .fTuple h
  · exact .kTuple h c
theorem sqL_ty {K : PySem.W.Frag} {H : Hp} {a : Addr} {xs : List V} (h : SqL K H a xs) : TyX K H (.ref a) (.type "list") := by
  rcases h with (h | ⟨o, h⟩) | ⟨o, _, _, h, c, _⟩
  · exact .base (.lst h)
  · exact .base (.frz h)
  · exact .kList h c
theorem Dq.ty {K : PySem.W.Frag} {H : Hp} {v : V} {d : PyData} (h : Dq K H v d) : TyX K H v (.type (tyD d)) := by
  cases h with
  | emp h => exact .base (.dK h)
  | dp h =>
    cases h with
    | non => exact .base .non
    | bl b => exact .base (.bl b)
    | int i => exact .base (.int i)
    | str x => exact .base (.str x)
    | lst h _ => exact sqL_ty h
    | tup h _ => exact sqT_ty h
def isTup : PyData → Bool
  | .tuple _ => true
  | _ => false
def isIntB : PyData → Bool
  | .int _ => true
  | .bool _ => true
  | _ => false
def isBl : PyData → Bool
  | .bool _ => true
  | _ => false
def isLst : PyData → Bool
  | .list _ => true
  | _ => false
def isStr : PyData → Bool
  | .str _ => true
  | _ => false
theorem kit_tup {K : PySem.W.Frag} (d : PyData) : PySem.W.kitOne K (.type (tyD d)) (.type "tuple") = some (isTup d) := by
  cases d <;> (simp only [tyD, isTup]; exact kit_ty (by decide +kernel))
theorem kit_lst {K : PySem.W.Frag} (d : PyData) : PySem.W.kitOne K (.type (tyD d)) (.type "list") = some (isLst d) := by
  cases d <;> (simp only [tyD, isLst]; exact kit_ty (by decide +kernel))
theorem kit_int {K : PySem.W.Frag} (d : PyData) : PySem.W.kitOne K (.type (tyD d)) (.type "int") = some (isIntB d) := by
  cases d <;> (simp only [tyD, isIntB]; exact kit_ty (by decide +kernel))
theorem kit_bool {K : PySem.W.Frag} (d : PyData) : PySem.W.kitOne K (.type (tyD d)) (.type "bool") = some (isBl d) := by
  cases d <;> (simp only [tyD, isBl]; exact kit_ty (by decide +kernel))
theorem kit_str {K : PySem.W.Frag} (d : PyData) : PySem.W.kitOne K (.type (tyD d)) (.type "str") = some (isStr d) := by
  cases d <;> (simp only [tyD, isStr]; exact kit_ty (by decide +kernel))
theorem dpAll_len {K : PySem.W.Frag} {H : Hp} : ∀ {vs : List V} {ds : List PyData}, DpAll K H vs ds → vs.length = ds.length
  | _, _, .nil => rfl
  | _, _, .cons _ t => by rw [List.length_cons, List.length_cons, dpAll_len t]
theorem dpAll_get {K : PySem.W.Frag} {H : Hp} : ∀ {vs : List V} {ds : List PyData} {i : Nat} {v : V}, DpAll K H vs ds → vs[i]? = some v → ∃ d, ds[i]? = some d ∧ Dp K H v d
  | _, _, _, _, .nil, e => by simp at e
  | _, _, 0, _, .cons r _, e => by
    simp at e
    subst e
    exact ⟨_, rfl, r⟩
  | _, _, i + 1, v, .cons _ t, e => by
    obtain ⟨d, h1, h2⟩ := dpAll_get (i := i) (v := v) t (by simpa using e)
    exact ⟨d, by simpa using h1, h2⟩
theorem sqT_ext {K : PySem.W.Frag} {H H' : Hp} {a : Addr} {xs : List V} (k : Ext H H') (h : SqT K H a xs) : SqT K H' a xs := by
  rcases h with (h | ⟨o, h⟩) | h
  · exact .inl (.inl (k _ _ h))
  · exact .inl (.inr ⟨o, k _ _ h⟩)
  · exact .inr h
theorem sqL_ext {K : PySem.W.Frag} {H H' : Hp} {a : Addr} {xs : List V} (k : Ext H H') (h : SqL K H a xs) : SqL K H' a xs := by
  rcases h with (h | ⟨o, h⟩) | h
  · exact .inl (.inl (k _ _ h))
  · exact .inl (.inr ⟨o, k _ _ h⟩)
  · exact .inr h
mutual
theorem dp_ext {K : PySem.W.Frag} {H H' : Hp} (k : Ext H H') : ∀ {v : V} {d : PyData}, Dp K H v d → Dp K H' v d
  | _, _, .non => .non
  | _, _, .bl b => .bl b
  | _, _, .int i => .int i
  | _, _, .str x => .str x
  | _, _, .lst h r => .lst (sqL_ext k h) (dpAll_ext k r)
  | _, _, .tup h r => .tup (sqT_ext k h) (dpAll_ext k r)
theorem dpAll_ext {K : PySem.W.Frag} {H H' : Hp} (k : Ext H H') : ∀ {vs : List V} {ds : List PyData}, DpAll K H vs ds → DpAll K H' vs ds
  | _, _, .nil => .nil
  | _, _, .cons r t => .cons (dp_ext k r) (dpAll_ext k t)
end
theorem Dq.ext {K : PySem.W.Frag} {H H' : Hp} {v : V} {d : PyData} (h : Dq K H v d) (k : Ext H H') : Dq K H' v d := by
  cases h with
  | dp h => exact .dp (dp_ext k h)
  | emp h => exact .emp (k _ _ h)
/-! ### two numbers in a tuple of any make -/
def TwoS (K : PySem.W.Frag) (H : Hp) (v : V) (y : Int × Int) : Prop := ∃ a, v = .ref a ∧ SqT K H a [.int y.1, .int y.2]
theorem TwoS.ext {K : PySem.W.Frag} {H H' : Hp} (k : Ext H H') {v : V} {y : Int × Int} (h : TwoS K H v y) : TwoS K H' v y := by
  obtain ⟨a, e, h⟩ := h
  exact ⟨a, e, sqT_ext k h⟩
theorem TwoS.of {K : PySem.W.Frag} {H : Hp} {v : V} {y : Int × Int} (h : TwoAt H v y) : TwoS K H v y := by
  obtain ⟨a, e, h⟩ := h
  exact ⟨a, e, SqT.of h⟩
/-- the two numbers of a thing, if it is such a tuple -/
def twoD : PyData → Option (Int × Int)
  | .tuple [.int i, .int j] => some (i, j)
  | _ => none
theorem twoD_some {d : PyData} {y : Int × Int} (h : twoD d = some y) : d = .tuple [.int y.1, .int y.2] := by
  unfold twoD at h
  split at h
  · cases h
    rfl
  · cases h
theorem two_dp {K : PySem.W.Frag} {H : Hp} {v : V} {d : PyData} {y : Int × Int} (h : Dp K H v d) (e : twoD d = some y) : TwoS K H v y := by
  have e := twoD_some e
  subst e
  cases h with
  | tup h r =>
    cases r with
    | cons r1 r =>
      cases r with
      | cons r2 r =>
        cases r
        cases r1
        cases r2
        exact ⟨_, rfl, h⟩
theorem paired_two {K : PySem.W.Frag} {H : Hp} : ∀ {vs : List V} {ds : List PyData} {qs : List (Int × Int)}, DpAll K H vs ds → ds.mapM twoD = some qs → Paired (TwoS K H) vs qs
  | _, [], qs, .nil, e => by
    rw [List.mapM_nil] at e
    cases e
    exact .nil
  | _, d :: ds, qs, .cons h t, e => by
    rw [List.mapM_cons] at e
    cases h1 : twoD d with
    | none =>
      rw [h1] at e
      cases e
    | some y =>
      rw [h1] at e
      cases h2 : ds.mapM twoD with
      | none =>
        rw [h2] at e
        cases e
      | some ys =>
        rw [h2] at e
        cases e
        exact .cons (two_dp h h1) (paired_two t h2)
def dTw (y : Int × Int) : PyData := .tuple [.int y.1, .int y.2]
theorem dp_twos {K : PySem.W.Frag} {H : Hp} : ∀ {vs : List V} {qs : List (Int × Int)}, Paired (TwoS K H) vs qs → DpAll K H vs (qs.map dTw)
  | _, _, .nil => .nil
  | _, _, .cons ⟨_, e, h⟩ t => .cons (e ▸ .tup h (.cons (.int _) (.cons (.int _) .nil))) (dp_twos t)
theorem mapM_len {α β : Type} {f : α → Option β} : ∀ {xs : List α} {ys : List β}, xs.mapM f = some ys → ys.length = xs.length
  | [], ys, e => by
    rw [List.mapM_nil] at e
    cases e
    rfl
  | x :: xs, ys, e => by
    rw [List.mapM_cons] at e
    cases h1 : f x with
    | none =>
      rw [h1] at e
      cases e
    | some y =>
      rw [h1] at e
      cases h2 : xs.mapM f with
      | none =>
        rw [h2] at e
        cases e
      | some zs =>
        rw [h2] at e
        cases e
        rw [List.length_cons, List.length_cons, mapM_len h2]
theorem mapM_snoc {α β : Type} {f : α → Option β} : ∀ {xs : List α} {ys : List β} {x : α} {y : β}, xs.mapM f = some ys → f x = some y → (xs ++ [x]).mapM f = some (ys ++ [y])
  | xs, ys, x, y, e, e2 => by
    rw [List.mapM_append, e]
    show (do let z ← [x].mapM f; pure (ys ++ z)) = _
    rw [List.mapM_cons, e2, List.mapM_nil]
    rfl
theorem mapM_get {α β : Type} {f : α → Option β} : ∀ {xs : List α} {ys : List β} {i : Nat} {x : α}, xs.mapM f = some ys → xs[i]? = some x → ∃ y, f x = some y ∧ ys[i]? = some y
  | [], _, _, _, _, e2 => by simp at e2
  | x :: xs, ys, i, z, e, e2 => by
    rw [List.mapM_cons] at e
    cases h1 : f x with
    | none =>
      rw [h1] at e
      cases e
    | some y =>
      rw [h1] at e
      cases h2 : xs.mapM f with
      | none =>
        rw [h2] at e
        cases e
      | some zs =>
        rw [h2] at e
        cases e
        cases i with
        | zero =>
          simp at e2
          subst e2
          exact ⟨y, h1, rfl⟩
        | succ i =>
          obtain ⟨y2, q1, q2⟩ := mapM_get (i := i) h2 (by simpa using e2)
          exact ⟨y2, q1, by simpa using q2⟩
theorem mapM_none {α β : Type} {f : α → Option β} : ∀ {xs : List α} {x : α}, x ∈ xs → f x = none → xs.mapM f = none
  | y :: xs, x, h, e => by
    rw [List.mapM_cons]
    rcases List.mem_cons.mp h with rfl | h
    · rw [e]
      rfl
    · cases h1 : f y with
      | none => rfl
      | some z =>
        show (do let zs ← xs.mapM f; pure (z :: zs)) = none
        rw [mapM_none h e]
        rfl
/-! ### repr of a tuple of two, the second anything -/
mutual
def plainD : PyData → Bool
  | .none => true
  | .bool _ => true
  | .int _ => true
  | .str _ => true
  | .list _ => false
  | .tuple ds => plainDs ds
  | .dict _ => false
def plainDs : List PyData → Bool
  | [] => true
  | d :: r => plainD d && plainDs r
end
theorem plainDs_all {ds : List PyData} (h : ∀ d ∈ ds, plainD d = true) : plainDs ds = true := by
  induction ds with
  | nil => rfl
  | cons d r ih =>
    rw [plainDs, h d (List.mem_cons_self ..), ih fun x hx => h x (List.mem_cons_of_mem _ hx)]
    rfl
mutual
theorem reads_plain {h : Heap} : ∀ (d : PyData) (u : Value) (as : List Addr), plainD d = true → Reads h u d as → as = []
  | .none, _, _, _, r => by cases r; rfl
  | .bool _, _, _, _, r => by cases r; rfl
  | .int _, _, _, _, r => by cases r; rfl
  | .str _, _, _, _, r => by cases r; rfl
  | .list _, _, _, e, _ => by simp [plainD] at e
  | .tuple ds, _, _, e, r => by
    cases r with
    | tuple _ _ _ r => exact reads_plains ds _ _ (by simpa [plainD] using e) r
  | .dict _, _, _, e, _ => by simp [plainD] at e
theorem reads_plains {h : Heap} : ∀ (ds : List PyData) (us : List Value) (as : List Addr), plainDs ds = true → ReadsAll h us ds as → as = []
  | [], _, _, _, r => by cases r; rfl
  | d :: ds, _, _, e, r => by
    rw [plainDs, Bool.and_eq_true] at e
    cases r with
    | cons r1 r2 => rw [reads_plain d _ _ e.1 r1, reads_plains ds _ _ e.2 r2]; rfl
end
end Pf


namespace Pf
open PySem PySem.Spec PyProof.Rows L2
theorem tt_len (r x : Str) : (tupleText [r, x]).length = r.length + x.length + 4 := by
  have e1 : ("(" : Str).length = 1 := by decide +kernel
  have e2 : (", " : Str).length = 2 := by decide +kernel
  have e3 : ((")" : String) : Str).length = 1 := by decide +kernel
  show (("(" : Str) ++ (r ++ ", " ++ x) ++ ((")" : String) : Str)).length = _
  rw [Str.length_append, Str.length_append, Str.length_append, Str.length_append, e1, e2, e3]
  omega
theorem len_emp (d : PyData) : (PyData.tuple [d, .dict []]).shown.length = (PyData.tuple [d, .tuple []]).shown.length := by
  have e1 : (dictText []).length = 2 := by decide +kernel
  have e2 : (tupleText []).length = 2 := by decide +kernel
  simp only [PyData.shown, PyData.shownAll, PyData.shownKv]
  rw [tt_len, tt_len, e1, e2]
def rShow2 (K : PySem.W.Frag) : List V → Hp → VK → Prop := fun xs H Q => ∃ (t : Addr) (x y : V) (dx dy : PyData) (m k : Nat), xs = [.ref t] ∧ SqT K H t [x, y] ∧ Dp K H x dx ∧ plainD dx = true ∧ Dq K H y dy ∧ Sm m k dx ∧ (Sm m k dy ∨ dy = .dict []) ∧ m ≤ 200000 ∧ k ≤ 40 ∧ Q (.str (PyData.tuple [dx, dy]).shown) H
theorem sm_two' {m k : Nat} {a b : PyData} (ha : Sm m k a) (hb : Sm m k b) (hm : m ≤ 200000) : Sm 1000000 (k + 1) (.tuple [a, b]) :=
  Sm.tup (n := 2) (m := m) (k := k) (Nat.le_refl _) (fun d hd => by
    simp only [List.mem_cons, List.not_mem_nil, or_false] at hd
    rcases hd with rfl | rfl
    · exact ha
    · exact hb) (by omega)
theorem call_show2 (K : PySem.W.Frag) {X : Cx} (hg : X.A.guards = some []) (hu : X.A.units + 64 < cLine) (hK : X.K = K := by rfl) : CallR X (.builtin "repr") (rShow2 K) := by
  subst hK
  intro pins s σ H xs us Q I r h
  obtain ⟨t, x, y, dx, dy, m, k, rfl, hT, hx, px, hy, sx, sy, hm, hk, q⟩ := h
  cases hy with
  | dp hy =>
    have sy : Sm m k dy := sy.elim id fun e => by
      subst e
      cases hy
    exact call_show X.K hg hu rfl pins s σ H _ us Q I r ⟨.ref t, _, _, _, rfl, .tup hT (.cons hx (.cons hy .nil)), sm_two' sx sy hm, Nat.le_refl _, by omega, q⟩
  | @emp a hA =>
    obtain ⟨u, rfl, rfl⟩ := vals1 r
    obtain ⟨its, rv, ⟨o, ho, hc, n, hd⟩, hz⟩ := I.tuple hT
    obtain ⟨_, hsys, vs, rel, od, es, ep, h1, h2, h3, _, h5, _⟩ := dk_of I.hok hA
    cases rel
    have hes : es.toList = [] := List.length_eq_zero_iff.mp h5.length
    cases rv with
    | cons r1 r2 =>
      cases r2 with
      | cons r3 r4 =>
        cases r4
        cases r3
        obtain ⟨as, ra⟩ := Dp.reads I _ _ _ hx r1
        have ea := reads_plain _ _ _ px ra
        subst ea
        have rb : Reads s.heap (.ref a) (.dict []) (a :: [] ++ []) := Reads.dict h1 h2.1 h3 (by rw [hes]; exact .nil) (by rw [hes]; exact .nil)
        have rt : Reads s.heap (.ref t) (.tuple [dx, .dict []]) ([] ++ ((a :: [] ++ []) ++ [])) := Reads.tuple ho hc hd (.cons ra (.cons rb .nil))
        have s0 : Sm m (k + 1) (.tuple []) := (Sm.tup (n := 0) (m := 0) (k := k) (M := 0) (ds := []) (Nat.le_refl _) (fun d hd => by cases hd) (Nat.le_refl _)).le (Nat.zero_le _) (Nat.le_refl _)
        have s2 := sm_two' (sx.le (Nat.le_refl _) (Nat.le_succ k)) s0 hm
        refine PySem.repr_of_reads' rt ?_ (fun _ z => ?_) hg ?_ (fun _ _ e => e) (fun h' u tk keep => ⟨.str _, H, I.kept keep, ⟨_, rfl⟩, q⟩) ?_
        · have := sx.sho
          simp [PyData.showable, PyData.showableAll, PyData.showableKv, this]
        · have e : sysModules = a := by simpa using z
          rw [← e] at hsys
          cases hsys
        · have := sx.dep
          simp only [PyData.depth, PyData.depthAll, PyData.depthKv]
          omega
        · rw [len_emp]
          exact s2.short (Nat.le_refl _) (by omega)
/-! ### how many unlike ones -/
theorem dd_len : ∀ (ns acc : List Int), acc.Nodup → ((ns.foldl step_dedup acc).length = acc.length + ns.length ↔ (acc ++ ns).Nodup)
  | [], acc, h => by simp [h]
  | x :: r, acc, h => by
    rw [List.foldl_cons]
    unfold step_dedup
    by_cases c : acc.any (· == x) = true
    · rw [if_pos c]
      have hx : x ∈ acc := by
        obtain ⟨y, hy, e⟩ := List.any_eq_true.mp c
        rw [← eq_of_beq e]
        exact hy
      have hle := foldl_step_dedup_length_le acc r
      constructor
      · intro e
        rw [List.length_cons] at e
        unfold step_dedup at hle
        omega
      · intro e
        have := (List.nodup_append.mp e).2.2 x hx x (List.mem_cons_self ..)
        exact absurd rfl this
    · rw [if_neg c]
      have hx : x ∉ acc := fun z => c (List.any_eq_true.mpr ⟨x, z, beq_self_eq_true x⟩)
      have hn : (acc ++ [x]).Nodup := List.nodup_append.mpr ⟨h, by simp, fun a ha b hb e => by
        rw [List.mem_singleton] at hb
        subst hb
        subst e
        exact hx ha⟩
      have ih := dd_len r (acc ++ [x]) hn
      rw [List.length_append, List.length_singleton, List.append_assoc, List.singleton_append] at ih
      rw [List.length_cons]
      unfold step_dedup at ih
      constructor
      · intro e
        exact ih.mp (by omega)
      · intro e
        have := ih.mpr e
        omega
theorem range_getD (ns : List Int) : (List.range ns.length).map (fun i => ns.getD i 0) = ns := by
  refine List.ext_getElem? fun i => ?_
  rw [List.getElem?_map]
  by_cases h : i < ns.length
  · rw [List.getElem?_range h, List.getElem?_eq_getElem h]
    simp [h]
  · rw [List.getElem?_eq_none (by rw [List.length_range]; omega), List.getElem?_eq_none (by omega)]
    rfl
theorem met_lt (ns : List Int) : (firstMet (fun i => ns.getD i 0) ns.length).length < ns.length ↔ ¬ ns.Nodup := by
  unfold firstMet
  rw [range_getD]
  have h1 := dd_len ns [] List.nodup_nil
  have h2 := foldl_step_dedup_nil_length_le ns
  rw [List.nil_append, List.length_nil, Nat.zero_add] at h1
  constructor
  · intro e h
    have := h1.mpr h
    omega
  · intro e
    by_cases c : (ns.foldl step_dedup []).length = ns.length
    · exact absurd (h1.mp c) e
    · omega
section
variable {X : Cx}
def tLenSetM (K : PySem.W.Frag) (ta : TE) : TE := fun σ H Q => ta σ H fun x H1 => ∃ (l : Addr) (ns : List Int), x = V.ref l ∧ SqL K H1 l (ns.map V.int) ∧ ns.length < 1000 ∧ ∀ n : Nat, (n < ns.length ↔ ¬ ns.Nodup) → n ≤ ns.length → Q (.int n) H1
theorem pe_lenSetM {a : Expr} {ta : TE} {p p2 q pos : Pos} (hc : X.calm = true) (hg : Gl X "len") (hm : X.mg "len" = none) (hg2 : Gl X "set") (hm2 : X.mg "set" = none) (ha : PE X a ta)
    (na : starEach [a] X.env = (false, eval a X.env) :: starEach [] X.env := by rfl) : PE X (.Call (.Name "len" p) [.Call (.Name "set" p2) [a] [] q] [] pos) (tLenSetM X.K ta) := by
  refine ⟨fun pins s σ H Q I h => ?_⟩
  refine Call_ (ld_blt I hg hm PySem.boot_len (PyProof.Rows.callWith_builtin1 (PyProof.Rows.args_cons ?_ rfl) rfl rfl))
  refine Call_ (ld_blt I hg2 hm2 PyProof.Rows.boot_set ?_)
  refine PyProof.Rows.callWith_type1 (PyProof.Rows.args_cons (thn (ha.run pins s σ H _ I h) fun v s1 ⟨x, H1, I1, r1, q1⟩ => PyProof.Rows.args_nil ?_) na) na rfl
  obtain ⟨l, ns, ex, hL, hn, q2⟩ := q1
  subst ex
  cases r1
  obtain ⟨its, r, pl, hz⟩ := I1.list hL
  have el : its.length = ns.length := by
    have := r.length
    rw [List.length_map] at this
    exact this.symm
  have hmet : (firstMet (fun i => ns.getD i 0) ns.length).length ≤ ns.length := firstMet_length_le _ _
  refine call_set_list (I1.ok.hd hc) pl.isList (ns := ns) (intsAre_of r) (by rw [List.size_toArray, el]; unfold scanBound; omega) fun h' tk hS hk => ?_
  have el2 : its.toArray.size = ns.length := by rw [List.size_toArray, el]
  rw [el2] at hS
  obtain ⟨o, es, ep, t, ho, hex, hd, _, _, _, hf, hsz⟩ := hS
  have I2 : Inv X pins σ H1 { s1 with heap := h', toks := tk } := I1.kept fun b u e => hk b u (Heap.lt_size e) e
  refine PyProof.Rows.args_nil ?_
  exact call_len_set ho hex hd hf (by omega) ⟨.int (firstMet (fun i => ns.getD i 0) ns.length).length, H1, I2.tok _, ⟨_, by rw [hsz]⟩, q2 _ (met_lt ns) hmet⟩
end
/-! ### a tuple backwards -/
theorem sl_back {pg : Program} {ww : World} {AA : Around} {EE : Value → Shared → Prop} {st : Shared} {sa : Addr} {vl vu vs : Value} {n : Nat} {Q : Int × Int × Nat → Shared → Prop} (hS : st.heap.IsSliceOf sa vl vu vs) (pl : IsPart vl none) (pu : IsPart vu none) (ps : IsPart vs (some (-1)))
    (q : Q ((n : Int) - 1, -1, n) st) : wpAny (model pg ww) AA (Builtin.Slice.sliceApplied (.ref sa) (pure (n : Int))) Q EE st := by
  obtain ⟨o1, ho1, _, hd1⟩ := id hS
  unfold Builtin.Slice.sliceApplied Builtin.Slice.sliceFields
  refine wpAny_bind (wpAny_bind (wpAny_field ho1 hd1 (x := vl) rfl (wpAny_bind (wpAny_field ho1 hd1 (x := vu) rfl (wpAny_bind (wpAny_field ho1 hd1 (x := vs) rfl (wpAny_pure (wpAny_bind (HT.slicePart_ ps ?_)))))))))
  show wpAny _ _ (if ((-1 : Int) == 0) = true then _ else _) _ _ st
  rw [if_neg (by decide)]
  refine wpAny_bind (HT.slicePart_ pl (wpAny_bind (HT.slicePart_ pu (wpAny_bind (wpAny_pure ?_)))))
  have e1 : Builtin.Slice.sliceAdjust none none (-1) (n : Int) = ((n : Int) - 1, -1) := rfl
  have e2 : Builtin.Slice.slicePlaces ((n : Int) - 1) (-1) (-1) = n := by
    unfold Builtin.Slice.slicePlaces
    rw [if_neg (by decide)]
    simp only [Int.reduceNeg, Int.neg_neg, Int.ediv_one]
    split <;> omega
  show wpAny _ _ (match Builtin.Slice.sliceAdjust none none (-1) (n : Int) with | (a, b) => pure (a, (-1 : Int), Builtin.Slice.slicePlaces a b (-1))) _ _ st
  rw [e1]
  show wpAny _ _ (pure ((n : Int) - 1, (-1 : Int), Builtin.Slice.slicePlaces ((n : Int) - 1) (-1) (-1))) _ _ st
  rw [e2]
  exact wpAny_pure q
theorem pick_back (xs : Array Value) : ((List.range xs.size).filterMap fun (m : Nat) => xs[(((xs.size : Int) - 1) + (m : Int) * -1).toNat]?).toArray = xs.toList.reverse.toArray := by
  congr 1
  have e : ∀ m ∈ List.range xs.size, xs[(((xs.size : Int) - 1) + (m : Int) * -1).toNat]? = some (xs.toList.reverse.getD m .none) := fun m hm => by
    have hm := List.mem_range.mp hm
    rw [show (((xs.size : Int) - 1) + (m : Int) * -1).toNat = xs.size - 1 - m by omega, List.getD_eq_getElem?_getD, List.getElem?_reverse (by rw [Array.length_toList]; exact hm), Array.length_toList, Array.getElem?_toList, Array.getElem?_eq_getElem (by omega)]
    rfl
  have e2 : ∀ l : List Nat, (∀ m ∈ l, xs[(((xs.size : Int) - 1) + (m : Int) * -1).toNat]? = some (xs.toList.reverse.getD m .none)) → (l.filterMap fun (m : Nat) => xs[(((xs.size : Int) - 1) + (m : Int) * -1).toNat]?) = l.map fun m => xs.toList.reverse.getD m .none := by
    intro l
    induction l with
    | nil => intro _; rfl
    | cons m r ih =>
      intro h
      rw [List.filterMap_cons, h m (List.mem_cons_self ..), List.map_cons, ih fun z hz => h z (List.mem_cons_of_mem _ hz)]
  rw [e2 _ e]
  refine List.ext_getElem? fun i => ?_
  rw [List.getElem?_map]
  by_cases h : i < xs.size
  · rw [List.getElem?_range h]
    show some (xs.toList.reverse.getD i .none) = _
    rw [List.getD_eq_getElem?_getD, List.getElem?_eq_getElem (by rw [List.length_reverse, Array.length_toList]; exact h)]
    rfl
  · rw [List.getElem?_eq_none (by rw [List.length_range]; omega), List.getElem?_eq_none (by rw [List.length_reverse, Array.length_toList]; omega)]
    rfl
theorem getItem_tuple_back {pg : Program} {ww : World} {AA : Around} {EE : Value → Shared → Prop} {st : Shared} {tp sa : Addr} {items : Array Value} {vl vu vs : Value} {Q : Value → Shared → Prop} (hT : IsTup st.heap tp items) (hS : st.heap.IsSliceOf sa vl vu vs) (pl : IsPart vl none) (pu : IsPart vu none) (ps : IsPart vs (some (-1)))
    (q : Q (.ref st.heap.objs.size) { st with heap := st.heap.push { cls := .type "tuple", data := .seq items.toList.reverse.toArray } }) (hz : items.size ≤ sizeLine) : wpAny (model pg ww) AA (getItem (.ref tp) (.ref sa)) Q EE st := by
  have hfit : sizeOk (.seq items.toList.reverse.toArray) := by
    show items.toList.reverse.toArray.size ≤ sizeLine
    rw [List.size_toArray, List.length_reverse, Array.length_toList]
    exact hz
  have hSl : st.TypeIs (.ref sa) "slice" := let ⟨o, h1, h2, _⟩ := hS; ⟨o, h1, h2⟩
  unfold getItem; try with_reducible refine wpAny_holding ?_
  first | refine wpAny_bind (wpAny_pure ?_) | skip
  refine wpAny_bind (wpAny_sequenceKey hT.typeIs (by decide) (wpAny_bind (wpAny_callSpecial?_slot (name := Str.ofString "__getitem__") hT.typeIs slot_tuple_getitem (wpAny_call_entry slot_tuple_getitem hT.typeIs entry_tuple_getitem ?_ (args_tuple_getitem _ _)))))
  show wpAny _ _ (Builtin.Tuple.tupleItemsOf (.ref tp) >>= _) _ _ st
  refine wpAny_bind (tupleItemsOf_ hT (wpAny_bind (wpAny_typeOf hSl ?_)))
  rw [if_pos (by decide)]
  refine wpAny_bind (sl_back hS pl pu ps ?_)
  have no : ¬ (((((items.size : Int) - 1) == 0 && (-1 : Int) == 1 && items.size == items.size)) = true) := fun z => by
    rw [Bool.and_eq_true, Bool.and_eq_true] at z
    exact absurd z.1.2 (by decide)
  show wpAny _ _ (if ((((items.size : Int) - 1) == 0 && (-1 : Int) == 1 && items.size == items.size)) = true then _ else _) _ _ st
  rw [if_neg no, pick_back]
  first
    | exact wpAny_bind (m := Builtin.Tuple.tupleExact _) (wpAny_newObj_type (wpAny_pure ⟨_, rfl, wpAny_pure q⟩) hfit)
    | exact wpAny_bind (m := Builtin.Tuple.tupleExact _) (wpAny_newObj_type (wpAny_bind (wpAny_pure (wpAny_pure ⟨_, rfl, wpAny_pure q⟩))) hfit)
    | exact wpAny_bind (wpAny_bind (m := Builtin.Tuple.tupleExact _) (wpAny_newObj_type (wpAny_pure (wpAny_pure ⟨_, rfl, wpAny_pure q⟩)) hfit))
    | exact wpAny_bind (wpAny_bind (m := Builtin.Tuple.tupleExact _) (wpAny_newObj_type (wpAny_pure ⟨_, rfl, wpAny_pure q⟩) hfit))
def tRevT (K : PySem.W.Frag) (te : TE) : TE := fun σ H Q => te σ H fun x H1 => ∃ a xs, x = .ref a ∧ SqT K H1 a xs ∧ ∀ p, H1 p = none → Q (.ref p) (upd H1 p (.tup xs.reverse))
theorem pe_revT {X : Cx} {e : Expr} {te : TE} {k : Nat} {p1 p2 p3 pos : Pos} (he : PE X e te) : PE X (.Subscript e (.Slice none none (some (.UnaryOp .USub (.Constant (.int 1) k p1) p2)) p3) pos) (tRevT X.K te) := by
  refine ⟨fun pins s σ H Q I h => ?_⟩
  refine Subscript_ (thn (he.run pins s σ H _ I h) fun v s1 ⟨x, H1, I1, r1, a, xs, ex, hx, q⟩ => ?_)
  subst ex
  cases r1
  have hst : PO X (some (.UnaryOp .USub (.Constant (.int 1) k p1) p2)) (tPart (tUn (rU fun i => .int (-i)) (tC (.int 1)))) := po_some (pe_un un_neg pe_int)
  refine wpAny_Slice (thn (po_none.run pins s1 σ H1 (fun o H2 => o = none ∧ H2 = H1) I1 ⟨rfl, rfl⟩) fun vl s2 ⟨l, H2, I2, pl, el, e2⟩ => ?_)
  subst el e2
  refine thn (po_none.run pins s2 σ H2 (fun o H3 => o = none ∧ H3 = H2) I2 ⟨rfl, rfl⟩) fun vu s3 ⟨u, H3, I3, pu, eu, e3⟩ => ?_
  subst eu e3
  refine thn (hst.run pins s3 σ H3 (fun o H4 => o = some (-1) ∧ H4 = H3) I3 ⟨1, rfl, -1, rfl, rfl, rfl⟩) fun vs s4 ⟨o, H4, I4, ps, eo, e4⟩ => ?_
  subst eo e4
  have I5 : Inv X pins σ H4 { s4 with heap := s4.heap.push { cls := .type "slice", data := .fields #[vl, vu, vs] } } := I4.kept (t' := s4.toks) fun b ob z => Heap.get?_push_of_some _ z
  obtain ⟨its, r, ht, hz⟩ := I5.tuple hx
  have hlen : its.toArray.size = xs.length := by rw [List.size_toArray]; exact r.length.symm
  refine tail_any (ops := [.ref a, .ref s4.heap.objs.size]) ht.typeIs PyProof.Rows.slot_tuple_getitem.lookup ?_ (by with_unfolding_all rfl)
  refine getItem_tuple_back ht (Heap.IsSliceOf.new _ vl vu vs) pl pu ps ?_ (by rw [hlen]; exact hz)
  refine ⟨.ref _, _, I5.laid (t' := s4.toks) (o := .tup xs.reverse) (fun b ob z => Heap.get?_push_of_some _ z) (Nat.le_refl _) ?_, rfl, q _ (I5.hok.fresh (Nat.le_refl _))⟩
  exact ⟨by rw [List.length_reverse]; exact hz, _, r.reverse, IsTup.new _ _⟩
/-- a part of a tuple of any make; two put together -/
def rSlS (K : PySem.W.Frag) : V → Option Int → Option Int → Hp → VK → Prop := fun x lo hi H Q => ∃ a xs, x = .ref a ∧ SqT K H a xs ∧ ∀ p H', Ext H H' → SqT K H' p (cutV xs lo hi) → Q (.ref p) H'
theorem slS (K : PySem.W.Frag) {X : Cx} (h : X.K = K := by rfl) : SlR X (rSlS K) := fun pins s σ H x v vl vu lo hi sl Q I rx hs pl pu ⟨a, xs, ex, ha, q⟩ => by
  refine slA K h pins s σ H x v vl vu lo hi sl Q I rx hs pl pu ⟨a, xs, ex, ha, fun z => q a H Ext.refl ?_, fun _ p hp => q p _ (Ext.new hp) (SqT.of upd_same)⟩
  have e : cutV xs lo hi = xs := by
    unfold cutV
    rw [z.1, z.2, List.drop_zero, Nat.sub_zero, List.take_length]
  rw [e]
  exact ha
def rCatS (K : PySem.W.Frag) : R2 := fun x y H Q => ∃ a b xs ys, x = .ref a ∧ y = .ref b ∧ SqT K H a xs ∧ SqT K H b ys ∧ xs.length + ys.length ≤ sizeLine ∧ ∀ p H', Ext H H' → SqT K H' p (xs ++ ys) → Q (.ref p) H'
theorem catS (K : PySem.W.Frag) {X : Cx} (h : X.K = K := by rfl) : OpR X (binaryOp .Add) (rCatS K) := fun pins s σ H x y v u Q I rx ry ⟨a, b, xs, ys, ex, ey, ha, hb, hz, q⟩ => by
  refine catA K h pins s σ H x y v u Q I rx ry ⟨a, b, xs, ys, ex, ey, ha, hb, hz, fun z => q b H Ext.refl (by rw [z]; exact hb), fun _ z => q a H Ext.refl (by rw [z, List.append_nil]; exact ha), fun _ _ p hp => q p _ (Ext.new hp) (SqT.of upd_same)⟩
/-- sum of a list of lists and a list -/
def rSumS (K : PySem.W.Frag) : List V → Hp → VK → Prop := fun vs H Q => ∃ (a b : Addr) (ls : List (Addr × List V)) (xs : List V), vs = [.ref a, .ref b] ∧ SqL K H a (ls.map fun x => .ref x.1) ∧ (∀ x ∈ ls, H x.1 = some (.lst x.2)) ∧ H b = some (.lst xs) ∧ xs.length + (ls.map (·.2)).flatten.length ≤ sizeLine ∧
  ∀ p H', Ext H H' → SqL K H' p (xs ++ (ls.map (·.2)).flatten) → Q (.ref p) H'
theorem sumS (K : PySem.W.Frag) {X : Cx} (hcalm : X.calm = true) (hK : X.K = K := by rfl) : CallR X (.builtin "sum") (rSumS K) := fun pins s σ H vs us Q I r ⟨a, b, ls, xs, e, h1, h2, h3, h4, q⟩ =>
  cr_sumL K hcalm hK pins s σ H vs us Q I r ⟨a, b, ls, xs, e, h1, h2, h3, h4, fun z => q b H Ext.refl (by rw [z]; show SqL K H b (xs ++ []); rw [List.append_nil]; exact SqL.of h3), fun _ p hp => q p _ (Ext.new hp) (SqL.of upd_same)⟩
end Pf


namespace Pf
open PySem PySem.Spec PyProof.Rows L2
/-! ### data in plain tuples and lists; a heap with two places hidden -/
mutual
inductive Ds (H : Hp) : V → PyData → Prop
  | non : Ds H .non .none
  | bl (b : Bool) : Ds H (.bl b) (.bool b)
  | int (i : Int) : Ds H (.int i) (.int i)
  | str (x : Str) : Ds H (.str x) (.str x)
  | lst {a : Addr} {xs : List V} {ds : List PyData} : H a = some (.lst xs) → DsAll H xs ds → Ds H (.ref a) (.list ds)
  | tup {a : Addr} {xs : List V} {ds : List PyData} : H a = some (.tup xs) → DsAll H xs ds → Ds H (.ref a) (.tuple ds)
inductive DsAll (H : Hp) : List V → List PyData → Prop
  | nil : DsAll H [] []
  | cons {v : V} {vs : List V} {d : PyData} {ds : List PyData} : Ds H v d → DsAll H vs ds → DsAll H (v :: vs) (d :: ds)
end
mutual
theorem ds_ext {H H' : Hp} (k : Ext H H') : ∀ {v : V} {d : PyData}, Ds H v d → Ds H' v d
  | _, _, .non => .non
  | _, _, .bl b => .bl b
  | _, _, .int i => .int i
  | _, _, .str x => .str x
  | _, _, .lst h r => .lst (k _ _ h) (dsAll_ext k r)
  | _, _, .tup h r => .tup (k _ _ h) (dsAll_ext k r)
theorem dsAll_ext {H H' : Hp} (k : Ext H H') : ∀ {vs : List V} {ds : List PyData}, DsAll H vs ds → DsAll H' vs ds
  | _, _, .nil => .nil
  | _, _, .cons r t => .cons (ds_ext k r) (dsAll_ext k t)
end
mutual
theorem Ds.dp {K : PySem.W.Frag} {H : Hp} : ∀ {v : V} {d : PyData}, Ds H v d → Dp K H v d
  | _, _, .non => .non
  | _, _, .bl b => .bl b
  | _, _, .int i => .int i
  | _, _, .str x => .str x
  | _, _, .lst h r => .lst (SqL.of h) (DsAll.dp r)
  | _, _, .tup h r => .tup (SqT.of h) (DsAll.dp r)
theorem DsAll.dp {K : PySem.W.Frag} {H : Hp} : ∀ {vs : List V} {ds : List PyData}, DsAll H vs ds → DpAll K H vs ds
  | _, _, .nil => .nil
  | _, _, .cons r t => .cons (Ds.dp r) (DsAll.dp t)
end
theorem dsAll_len {H : Hp} : ∀ {vs : List V} {ds : List PyData}, DsAll H vs ds → vs.length = ds.length
  | _, _, .nil => rfl
  | _, _, .cons _ t => by rw [List.length_cons, List.length_cons, dsAll_len t]
theorem dsAll_get {H : Hp} : ∀ {vs : List V} {ds : List PyData} {i : Nat} {v : V}, DsAll H vs ds → vs[i]? = some v → ∃ d, ds[i]? = some d ∧ Ds H v d
  | _, _, _, _, .nil, e => by simp at e
  | _, _, 0, _, .cons r _, e => by
    simp at e
    subst e
    exact ⟨_, rfl, r⟩
  | _, _, i + 1, v, .cons _ t, e => by
    obtain ⟨d, h1, h2⟩ := dsAll_get (i := i) (v := v) t (by simpa using e)
    exact ⟨d, by simpa using h1, h2⟩
theorem dsAll_snoc {H : Hp} : ∀ {vs : List V} {ds : List PyData} {v : V} {d : PyData}, DsAll H vs ds → Ds H v d → DsAll H (vs ++ [v]) (ds ++ [d])
  | _, _, _, _, .nil, h => .cons h .nil
  | _, _, _, _, .cons r t, h => .cons r (dsAll_snoc t h)
/-- anything: data, or an empty dict -/
def Dz (H : Hp) (v : V) (d : PyData) : Prop := Ds H v d ∨ ∃ a, v = .ref a ∧ H a = some (.dK []) ∧ d = .dict []
theorem Dz.ext {H H' : Hp} {v : V} {d : PyData} (h : Dz H v d) (k : Ext H H') : Dz H' v d := by
  rcases h with h | ⟨a, e, h, e2⟩
  · exact .inl (ds_ext k h)
  · exact .inr ⟨a, e, k _ _ h, e2⟩
theorem Dz.dq {K : PySem.W.Frag} {H : Hp} {v : V} {d : PyData} (h : Dz H v d) : Dq K H v d := by
  rcases h with h | ⟨a, rfl, h, rfl⟩
  · exact .dp h.dp
  · exact .emp h
theorem Bg.non {B : Nat} : Bg B 0 0 .none := ⟨by simp [PyData.canLay0], by simp [PyData.showable], by simp [PyData.leavesShort], by simp [PyData.weight], by simp [PyData.depth]⟩
theorem Bg.bl {B : Nat} (b : Bool) : Bg B 0 0 (.bool b) := ⟨by simp [PyData.canLay0], by simp [PyData.showable], by simp [PyData.leavesShort], by simp [PyData.weight], by simp [PyData.depth]⟩
theorem Bg.str {B : Nat} {x : Str} {n : Nat} (h : PyData.strOk x = true) (h2 : (x.cps.toList.all fun c => decide (c < 16 ^ 8)) = true) (hn : x.length ≤ n) : Bg B n 0 (.str x) :=
  ⟨by simpa only [PyData.canLay0] using h, by simp [PyData.showable], by simp only [PyData.leavesShort]; exact h2, by simp only [PyData.weight]; exact hn, by simp [PyData.depth]⟩
theorem Bg.shaped {B m k : Nat} {d : PyData} (h : Bg B m k d) (hk : k ≤ 50) : SeqAt.shaped d = true := by
  show (d.canLay0 && decide (d.depth ≤ 64)) = true
  rw [h.lay, decide_eq_true (show d.depth ≤ 64 from Nat.le_trans h.dep (by omega))]
  rfl
/-- data of so much weight and depth -/
def Dk (m k : Nat) (H : Hp) (v : V) : Prop := ∃ d, Ds H v d ∧ Bg 141 m k d
theorem Dk.le {m k m' k' : Nat} {H : Hp} {v : V} (h : Dk m k H v) (hm : m ≤ m') (hk : k ≤ k') : Dk m' k' H v := by
  obtain ⟨d, h1, h2⟩ := h
  exact ⟨d, h1, h2.le hm hk⟩
theorem Dk.ext {m k : Nat} {H H' : Hp} {v : V} (h : Dk m k H v) (e : Ext H H') : Dk m k H' v := by
  obtain ⟨d, h1, h2⟩ := h
  exact ⟨d, ds_ext e h1, h2⟩
theorem Dk.non {H : Hp} : Dk 200 0 H .non := ⟨_, .non, Bg.non.le (by decide) (Nat.le_refl _)⟩
theorem Dk.bl {H : Hp} (b : Bool) : Dk 200 0 H (.bl b) := ⟨_, .bl b, (Bg.bl b).le (by decide) (Nat.le_refl _)⟩
theorem Dk.int {H : Hp} {i : Int} (h : i.natAbs < 2 ^ 140) : Dk 200 0 H (.int i) := ⟨_, .int i, (Bg.int (B := 140) (by decide) (by decide) h).le (by decide) (Nat.le_refl _)⟩
theorem Dk.intS {H : Hp} {i : Int} (h0 : -1000000 < i) (h1 : i < 1000000) : Dk 200 0 H (.int i) := Dk.int (Nat.lt_of_lt_of_le (show i.natAbs < 1000000 by omega) (by decide +kernel))
theorem Dk.str {H : Hp} {x : Str} (h : PyData.strOk x = true) (h2 : (x.cps.toList.all fun c => decide (c < 16 ^ 8)) = true) (hn : x.length ≤ 100) : Dk 200 0 H (.str x) := ⟨_, .str x, (Bg.str h h2 hn).le (by decide) (Nat.le_refl _)⟩
theorem Dk.text {H : Hp} {n : Nat} (hn : n ≤ 20) : Dk 200 0 H (.str (Str.ofString (toString (n : Int)))) := by
  have key : ((List.range 21).all fun n => PyData.strOk (Str.ofString (toString (n : Int))) && ((Str.ofString (toString (n : Int))).cps.toList.all fun c => decide (c < 16 ^ 8)) && decide ((Str.ofString (toString (n : Int))).length ≤ 100)) = true := by decide +kernel
  have := List.all_eq_true.mp key n (List.mem_range.mpr (by omega))
  rw [Bool.and_eq_true, Bool.and_eq_true] at this
  exact Dk.str this.1.1 this.1.2 (of_decide_eq_true this.2)
theorem dk_all {m k : Nat} {H : Hp} : ∀ {us : List V}, (∀ u ∈ us, Dk m k H u) → ∃ ds, DsAll H us ds ∧ ∀ d ∈ ds, Bg 141 m k d
  | [], _ => ⟨[], .nil, fun d h => by cases h⟩
  | u :: us, h => by
    obtain ⟨d, h1, h2⟩ := h u (List.mem_cons_self ..)
    obtain ⟨ds, h3, h4⟩ := dk_all fun x hx => h x (List.mem_cons_of_mem _ hx)
    refine ⟨d :: ds, .cons h1 h3, fun z hz => ?_⟩
    rcases List.mem_cons.mp hz with rfl | hz
    · exact h2
    · exact h4 z hz
theorem Dk.tup {m k n M : Nat} {H : Hp} {a : Addr} {us : List V} (h : H a = some (.tup us)) (hu : ∀ u ∈ us, Dk m k H u) (hn : us.length ≤ n) (hM : n * (m + 1) ≤ M) : Dk M (k + 1) H (.ref a) := by
  obtain ⟨ds, h1, h2⟩ := dk_all hu
  have := dsAll_len h1
  exact ⟨_, .tup h h1, Bg.tup (n := n) (by omega) h2 hM⟩
theorem Dk.lst {m k n M : Nat} {H : Hp} {a : Addr} {us : List V} (h : H a = some (.lst us)) (hu : ∀ u ∈ us, Dk m k H u) (hn : us.length ≤ n) (hM : n * (m + 1) ≤ M) : Dk M (k + 1) H (.ref a) := by
  obtain ⟨ds, h1, h2⟩ := dk_all hu
  have := dsAll_len h1
  exact ⟨_, .lst h h1, Bg.lst (n := n) (by omega) h2 hM⟩
/-- a thing that may be shown -/
def Thg (H : Hp) (v : V) : Prop := Dk 20000 3 H v ∨ ∃ a, v = .ref a ∧ H a = some (.dK [])
theorem Thg.ext {H H' : Hp} {v : V} (h : Thg H v) (e : Ext H H') : Thg H' v := by
  rcases h with h | ⟨a, e1, h⟩
  · exact .inl (h.ext e)
  · exact .inr ⟨a, e1, e _ _ h⟩
theorem Thg.dz {H : Hp} {v : V} (h : Thg H v) : ∃ d, Dz H v d ∧ (Bg 141 20000 3 d ∨ d = .dict []) := by
  rcases h with ⟨d, h1, h2⟩ | ⟨a, e, h⟩
  · exact ⟨d, .inl h1, .inl h2⟩
  · exact ⟨_, .inr ⟨a, e, h, rfl⟩, .inr rfl⟩
def hd2 (p D : Addr) (H : Hp) : Hp := fun b => if b = p ∨ b = D then none else H b
theorem hd2_ne {p D a : Addr} {H : Hp} (h1 : a ≠ p) (h2 : a ≠ D) : hd2 p D H a = H a := if_neg fun z => z.elim h1 h2
theorem hd2_le {p D : Addr} {H : Hp} : Ext (hd2 p D H) H := fun b o h => by
  unfold hd2 at h
  split at h
  · cases h
  · exact h
theorem hd2_kp {p D : Addr} {H H' : Hp} (k : Kp p H H') : Ext (hd2 p D H) (hd2 p D H') := fun b o h => by
  unfold hd2 at h ⊢
  split at h
  · cases h
  · rename_i n
    rw [if_neg n]
    exact k _ _ (fun z => n (.inl z)) h
theorem hd2_ext {p D : Addr} {H H' : Hp} (k : Ext H H') : Ext (hd2 p D H) (hd2 p D H') := hd2_kp fun b o _ h => k b o h
theorem hd2_upd {p D : Addr} {H : Hp} {o : HO} : hd2 p D (upd H D o) = hd2 p D H := by
  funext b
  unfold hd2
  split
  · rfl
  · rename_i n
    rw [upd_ne fun z => n (.inr z)]
theorem hd2_tup {p D a : Addr} {H : Hp} {xs ys zs : List V} (h : H a = some (.tup xs)) (hp : H p = some (.lst ys)) (hD : H D = some (.lst zs)) : hd2 p D H a = some (.tup xs) := by
  rw [hd2_ne]
  · exact h
  · intro z
    rw [z, hp] at h
    cases h
  · intro z
    rw [z, hD] at h
    cases h
theorem hd2_new {p D a : Addr} {H : Hp} {o o1 o2 : HO} (hp : H p = some o1) (hD : H D = some o2) (ha : H a = none) : hd2 p D (upd H a o) a = some o := by
  rw [hd2_ne]
  · exact upd_same
  · intro z
    rw [z, hp] at ha
    cases ha
  · intro z
    rw [z, hD] at ha
    cases ha
/-! ### repr of anything -/
def rShowE (K : PySem.W.Frag) : List V → Hp → VK → Prop := fun xs H Q => ∃ (v : V) (d : PyData), xs = [v] ∧ Dz H v d ∧ (Bg 141 20000 3 d ∨ d = .dict []) ∧ Q (.str d.shown) H
theorem call_showE (K : PySem.W.Frag) {X : Cx} (hg : X.A.guards = some []) (hu : X.A.units + 64 < cLine) (hK : X.K = K := by rfl) : CallR X (.builtin "repr") (rShowE K) := by
  subst hK
  intro pins s σ H xs us Q I r h
  obtain ⟨v, d, rfl, hd, hs, q⟩ := h
  rcases hd with hd | ⟨a, rfl, hA, rfl⟩
  · have hs : Bg 141 20000 3 d := hs.elim id fun e => by
      subst e
      cases hd
    exact call_showB X.K hg hu rfl pins s σ H _ us Q I r ⟨v, d, 141, 20000, 3, rfl, hd.dp, hs, by decide, by decide, by decide, q⟩
  · obtain ⟨u, rfl, rfl⟩ := vals1 r
    obtain ⟨_, hsys, vs, rel, od, es, ep, h1, h2, h3, _, h5, _⟩ := dk_of I.hok hA
    cases rel
    have hes : es.toList = [] := List.length_eq_zero_iff.mp h5.length
    have rb : Reads s.heap (.ref a) (.dict []) (a :: [] ++ []) := Reads.dict h1 h2.1 h3 (by rw [hes]; exact .nil) (by rw [hes]; exact .nil)
    refine PySem.repr_of_reads' rb ?_ (fun _ z => ?_) hg ?_ (fun _ _ e => e) (fun h' u tk keep => ⟨.str _, H, I.kept keep, ⟨_, rfl⟩, q⟩) ?_
    · simp [PyData.showable, PyData.showableKv]
    · have e : sysModules = a := by simpa using z
      rw [← e] at hsys
      cases hsys
    · simp only [PyData.depth, PyData.depthKv]
      omega
    · have e1 : (dictText []).length = 2 := by decide +kernel
      simp only [PyData.shown, PyData.shownKv]
      rw [e1]
      decide
/-! ### parts and sums of plain tuples -/
def rSlN : V → Option Int → Option Int → Hp → VK → Prop := fun x lo hi H Q => ∃ a xs, x = .ref a ∧ H a = some (.tup xs) ∧ ∀ p H', Ext H H' → H' p = some (.tup (cutV xs lo hi)) → Q (.ref p) H'
theorem slN (K : PySem.W.Frag) {X : Cx} (h : X.K = K := by rfl) : SlR X rSlN := fun pins s σ H x v vl vu lo hi sl Q I rx hs pl pu ⟨a, xs, ex, ha, q⟩ => by
  refine slA K h pins s σ H x v vl vu lo hi sl Q I rx hs pl pu ⟨a, xs, ex, SqT.of ha, fun z => q a H Ext.refl ?_, fun _ p hp => q p _ (Ext.new hp) upd_same⟩
  have e : cutV xs lo hi = xs := by
    unfold cutV
    rw [z.1, z.2, List.drop_zero, Nat.sub_zero, List.take_length]
  rw [e]
  exact ha
def rCatN : R2 := fun x y H Q => ∃ a b xs ys, x = .ref a ∧ y = .ref b ∧ H a = some (.tup xs) ∧ H b = some (.tup ys) ∧ xs.length + ys.length ≤ sizeLine ∧ ∀ p H', Ext H H' → H' p = some (.tup (xs ++ ys)) → Q (.ref p) H'
theorem catN (K : PySem.W.Frag) {X : Cx} (h : X.K = K := by rfl) : OpR X (binaryOp .Add) rCatN := fun pins s σ H x y v u Q I rx ry ⟨a, b, xs, ys, ex, ey, ha, hb, hz, q⟩ => by
  refine catA K h pins s σ H x y v u Q I rx ry ⟨a, b, xs, ys, ex, ey, SqT.of ha, SqT.of hb, hz, fun z => q b H Ext.refl (by rw [z]; exact hb), fun _ z => q a H Ext.refl (by rw [z, List.append_nil]; exact ha), fun _ _ p hp => q p _ (Ext.new hp) upd_same⟩
end Pf


namespace Pf
open PySem PySem.Spec PyProof.Rows L2
/-! ### data in plain tuples and lists, an empty dict at any depth -/
mutual
inductive De (H : Hp) : V → PyData → Prop
  | non : De H .non .none
  | bl (b : Bool) : De H (.bl b) (.bool b)
  | int (i : Int) : De H (.int i) (.int i)
  | str (x : Str) : De H (.str x) (.str x)
  | lst {a : Addr} {xs : List V} {ds : List PyData} : H a = some (.lst xs) → DeAll H xs ds → De H (.ref a) (.list ds)
  | tup {a : Addr} {xs : List V} {ds : List PyData} : H a = some (.tup xs) → DeAll H xs ds → De H (.ref a) (.tuple ds)
  | emp {a : Addr} : H a = some (.dK []) → De H (.ref a) (.dict [])
inductive DeAll (H : Hp) : List V → List PyData → Prop
  | nil : DeAll H [] []
  | cons {v : V} {vs : List V} {d : PyData} {ds : List PyData} : De H v d → DeAll H vs ds → DeAll H (v :: vs) (d :: ds)
end
mutual
theorem de_ext {H H' : Hp} (k : Ext H H') : ∀ {v : V} {d : PyData}, De H v d → De H' v d
  | _, _, .non => .non
  | _, _, .bl b => .bl b
  | _, _, .int i => .int i
  | _, _, .str x => .str x
  | _, _, .lst h r => .lst (k _ _ h) (deAll_ext k r)
  | _, _, .tup h r => .tup (k _ _ h) (deAll_ext k r)
  | _, _, .emp h => .emp (k _ _ h)
theorem deAll_ext {H H' : Hp} (k : Ext H H') : ∀ {vs : List V} {ds : List PyData}, DeAll H vs ds → DeAll H' vs ds
  | _, _, .nil => .nil
  | _, _, .cons r t => .cons (de_ext k r) (deAll_ext k t)
end
theorem deAll_len {H : Hp} : ∀ {vs : List V} {ds : List PyData}, DeAll H vs ds → vs.length = ds.length
  | _, _, .nil => rfl
  | _, _, .cons _ t => by rw [List.length_cons, List.length_cons, deAll_len t]
theorem deAll_get {H : Hp} : ∀ {vs : List V} {ds : List PyData} {i : Nat} {v : V}, DeAll H vs ds → vs[i]? = some v → ∃ d, ds[i]? = some d ∧ De H v d
  | _, _, _, _, .nil, e => by simp at e
  | _, _, 0, _, .cons r _, e => by
    simp at e
    subst e
    exact ⟨_, rfl, r⟩
  | _, _, i + 1, v, .cons _ t, e => by
    obtain ⟨d, h1, h2⟩ := deAll_get (i := i) (v := v) t (by simpa using e)
    exact ⟨d, by simpa using h1, h2⟩
theorem deAll_snoc {H : Hp} : ∀ {vs : List V} {ds : List PyData} {v : V} {d : PyData}, DeAll H vs ds → De H v d → DeAll H (vs ++ [v]) (ds ++ [d])
  | _, _, _, _, .nil, h => .cons h .nil
  | _, _, _, _, .cons r t, h => .cons r (deAll_snoc t h)
theorem deAll_app {H : Hp} : ∀ {vs us : List V} {ds es : List PyData}, DeAll H vs ds → DeAll H us es → DeAll H (vs ++ us) (ds ++ es)
  | _, _, _, _, .nil, h => h
  | _, _, _, _, .cons r t, h => .cons r (deAll_app t h)
theorem deAll_take {H : Hp} : ∀ {vs : List V} {ds : List PyData} (n : Nat), DeAll H vs ds → DeAll H (vs.take n) (ds.take n)
  | _, _, 0, _ => by rw [List.take_zero, List.take_zero]; exact .nil
  | _, _, _ + 1, .nil => .nil
  | _, _, n + 1, .cons r t => .cons r (deAll_take n t)
theorem deAll_drop {H : Hp} : ∀ {vs : List V} {ds : List PyData} (n : Nat), DeAll H vs ds → DeAll H (vs.drop n) (ds.drop n)
  | _, _, 0, h => h
  | _, _, _ + 1, .nil => .nil
  | _, _, n + 1, .cons _ t => deAll_drop n t
theorem De.ty {K : PySem.W.Frag} {H : Hp} {v : V} {d : PyData} (h : De H v d) : TyX K H v (.type (tyD d)) := by
  cases h with
  | non => exact .base .non
  | bl b => exact .base (.bl b)
  | int i => exact .base (.int i)
  | str x => exact .base (.str x)
  | lst h _ => exact .base (.lst h)
  | tup h _ => exact .base (.tup h)
  | emp h => exact .base (.dK h)
mutual
theorem ds_de {H : Hp} : ∀ {v : V} {d : PyData}, Ds H v d → De H v d
  | _, _, .non => .non
  | _, _, .bl b => .bl b
  | _, _, .int i => .int i
  | _, _, .str x => .str x
  | _, _, .lst h r => .lst h (dsAll_de r)
  | _, _, .tup h r => .tup h (dsAll_de r)
theorem dsAll_de {H : Hp} : ∀ {vs : List V} {ds : List PyData}, DsAll H vs ds → DeAll H vs ds
  | _, _, .nil => .nil
  | _, _, .cons r t => .cons (ds_de r) (dsAll_de t)
end
/-! ### how much they weigh -/
structure BgD (B m k : Nat) (d : PyData) : Prop where
  sho : d.showable = true
  ish : d.leavesShort B = true
  wt : d.weight ≤ m
  dep : d.depth ≤ k
theorem Bg.d {B m k : Nat} {d : PyData} (h : Bg B m k d) : BgD B m k d := ⟨h.sho, h.ish, h.wt, h.dep⟩
theorem BgD.le {B m k m' k' : Nat} {d : PyData} (h : BgD B m k d) (hm : m ≤ m') (hk : k ≤ k') : BgD B m' k' d := ⟨h.sho, h.ish, Nat.le_trans h.wt hm, Nat.le_trans h.dep hk⟩
theorem BgD.emp {B : Nat} : BgD B 0 1 (.dict []) := ⟨by simp [PyData.showable, PyData.showableKv], by simp [PyData.leavesShort, PyData.leavesShortKv], by simp [PyData.weight, PyData.weightKv], by simp [PyData.depth, PyData.depthKv]⟩
structure BgDA (B m k : Nat) (ds : List PyData) : Prop where
  sho : PyData.showableAll ds = true
  ish : PyData.leavesShortAll B ds = true
  wt : PyData.weightAll ds ≤ ds.length * (m + 1)
  dep : PyData.depthAll ds ≤ k
theorem BgDA.of {B m k : Nat} : ∀ {ds : List PyData}, (∀ d ∈ ds, BgD B m k d) → BgDA B m k ds
  | [], _ => ⟨by simp [PyData.showableAll], by simp [PyData.leavesShortAll], by simp [PyData.weightAll], by simp [PyData.depthAll]⟩
  | d :: ds, h => by
    have h1 := h d (List.mem_cons_self ..)
    have h2 := BgDA.of (ds := ds) fun x hx => h x (List.mem_cons_of_mem _ hx)
    refine ⟨by simp [PyData.showableAll, h1.sho, h2.sho], by simp [PyData.leavesShortAll, h1.ish, h2.ish], ?_, ?_⟩
    · have e1 := h1.wt
      have e2 := h2.wt
      simp only [PyData.weightAll, List.length_cons, Nat.succ_mul]
      omega
    · simp only [PyData.depthAll]
      exact Nat.max_le.mpr ⟨h1.dep, h2.dep⟩
theorem BgD.lst {B n m k M : Nat} {ds : List PyData} (hn : ds.length ≤ n) (h : ∀ d ∈ ds, BgD B m k d) (hM : n * (m + 1) ≤ M) : BgD B M (k + 1) (.list ds) := by
  have a := BgDA.of h
  have hw : ds.length * (m + 1) ≤ n * (m + 1) := Nat.mul_le_mul_right _ hn
  exact ⟨by simpa only [PyData.showable] using a.sho, by simpa only [PyData.leavesShort] using a.ish, by simp only [PyData.weight]; exact Nat.le_trans a.wt (Nat.le_trans hw hM), by simp only [PyData.depth]; exact Nat.succ_le_succ a.dep⟩
theorem BgD.tup {B n m k M : Nat} {ds : List PyData} (hn : ds.length ≤ n) (h : ∀ d ∈ ds, BgD B m k d) (hM : n * (m + 1) ≤ M) : BgD B M (k + 1) (.tuple ds) := by
  have a := BgDA.of h
  have hw : ds.length * (m + 1) ≤ n * (m + 1) := Nat.mul_le_mul_right _ hn
  exact ⟨by simpa only [PyData.showable] using a.sho, by simpa only [PyData.leavesShort] using a.ish, by simp only [PyData.weight]; exact Nat.le_trans a.wt (Nat.le_trans hw hM), by simp only [PyData.depth]; exact Nat.succ_le_succ a.dep⟩
theorem BgD.short {B m k : Nat} {d : PyData} (h : BgD B m k d) (hB : 8 ≤ B) (hm : (B + 2) * m + B ≤ 15000000) : d.shown.length ≤ sizeLine := by
  have h1 := PyData.shown_le B hB d h.ish
  have h2 : (B + 2) * d.weight ≤ (B + 2) * m := Nat.mul_le_mul_left _ h.wt
  rw [sizeLine_eq]
  omega
/-- what members weigh -/
theorem wt_mem : ∀ {ds : List PyData} {d : PyData}, d ∈ ds → d.weight + 1 ≤ PyData.weightAll ds
  | [], _, h => by cases h
  | x :: ds, d, h => by
    simp only [PyData.weightAll]
    rcases List.mem_cons.mp h with rfl | h
    · omega
    · have := wt_mem h
      omega
theorem wt_len : ∀ (ds : List PyData), ds.length ≤ PyData.weightAll ds
  | [] => Nat.zero_le _
  | x :: ds => by
    have := wt_len ds
    simp only [PyData.weightAll, List.length_cons]
    omega
theorem wt_tup {ds : List PyData} {d : PyData} (h : d ∈ ds) : d.weight ≤ (PyData.tuple ds).weight := by
  have := wt_mem h
  simp only [PyData.weight]
  omega
theorem wt_lst {ds : List PyData} {d : PyData} (h : d ∈ ds) : d.weight ≤ (PyData.list ds).weight := by
  have := wt_mem h
  simp only [PyData.weight]
  omega
/-! ### repr of them -/
section
variable {X : Cx} {pins : List (Addr × Obj)} {σ : L2.St} {H : Hp} {s : Shared}
mutual
theorem De.reads (I : Inv X pins σ H s) (h0 : H sysModules = none) : ∀ (d : PyData) (v : V) (u : Value), De H v d → RelV v u → ∃ as, Reads s.heap u d as ∧ sysModules ∉ as
  | .none, _, _, h, r => by
    cases h
    cases r
    exact ⟨_, Reads.none, by simp⟩
  | .bool b, _, _, h, r => by
    cases h
    cases r
    exact ⟨_, Reads.bool b, by simp⟩
  | .int i, _, _, h, r => by
    cases h
    obtain ⟨t, rfl⟩ := r
    exact ⟨_, Reads.int i t, by simp⟩
  | .str x, _, _, h, r => by
    cases h
    obtain ⟨t, rfl⟩ := r
    exact ⟨_, Reads.str x t, by simp⟩
  | .list ds, _, _, h, r => by
    cases h with
    | lst hs ha =>
      cases r
      obtain ⟨its, rv, ⟨o, n, ho, hc, _, hd⟩, _⟩ := I.list (SqL.of hs)
      obtain ⟨as, hr, hn⟩ := De.readsAll I h0 ds _ its ha rv
      refine ⟨_, Reads.list ho hc hd hr, fun z => ?_⟩
      rcases List.mem_cons.mp z with z | z
      · rw [← z, h0] at hs
        cases hs
      · exact hn z
  | .tuple ds, _, _, h, r => by
    cases h with
    | tup hs ha =>
      cases r
      obtain ⟨its, rv, ⟨o, ho, hc, n, hd⟩, _⟩ := I.tuple (SqT.of hs)
      obtain ⟨as, hr, hn⟩ := De.readsAll I h0 ds _ its ha rv
      exact ⟨_, Reads.tuple ho hc hd hr, hn⟩
  | .dict kvs, _, _, h, r => by
    cases h with
    | @emp a hA =>
      cases r
      obtain ⟨_, hsys, vs, rel, od, es, ep, h1, h2, h3, _, h5, _⟩ := dk_of I.hok hA
      cases rel
      have hes : es.toList = [] := List.length_eq_zero_iff.mp h5.length
      have rb : Reads s.heap (.ref a) (.dict []) (a :: [] ++ []) := Reads.dict h1 h2.1 h3 (by rw [hes]; exact .nil) (by rw [hes]; exact .nil)
      refine ⟨_, rb, fun z => ?_⟩
      have e : sysModules = a := by simpa using z
      rw [← e] at hsys
      cases hsys
theorem De.readsAll (I : Inv X pins σ H s) (h0 : H sysModules = none) : ∀ (ds : List PyData) (vs : List V) (us : List Value), DeAll H vs ds → Vals vs us → ∃ as, ReadsAll s.heap us ds as ∧ sysModules ∉ as
  | [], _, _, h, r => by
    cases h
    cases r
    exact ⟨_, ReadsAll.nil, by simp⟩
  | d :: ds, _, _, h, r => by
    cases h with
    | cons h1 h2 =>
      cases r with
      | cons r1 r2 =>
        obtain ⟨as, q1, n1⟩ := De.reads I h0 d _ _ h1 r1
        obtain ⟨bs, q2, n2⟩ := De.readsAll I h0 ds _ _ h2 r2
        refine ⟨_, ReadsAll.cons q1 q2, fun z => ?_⟩
        rcases List.mem_append.mp z with z | z
        · exact n1 z
        · exact n2 z
end
end
def rShowD : List V → Hp → VK → Prop := fun xs H Q => ∃ v d B m k, xs = [v] ∧ De H v d ∧ BgD B m k d ∧ 8 ≤ B ∧ (B + 2) * m + B ≤ 15000000 ∧ k ≤ 50 ∧ Q (.str d.shown) H
theorem call_showD {X : Cx} (hb : ∃ o, X.base.get? sysModules = some o) (hg : X.A.guards = some []) (hu : X.A.units + 64 < cLine) : CallR X (.builtin "repr") rShowD := by
  intro pins s σ H xs us Q I r h
  obtain ⟨v, d, B, m, k, rfl, hd, sh, hB, hm, hk, q⟩ := h
  have hdep := sh.dep
  have hz := sh.short hB hm
  have h0 : H sysModules = none := by
    obtain ⟨o, ho⟩ := hb
    exact (I.bs _ o ho).2
  cases hd with
  | non =>
    obtain ⟨u, rfl, rfl⟩ := vals1 r
    exact PySem.P.repr_of_none ⟨.str _, H, I.tok _, ⟨_, rfl⟩, by simpa only [PyData.shown] using q⟩
  | bl b =>
    obtain ⟨u, rfl, rfl⟩ := vals1 r
    refine PySem.P.repr_of_bool ⟨.str _, H, I.tok _, ⟨_, rfl⟩, ?_⟩
    simp only [PyData.shown] at q
    cases b <;> exact q
  | int i =>
    obtain ⟨u, rfl, t, rfl⟩ := vals1 r
    have hi : i.natAbs.log2 < 1920 := by simpa [PyData.showable] using sh.sho
    exact PySem.P.repr_of_int hi ⟨.str _, H, I.tok _, ⟨_, rfl⟩, by simpa only [PyData.shown] using q⟩
  | str x =>
    obtain ⟨u, rfl, t, rfl⟩ := vals1 r
    simp only [PyData.shown] at q hz
    exact PySem.P.repr_of_str ⟨.str _, H, I.tok _, ⟨_, rfl⟩, q⟩ hz
  | @lst a ys ds hs hds =>
    obtain ⟨u, rfl, rfl⟩ := vals1 r
    obtain ⟨as, rd, hn⟩ := De.reads I h0 _ _ _ (De.lst hs hds) (show RelV (.ref a) (.ref a) from rfl)
    exact PySem.repr_of_reads' rd sh.sho (fun _ => hn) hg (by omega) (fun _ _ e => e) (fun h' u tk keep => ⟨.str _, H, I.kept keep, ⟨_, rfl⟩, q⟩) hz
  | @tup a ys ds hs hds =>
    obtain ⟨u, rfl, rfl⟩ := vals1 r
    obtain ⟨as, rd, hn⟩ := De.reads I h0 _ _ _ (De.tup hs hds) (show RelV (.ref a) (.ref a) from rfl)
    exact PySem.repr_of_reads' rd sh.sho (fun _ => hn) hg (by omega) (fun _ _ e => e) (fun h' u tk keep => ⟨.str _, H, I.kept keep, ⟨_, rfl⟩, q⟩) hz
  | @emp a hs =>
    obtain ⟨u, rfl, rfl⟩ := vals1 r
    obtain ⟨as, rd, hn⟩ := De.reads I h0 _ _ _ (De.emp hs) (show RelV (.ref a) (.ref a) from rfl)
    exact PySem.repr_of_reads' rd sh.sho (fun _ => hn) hg (by omega) (fun _ _ e => e) (fun h' u tk keep => ⟨.str _, H, I.kept keep, ⟨_, rfl⟩, q⟩) hz
/-! ### == () and == [], whatever stands there -/
def rEqT0 (K : PySem.W.Frag) : R2 := fun x y H Q => ∃ a b xs, x = .ref a ∧ y = .ref b ∧ SqT K H a xs ∧ SqT K H b [] ∧ Q (.bl xs.isEmpty) H
theorem eqT0 (K : PySem.W.Frag) {X : Cx} (hu : X.A.units + 64 < cLine) (hK : X.K = K := by rfl) : OpR X (compareOp .Eq) (rEqT0 K) := by
  subst hK
  intro pins s σ H x y v u Q I rx ry h
  obtain ⟨a, b, xs, rfl, rfl, ha, hb, q⟩ := h
  cases rx
  cases ry
  obtain ⟨its, r1, t1, _⟩ := I.tuple ha
  obtain ⟨jts, r2, t2, _⟩ := I.tuple hb
  cases r2
  refine SeqAt.eq_tupleAt (e := fun _ => true) t1 t2 (by omega) (fun j h1 h2 => absurd h2 (Nat.not_lt_zero _)) ⟨.bl xs.isEmpty, H, I, ?_, q⟩
  cases r1 with
  | nil => rfl
  | cons a b => rfl
def rEqL0 (K : PySem.W.Frag) : R2 := fun x y H Q => ∃ a b xs, x = .ref a ∧ y = .ref b ∧ SqL K H a xs ∧ SqL K H b [] ∧ Q (.bl xs.isEmpty) H
theorem eqL0 (K : PySem.W.Frag) {X : Cx} (hu : X.A.units + 64 < cLine) (hK : X.K = K := by rfl) : OpR X (compareOp .Eq) (rEqL0 K) := by
  subst hK
  intro pins s σ H x y v u Q I rx ry h
  obtain ⟨a, b, xs, rfl, rfl, ha, hb, q⟩ := h
  cases rx
  cases ry
  obtain ⟨its, r1, t1, _⟩ := I.list ha
  obtain ⟨jts, r2, t2, _⟩ := I.list hb
  cases r2
  cases r1 with
  | nil => exact SeqAt.eq_listAt (e := fun _ => true) t1.isList t2.isList rfl (by omega) (fun j h1 h2 => absurd h2 (Nat.not_lt_zero _)) ⟨.bl true, H, I, rfl, q⟩
  | cons r0 rt =>
    refine SeqAt.eq_list_lengthsAt t1.isList t2.isList ?_ (by omega) ⟨.bl false, H, I, rfl, q⟩
    simp
def rNeL0 (K : PySem.W.Frag) : R2 := fun x y H Q => ∃ a b xs, x = .ref a ∧ y = .ref b ∧ SqL K H a xs ∧ SqL K H b [] ∧ Q (.bl (!xs.isEmpty)) H
end Pf


namespace Pf
open PySem PySem.Spec PyProof.Rows L2 LamX
/-! ### the end of a law's own call, where sys.modules is known to stand in the heap -/
/-- its end: from an abstract heap that holds the script or nothing -/
theorem FnG.endsS {P : Program} {w : World} {K : PySem.W.Frag} {mg mb : Str → Option Value} {fa a : Addr} {fd : FuncData} {x : Str} {sp : Sp} {s1 : Shared} {vs : List Value} {ns : List Int}
    (inK : K.In s1.heap) (gl : s1.heap.Ns mainGlobals mg) (bl : s1.heap.Ns builtinsNs mb) (bb : ∀ x : Str, x ≠ "__name__" → mb x = bootBuiltins x) (lim : s1.heap.NoLimit) (gens : s1.gens = #[])
    (hscr : s1.heap.get? a = some { cls := .type "list", data := .seq vs.toArray }) (hin : IntsAre vs ns) (F : ∀ base : Heap, K.In base → base.Ns mainGlobals mg → (∃ o, base.get? sysModules = some o) → FnG P w K mg base fa fd [x] sp) (bnd : ∀ (s : Shared) (u : Value), BindsTo s fd ⟨[u], []⟩ [(x, u)])
    {H : Hp} (only : Only H) (hsp : sp [.ref a] H (fun v _ => v = .bl true) fun _ _ _ => False) (hok : HOk P w H s1.heap) (hA : ∀ b, H b ≠ none → b = a) (hK : H a ≠ none → K.lookup a = none) (hM : ∃ o, (hidT s1.heap H).get? sysModules = some o) :
    codeAny (model P w) callerA (.call (.ref fa) ⟨[.ref a], []⟩) (fun r s' => r = .ok (.ret (.bool true)) ∧ OldK s1.heap s'.heap ∧ s'.os = s1.os ∧ AllBare s'.gens) s1 := by
  have isA : ∀ {b : Addr} {u : HO}, H b = some u → b = a := fun {b u} q => hA b (by rw [q]; exact Option.some_ne_none _)
  have hid : ∀ {b : Addr} {o : Obj}, s1.heap.get? b = some o → H b = none → (hidT s1.heap H).get? b = some o := fun e n => hidT_get e n
  have dictN : ∀ {b : Addr} {o : Obj} {es : Array DictEntry} {ep : Nat}, s1.heap.get? b = some o → o.data = .dict es ep → H b = none := by
    intro b o es ep e d
    cases q : H b with
    | none => rfl
    | some u =>
      obtain rfl := isA q
      rw [hscr] at e
      cases e
      exact nomatch d
  have nsH : ∀ {b : Addr} {m : Str → Option Value}, s1.heap.Ns b m → (hidT s1.heap H).Ns b m := by
    rintro b m ⟨o, es, ep, e, d, r⟩
    exact ⟨o, es, ep, hid e (dictN e d), d, r⟩
  have inB : K.In (hidT s1.heap H) := by
    intro b o e
    refine hid (inK b o e) ?_
    cases q : H b with
    | none => rfl
    | some u =>
      obtain rfl := isA q
      rw [hK (by rw [q]; exact Option.some_ne_none _)] at e
      cases e
  have limB : (hidT s1.heap H).NoLimit := by
    obtain ⟨mc, h1, h2⟩ := lim
    exact ⟨mc, nsH h1, h2⟩
  have env0 : Env0 P w K mg (hidT s1.heap H) callerA [] s1 H :=
    ⟨rfl, ⟨inB, nsH gl, ⟨mb, nsH bl, bb⟩, limB⟩, fun b o e => of_hidT e, Nat.le_of_eq (hidT_size _ _), trivial, fun b hb => (nomatch (show b ∈ ([] : List Addr) from hb)), hok, .of_eq gens⟩
  refine codeAny_mono ((F _ inB (nsH gl) hM).run s1 H ⟨[.ref a], []⟩ [.ref a] [.ref a] _ _ env0 (bnd s1 (.ref a)) (.cons rfl .nil) hsp) fun r s' h => ?_
  match r, h with
  | .error _, h => exact False.elim h
  | .ok .next, h => exact False.elim h
  | .ok .brk, h => exact False.elim h
  | .ok .cont, h => exact False.elim h
  | .ok (.ret u), h =>
    obtain ⟨v, H', os, bare, un, hok', rel, q⟩ := h
    obtain rfl : v = .bl true := q
    obtain rfl : u = Value.bool true := rel
    refine ⟨rfl, OldK.of_keep fun b o e => ?_, os, bare⟩
    cases q : H b with
    | none => exact un.keep b o e q (fun z => (nomatch (show b ∈ ([] : List Addr) from z))) (by simp)
    | some u =>
      cases only b with
      | inl z => rw [q] at z; cases z
      | inr z =>
        obtain ⟨ob, xs, z⟩ := z
        have kept := (hok' b _ (un.frzs b ob _ z)).1
        have was := (hok b _ z).1
        rw [e] at was
        cases was
        exact kept
theorem walk_gS {l : PySem.W.OpenLaw} {n : Nat} {q : Program} {loose : List Str} {XP : (Str → Option Value) → Heap → Prop} {YP : World → Heap → Prop} {d : DefRec} {K : Params → PySem.W.Frag} {sp : World → Sp} {x : Str}
    (hn : l.most = some n) (hn2 : n ≤ sizeLine) (hdf : d.params.defaults = []) (hY : ∀ (w : World) (h : Heap), YP w h → (K w.params).In h) (hq : importsNone q = true)
    (F : ∀ (w : World) (mg : Str → Option Value) (fa : Addr) (h : Heap), (K w.params).In h → h.Ns mainGlobals mg → mg d.name = some (.ref fa) →
      ∃ fd : FuncData, (∀ (s : Shared) (u : Value), BindsTo s fd ⟨[u], []⟩ [(x, u)]) ∧ ∀ base : Heap, (K w.params).In base → base.Ns mainGlobals mg → (∃ o, base.get? sysModules = some o) → FnG l.prog w (K w.params) mg base fa fd [x] (sp w))
    (hsp : ∀ (w : World) (H : Hp) (a : Addr) (ns : List Int), ns.length ≤ n → SqL (K w.params) H a (ns.map V.int) → sp w [.ref a] H (fun v _ => v = .bl true) fun _ _ _ => False) :
    PySem.W.WalkO q loose XP YP l.row.toRowW d [] (fun f vs => PySem.call f vs) := by
  refine Att.attach_call hn hdf fun w s0 s1 mg mb fa o pm cd doc a vs ns G Y ho hd hcd hmg hobj hints hlen hg => ?_
  have inK := hY w _ Y
  obtain ⟨fd, bnd, hF⟩ := F w mg fa _ inK G.T.g hmg
  have szs : ns.length ≤ sizeLine := Nat.le_trans hlen hn2
  have vals := vals_ints hints
  obtain ⟨mm, ⟨om, es, ep, em, dm, rm⟩, _⟩ := (G.T.seer hq).mods
  have nam : sysModules ≠ a := fun z => by
    rw [z, hobj] at em
    cases em
    cases dm
  cases hk : (K w.params).lookup a with
  | some ob =>
    have e := inK a ob hk
    rw [hobj] at e
    cases e
    have here : SqL (K w.params) (fun _ => none) a (ns.map V.int) := .inr ⟨_, vs.toArray, _, hk, rfl, rfl, rfl, by rw [List.size_toArray, hints.length]; exact szs, by simpa using vals⟩
    refine FnG.endsS inK G.T.g G.T.b G.T.builtins G.T.nolimit hg hobj hints hF bnd (fun _ => .inl rfl) (hsp w _ a ns hlen here) (fun _ _ z => (nomatch z)) (fun b z => absurd rfl z) (fun z => absurd rfl z) ⟨om, hidT_get em rfl⟩
  | none =>
    have here : SqL (K w.params) (fun b => if b = a then some (.frz { cls := .type "list", data := .seq vs.toArray } (.lst (ns.map V.int))) else none) a (ns.map V.int) := .inl (.inr ⟨_, if_pos rfl⟩)
    refine FnG.endsS inK G.T.g G.T.b G.T.builtins G.T.nolimit hg hobj hints hF bnd (fun b => ?_) (hsp w _ a ns hlen here) (fun b u z => ?_) (fun b z => ?_) (fun _ => hk) ⟨om, hidT_get em (if_neg nam)⟩
    · exact if h : b = a then .inr ⟨_, _, if_pos h⟩ else .inl (if_neg h)
    · by_cases h : b = a
      · rw [if_pos h] at z
        cases z
        subst h
        exact ⟨hobj, by rw [List.length_map]; exact szs, vs, _, vals, hobj⟩
      · rw [if_neg h] at z
        cases z
    · by_cases h : b = a
      · exact h
      · exact absurd (if_neg h) z
end Pf


namespace Pf
open PySem PySem.Spec PyProof.Rows L2
/-! ### repr of a dict of one text by a text -/
def D1 (H : Hp) (v : V) (d : PyData) : Prop := Dz H v d ∧ (Bg 141 20000 3 d ∨ d = .dict []) ∨ ∃ (a : Addr) (x y : Str), v = .ref a ∧ H a = some (.dK [(.inr x, .str y)]) ∧ x.length ≤ 10 ∧ y.length ≤ 100 ∧ ((x.cps.toList.all fun c => decide (c < 16 ^ 8)) = true ∧ (y.cps.toList.all fun c => decide (c < 16 ^ 8)) = true) ∧ d = .dict [(.str x, .str y)]
theorem D1.ext {H H' : Hp} {v : V} {d : PyData} (h : D1 H v d) (k : Ext H H') : D1 H' v d := by
  rcases h with ⟨h1, h2⟩ | ⟨a, x, y, e, hA, h3⟩
  · exact .inl ⟨h1.ext k, h2⟩
  · exact .inr ⟨a, x, y, e, k _ _ hA, h3⟩
def rShow1 (K : PySem.W.Frag) : List V → Hp → VK → Prop := fun xs H Q => ∃ (v : V) (d : PyData), xs = [v] ∧ D1 H v d ∧ Q (.str d.shown) H
theorem call_show1 (K : PySem.W.Frag) {X : Cx} (hg : X.A.guards = some []) (hu : X.A.units + 64 < cLine) (hK : X.K = K := by rfl) : CallR X (.builtin "repr") (rShow1 K) := by
  subst hK
  intro pins s σ H xs us Q I r h
  obtain ⟨v, d, rfl, hd, q⟩ := h
  rcases hd with ⟨h1, h2⟩ | ⟨a, x, y, rfl, hA, hx, hy, ⟨hcx, hcy⟩, rfl⟩
  · exact call_showE X.K hg hu rfl pins s σ H _ us Q I r ⟨v, d, rfl, h1, h2, q⟩
  · obtain ⟨u, rfl, rfl⟩ := vals1 r
    obtain ⟨_, hsys, vs, rel, od, es, ep, h1, h2, h3, _, h5, _⟩ := dk_of I.hok hA
    unfold KV at rel
    obtain ⟨b, rfl, e1, t2, e2⟩ : ∃ b, vs = [b] ∧ b.1 = .inr x ∧ ∃ t, b.2 = .str y t := by
      cases rel with
      | cons r1 r2 =>
        cases r2
        obtain ⟨e1, t2, e2⟩ := r1
        exact ⟨_, rfl, e1.symm, t2, e2⟩
    have eb : b = (.inr x, .str y t2) := Prod.ext e1 e2
    subst eb
    · have h5' : Pairs (mixKind X.prog X.w) es.toList [(.inr x, .str y t2)] := h5
      have hl := h5'.length
      obtain ⟨e, hes⟩ : ∃ e, es.toList = [e] := List.length_eq_one_iff.mp hl
      rw [hes] at h5'
      cases h5' with
      | cons p1 p2 p3 =>
        rcases keyIs_shape (k := .inr x) (v := e.key) p1 with ⟨i, t, z, _⟩ | ⟨x', t, z, hk⟩
        · cases z
        · cases z
          have rb : Reads s.heap (.ref a) (.dict [(.str x, .str y)]) (a :: ([] ++ []) ++ ([] ++ [])) := by
            refine Reads.dict h1 h2.1 h3 ?_ ?_
            · rw [hes]
              show ReadsAll s.heap [e.key] [.str x] _
              rw [hk]
              exact .cons (.str x t) .nil
            · rw [hes]
              show ReadsAll s.heap [e.val] [.str y] _
              rw [p2]
              exact .cons (.str y t2) .nil
          refine PySem.repr_of_reads' rb ?_ (fun _ z => ?_) hg ?_ (fun _ _ e => e) (fun h' u tk keep => ⟨.str _, H, I.kept keep, ⟨_, rfl⟩, q⟩) ?_
          · simp [PyData.showable, PyData.showableKv]
          · have e : sysModules = a := by simpa using z
            rw [← e] at hsys
            cases hsys
          · simp only [PyData.depth, PyData.depthKv]
            omega
          · have ish : (PyData.dict [(.str x, .str y)]).leavesShort 141 = true := by
              simp only [PyData.leavesShort, PyData.leavesShortKv, hcx, hcy, Bool.and_true]
            have h1 := PyData.shown_le 141 (by decide) _ ish
            have h2 : (PyData.dict [(.str x, .str y)]).weight ≤ 200 := by
              have hx' : x.cps.size ≤ 10 := hx
              have hy' : y.cps.size ≤ 100 := hy
              simp only [PyData.weight, PyData.weightKv]
              omega
            rw [sizeLine_eq]
            have h3 : (141 + 2) * (PyData.dict [(.str x, .str y)]).weight ≤ (141 + 2) * 200 := Nat.mul_le_mul_left _ h2
            omega
theorem D1.ty {K : PySem.W.Frag} {H : Hp} {v : V} {d : PyData} (h : D1 H v d) : TyX K H v (.type (tyD d)) := by
  rcases h with ⟨h, _⟩ | ⟨a, x, y, rfl, hA, _, _, _, rfl⟩
  · exact h.dq.ty
  · exact .base (.dK hA)
theorem D1.str {H : Hp} {v : V} {x : Str} (h : D1 H v (.str x)) : v = .str x ∧ PyData.strOk x = true := by
  rcases h with ⟨h | ⟨_, _, _, e⟩, h2⟩ | ⟨a, x, y, rfl, hA, _, _, _, e⟩
  · cases h
    refine ⟨rfl, ?_⟩
    rcases h2 with h2 | h2
    · have := h2.lay
      simpa only [PyData.canLay0] using this
    · cases h2
  · cases e
  · cases e
theorem D1.bl {H : Hp} (b : Bool) : D1 H (.bl b) (.bool b) := .inl ⟨.inl (.bl b), .inl ((Bg.bl b).le (by decide) (by decide))⟩
theorem D1.dk {H : Hp} {v : V} (h : Dk 20000 3 H v) : ∃ d, D1 H v d := by
  obtain ⟨d, h1, h2⟩ := h
  exact ⟨d, .inl ⟨.inl h1, .inl h2⟩⟩
end Pf
namespace Pf
open PySem PySem.Spec PyProof.Rows L2
def sg4 (x : Str) : List V := x.cps.toList.map fun c => V.str ⟨#[c]⟩
theorem vals_of_signs : ∀ (cs : List Nat) (us : List Value), us.length = cs.length → (∀ (i : Nat) (v : Value), us[i]? = some v → ∃ (c : Nat) (u : Tok), cs[i]? = some c ∧ v = Value.str ⟨#[c]⟩ u) → Vals (cs.map fun c => V.str ⟨#[c]⟩) us
  | [], [], _, _ => .nil
  | [], _ :: _, h, _ => by cases h
  | _ :: _, [], h, _ => by cases h
  | c :: cs, u :: us, h, q => by
    obtain ⟨c0, t, e1, e2⟩ := q 0 u rfl
    simp at e1
    subst e1
    refine .cons ⟨t, e2⟩ (vals_of_signs cs us (by simpa using h) fun i v hv => ?_)
    obtain ⟨c1, t1, e3, e4⟩ := q (i + 1) v (by simpa using hv)
    exact ⟨c1, t1, by simpa using e3, e4⟩
theorem vals_sg4 {x : Str} {acc : Array Value} (h : ItemsOf (SignAt x) acc x.cps.size) : Vals (sg4 x) acc.toList := by
  refine vals_of_signs _ _ (by rw [Array.length_toList, Array.length_toList]; exact h.1) fun i v hv => ?_
  obtain ⟨c, u, e1, e2⟩ := h.2 i v (by rw [← Array.getElem?_toList]; exact hv)
  exact ⟨c, u, by rw [Array.getElem?_toList]; exact e1, e2⟩
def rListStr : List V → Hp → VK → Prop := fun vs H Q => ∃ x : Str, vs = [.str x] ∧ x.length ≤ 1000 ∧ ∀ l, H l = none → Q (.ref l) (upd H l (.lst (sg4 x)))
theorem listStr {X : Cx} (hc : X.calm = true) : CallR X (.type "list") rListStr := by
  intro pins s σ H vs us Q I r h
  obtain ⟨x, rfl, hx, q⟩ := h
  obtain ⟨u, rfl, t, rfl⟩ := vals1 r
  have hx' : x.cps.size ≤ 1000 := hx
  have hz : x.cps.size ≤ sizeLine := by
    rw [sizeLine_eq]
    omega
  refine call_list_str (I.ok.hd hc) x t (fun h' tk acc c' keep hS hacc => ?_) hz
  have hv := vals_sg4 hacc
  refine ⟨.ref s.heap.objs.size, _, I.laid (t' := tk) keep (Nat.le_refl _) (show ObjOk X.prog X.w _ h' _ (.lst (sg4 x)) from ⟨?_, acc.toList, c', hv, ?_⟩), rfl, q _ (I.hok.fresh (Nat.le_refl _))⟩
  · unfold sg4
    rw [List.length_map, Array.length_toList]
    exact hz
  · rw [Array.toArray_toList]
    exact hS
def rTupleStr : List V → Hp → VK → Prop := fun vs H Q => ∃ x : Str, vs = [.str x] ∧ x.length ≤ 1000 ∧ ∀ l, H l = none → Q (.ref l) (upd H l (.tup (sg4 x)))
theorem tupleStr {X : Cx} (hc : X.calm = true) : CallR X (.type "tuple") rTupleStr := by
  intro pins s σ H vs us Q I r h
  obtain ⟨x, rfl, hx, q⟩ := h
  obtain ⟨u, rfl, t, rfl⟩ := vals1 r
  have hx' : x.cps.size ≤ 1000 := hx
  have hz : x.cps.size ≤ sizeLine := by
    rw [sizeLine_eq]
    omega
  refine call_tuple_str (I.ok.hd hc) x t (fun h' tk acc keep hacc => ?_) hz
  have hv := vals_sg4 hacc
  have hg : s.heap.get? h'.objs.size = none := by
    cases e : s.heap.get? h'.objs.size with
    | none => rfl
    | some o => exact absurd (Heap.lt_size (keep _ _ e)) (Nat.lt_irrefl _)
  have hn := I.hok.gone hg
  refine ⟨.ref h'.objs.size, _, I.laidN (t' := tk) (fun b o e => Heap.get?_push_of_some _ (keep b o e)) hg hn (show ObjOk X.prog X.w _ _ _ (.tup (sg4 x)) from ⟨?_, acc.toList, hv, ?_⟩), rfl, q _ hn⟩
  · unfold sg4
    rw [List.length_map, Array.length_toList]
    exact hz
  · rw [Array.toArray_toList]
    exact ⟨_, Heap.get?_push_size _ rfl, rfl, _, rfl⟩
end Pf
namespace Pf
open PySem PySem.Spec PyProof.Rows L2
theorem dp_signs {K : PySem.W.Frag} {H : Hp} : ∀ cs : List Nat, DpAll K H (cs.map fun c => V.str ⟨#[c]⟩) (cs.map fun c => PyData.str ⟨#[c]⟩)
  | [] => .nil
  | _ :: cs => .cons (.str _) (dp_signs cs)
theorem ds_signs {H : Hp} : ∀ cs : List Nat, DsAll H (cs.map fun c => V.str ⟨#[c]⟩) (cs.map fun c => PyData.str ⟨#[c]⟩)
  | [] => .nil
  | _ :: cs => .cons (.str _) (ds_signs cs)
theorem strOk_one {x : Str} {c : Nat} (h : PyData.strOk x = true) (hc : c ∈ x.cps.toList) : PyData.strOk ⟨#[c]⟩ = true := by
  unfold PyData.strOk at h ⊢
  rw [← Array.all_toList, List.all_eq_true] at h ⊢
  intro z hz
  have e : z = c := by simpa using hz
  subst e
  exact h z hc
theorem lay_signs : ∀ {cs : List Nat}, (∀ c ∈ cs, PyData.strOk ⟨#[c]⟩ = true) → PyData.canLayAll0 (cs.map fun c => PyData.str ⟨#[c]⟩) = true ∧ PyData.depthAll (cs.map fun c => PyData.str ⟨#[c]⟩) = 0
  | [], _ => ⟨by simp [PyData.canLayAll0], by simp [PyData.depthAll]⟩
  | c :: cs, h => by
    have ih := lay_signs fun z hz => h z (List.mem_cons_of_mem _ hz)
    have h1 := h c (List.mem_cons_self ..)
    refine ⟨?_, ?_⟩
    · simp only [List.map_cons, PyData.canLayAll0, PyData.canLay0, h1, ih.1, Bool.and_true]
    · simp only [List.map_cons, PyData.depthAll, PyData.depth, ih.2]
      rfl
theorem shaped_signs {cs : List Nat} (h : ∀ c ∈ cs, PyData.strOk ⟨#[c]⟩ = true) : SeqAt.shaped (.list (cs.map fun c => PyData.str ⟨#[c]⟩)) = true := by
  have a := lay_signs h
  show ((PyData.list (cs.map fun c => PyData.str ⟨#[c]⟩)).canLay0 && decide ((PyData.list (cs.map fun c => PyData.str ⟨#[c]⟩)).depth ≤ 64)) = true
  rw [show (PyData.list (cs.map fun c => PyData.str ⟨#[c]⟩)).canLay0 = true by simpa only [PyData.canLay0] using a.1, decide_eq_true (show (PyData.list (cs.map fun c => PyData.str ⟨#[c]⟩)).depth ≤ 64 by simp only [PyData.depth, a.2]; decide)]
  rfl
theorem eqv_none4 (ds : List PyData) : PyData.eqv (.list ds) (.list []) = ds.isEmpty := by
  cases ds <;> simp [PyData.eqv, PyData.eqvAll]
end Pf


namespace Pf
open PySem PySem.Spec PyProof.Rows L2
/-! ### what a program is, of things of any kind -/
def AZw : Str := "abcdefghijklmnopqrstuvwxyz"
def BRw : Str := "()."
def numD : PyData → Bool
  | .int i => decide (0 ≤ i) && decide (i ≤ 99)
  | _ => false
def txD (S : Str) (m : Nat) : PyData → Bool
  | .str x => decide (x.length ≤ m) && x.cps.toList.all fun c => decide (c ∈ S.cps.toList)
  | _ => false
def letD : PyData → Bool
  | .str x => txD AZw 40 (.str x) && decide (x.length = 1)
  | _ => false
inductive Fm | t | n | l | b
def Fm.den : Fm → PyData → Bool
  | .t => txD AZw 40
  | .n => numD
  | .l => letD
  | .b => txD BRw 40
def formsOf (z : Str) : Option (List Fm) :=
  if z = "string" then some [.t] else if z = "letter" then some [.n, .l] else if z = "least" then some [] else if z = "count" then some [] else if z = "worth" then some [.b] else if z = "has" then some [.n, .n] else if z = "within" then some [.n] else none
def fitB (l : List Fm) (ps : List PyData) : Bool := decide (ps.length = l.length) && (l.zip ps).all fun z => z.1.den z.2
def lineD : PyData → Bool
  | .tuple (.str z :: ps) => match formsOf z with
    | some l => fitB l ps
    | none => false
  | _ => false
def progD : PyData → Bool
  | .tuple ls => decide (ls.length ≤ 20) && (ls.map lineD).all id
  | _ => false
theorem at0 {α : Type} (v : α) (vs : List α) : atI (v :: vs) 0 = some v := by
  unfold atI ixN
  rw [if_pos (by decide), if_pos (by rw [List.length_cons]; omega)]
  rfl
theorem at1 {α : Type} (v u : α) (vs : List α) : atI (v :: u :: vs) 1 = some u := by
  unfold atI ixN
  rw [if_pos (by decide), if_pos (by rw [List.length_cons, List.length_cons]; omega)]
  rfl
theorem at2 {α : Type} (v u t : α) (vs : List α) : atI (v :: u :: t :: vs) 2 = some t := by
  unfold atI ixN
  rw [if_pos (by decide), if_pos (by rw [List.length_cons, List.length_cons, List.length_cons]; omega)]
  rfl
theorem txD_no {S : Str} {m : Nat} {d : PyData} (h : isStr d = false) : txD S m d = false := by
  cases d with
  | str x => cases h
  | _ => rfl
theorem isStrE_yes {d : PyData} (h : isStr d = true) : ∃ x, d = .str x := by
  cases d with
  | str x => exact ⟨x, rfl⟩
  | _ => cases h
theorem De.isStr {H : Hp} {v : V} {x : Str} (h : De H v (.str x)) : v = .str x := by
  cases h
  rfl
theorem De.isInt {H : Hp} {v : V} {i : Int} (h : De H v (.int i)) : v = .int i := by
  cases h
  rfl
theorem De.isTup {H : Hp} {v : V} {ds : List PyData} (h : De H v (.tuple ds)) : ∃ a xs, v = .ref a ∧ H a = some (.tup xs) ∧ DeAll H xs ds := by
  cases h with
  | tup h r => exact ⟨_, _, rfl, h, r⟩
theorem isTupE_yes {d : PyData} (h : Pf.isTup d = true) : ∃ ds, d = .tuple ds := by
  cases d with
  | tuple ds => exact ⟨ds, rfl⟩
  | _ => cases h
section
variable {P : Program} {w : World} {K : PySem.W.Frag} {mg : Str → Option Value} {base : Heap}
def whE : PyData → Bool
  | .int _ => true
  | _ => false
theorem whE_is (d : PyData) : whE d = (isIntB d && !isBl d) := by cases d <;> rfl
abbrev s_is_whole : Stmt := topS 2
theorem sc_is_whole : FnScope ["thing"] ["thing"] (defScope s_is_whole) :=
  ⟨rfl, rfl, rfl, by decide +kernel, rfl, by decide +kernel, by decide +kernel⟩
def spWhE : Sp := fun vs H Q _ => ∃ (v : V) (d : PyData), vs = [v] ∧ De H v d ∧ Q (.bl (whE d)) H
theorem ok_whE {f : Addr} {fd : FuncData} {k : Nat} (F : Fun K "is_whole" "is_whole" s_is_whole f fd) (misinstance : mg "isinstance" = none) (mint : mg "int" = none) (mbool : mg "bool" = none) : FnOk P w K mg base CX0 (k + 1) f fd ["thing"] spWhE := by
  refine F.ok sc_is_whole (fun vs H Q E h => ?_) (fun cdv A outer s H vs Q E hr h => ?_)
  · obtain ⟨v, d, rfl, _⟩ := h
    rfl
  · obtain ⟨v, d, rfl, hd, q⟩ := h
    refine ⟨_, (pss_one (ps_ret (pe_and (pe_callB (isi1 K) (by rfl) misinstance (by decide +kernel) (pa_cons (pv 0) (pa_cons (pe_bltn (v := .ty "int") (by rfl) mint (by decide +kernel) rfl) pa_nil))) (pe_one (pe_not (pe_callB (isi1 K) (by rfl) misinstance (by decide +kernel) (pa_cons (pv 0) (pa_cons (pe_bltn (v := .ty "bool") (by rfl) mbool (by decide +kernel) rfl) pa_nil)))))))), ?_⟩
    rw [whE_is] at q
    refine ⟨_, rfl, v, .ty "int", _, _, isIntB d, rfl, .ty _, hd.ty, kit_int d, isIntB d, rfl, ite2 (fun e => ?_) (fun e => ?_)⟩
    · rw [e, Bool.true_and] at q
      exact ⟨_, rfl, v, .ty "bool", _, _, isBl d, rfl, .ty _, hd.ty, kit_bool d, isBl d, rfl, q⟩
    · have e : isIntB d = false := by simpa using e
      rw [e, Bool.false_and] at q
      exact q
abbrev CWhE (P : Program) (w : World) (K : PySem.W.Frag) (mg : Str → Option Value) (base : Heap) : Prop := Ca P w K mg base 1 "is_whole" ["thing"] spWhE
abbrev s_is_line_number : Stmt := topS 11
theorem sc_is_line_number : FnScope ["thing"] ["thing"] (defScope s_is_line_number) :=
  ⟨rfl, rfl, rfl, by decide +kernel, rfl, by decide +kernel, by decide +kernel⟩
def spNumE : Sp := fun vs H Q _ => ∃ (v : V) (d : PyData), vs = [v] ∧ De H v d ∧ Q (.bl (numD d)) H
theorem ok_numE {f : Addr} {fd : FuncData} {tN : Tok} (F : Fun K "is_line_number" "is_line_number" s_is_line_number f fd) (cis_whole : CWhE P w K mg base) (gMOST_NUMBER : mg "MOST_NUMBER" = some (.int 99 tN)) : FnOk P w K mg base CX0 2 f fd ["thing"] spNumE := by
  refine F.ok sc_is_line_number (fun vs H Q E h => ?_) (fun cdv A outer s H vs Q E hr h => ?_)
  · obtain ⟨v, d, rfl, _⟩ := h
    rfl
  · obtain ⟨v, d, rfl, hd, q⟩ := h
    refine ⟨_, (pss_one (ps_ret (pe_and (pe_ca cis_whole (hr.mono (by decide)) (by rfl) (pa_cons (pv 0) pa_nil)) (pe_one (pe_chain op_le op_le pe_int (pv 0) (pe_glob (v := .int 99) (by rfl) gMOST_NUMBER ⟨_, rfl⟩)))))), ?_⟩
    refine ⟨_, rfl, v, d, rfl, hd, whE d, rfl, ite2 (fun e => ?_) (fun e => ?_)⟩
    · cases d with
      | int i =>
        obtain rfl := hd.isInt
        refine ⟨_, rfl, 0, i, rfl, rfl, _, rfl, ite2 (fun e1 => ?_) (fun e1 => ?_)⟩
        · have e1 : decide (0 ≤ i) = true := e1
          refine ⟨i, 99, rfl, rfl, ?_⟩
          simp only [numD, e1, Bool.true_and] at q
          exact q
        · have e1 : decide (0 ≤ i) = false := Bool.eq_false_iff.mpr e1
          simp only [numD, e1, Bool.false_and] at q
          exact q
      | _ => cases e
    · cases d with
      | int i => exact absurd rfl e
      | _ => exact q
abbrev CNumE (P : Program) (w : World) (K : PySem.W.Frag) (mg : Str → Option Value) (base : Heap) : Prop := Ca P w K mg base 2 "is_line_number" ["thing"] spNumE
abbrev s_is_text_of : Stmt := topS 7
theorem sc_is_text_of : FnScope ["signs", "thing", "sign"] ["signs", "thing"] (defScope s_is_text_of) :=
  ⟨rfl, rfl, rfl, by decide +kernel, rfl, by decide +kernel, by decide +kernel⟩
def spTxE : Sp := fun vs H Q _ => ∃ (S : Str) (v : V) (d : PyData), vs = [.str S, v] ∧ De H v d ∧ d.weight ≤ 1000000 ∧ ∀ H', Ext H H' → Q (.bl (txD S 40 d)) H'
theorem ok_txE {f : Addr} {fd : FuncData} {k : Nat} {tN : Tok} (F : Fun K "is_text_of" "is_text_of" s_is_text_of f fd) (misinstance : mg "isinstance" = none) (mstr : mg "str" = none) (mlen : mg "len" = none) (mall : mg "all" = none) (gMOST_SIGNS : mg "MOST_SIGNS" = some (.int 40 tN)) : FnOk P w K mg base CX0 (k + 1) f fd ["signs", "thing"] spTxE := by
  refine F.ok sc_is_text_of (fun vs H Q E h => ?_) (fun cdv A outer s H vs Q E hr h => ?_)
  · obtain ⟨S, v, d, rfl, _⟩ := h
    rfl
  · obtain ⟨S, v, d, rfl, hd, hw, q⟩ := h
    refine ⟨_, (pss_one (ps_ret (pe_and (pe_callB (isi1 K) (by rfl) misinstance (by decide +kernel) (pa_cons (pv 1) (pa_cons (pe_bltn (v := .ty "str") (by rfl) mstr (by decide +kernel) rfl) pa_nil))) (pe_and (pe_cmpR op_le (pe_callB call_len_str (by rfl) mlen (by decide +kernel) (pa_cons (pv 1) pa_nil)) (pe_glob (v := .int 40) (by rfl) gMOST_SIGNS ⟨_, rfl⟩) (nomark _)) (pe_one (pe_callB (cr_all rfl) (by rfl) mall (by decide +kernel) (pa_cons (pe_lc (own := [("sign", 2)]) (g := gName 2) (by rfl) sc_is_text_of.nd (pi_str (pv 1)) (blkOk_by (own := [("sign", 2)]) (N := ["signs", "thing", "sign"]) (sc := defScope s_is_text_of) (by decide +kernel)) (fun _ _ _ _ _ => (pg_name (i := 2) sc_is_text_of.nd rfl (.inl rfl))) (fun _ _ _ _ _ => pts_nil) (fun _ _ _ _ _ => (pe_cmpR op_in_sign (pv 2) (pv 0) (by rfl)))) pa_nil))))))), ?_⟩
    refine ⟨_, rfl, v, .ty "str", _, _, isStr d, rfl, .ty _, hd.ty, kit_str d, isStr d, rfl, ite2 (fun e => ?_) (fun e => ?_)⟩
    · obtain ⟨x, rfl⟩ := isStrE_yes e
      obtain rfl := hd.isStr
      have hx : x.length ≤ 1000000 := hw
      refine ⟨_, rfl, x, rfl, szL hx, _, 40, rfl, rfl, _, rfl, ite2 (fun e1 => ?_) (fun e1 => ?_)⟩
      · have e1 : (x.length : Int) ≤ 40 := of_decide_eq_true e1
        refine ⟨_, rfl, x, rfl, fun D hD => lc_str (fun i H2 => H2 D = some (.lst (((x.cps.toList.take i).map fun c => decide (c ∈ S.cps.toList)).map V.bl)) ∧ Ext H H2) ⟨upd_same, Ext.new hD⟩ (fun i ch H2 hi hv => ?_) (fun H2 hv => ?_)⟩
        · obtain ⟨hL, k2⟩ := hv
          have hi12 : i < x.length := (Array.getElem?_eq_some_iff.mp hi).1
          refine ⟨rfl, _, rfl, _, rfl, ch, S, rfl, rfl, _, hL, szLt ?_, ?_, k2.put hD⟩
          · rw [List.length_map, List.length_map, List.length_take]
            omega
          · rw [upd_same, List.take_add_one, show x.cps.toList[i]? = some ch by rw [Array.getElem?_toList]; exact hi, List.map_append, List.map_append]
            rfl
        · obtain ⟨hL, k2⟩ := hv
          have e3 : x.cps.toList.take x.cps.size = x.cps.toList := List.take_of_length_le (by rw [Array.length_toList]; exact Nat.le_refl _)
          rw [e3] at hL
          refine ⟨D, _, rfl, SqL.of hL, ?_⟩
          have := q H2 k2
          have e2 : txD S 40 (.str x) = (x.cps.toList.map fun c => decide (c ∈ S.cps.toList)).all id := by
            show (decide (x.length ≤ 40) && _) = _
            rw [decide_eq_true (by omega), Bool.true_and, List.all_map]
            rfl
          rw [e2] at this
          exact this
      · have := q H Ext.refl
        have e2 : txD S 40 (.str x) = false := by
          show (decide (x.length ≤ 40) && _) = _
          rw [decide_eq_false (fun z => e1 (decide_eq_true (show (x.length : Int) ≤ 40 by omega))), Bool.false_and]
        rw [e2] at this
        have e1 : decide ((x.length : Int) ≤ 40) = false := Bool.eq_false_iff.mpr e1
        exact this
    · have := q H Ext.refl
      rw [txD_no (Bool.eq_false_iff.mpr e)] at this
      exact this
abbrev CTxE (P : Program) (w : World) (K : PySem.W.Frag) (mg : Str → Option Value) (base : Heap) : Prop := Ca P w K mg base 1 "is_text_of" ["signs", "thing"] spTxE
abbrev s_is_line_text : Stmt := topS 8
theorem sc_is_line_text : FnScope ["thing"] ["thing"] (defScope s_is_line_text) :=
  ⟨rfl, rfl, rfl, by decide +kernel, rfl, by decide +kernel, by decide +kernel⟩
def spLtE : Sp := fun vs H Q _ => ∃ (v : V) (d : PyData), vs = [v] ∧ De H v d ∧ d.weight ≤ 1000000 ∧ ∀ H', Ext H H' → Q (.bl (txD AZw 40 d)) H'
theorem ok_ltE {f : Addr} {fd : FuncData} {tS : Tok} (F : Fun K "is_line_text" "is_line_text" s_is_line_text f fd) (cis_text_of : CTxE P w K mg base) (gSMALL_LETTERS : mg "SMALL_LETTERS" = some (.str "abcdefghijklmnopqrstuvwxyz" tS)) : FnOk P w K mg base CX0 2 f fd ["thing"] spLtE := by
  refine F.ok sc_is_line_text (fun vs H Q E h => ?_) (fun cdv A outer s H vs Q E hr h => ?_)
  · obtain ⟨v, d, rfl, _⟩ := h
    rfl
  · obtain ⟨v, d, rfl, hd, hw, q⟩ := h
    refine ⟨_, (pss_one (ps_ret (pe_ca cis_text_of (hr.mono (by decide)) (by rfl) (pa_cons (pe_glob (v := .str "abcdefghijklmnopqrstuvwxyz") (by rfl) gSMALL_LETTERS ⟨_, rfl⟩) (pa_cons (pv 0) pa_nil))))), ?_⟩
    exact ⟨_, rfl, AZw, v, d, rfl, hd, hw, q⟩
abbrev CLtE (P : Program) (w : World) (K : PySem.W.Frag) (mg : Str → Option Value) (base : Heap) : Prop := Ca P w K mg base 2 "is_line_text" ["thing"] spLtE
abbrev s_are_line_brackets : Stmt := topS 10
theorem sc_are_line_brackets : FnScope ["thing"] ["thing"] (defScope s_are_line_brackets) :=
  ⟨rfl, rfl, rfl, by decide +kernel, rfl, by decide +kernel, by decide +kernel⟩
def spLbE : Sp := fun vs H Q _ => ∃ (v : V) (d : PyData), vs = [v] ∧ De H v d ∧ d.weight ≤ 1000000 ∧ ∀ H', Ext H H' → Q (.bl (txD BRw 40 d)) H'
theorem ok_lbE {f : Addr} {fd : FuncData} (F : Fun K "are_line_brackets" "are_line_brackets" s_are_line_brackets f fd) (cis_text_of : CTxE P w K mg base) : FnOk P w K mg base CX0 2 f fd ["thing"] spLbE := by
  refine F.ok sc_are_line_brackets (fun vs H Q E h => ?_) (fun cdv A outer s H vs Q E hr h => ?_)
  · obtain ⟨v, d, rfl, _⟩ := h
    rfl
  · obtain ⟨v, d, rfl, hd, hw, q⟩ := h
    refine ⟨_, (pss_one (ps_ret (pe_ca cis_text_of (hr.mono (by decide)) (by rfl) (pa_cons pe_str (pa_cons (pv 0) pa_nil))))), ?_⟩
    exact ⟨_, rfl, BRw, v, d, rfl, hd, hw, q⟩
abbrev s_is_line_letter : Stmt := topS 9
theorem sc_is_line_letter : FnScope ["thing"] ["thing"] (defScope s_is_line_letter) :=
  ⟨rfl, rfl, rfl, by decide +kernel, rfl, by decide +kernel, by decide +kernel⟩
def spLeE : Sp := fun vs H Q _ => ∃ (v : V) (d : PyData), vs = [v] ∧ De H v d ∧ d.weight ≤ 1000000 ∧ ∀ H', Ext H H' → Q (.bl (letD d)) H'
theorem ok_leE {f : Addr} {fd : FuncData} (F : Fun K "is_line_letter" "is_line_letter" s_is_line_letter f fd) (cis_line_text : CLtE P w K mg base) (mlen : mg "len" = none) : FnOk P w K mg base CX0 3 f fd ["thing"] spLeE := by
  refine F.ok sc_is_line_letter (fun vs H Q E h => ?_) (fun cdv A outer s H vs Q E hr h => ?_)
  · obtain ⟨v, d, rfl, _⟩ := h
    rfl
  · obtain ⟨v, d, rfl, hd, hw, q⟩ := h
    refine ⟨_, (pss_one (ps_ret (pe_and (pe_ca cis_line_text (hr.mono (by decide)) (by rfl) (pa_cons (pv 0) pa_nil)) (pe_one (pe_cmpR op_eq (pe_callB call_len_str (by rfl) mlen (by decide +kernel) (pa_cons (pv 0) pa_nil)) pe_int (nomark _)))))), ?_⟩
    refine ⟨_, rfl, v, d, rfl, hd, hw, fun H' k => ⟨txD AZw 40 d, rfl, ite2 (fun e => ?_) (fun e => ?_)⟩⟩
    · cases d with
      | str x =>
        obtain rfl := hd.isStr
        have hx : x.length ≤ 1000000 := hw
        refine ⟨_, rfl, x, rfl, szL hx, rfl, ?_⟩
        have := q H' k
        have e2 : letD (.str x) = decide (V.int (x.length : Nat) = V.int 1) := by
          show (txD AZw 40 (.str x) && decide (x.length = 1)) = _
          rw [e, Bool.true_and]
          refine decide_eq_decide.mpr ⟨fun h => by rw [h]; rfl, fun h => ?_⟩
          have := V.int.inj h
          omega
        rw [e2] at this
        exact this
      | _ => cases e
    · have e : txD AZw 40 d = false := Bool.eq_false_iff.mpr e
      have := q H' k
      have e2 : letD d = false := by
        cases d with
        | str x =>
          show (txD AZw 40 (.str x) && _) = _
          rw [e, Bool.false_and]
        | _ => rfl
      rw [e2] at this
      exact this
/-! ### a def that is held by a name, called, calm -/
def FnV0 (P : Program) (w : World) (K : PySem.W.Frag) (mg : Str → Option Value) (base : Heap) (k : Nat) (f : Addr) (sp : Sp) : Prop :=
  ∃ (fd : FuncData) (ps : List Str), FnOk P w K mg base CX0 k f fd ps sp ∧ PySem.W.keepIn K (.ref f) = true ∧ Binds K fd ps []
def tCallV0 (P : Program) (w : World) (K : PySem.W.Frag) (mg : Str → Option Value) (base : Heap) (i k : Nat) (t : TA) : TE := fun σ H Q => ∃ (f : Addr) (sp : Sp), σ[i]? = some (some (.ref f)) ∧ FnV0 P w K mg base k f sp ∧ t σ H fun vs H1 => sp vs H1 Q L2.E0
end
section
variable {X : Cx} {k i : Nat} {x : Str} {e : Expr} {es : List Expr} {t : TA} {p pos : Pos}
theorem pe_callV0 {P : Program} {w : World} {K : PySem.W.Frag} {mg : Str → Option Value} {base : Heap} (hX : X.prog = P ∧ X.w = w ∧ X.K = K ∧ X.mg = mg ∧ X.base = base) (hr : Room k X.A) (hN : X.N[i]? = some x) (hv : Vis X.env.scope x) (ha : PA X (e :: es) t)
    (hd : (x == ("__debug__" : Str)) = false := by decide) (hcd : (x == ("__classdict__" : Str)) = false := by decide)
    (he : starEach (e :: es) X.env = (false, eval e X.env) :: starEach es X.env := by rfl) (hpl : (backTo pos (starEach es X.env)).any (·.1) = false := by rfl) : PE X (.Call (.Name x p) (e :: es) [] pos) (tCallV0 P w K mg base i k t) := by
  obtain ⟨rfl, rfl, rfl, rfl, rfl⟩ := hX
  constructor
  intro pins s σ H Q I h
  obtain ⟨f, sp, hs, ⟨fd, ps, F, hk, hb⟩, h⟩ := h
  have hp := (pe_var (X := X) (pos := p) (i := i) hN hv hd hcd).run pins s σ H (fun v H1 => v = .ref f ∧ H1 = H) I ⟨.ref f, hs, rfl, rfl⟩
  refine wpAny_Call_Name_kw (thn hp fun u s1 hu => ?_)
  obtain ⟨v, H1, I1, r1, ev, eH⟩ := hu
  subst ev eH
  cases r1
  refine PySem.W.callWith_K (h₀ := X.base) I.ok.mod.kin hk (thn (ha.run pos pins s1 σ H1 _ I1 h) fun us s2 hu => ?_) he hpl
  obtain ⟨vs, H2, I2, r, q⟩ := hu
  exact ⟨I2.kIn, run_fn F hr hb .nil pass0 I2 r (by rw [List.append_nil]; exact q)⟩
end
section
variable {P : Program} {w : World} {K : PySem.W.Frag} {mg : Str → Option Value} {base : Heap}
/-- the forms: where they stand -/
structure FormsAt (P : Program) (w : World) (K : PySem.W.Frag) (mg : Str → Option Value) (base : Heap) (aF : Addr) (adr : Fm → Addr) : Prop where
  dct : ∃ es n, KDict K w aF es n
  no : ∀ z, formsOf z = none → PySem.W.nsIn K aF z = some none
  yes : ∀ z l, formsOf z = some l → ∃ T, PySem.W.nsIn K aF z = some (some (.ref T)) ∧ ∀ H, SqT K H T (l.map fun m => V.ref (adr m))
  fn : ∀ m, FnV0 P w K mg base 3 (adr m) fun vs H Q _ => ∃ (v : V) (d : PyData), vs = [v] ∧ De H v d ∧ d.weight ≤ 1000000 ∧ ∀ H', Ext H H' → Q (.bl (m.den d)) H'
theorem zip_all_succ {l : List Fm} {ps : List PyData} {i : Nat} {m : Fm} {d : PyData} (h1 : l[i]? = some m) (h2 : ps[i]? = some d) : ((l.zip ps).take (i + 1)).all (fun z => z.1.den z.2) = (((l.zip ps).take i).all (fun z => z.1.den z.2) && m.den d) := by
  have h : (l.zip ps)[i]? = some (m, d) := by
    rw [List.getElem?_zip_eq_some]
    exact ⟨h1, h2⟩
  rw [List.take_add_one, h, List.all_append]
  simp
theorem all_take_false {α : Type} {f : α → Bool} {xs : List α} {i : Nat} (h : (xs.take i).all f = false) : xs.all f = false := by
  rw [← List.take_append_drop i xs, List.all_append, h, Bool.false_and]
abbrev s_is_line : Stmt := topS 13
theorem sc_is_line : FnScope ["thing", "forms", "form", "part"] ["thing"] (defScope s_is_line) :=
  ⟨rfl, rfl, rfl, by decide +kernel, rfl, by decide +kernel, by decide +kernel⟩
def spLineE : Sp := fun vs H Q _ => ∃ (v : V) (d : PyData), vs = [v] ∧ De H v d ∧ d.weight ≤ 1000000 ∧ ∀ H', Ext H H' → Q (.bl (lineD d)) H'
theorem ok_lineE {f aFORMS : Addr} {fd : FuncData} {adr : Fm → Addr} (F : Fun K "is_line" "is_line" s_is_line f fd) (FA : FormsAt P w K mg base aFORMS adr) (gFORMS : mg "FORMS" = some (.ref aFORMS)) (misinstance : mg "isinstance" = none) (mstr : mg "str" = none) (mtuple : mg "tuple" = none) (mlen : mg "len" = none) (mzip : mg "zip" = none) : FnOk P w K mg base CX0 4 f fd ["thing"] spLineE := by
  refine F.ok sc_is_line (fun vs H Q E h => ?_) (fun cdv A outer s H vs Q E hr h => ?_)
  · obtain ⟨v, d, rfl, _⟩ := h
    rfl
  · obtain ⟨v, d, rfl, hd, hw, q⟩ := h
    obtain ⟨es, n, DF⟩ := FA.dct
    refine ⟨_, (pss_cons (ps_if (PW.pt (pw_or (pt_not (pt_val (pe_callB (isi1 K) (by rfl) misinstance (by decide +kernel) (pa_cons (pv 0) (pa_cons (pe_bltn (v := .ty "tuple") (by rfl) mtuple (by decide +kernel) rfl) pa_nil))))) (pw_or (pt_not (pt_truth (pv 0) (by intro _; rfl))) (pw_or (pt_not (pt_val (pe_callB (isi1 K) (by rfl) misinstance (by decide +kernel) (pa_cons (pe_ix (ixT K) (pv 0) pe_int (fun _ _ => rfl)) (pa_cons (pe_bltn (v := .ty "str") (by rfl) mstr (by decide +kernel) rfl) pa_nil))))) (pw_or1 (pt_cmpR (op_notIn_kd DF) (pe_ix (ixT K) (pv 0) pe_int (fun _ _ => rfl)) (pe_glob (v := .ref aFORMS) (by rfl) gFORMS rfl) (by rfl))))))) (pss_one (ps_ret pe_bl)) pss_nil)
      (pss_cons (ps_set (i := 1) sc_is_line.nd rfl (.inl rfl) (pe_ix ix_kdict (pe_glob (v := .ref aFORMS) (by rfl) gFORMS rfl) (pe_ix (ixT K) (pv 0) pe_int (fun _ _ => rfl)) (fun _ _ => rfl)))
      (pss_cons (ps_if (pt_cmpR op_ne (pe_callB (lenQ K) (by rfl) mlen (by decide +kernel) (pa_cons (pv 0) pa_nil)) (pe_op op_add (pe_callB (lenQ K) (by rfl) mlen (by decide +kernel) (pa_cons (pv 1) pa_nil)) pe_int) (nomark _)) (pss_one (ps_ret pe_bl)) pss_nil)
      (pss_cons (ps_for PassesOwn.never rfl (RZ.pi_zipA (by rfl) mzip (pa_cons (pv 1) (pa_cons (pe_slice (slN K) (pv 0) (po_some pe_int) po_none) pa_nil))) (pg_tup rfl (pgs_cons (pg_name (i := 2) sc_is_line.nd rfl (.inl rfl)) (pgs_cons (pg_name (i := 3) sc_is_line.nd rfl (.inl rfl)) pgs_nil))) (pss_one (ps_if (pt_not (pt_truth (pe_callV0 (P := P) (w := w) (K := K) (mg := mg) (base := base) (k := 3) (i := 2) ⟨rfl, rfl, rfl, rfl, rfl⟩ (hr.mono (by decide)) rfl (by first | exact Or.inl rfl | exact Or.inr (Or.inl rfl) | exact Or.inr (Or.inr rfl)) (pa_cons (pv 3) pa_nil)) (by intro _; rfl))) (pss_one (ps_ret pe_bl)) pss_nil)))
      (pss_one (ps_ret pe_bl)))))), ?_⟩
    refine ⟨_, rfl, v, .ty "tuple", _, _, Pf.isTup d, rfl, .ty _, hd.ty, kit_tup d, Pf.isTup d, rfl, ?_⟩
    cases ht : Pf.isTup d with
    | false =>
      refine iteT ?_
      have := q H Ext.refl
      have e2 : lineD d = false := by
        cases d with
        | tuple ds => cases ht
        | _ => rfl
      rw [e2] at this
      exact this
    | true =>
    obtain ⟨ds, rfl⟩ := isTupE_yes ht
    obtain ⟨a, xs, rfl, hA, hds⟩ := hd.isTup
    refine iteF ⟨_, rfl, !xs.isEmpty, .inr (.inl ⟨xs, SqT.of hA, rfl⟩), ?_⟩
    cases hds with
    | nil =>
      refine iteT ?_
      have := q H Ext.refl
      exact this
    | @cons v0 vs d0 ps h0 hps =>
    refine iteF ⟨_, rfl, a, _, 0, v0, rfl, rfl, SqT.of hA, at0 _ _, v0, .ty "str", _, _, isStr d0, rfl, .ty _, h0.ty, kit_str d0, isStr d0, rfl, ?_⟩
    cases hs : isStr d0 with
    | false =>
      refine iteT ?_
      have := q H Ext.refl
      have e2 : lineD (.tuple (d0 :: ps)) = false := by
        cases d0 with
        | str x => cases hs
        | _ => rfl
      rw [e2] at this
      exact this
    | true =>
    obtain ⟨z, rfl⟩ := isStrE_yes hs
    obtain rfl := h0.isStr
    have eL : lineD (.tuple (.str z :: ps)) = match formsOf z with
      | some l => fitB l ps
      | none => false := rfl
    cases hf : formsOf z with
    | none =>
      rw [hf] at eL
      refine iteF ⟨_, rfl, a, _, 0, _, rfl, rfl, SqT.of hA, at0 _ _, z, none, rfl, rfl, FA.no z hf, true, rfl, iteT ?_⟩
      have := q H Ext.refl
      rw [eL] at this
      exact this
    | some l =>
    rw [hf] at eL
    have eL : lineD (.tuple (.str z :: ps)) = fitB l ps := eL
    obtain ⟨T, hT, hTs⟩ := FA.yes z l hf
    refine iteF ⟨_, rfl, a, _, 0, _, rfl, rfl, SqT.of hA, at0 _ _, z, some (.ref T), rfl, rfl, hT, false, rfl, iteF ?_⟩
    refine ⟨_, rfl, a, _, 0, _, rfl, rfl, SqT.of hA, at0 _ _, aFORMS, z, .ref T, rfl, rfl, ⟨es, n, .ref T, DF.at_, DF.lit, hT, rfl⟩, ?_⟩
    have hpl := deAll_len hps
    refine ⟨_, rfl, a, _, rfl, .inr (SqT.of hA), _, rfl, T, _, rfl, .inr (hTs _), _, _, rfl, rfl, rfl, _, rfl, ite2 (fun e1 => ?_) (fun e1 => ?_)⟩
    · have e2 : fitB l ps = false := by
        unfold fitB
        rw [decide_eq_false, Bool.false_and]
        intro z2
        rw [Bool.not_eq_true', decide_eq_false_iff_not] at e1
        refine e1 (congrArg V.int ?_)
        rw [List.length_cons, List.length_map, hpl]
        omega
      have := q H Ext.refl
      rw [eL, e2] at this
      exact this
    · have el : ps.length = l.length := by
        have e1 : ¬ (!decide (_ = _)) = true := e1
        rw [Bool.not_eq_true', decide_eq_false_iff_not, Classical.not_not] at e1
        have := V.int.inj e1
        rw [List.length_cons, List.length_map] at this
        omega
      refine ⟨_, rfl, _, rfl, 1, rfl, a, _, rfl, hA, fun t H1 k1 hTt => ?_⟩
      have ec : cutV (V.str z :: vs) (some 1) none = vs := cut_from (k := 1)
      rw [ec] at hTt
      refine ⟨T, t, _, vs, rfl, .inr ⟨hTs _, SqT.of hTt, RZ.for_zipT (by rw [List.length_map]; omega) (fun i σ H2 => ∃ y2 y3 : Option V, σ = [some (.ref a), some (.ref T), y2, y3] ∧ Ext H1 H2 ∧ ((l.zip ps).take i).all (fun z => z.1.den z.2) = true)
        ⟨none, none, rfl, Ext.refl, rfl⟩ (fun i σ H2 ⟨_, _, _, k, _⟩ => ⟨hTs _, SqT.of (k _ _ hTt)⟩) (fun i u1 u2 T2 σ H2 hu1 hu2 hv hT2 => ?_) (fun σ H2 hv => ?_)⟩⟩
      · obtain ⟨y2, y3, rfl, k2, hall⟩ := hv
        obtain ⟨m, hm, rfl⟩ : ∃ m, l[i]? = some m ∧ u1 = .ref (adr m) := by
          rw [List.getElem?_map] at hu1
          obtain ⟨m, h1, h2⟩ := Option.map_eq_some_iff.mp hu1
          exact ⟨m, h1, h2.symm⟩
        obtain ⟨d2, hd2, hD2⟩ := deAll_get hps hu2
        have xT := Ext.new (o := .tup [.ref (adr m), u2]) hT2
        have k3 := (k1.trans k2).trans xT
        have hw2 : d2.weight ≤ 1000000 := Nat.le_trans (wt_tup (List.mem_cons_of_mem _ (List.mem_of_getElem? hd2))) hw
        refine ⟨T2, _, rfl, SqT.of upd_same, rfl, _, _, rfl, _, _, rfl, rfl, ?_⟩
        refine ⟨adr m, _, rfl, FA.fn m, _, rfl, u2, d2, rfl, de_ext k3 hD2, hw2, fun H4 k4 => ⟨m.den d2, rfl, ?_⟩⟩
        have hz := zip_all_succ hm hd2
        rw [hall, Bool.true_and] at hz
        cases hden : m.den d2 with
        | false =>
          refine iteT ?_
          have := q H4 (k3.trans k4)
          rw [hden] at hz
          have e2 : fitB l ps = false := by
            unfold fitB
            rw [all_take_false hz, Bool.and_false]
          rw [eL, e2] at this
          exact this
        | true =>
          rw [hden] at hz
          exact iteF ⟨_, _, rfl, (k2.trans xT).trans k4, hz⟩
      · obtain ⟨y2, y3, rfl, k2, hall⟩ := hv
        have := q H2 (k1.trans k2)
        have e2 : fitB l ps = true := by
          unfold fitB
          rw [decide_eq_true el, Bool.true_and]
          rw [List.take_of_length_le (by rw [List.length_zip, List.length_map]; omega)] at hall
          exact hall
        rw [eL, e2] at this
        exact this
abbrev CLineE (P : Program) (w : World) (K : PySem.W.Frag) (mg : Str → Option Value) (base : Heap) : Prop := Ca P w K mg base 4 "is_line" ["thing"] spLineE
abbrev s_is_program : Stmt := topS 14
theorem sc_is_program : FnScope ["thing", "line"] ["thing"] (defScope s_is_program) :=
  ⟨rfl, rfl, rfl, by decide +kernel, rfl, by decide +kernel, by decide +kernel⟩
def spProgE : Sp := fun vs H Q _ => ∃ (v : V) (d : PyData), vs = [v] ∧ De H v d ∧ d.weight ≤ 1000000 ∧ ∀ H', Ext H H' → Q (.bl (progD d)) H'
theorem ok_progE {f : Addr} {fd : FuncData} {tN : Tok} (F : Fun K "is_program" "is_program" s_is_program f fd) (cis_line : CLineE P w K mg base) (misinstance : mg "isinstance" = none) (mtuple : mg "tuple" = none) (mlen : mg "len" = none) (mall : mg "all" = none) (gMOST_LINES : mg "MOST_LINES" = some (.int 20 tN)) : FnOk P w K mg base CX0 5 f fd ["thing"] spProgE := by
  refine F.ok sc_is_program (fun vs H Q E h => ?_) (fun cdv A outer s H vs Q E hr h => ?_)
  · obtain ⟨v, d, rfl, _⟩ := h
    rfl
  · obtain ⟨v, d, rfl, hd, hw, q⟩ := h
    refine ⟨_, (pss_one (ps_ret (pe_and (pe_callB (isi1 K) (by rfl) misinstance (by decide +kernel) (pa_cons (pv 0) (pa_cons (pe_bltn (v := .ty "tuple") (by rfl) mtuple (by decide +kernel) rfl) pa_nil))) (pe_and (pe_cmpR op_le (pe_callB (lenQ K) (by rfl) mlen (by decide +kernel) (pa_cons (pv 0) pa_nil)) (pe_glob (v := .int 20) (by rfl) gMOST_LINES ⟨_, rfl⟩) (nomark _)) (pe_one (pe_callB (cr_all rfl) (by rfl) mall (by decide +kernel) (pa_cons (pe_lc (own := [("line", 1)]) (g := gName 1) (by rfl) sc_is_program.nd (pi_tup (pv 0)) (blkOk_by (own := [("line", 1)]) (N := ["thing", "line"]) (sc := defScope s_is_program) (by decide +kernel)) (fun _ _ _ _ _ => (pg_name (i := 1) sc_is_program.nd rfl (.inl rfl))) (fun _ _ _ _ _ => pts_nil) (fun _ _ _ _ _ => (pe_ca cis_line (hr.mono (by decide)) (by rfl) (pa_cons (pv 1) pa_nil)))) pa_nil))))))), ?_⟩
    refine ⟨_, rfl, v, .ty "tuple", _, _, Pf.isTup d, rfl, .ty _, hd.ty, kit_tup d, Pf.isTup d, rfl, ite2 (fun e => ?_) (fun e => ?_)⟩
    · obtain ⟨ds, rfl⟩ := isTupE_yes e
      obtain ⟨a, xs, rfl, hA, hds⟩ := hd.isTup
      have hl := deAll_len hds
      refine ⟨_, rfl, a, _, rfl, .inr (SqT.of hA), _, 20, rfl, rfl, _, rfl, ite2 (fun e1 => ?_) (fun e1 => ?_)⟩
      · have e1 : (xs.length : Int) ≤ 20 := of_decide_eq_true e1
        refine ⟨_, rfl, a, rfl, ⟨_, SqT.of hA⟩, fun D hD => lc_tup (K := K) (xs := xs) (fun i H2 => H2 D = some (.lst (((ds.take i).map lineD).map V.bl)) ∧ Ext H H2) ⟨upd_same, Ext.new hD⟩ (fun i H2 _ h => SqT.of (h.2 _ _ hA)) (fun i u H2 hi hv => ?_) (fun H2 hv => ?_)⟩
        · obtain ⟨hL, k2⟩ := hv
          have hi12 : i < xs.length := (List.getElem?_eq_some_iff.mp hi).1
          obtain ⟨d2, hd2, hD2⟩ := deAll_get hds hi
          refine ⟨rfl, _, rfl, u, d2, rfl, de_ext k2 hD2, Nat.le_trans (wt_tup (List.mem_of_getElem? hd2)) hw, fun H3 k3 => ⟨_, k3 _ _ hL, szLt ?_, ?_, (k2.trans k3).put hD⟩⟩
          · rw [List.length_map, List.length_map, List.length_take]
            omega
          · rw [upd_same, List.take_add_one, hd2, List.map_append, List.map_append]
            rfl
        · obtain ⟨hL, k2⟩ := hv
          rw [List.take_of_length_le (by omega)] at hL
          refine ⟨D, _, rfl, SqL.of hL, ?_⟩
          have := q H2 k2
          have e2 : progD (.tuple ds) = (ds.map lineD).all id := by
            show (decide (ds.length ≤ 20) && _) = _
            rw [decide_eq_true (by omega), Bool.true_and]
          rw [e2] at this
          exact this
      · have := q H Ext.refl
        have e2 : progD (.tuple ds) = false := by
          show (decide (ds.length ≤ 20) && _) = _
          rw [decide_eq_false (fun z => e1 (decide_eq_true (show (xs.length : Int) ≤ 20 by omega))), Bool.false_and]
        rw [e2] at this
        have e1 : decide ((xs.length : Int) ≤ 20) = false := Bool.eq_false_iff.mpr e1
        exact this
    · have := q H Ext.refl
      have e2 : progD d = false := by
        cases d with
        | tuple ds => exact absurd rfl e
        | _ => rfl
      rw [e2] at this
      have e : Pf.isTup d = false := Bool.eq_false_iff.mpr e
      exact this
end
end Pf


namespace Pf
open PySem PySem.Spec PyProof.Rows L2
theorem filt_oneB {α : Type} (f : α → Bool) (c : α) : [c].filter f = if f c = true then [c] else [] := by cases e : f c <;> simp [List.filter, e]
theorem emp_snoc {α : Type} (l : List α) (a : α) : (l ++ [a]).isEmpty = false := by cases l <;> rfl
theorem filt_emp {α : Type} (f : α → Bool) : ∀ l : List α, (l.filter fun c => !f c).isEmpty = l.all f
  | [] => rfl
  | c :: l => by
    rw [List.all_cons, ← filt_emp f l]
    cases e : f c with
    | true => rw [List.filter_cons_of_neg (by rw [e]; decide), Bool.true_and]
    | false => rw [List.filter_cons_of_pos (by rw [e]; decide), Bool.false_and]; rfl
theorem in_str2 {b : Str} {ts : List Str} : inV (.str b) (ts.map V.str) = true ↔ b ∈ ts := by
  unfold inV
  rw [List.any_map, List.any_eq_true]
  constructor
  · rintro ⟨t, ht, e⟩
    have e : (t == b) = true := e
    rw [beq_iff_eq] at e
    exact e ▸ ht
  · intro h
    refine ⟨b, h, ?_⟩
    show (b == b) = true
    rw [beq_iff_eq]
theorem ifF {c : Bool} {A B : Prop} (e : c = false) (h : B) : if c = true then A else B := by
  rw [if_neg (by rw [e]; decide)]
  exact h
theorem ifT {c : Bool} {A B : Prop} (e : c = true) (h : A) : if c = true then A else B := by
  rw [if_pos e]
  exact h
section
variable {P : Program} {w : World} {K : PySem.W.Frag} {mg : Str → Option Value} {base : Heap}
abbrev s_law_is_number : Stmt := topS 18
theorem sc_law_is_number : FnScope ["_law_what_is"] ["_law_what_is"] (defScope s_law_is_number) :=
  ⟨rfl, rfl, rfl, by decide +kernel, rfl, by decide +kernel, by decide +kernel⟩
theorem ok_lnum {f : Addr} {fd : FuncData} {k : Nat} (F : Fun K "_law_is_number" "_law_is_number" s_law_is_number f fd) (misinstance : mg "isinstance" = none) (mint : mg "int" = none) (mbool : mg "bool" = none) : FnOk P w K mg base CX0 (k + 1) f fd ["_law_what_is"] spNumE := by
  refine F.ok sc_law_is_number (fun vs H Q E h => ?_) (fun cdv A outer s H vs Q E hr h => ?_)
  · obtain ⟨v, d, rfl, _⟩ := h
    rfl
  · obtain ⟨v, d, rfl, hd, q⟩ := h
    refine ⟨_, (pss_one (ps_ret (pe_and (pe_callB (isi1 K) (by rfl) misinstance (by decide +kernel) (pa_cons (pv 0) (pa_cons (pe_bltn (v := .ty "int") (by rfl) mint (by decide +kernel) rfl) pa_nil))) (pe_and (pe_not (pe_callB (isi1 K) (by rfl) misinstance (by decide +kernel) (pa_cons (pv 0) (pa_cons (pe_bltn (v := .ty "bool") (by rfl) mbool (by decide +kernel) rfl) pa_nil)))) (pe_one (pe_chain op_le op_le pe_int (pv 0) pe_int)))))), ?_⟩
    refine ⟨_, rfl, v, .ty "int", _, _, isIntB d, rfl, .ty _, hd.ty, kit_int d, isIntB d, rfl, ite2 (fun e => ?_) (fun e => ?_)⟩
    · refine ⟨_, rfl, v, .ty "bool", _, _, isBl d, rfl, .ty _, hd.ty, kit_bool d, isBl d, rfl, _, rfl, ite2 (fun e1 => ?_) (fun e1 => ?_)⟩
      · cases d with
        | int i =>
          obtain rfl := hd.isInt
          refine ⟨_, rfl, 0, i, rfl, rfl, _, rfl, ite2 (fun e1 => ?_) (fun e1 => ?_)⟩
          · have e1 : decide (0 ≤ i) = true := e1
            refine ⟨i, 99, rfl, rfl, ?_⟩
            simp only [numD, e1, Bool.true_and] at q
            exact q
          · have e1 : decide (0 ≤ i) = false := Bool.eq_false_iff.mpr e1
            simp only [numD, e1, Bool.false_and] at q
            exact q
        | bool b => cases e1
        | _ => cases e
      · cases d with
        | bool b => exact q
        | _ => exact absurd rfl e1
    · cases d with
      | int i => exact absurd rfl e
      | bool i => exact absurd rfl e
      | _ => exact q
abbrev CLnum (P : Program) (w : World) (K : PySem.W.Frag) (mg : Str → Option Value) (base : Heap) : Prop := Ca P w K mg base 1 "_law_is_number" ["_law_what_is"] spNumE
abbrev s_law_is_text : Stmt := topS 19
theorem sc_law_is_text : FnScope ["_law_what_is", "_law_signs", "_law_most", "_law_sign"] ["_law_what_is", "_law_signs", "_law_most"] (defScope s_law_is_text) :=
  ⟨rfl, rfl, rfl, by decide +kernel, rfl, by decide +kernel, by decide +kernel⟩
def spLtx : Sp := fun vs H Q _ => ∃ (S : Str) (v : V) (d : PyData) (m : Nat), vs = [v, .str S, .int (m : Int)] ∧ De H v d ∧ d.weight ≤ 1000000 ∧ m ≤ 1000 ∧ ∀ H', Ext H H' → Q (.bl (txD S m d)) H'
theorem ok_ltx {f : Addr} {fd : FuncData} {k : Nat} (F : Fun K "_law_is_text" "_law_is_text" s_law_is_text f fd) (misinstance : mg "isinstance" = none) (mstr : mg "str" = none) (mlen : mg "len" = none) : FnOk P w K mg base CX0 (k + 1) f fd ["_law_what_is", "_law_signs", "_law_most"] spLtx := by
  refine F.ok sc_law_is_text (fun vs H Q E h => ?_) (fun cdv A outer s H vs Q E hr h => ?_)
  · obtain ⟨S, v, d, m, rfl, _⟩ := h
    rfl
  · obtain ⟨S, v, d, m, rfl, hd, hw, hm, q⟩ := h
    refine ⟨_, (pss_one (ps_ret (pe_and (pe_callB (isi1 K) (by rfl) misinstance (by decide +kernel) (pa_cons (pv 0) (pa_cons (pe_bltn (v := .ty "str") (by rfl) mstr (by decide +kernel) rfl) pa_nil))) (pe_and (pe_cmpR op_le (pe_callB call_len_str (by rfl) mlen (by decide +kernel) (pa_cons (pv 0) pa_nil)) (pv 2) (nomark _)) (pe_one (pe_cmpR (eqL0 K hr.units) (pe_lc (own := [("_law_sign", 3)]) (g := gName 3) (by rfl) sc_law_is_text.nd (pi_str (pv 0)) (blkOk_by (own := [("_law_sign", 3)]) (N := ["_law_what_is", "_law_signs", "_law_most", "_law_sign"]) (sc := defScope s_law_is_text) (by decide +kernel)) (fun _ _ _ _ _ => (pg_name (i := 3) sc_law_is_text.nd rfl (.inl rfl))) (fun _ _ _ _ _ => (pts_one (pt_cmpR op_notIn_sign (pv 3) (pv 1) (by rfl)))) (fun _ _ _ _ _ => (pv 3))) (pe_lst pa_nil) (nomark _))))))), ?_⟩
    refine ⟨_, rfl, v, .ty "str", _, _, isStr d, rfl, .ty _, hd.ty, kit_str d, isStr d, rfl, ite2 (fun e => ?_) (fun e => ?_)⟩
    · obtain ⟨x, rfl⟩ := isStrE_yes e
      obtain rfl := hd.isStr
      have hx : x.length ≤ 1000000 := hw
      refine ⟨_, rfl, x, rfl, szL hx, _, rfl, _, _, rfl, rfl, _, rfl, ite2 (fun e1 => ?_) (fun e1 => ?_)⟩
      · have e1 : (x.length : Int) ≤ m := of_decide_eq_true e1
        refine ⟨_, rfl, x, rfl, fun D hD => lc_str (fun i H2 => H2 D = some (.lst (((x.cps.toList.take i).filter fun c => !decide (c ∈ S.cps.toList)).map fun ch => V.str ⟨#[ch]⟩)) ∧ Ext H H2) ⟨upd_same, Ext.new hD⟩ (fun i ch H2 hi hv => ?_) (fun H2 hv => ?_)⟩
        · obtain ⟨hL, k2⟩ := hv
          have hi12 : i < x.length := (Array.getElem?_eq_some_iff.mp hi).1
          have hi2 : x.cps.toList[i]? = some ch := by rw [Array.getElem?_toList]; exact hi
          have hstep : ((x.cps.toList.take (i + 1)).filter fun c => !decide (c ∈ S.cps.toList)) = ((x.cps.toList.take i).filter fun c => !decide (c ∈ S.cps.toList)) ++ if (!decide (ch ∈ S.cps.toList)) = true then [ch] else [] := by
            rw [List.take_add_one, hi2, List.filter_append]
            congr 1
            exact filt_oneB _ ch
          refine ⟨rfl, _, rfl, _, rfl, ch, S, rfl, rfl, _, rfl, ?_⟩
          cases hin : decide (ch ∈ S.cps.toList) with
          | true =>
            refine iteF ⟨?_, k2⟩
            rw [hstep, hin, if_neg (by decide), List.append_nil]
            exact hL
          | false =>
            refine iteT ⟨_, rfl, _, hL, szLt ?_, ?_, k2.put hD⟩
            · rw [List.length_map]
              have : ((x.cps.toList.take i).filter fun c => !decide (c ∈ S.cps.toList)).length ≤ (x.cps.toList.take i).length := List.length_filter_le _ _
              rw [List.length_take] at this
              omega
            · rw [upd_same, hstep, hin, if_pos (show (!false) = true from rfl), List.map_append]
              rfl
        · obtain ⟨hL, k2⟩ := hv
          have e3 : x.cps.toList.take x.cps.size = x.cps.toList := List.take_of_length_le (by rw [Array.length_toList]; exact Nat.le_refl _)
          rw [e3] at hL
          refine ⟨Nat.zero_le _, fun l hl => ?_⟩
          have x4 := Ext.new (o := .lst []) hl
          refine ⟨D, l, _, rfl, rfl, SqL.of (x4 _ _ hL), SqL.of upd_same, ?_⟩
          have := q _ (k2.trans x4)
          have e2 : txD S m (.str x) = ((x.cps.toList.filter fun c => !decide (c ∈ S.cps.toList)).map fun ch => V.str ⟨#[ch]⟩).isEmpty := by
            show (decide (x.length ≤ m) && _) = _
            rw [decide_eq_true (by omega), Bool.true_and, List.isEmpty_map, filt_emp]
          rw [e2] at this
          exact this
      · have := q H Ext.refl
        have e2 : txD S m (.str x) = false := by
          show (decide (x.length ≤ m) && _) = _
          rw [decide_eq_false (fun z => e1 (decide_eq_true (show (x.length : Int) ≤ m by omega))), Bool.false_and]
        rw [e2] at this
        have e1 : decide ((x.length : Int) ≤ m) = false := Bool.eq_false_iff.mpr e1
        exact this
    · have := q H Ext.refl
      rw [txD_no (Bool.eq_false_iff.mpr e)] at this
      exact this
abbrev CLtx (P : Program) (w : World) (K : PySem.W.Frag) (mg : Str → Option Value) (base : Heap) : Prop := Ca P w K mg base 1 "_law_is_text" ["_law_what_is", "_law_signs", "_law_most"] spLtx
def neS : PyData → Bool
  | .str x => !decide (x = "")
  | _ => true
theorem let_is (d : PyData) : letD d = (txD AZw 1 d && neS d) := by
  cases d with
  | str x =>
    show (decide (x.length ≤ 40) && (x.cps.toList.all fun c => decide (c ∈ AZw.cps.toList)) && decide (x.length = 1)) = (decide (x.length ≤ 1) && (x.cps.toList.all fun c => decide (c ∈ AZw.cps.toList)) && !decide (x = ""))
    by_cases h1 : x.length = 1
    · have : x ≠ "" := fun z => by rw [z] at h1; exact absurd h1 (by decide +kernel)
      rw [decide_eq_true (show x.length ≤ 40 by omega), decide_eq_true h1, decide_eq_true (show x.length ≤ 1 by omega), decide_eq_false this]
      simp
    · rw [decide_eq_false h1, Bool.and_false]
      by_cases h0 : x.length = 0
      · have : x = "" := by
          refine PySem.W.str_of_cps ?_
          have e : x.cps.toList = [] := List.length_eq_zero_iff.mp (by rw [Array.length_toList]; exact h0)
          rw [e]
          decide +kernel
        rw [this, decide_eq_true rfl]
        simp
      · rw [decide_eq_false (show ¬ x.length ≤ 1 by omega)]
        simp
  | _ => rfl
abbrev s_law_is_line : Stmt := topS 20
theorem sc_law_is_line : FnScope ["_law_what_is", "_law_small"] ["_law_what_is"] (defScope s_law_is_line) :=
  ⟨rfl, rfl, rfl, by decide +kernel, rfl, by decide +kernel, by decide +kernel⟩
def fitOf (z : Str) (ps : List PyData) : Bool := match formsOf z with
  | some l => fitB l ps
  | none => false
theorem fit0 (ps : List PyData) : fitB [] ps = decide (ps.length = 0) := by
  unfold fitB
  simp
theorem fit1 (m : Fm) (ps : List PyData) : fitB [m] ps = match ps with
    | [d] => m.den d
    | _ => false := by
  unfold fitB
  match ps with
  | [] => rfl
  | [d] => simp
  | _ :: _ :: _ => simp
theorem fit2 (m1 m2 : Fm) (ps : List PyData) : fitB [m1, m2] ps = match ps with
    | [d, e] => m1.den d && m2.den e
    | _ => false := by
  unfold fitB
  match ps with
  | [] => rfl
  | [d] => rfl
  | [d, e] => simp
  | _ :: _ :: _ :: _ => simp
theorem len_dec (n m : Nat) : decide (V.int ((n : Nat) : Int) = V.int ((m : Nat) : Int)) = decide (n = m) := decide_eq_decide.mpr ⟨fun h => by have := V.int.inj h; omega, fun h => by rw [h]⟩
theorem str_dec (x y : Str) : decide (V.str x = V.str y) = decide (x = y) := decide_eq_decide.mpr ⟨V.str.inj, congrArg V.str⟩
theorem ok_lline {f : Addr} {fd : FuncData} (F : Fun K "_law_is_line" "_law_is_line" s_law_is_line f fd) (c_law_is_number : CLnum P w K mg base) (c_law_is_text : CLtx P w K mg base) (misinstance : mg "isinstance" = none) (mstr : mg "str" = none) (mtuple : mg "tuple" = none) (mlen : mg "len" = none) : FnOk P w K mg base CX0 4 f fd ["_law_what_is"] spLineE := by
  refine F.ok sc_law_is_line (fun vs H Q E h => ?_) (fun cdv A outer s H vs Q E hr h => ?_)
  · obtain ⟨v, d, rfl, _⟩ := h
    rfl
  · obtain ⟨v, d, rfl, hd, hw, q⟩ := h
    refine ⟨_, (pss_cons (ps_set (i := 1) sc_law_is_line.nd rfl (.inl rfl) pe_str)
      (pss_cons (ps_if (PW.pt (pw_or (pt_not (pt_val (pe_callB (isi1 K) (by rfl) misinstance (by decide +kernel) (pa_cons (pv 0) (pa_cons (pe_bltn (v := .ty "tuple") (by rfl) mtuple (by decide +kernel) rfl) pa_nil))))) (pw_or (pt_cmpR (eqT0 K hr.units) (pv 0) (pe_tup pa_nil) (nomark _)) (pw_or1 (pt_not (pt_val (pe_callB (isi1 K) (by rfl) misinstance (by decide +kernel) (pa_cons (pe_ix (ixT K) (pv 0) pe_int (fun _ _ => rfl)) (pa_cons (pe_bltn (v := .ty "str") (by rfl) mstr (by decide +kernel) rfl) pa_nil))))))))) (pss_one (ps_ret pe_bl)) pss_nil)
      (pss_cons (ps_if (pt_cmpR (inSeq K) (pe_ix (ixT K) (pv 0) pe_int (fun _ _ => rfl)) (pe_tup (pa_cons pe_str (pa_cons pe_str pa_nil))) (by rfl)) (pss_one (ps_ret (pe_cmpR op_eq (pe_callB (lenQ K) (by rfl) mlen (by decide +kernel) (pa_cons (pv 0) pa_nil)) pe_int (nomark _)))) pss_nil)
      (pss_cons (ps_if (pt_cmpR op_eq (pe_ix (ixT K) (pv 0) pe_int (fun _ _ => rfl)) pe_str (nomark _)) (pss_one (ps_ret (pe_and (pe_cmpR op_eq (pe_callB (lenQ K) (by rfl) mlen (by decide +kernel) (pa_cons (pv 0) pa_nil)) pe_int (nomark _)) (pe_one (pe_ca c_law_is_number (hr.mono (by decide)) (by rfl) (pa_cons (pe_ix (ixT K) (pv 0) pe_int (fun _ _ => rfl)) pa_nil)))))) pss_nil)
      (pss_cons (ps_if (pt_cmpR op_eq (pe_ix (ixT K) (pv 0) pe_int (fun _ _ => rfl)) pe_str (nomark _)) (pss_one (ps_ret (pe_and (pe_cmpR op_eq (pe_callB (lenQ K) (by rfl) mlen (by decide +kernel) (pa_cons (pv 0) pa_nil)) pe_int (nomark _)) (pe_and (pe_ca c_law_is_number (hr.mono (by decide)) (by rfl) (pa_cons (pe_ix (ixT K) (pv 0) pe_int (fun _ _ => rfl)) pa_nil)) (pe_one (pe_ca c_law_is_number (hr.mono (by decide)) (by rfl) (pa_cons (pe_ix (ixT K) (pv 0) pe_int (fun _ _ => rfl)) pa_nil))))))) pss_nil)
      (pss_cons (ps_if (pt_cmpR op_eq (pe_ix (ixT K) (pv 0) pe_int (fun _ _ => rfl)) pe_str (nomark _)) (pss_cons (ps_if (PW.pt (pw_or (pt_cmpR op_ne (pe_callB (lenQ K) (by rfl) mlen (by decide +kernel) (pa_cons (pv 0) pa_nil)) pe_int (nomark _)) (pw_or1 (pt_not (pt_val (pe_ca c_law_is_number (hr.mono (by decide)) (by rfl) (pa_cons (pe_ix (ixT K) (pv 0) pe_int (fun _ _ => rfl)) pa_nil))))))) (pss_one (ps_ret pe_bl)) pss_nil)
      (pss_one (ps_ret (pe_and (pe_ca c_law_is_text (hr.mono (by decide)) (by rfl) (pa_cons (pe_ix (ixT K) (pv 0) pe_int (fun _ _ => rfl)) (pa_cons (pv 1) (pa_cons pe_int pa_nil)))) (pe_one (pe_cmpR op_ne (pe_ix (ixT K) (pv 0) pe_int (fun _ _ => rfl)) pe_str (nomark _))))))) pss_nil)
      (pss_cons (ps_if (pt_cmpR op_eq (pe_ix (ixT K) (pv 0) pe_int (fun _ _ => rfl)) pe_str (nomark _)) (pss_one (ps_ret (pe_and (pe_cmpR op_eq (pe_callB (lenQ K) (by rfl) mlen (by decide +kernel) (pa_cons (pv 0) pa_nil)) pe_int (nomark _)) (pe_one (pe_ca c_law_is_text (hr.mono (by decide)) (by rfl) (pa_cons (pe_ix (ixT K) (pv 0) pe_int (fun _ _ => rfl)) (pa_cons (pv 1) (pa_cons pe_int pa_nil)))))))) pss_nil)
      (pss_one (ps_ret (pe_and (pe_cmpR op_eq (pe_ix (ixT K) (pv 0) pe_int (fun _ _ => rfl)) pe_str (nomark _)) (pe_and (pe_cmpR op_eq (pe_callB (lenQ K) (by rfl) mlen (by decide +kernel) (pa_cons (pv 0) pa_nil)) pe_int (nomark _)) (pe_one (pe_ca c_law_is_text (hr.mono (by decide)) (by rfl) (pa_cons (pe_ix (ixT K) (pv 0) pe_int (fun _ _ => rfl)) (pa_cons pe_str (pa_cons pe_int pa_nil)))))))))))))))), ?_⟩
    refine ⟨_, rfl, v, .ty "tuple", _, _, Pf.isTup d, rfl, .ty _, hd.ty, kit_tup d, Pf.isTup d, rfl, ?_⟩
    cases ht : Pf.isTup d with
    | false =>
      refine iteT ?_
      have := q H Ext.refl
      have e2 : lineD d = false := by
        cases d with
        | tuple ds => cases ht
        | _ => rfl
      rw [e2] at this
      exact this
    | true =>
    obtain ⟨ds, rfl⟩ := isTupE_yes ht
    obtain ⟨a, xs, rfl, hA, hds⟩ := hd.isTup
    refine iteF ⟨_, rfl, Nat.zero_le _, fun t0 ht0 => ?_⟩
    have x1 := Ext.new (o := .tup []) ht0
    have hA1 := x1 _ _ hA
    have hds1 := deAll_ext x1 hds
    refine ⟨a, t0, _, rfl, rfl, SqT.of hA1, SqT.of upd_same, _, rfl, ?_⟩
    generalize upd H t0 (.tup []) = H1 at x1 hA1 hds1 ⊢
    cases hds1 with
    | nil =>
      refine iteT ?_
      exact q H1 x1
    | @cons v0 vs d0 ps h0 hps =>
    refine iteF ⟨_, rfl, a, _, 0, v0, rfl, rfl, SqT.of hA1, at0 _ _, v0, .ty "str", _, _, isStr d0, rfl, .ty _, h0.ty, kit_str d0, isStr d0, rfl, ?_⟩
    cases hs : isStr d0 with
    | false =>
      refine iteT ?_
      have := q H1 x1
      have e2 : lineD (.tuple (d0 :: ps)) = false := by
        cases d0 with
        | str x => cases hs
        | _ => rfl
      rw [e2] at this
      exact this
    | true =>
    obtain ⟨z, rfl⟩ := isStrE_yes hs
    obtain rfl := h0.isStr
    have eL : lineD (.tuple (.str z :: ps)) = fitOf z ps := rfl
    rw [eL] at q
    have hpl := deAll_len hps
    have hww : ∀ d ∈ ps, d.weight ≤ 1000000 := fun d h => Nat.le_trans (wt_tup (List.mem_cons_of_mem _ h)) hw
    have qq := q H1 x1
    refine iteF ⟨_, rfl, a, _, 0, _, rfl, rfl, SqT.of hA1, at0 _ _, szL (show 2 ≤ 1000000 by decide), fun t2 ht2 => ?_⟩
    have x2 := Ext.new (o := .tup [.str "least", .str "count"]) ht2
    have q2 : ∀ H', Ext (upd H1 t2 (.tup [.str "least", .str "count"])) H' → Q (.bl (fitOf z ps)) H' := fun H' k => q H' (x1.trans (x2.trans k))
    have hA2 := x2 _ _ hA1
    have hps2 := deAll_ext x2 hps
    have hT2 : upd H1 t2 (.tup [.str "least", .str "count"]) t2 = some (.tup [.str "least", .str "count"]) := upd_same
    generalize upd H1 t2 (.tup [.str "least", .str "count"]) = H2 at hA2 hps2 hT2 q2 ⊢
    clear q qq x1 x2 hA hA1 hps ht2 ht0 hds h0 hw hd eL hs ht
    have eIn : inV (.str z) [V.str "least", .str "count"] = (decide (z = "least") || decide (z = "count")) := by
      rw [Bool.eq_iff_iff, Bool.or_eq_true, decide_eq_true_eq, decide_eq_true_eq]
      have := in_str2 (b := z) (ts := ["least", "count"])
      simp only [List.map_cons, List.map_nil, List.mem_cons, List.not_mem_nil, or_false] at this
      exact this
    refine ⟨t2, _, rfl, .inr (SqT.of hT2), rfl, rfl, _, rfl, ?_⟩
    show if inV (.str z) [V.str "least", .str "count"] = true then _ else _
    rw [eIn]
    have lenI : ((V.str z :: vs).length : Int) = (ps.length : Int) + 1 := by rw [List.length_cons, hpl]; omega
    have lenD : ∀ m : Nat, decide (V.int ((V.str z :: vs).length : Int) = V.int (((m + 1 : Nat)) : Int)) = decide (ps.length = m) := fun m => by
      rw [lenI]
      exact decide_eq_decide.mpr ⟨fun h => by have := V.int.inj h; omega, fun h => by rw [h]; rfl⟩
    by_cases z1 : z = "least" ∨ z = "count"
    · have hf : fitOf z ps = decide (ps.length = 0) := by
        rcases z1 with rfl | rfl <;> exact fit0 ps
      rw [show (decide (z = "least") || decide (z = "count")) = true by rcases z1 with rfl | rfl <;> simp]
      refine iteT ⟨_, rfl, a, _, rfl, .inr (SqT.of hA2), rfl, ?_⟩
      have := q2 _ Ext.refl
      rw [hf, ← lenD 0] at this
      exact this
    rw [show (decide (z = "least") || decide (z = "count")) = false by
      rw [decide_eq_false (fun h => z1 (.inl h)), decide_eq_false (fun h => z1 (.inr h))]; rfl]
    refine iteF ⟨_, rfl, a, _, 0, _, rfl, rfl, SqT.of hA2, at0 _ _, rfl, _, rfl, ?_⟩
    have eq : ∀ y : Str, decide (V.str z = V.str y) = decide (z = y) := fun y => decide_eq_decide.mpr ⟨V.str.inj, congrArg V.str⟩
    rw [eq]
    -- within
    by_cases z2 : z = "within"
    · rw [decide_eq_true z2]
      have hf : fitOf z ps = fitB [.n] ps := by rw [z2]; rfl
      rw [fit1] at hf
      refine iteT ⟨_, rfl, a, _, rfl, .inr (SqT.of hA2), rfl, _, rfl, ?_⟩
      rw [show decide (V.int ((V.str z :: vs).length : Int) = V.int 2) = decide (ps.length = 1) from lenD 1]
      match ps, vs, hps2 with
      | [], [], .nil =>
        have := q2 _ Ext.refl
        rw [hf] at this
        exact iteF this
      | [d1], [v1], .cons h1 .nil =>
        have := q2 _ Ext.refl
        rw [hf] at this
        exact iteT ⟨_, rfl, a, _, 1, v1, rfl, rfl, SqT.of hA2, at1 _ _ _, v1, d1, rfl, h1, this⟩
      | _ :: _ :: _, _ :: _ :: _, .cons _ (.cons _ _) =>
        have := q2 _ Ext.refl
        rw [hf] at this
        refine ifF (decide_eq_false (fun h => ?_)) this
        rw [List.length_cons, List.length_cons] at h
        omega
    rw [decide_eq_false z2]
    -- has
    refine iteF ⟨_, rfl, a, _, 0, _, rfl, rfl, SqT.of hA2, at0 _ _, rfl, _, rfl, ?_⟩
    rw [eq]
    by_cases z3 : z = "has"
    · rw [decide_eq_true z3]
      have hf : fitOf z ps = fitB [.n, .n] ps := by rw [z3]; rfl
      rw [fit2] at hf
      refine iteT ⟨_, rfl, a, _, rfl, .inr (SqT.of hA2), rfl, _, rfl, ?_⟩
      rw [show decide (V.int ((V.str z :: vs).length : Int) = V.int 3) = decide (ps.length = 2) from lenD 2]
      match ps, vs, hps2 with
      | [], [], .nil =>
        have := q2 _ Ext.refl
        rw [hf] at this
        exact iteF this
      | [d1], [v1], .cons h1 .nil =>
        have := q2 _ Ext.refl
        rw [hf] at this
        exact iteF this
      | [d1, d2], [v1, v2], .cons h1 (.cons h2 .nil) =>
        have := q2 _ Ext.refl
        rw [hf] at this
        refine iteT ⟨_, rfl, a, _, 1, v1, rfl, rfl, SqT.of hA2, at1 _ _ _, v1, d1, rfl, h1, _, rfl, ite2 (fun e => ?_) (fun e => ?_)⟩
        · have e : numD d1 = true := e
          refine ⟨_, rfl, a, _, 2, v2, rfl, rfl, SqT.of hA2, at2 _ _ _ _, v2, d2, rfl, h2, ?_⟩
          have e3 : (Fm.n.den d1 && Fm.n.den d2) = numD d2 := by
            show (numD d1 && numD d2) = _
            rw [e, Bool.true_and]
          have this : Q (.bl (Fm.n.den d1 && Fm.n.den d2)) H2 := this
          rw [e3] at this
          exact this
        · have e : numD d1 = false := Bool.eq_false_iff.mpr e
          have e3 : (Fm.n.den d1 && Fm.n.den d2) = false := by
            show (numD d1 && numD d2) = _
            rw [e, Bool.false_and]
          have this : Q (.bl (Fm.n.den d1 && Fm.n.den d2)) H2 := this
          rw [e3] at this
          exact this
      | _ :: _ :: _ :: _, _ :: _ :: _ :: _, .cons _ (.cons _ (.cons _ _)) =>
        have := q2 _ Ext.refl
        rw [hf] at this
        refine ifF (decide_eq_false (fun h => ?_)) this
        rw [List.length_cons, List.length_cons, List.length_cons] at h
        omega
    rw [decide_eq_false z3]
    -- letter
    refine iteF ⟨_, rfl, a, _, 0, _, rfl, rfl, SqT.of hA2, at0 _ _, rfl, _, rfl, ?_⟩
    rw [eq]
    by_cases z4 : z = "letter"
    · rw [decide_eq_true z4]
      have hf : fitOf z ps = fitB [.n, .l] ps := by rw [z4]; rfl
      rw [fit2] at hf
      refine iteT ⟨_, rfl, a, _, rfl, .inr (SqT.of hA2), rfl, _, rfl, ?_⟩
      rw [show decide (V.int ((V.str z :: vs).length : Int) = V.int 3) = decide (ps.length = 2) from lenD 2]
      match ps, vs, hps2 with
      | [], [], .nil =>
        have := q2 _ Ext.refl
        rw [hf] at this
        exact iteT this
      | [d1], [v1], .cons h1 .nil =>
        have := q2 _ Ext.refl
        rw [hf] at this
        exact iteT this
      | [d1, d2], [v1, v2], .cons h1 (.cons h2 .nil) =>
        have this : ∀ H', Ext H2 H' → Q (.bl (numD d1 && letD d2)) H' := fun H' k => by
          have := q2 H' k
          rw [hf] at this
          exact this
        have hw2 := hww d2 (List.mem_cons_of_mem _ (List.mem_cons_self ..))
        refine iteF ⟨_, rfl, a, _, 1, v1, rfl, rfl, SqT.of hA2, at1 _ _ _, v1, d1, rfl, h1, _, rfl, ?_⟩
        cases hn : numD d1 with
        | false =>
          have := this _ Ext.refl
          rw [hn] at this
          exact iteT this
        | true =>
          refine iteF ⟨_, rfl, a, _, 2, v2, rfl, rfl, SqT.of hA2, at2 _ _ _ _, _, rfl, AZw, v2, d2, 1, rfl, h2, hw2, by decide, fun H3 k3 => ⟨_, rfl, ite2 (fun e => ?_) (fun e => ?_)⟩⟩
          · have this := this H3 k3
            rw [hn, Bool.true_and, let_is, show txD AZw 1 d2 = true from e, Bool.true_and] at this
            cases d2 with
            | str x2 =>
              obtain rfl := h2.isStr
              refine ⟨_, rfl, a, _, 2, _, rfl, rfl, SqT.of (k3 _ _ hA2), at2 _ _ _ _, rfl, ?_⟩
              have e5 : neS (.str x2) = !decide (V.str x2 = V.str "") := by
                show (!decide (x2 = "")) = _
                congr 1
                exact decide_eq_decide.mpr ⟨congrArg V.str, V.str.inj⟩
              rw [e5] at this
              exact this
            | _ => cases e
          · have this := this H3 k3
            have e : txD AZw 1 d2 = false := Bool.eq_false_iff.mpr e
            rw [hn, Bool.true_and, let_is, e, Bool.false_and] at this
            exact this
      | _ :: _ :: _ :: _, _ :: _ :: _ :: _, .cons _ (.cons _ (.cons _ _)) =>
        have := q2 _ Ext.refl
        rw [hf] at this
        refine ifT (by
          refine Bool.not_eq_true' _ ▸ ?_
          exact decide_eq_false (fun h => by rw [List.length_cons, List.length_cons, List.length_cons] at h; omega)) this
    rw [decide_eq_false z4]
    -- string
    refine iteF ⟨_, rfl, a, _, 0, _, rfl, rfl, SqT.of hA2, at0 _ _, rfl, _, rfl, ?_⟩
    rw [eq]
    by_cases z5 : z = "string"
    · rw [decide_eq_true z5]
      have hf : fitOf z ps = fitB [.t] ps := by rw [z5]; rfl
      rw [fit1] at hf
      refine iteT ⟨_, rfl, a, _, rfl, .inr (SqT.of hA2), rfl, _, rfl, ?_⟩
      rw [show decide (V.int ((V.str z :: vs).length : Int) = V.int 2) = decide (ps.length = 1) from lenD 1]
      match ps, vs, hps2 with
      | [], [], .nil =>
        have := q2 _ Ext.refl
        rw [hf] at this
        exact iteF this
      | [d1], [v1], .cons h1 .nil =>
        have hw1 := hww d1 (List.mem_cons_self ..)
        refine iteT ⟨_, rfl, a, _, 1, v1, rfl, rfl, SqT.of hA2, at1 _ _ _, _, rfl, AZw, v1, d1, 40, rfl, h1, hw1, by decide, fun H3 k3 => ?_⟩
        have := q2 H3 k3
        rw [hf] at this
        exact this
      | _ :: _ :: _, _ :: _ :: _, .cons _ (.cons _ _) =>
        have := q2 _ Ext.refl
        rw [hf] at this
        refine ifF (decide_eq_false (fun h => ?_)) this
        rw [List.length_cons, List.length_cons] at h
        omega
    rw [decide_eq_false z5]
    -- worth
    refine iteF ⟨_, rfl, a, _, 0, _, rfl, rfl, SqT.of hA2, at0 _ _, rfl, _, rfl, ?_⟩
    rw [eq]
    by_cases z6 : z = "worth"
    · rw [decide_eq_true z6]
      have hf : fitOf z ps = fitB [.b] ps := by rw [z6]; rfl
      rw [fit1] at hf
      refine iteT ⟨_, rfl, a, _, rfl, .inr (SqT.of hA2), rfl, _, rfl, ?_⟩
      rw [show decide (V.int ((V.str z :: vs).length : Int) = V.int 2) = decide (ps.length = 1) from lenD 1]
      match ps, vs, hps2 with
      | [], [], .nil =>
        have := q2 _ Ext.refl
        rw [hf] at this
        exact iteF this
      | [d1], [v1], .cons h1 .nil =>
        have hw1 := hww d1 (List.mem_cons_self ..)
        refine iteT ⟨_, rfl, a, _, 1, v1, rfl, rfl, SqT.of hA2, at1 _ _ _, BRw, v1, d1, 40, rfl, h1, hw1, by decide, fun H3 k3 => ?_⟩
        have := q2 H3 k3
        rw [hf] at this
        exact this
      | _ :: _ :: _, _ :: _ :: _, .cons _ (.cons _ _) =>
        have := q2 _ Ext.refl
        rw [hf] at this
        refine ifF (decide_eq_false (fun h => ?_)) this
        rw [List.length_cons, List.length_cons] at h
        omega
    · rw [decide_eq_false z6]
      have hf : formsOf z = none := by
        unfold formsOf
        rw [if_neg z5, if_neg z4, if_neg (fun h => z1 (.inl h)), if_neg (fun h => z1 (.inr h)), if_neg z6, if_neg z3, if_neg z2]
      have := q2 _ Ext.refl
      have e : fitOf z ps = false := by
        unfold fitOf
        rw [hf]
      rw [e] at this
      exact iteF this
abbrev CLline (P : Program) (w : World) (K : PySem.W.Frag) (mg : Str → Option Value) (base : Heap) : Prop := Ca P w K mg base 4 "_law_is_line" ["_law_what_is"] spLineE
abbrev s_law_due : Stmt := topS 21
theorem sc_law_due : FnScope ["_law_what_is", "_law_line_here"] ["_law_what_is"] (defScope s_law_due) :=
  ⟨rfl, rfl, rfl, by decide +kernel, rfl, by decide +kernel, by decide +kernel⟩
theorem ok_ldue {f : Addr} {fd : FuncData} (F : Fun K "_law_due" "_law_due" s_law_due f fd) (c_law_is_line : CLline P w K mg base) (misinstance : mg "isinstance" = none) (mtuple : mg "tuple" = none) (mlen : mg "len" = none) : FnOk P w K mg base CX0 5 f fd ["_law_what_is"] spProgE := by
  refine F.ok sc_law_due (fun vs H Q E h => ?_) (fun cdv A outer s H vs Q E hr h => ?_)
  · obtain ⟨v, d, rfl, _⟩ := h
    rfl
  · obtain ⟨v, d, rfl, hd, hw, q⟩ := h
    refine ⟨_, (pss_cons (ps_if (PW.pt (pw_or (pt_not (pt_val (pe_callB (isi1 K) (by rfl) misinstance (by decide +kernel) (pa_cons (pv 0) (pa_cons (pe_bltn (v := .ty "tuple") (by rfl) mtuple (by decide +kernel) rfl) pa_nil))))) (pw_or1 (pt_cmpR op_gt (pe_callB (lenQ K) (by rfl) mlen (by decide +kernel) (pa_cons (pv 0) pa_nil)) pe_int (nomark _))))) (pss_one (ps_ret pe_bl)) pss_nil)
      (pss_one (ps_ret (pe_cmpR (eqL0 K hr.units) (pe_lc (own := [("_law_line_here", 1)]) (g := gName 1) (by rfl) sc_law_due.nd (pi_tup (pv 0)) (blkOk_by (own := [("_law_line_here", 1)]) (N := ["_law_what_is", "_law_line_here"]) (sc := defScope s_law_due) (by decide +kernel)) (fun _ _ _ _ _ => (pg_name (i := 1) sc_law_due.nd rfl (.inl rfl))) (fun _ _ _ _ _ => (pts_one (pt_not (pt_val (pe_ca c_law_is_line (hr.mono (by decide)) (by rfl) (pa_cons (pv 1) pa_nil)))))) (fun _ _ _ _ _ => (pv 1))) (pe_lst pa_nil) (nomark _))))), ?_⟩
    refine ⟨_, rfl, v, .ty "tuple", _, _, Pf.isTup d, rfl, .ty _, hd.ty, kit_tup d, Pf.isTup d, rfl, ?_⟩
    cases ht : Pf.isTup d with
    | false =>
      refine iteT ?_
      have := q H Ext.refl
      have e2 : progD d = false := by
        cases d with
        | tuple ds => cases ht
        | _ => rfl
      rw [e2] at this
      exact this
    | true =>
    obtain ⟨ds, rfl⟩ := isTupE_yes ht
    obtain ⟨a, xs, rfl, hA, hds⟩ := hd.isTup
    have hl := deAll_len hds
    refine iteF ⟨_, rfl, a, _, rfl, .inr (SqT.of hA), _, _, rfl, rfl, _, rfl, ite2 (fun e1 => ?_) (fun e1 => ?_)⟩
    · have e1 : (xs.length : Int) > 20 := of_decide_eq_true e1
      have := q H Ext.refl
      have e2 : progD (.tuple ds) = false := by
        show (decide (ds.length ≤ 20) && _) = _
        rw [decide_eq_false (by omega), Bool.false_and]
      rw [e2] at this
      exact this
    · have e1 : ¬ (xs.length : Int) > 20 := fun z => e1 (decide_eq_true z)
      refine ⟨_, rfl, a, rfl, ⟨_, SqT.of hA⟩, fun D hD => lc_tup (K := K) (xs := xs) (fun i H2 => ∃ us, H2 D = some (.lst us) ∧ us.length ≤ i ∧ us.isEmpty = ((ds.take i).filter fun d => !lineD d).isEmpty ∧ Ext H H2) ⟨[], upd_same, Nat.le_refl _, rfl, Ext.new hD⟩ (fun i H2 _ h => SqT.of (by obtain ⟨_, _, _, _, k⟩ := h; exact k _ _ hA)) (fun i u H2 hi hv => ?_) (fun H2 hv => ?_)⟩
      · obtain ⟨us, hL, hul, hue, k2⟩ := hv
        have hi12 : i < xs.length := (List.getElem?_eq_some_iff.mp hi).1
        obtain ⟨d2, hd2, hD2⟩ := deAll_get hds hi
        have hstep : ((ds.take (i + 1)).filter fun c => !lineD c) = ((ds.take i).filter fun c => !lineD c) ++ if (!lineD d2) = true then [d2] else [] := by
          rw [List.take_add_one, hd2, List.filter_append]
          congr 1
          exact filt_oneB _ d2
        refine ⟨rfl, _, rfl, u, d2, rfl, de_ext k2 hD2, Nat.le_trans (wt_tup (List.mem_of_getElem? hd2)) hw, fun H3 k3 => ⟨lineD d2, rfl, ?_⟩⟩
        cases hld : lineD d2 with
        | true =>
          refine iteF ⟨us, k3 _ _ hL, by omega, ?_, k2.trans k3⟩
          rw [hstep, hld, if_neg (by decide), List.append_nil]
          exact hue
        | false =>
          refine iteT ⟨_, rfl, us, k3 _ _ hL, szLt (by omega), us ++ [u], upd_same, by rw [List.length_append, List.length_singleton]; omega, ?_, (k2.trans k3).put hD⟩
          rw [hstep, hld, if_pos (show (!false) = true from rfl), emp_snoc, emp_snoc]
      · obtain ⟨us, hL, hul, hue, k2⟩ := hv
        rw [List.take_of_length_le (by omega)] at hue
        refine ⟨Nat.zero_le _, fun l hl0 => ?_⟩
        have x4 := Ext.new (o := .lst []) hl0
        refine ⟨D, l, us, rfl, rfl, SqL.of (x4 _ _ hL), SqL.of upd_same, ?_⟩
        have := q _ (k2.trans x4)
        have e2 : progD (.tuple ds) = us.isEmpty := by
          show (decide (ds.length ≤ 20) && _) = _
          rw [decide_eq_true (by omega), Bool.true_and, hue, filt_emp, List.all_map]
          rfl
        rw [e2] at this
        exact this
abbrev CLdue (P : Program) (w : World) (K : PySem.W.Frag) (mg : Str → Option Value) (base : Heap) : Prop := Ca P w K mg base 5 "_law_due" ["_law_what_is"] spProgE
end
end Pf


namespace Pf
open PySem PySem.Spec PyProof.Rows L2
/-! ### sorting tuples, the first of them empty -/
section
open PySem.W PySem.SeqAt PySem.Calls
variable {prog : Program} {w : World} {A : Around} {E : Value → Shared → Prop} {s : Shared}
theorem tup_lt1 {Q : Bool → Shared → Prop} {a b : Value} {xs ys : List PyData} {as bs : List Addr} (ra : Reads s.heap a (.tuple xs) as) (rb : Reads s.heap b (.tuple ys) bs) (hal : alikeAll xs ys = true)
    (hu : A.units + min (PyData.tuple xs).depth (PyData.tuple ys).depth < cLine) (hq : Q (dataLt (.tuple xs) (.tuple ys)) s) : wpAny (model prog w) A (oneLt' true a b) Q E s := by
  cases ra with
  | @tuple l o vs n _ as₁ h1 h2 h3 h4 =>
    cases rb with
    | @tuple m p ws k _ bs₁ g1 g2 g3 g4 =>
      have z1 : vs.size = xs.length := by simpa using ReadsAll.length _ _ _ h4
      have z2 : ws.size = ys.length := by simpa using ReadsAll.length _ _ _ g4
      rw [dataLt_tuple, ← firstLt_toks xs ys hal, ← z1, ← z2] at hq
      obtain ⟨ocls, odd, odata, osl⟩ := o
      obtain ⟨pcls, pdd, pdata, psl⟩ := p
      simp only at h2 h3 g2 g3
      subst h2 h3 g2 g3
      rw [oneLt'_eq]
      simp only [if_true]
      refine wpAny_bind (wpAny_cRoomFor (room_here hu) (wpAny_bind (wpAny_callSpecialIfBound?_slot (T := "tuple") ⟨_, h1, rfl⟩ F.slot_tuple_lt ?_)))
      refine call_meets F.slot_tuple_lt ⟨_, h1, rfl⟩ F.entry_tuple_lt (F.args_tuple_lt_2 _ _) (tuple_ltAt l m vs ws n k odd pdd osl psl (pairEq xs ys) (fun j => dataLt (xs.getD j .none) (ys.getD j .none))) ⟨h1, g1, fun j j1 j2 => ?_, fun j j1 j2 hj => ?_, wpAny_truthy_bool hq⟩
      · have y := eqAt_alikeAll xs ys A.in1 s vs.toList ws.toList _ _ h4 g4 hal (room_in hu) j (by simpa using j1) (by simpa using j2)
        simpa using y
      · have y := rcLt_alikeAll xs ys A.in1 s vs.toList ws.toList _ _ h4 g4 hal (room_in hu) j (by simpa using j1) (by simpa using j2) hj
        simpa using y
theorem ft_at {M : Model} {v : Value} {ds : List PyData} {as : List Addr} (r : Reads s.heap v (.tuple ds) as) : ∃ f : Option Value, (ds = [] → f = none) ∧ ∀ Q : Option Value → Shared → Prop, Q f s → wpAny M A (firstOfTuple' v) Q E s := by
  cases r with
  | @tuple a o xs n _ _ ho hc hd hr =>
    refine ⟨xs[0]?, fun e => ?_, fun Q q => ?_⟩
    · subst e
      cases q : xs.toList with
      | nil =>
        rw [← Array.getElem?_toList, q]
        rfl
      | cons f fr =>
        rw [q] at hr
        cases hr
    · rw [kas_first_eq]
      refine wpAny_bind (Looks.here (show Looks M s.heap (typeOf (.ref a)) o.cls from (Looks.ld ho).andThen .now) ?_)
      rw [hc, if_neg (by simp)]
      exact wpAny_bind (listItems_at ho hd (wpAny_pure q))
theorem fts_at {M : Model} : ∀ {vs : List Value} {ds : List PyData}, EachIs (fun v d => ∃ as, Reads s.heap v d as) vs ds → (∀ d ∈ ds, ∃ xs, d = .tuple xs) → ∃ fs : List (Option Value), (∀ r, ds = .tuple [] :: r → ∃ t, fs = none :: t) ∧ ∀ Q : List (Option Value) → Shared → Prop, Q fs s → wpAny M A (vs.mapM firstOfTuple') Q E s
  | _, _, .nil, _ => ⟨[], (fun r z => by cases z), fun Q q => by rw [List.mapM_nil]; exact wpAny_pure q⟩
  | _, _, .cons (b := d) ⟨as, r⟩ t, ht => by
    obtain ⟨fs, _, h2⟩ := fts_at (M := M) t fun d hd => ht d (List.mem_cons_of_mem _ hd)
    obtain ⟨xs, rfl⟩ := ht d (List.mem_cons_self ..)
    obtain ⟨f, e1, e2⟩ := ft_at (M := M) (A := A) (E := E) r
    refine ⟨f :: fs, fun r z => ⟨fs, ?_⟩, fun Q q => ?_⟩
    · injection z with z _
      injection z with z
      rw [e1 z]
    · rw [List.mapM_cons]
      exact wpAny_bind (e2 _ (wpAny_bind (h2 _ (wpAny_pure q))))
theorem kind_empt {M : Model} {vs : List Value} {ds : List PyData} {Q : SortKind → Shared → Prop} (e : EachIs (fun v d => ∃ as, Reads s.heap v d as) vs (.tuple [] :: ds)) (ht : ∀ d ∈ PyData.tuple [] :: ds, ∃ xs, d = .tuple xs) (q : Q oneType' s) : wpAny M A (keyKind' vs.toArray) Q E s := by
  obtain ⟨fs, h1, h2⟩ := fts_at (M := M) (A := A) (E := E) e ht
  obtain ⟨t, rfl⟩ := h1 ds rfl
  obtain ⟨v0, vr, rfl⟩ : ∃ v0 vr, vs = v0 :: vr := by
    cases e with
    | cons z zs => exact ⟨_, _, rfl⟩
  rw [keyKind'_eq, List.mapM_toArray, map_eq_pure_bind]
  refine wpAny_bind (wpAny_bind (h2 _ (wpAny_pure ?_)))
  rw [if_neg (by simp), if_neg (by simp), oneTypeOnly'_eq, List.mapM_toArray, map_eq_pure_bind]
  refine wpAny_bind (wpAny_bind (wpAny_bind (kas_mapM (r := Value.type "tuple") _ (fun v hv Q' hq => ?_) (wpAny_pure ?_))))
  · obtain ⟨d, hd, as, r⟩ := e.left v hv
    obtain ⟨xs, rfl⟩ := ht d hd
    exact (looks_reads r).here hq
  · have h0 : (List.map (fun _ => Value.type "tuple") (v0 :: vr)).toArray[0]? = some (Value.type "tuple") := by simp
    rw [h0]
    have ha : ((List.map (fun _ : Value => Value.type "tuple") (v0 :: vr)).toArray.all fun x => x == Value.type "tuple") = true := by
      simp only [List.all_toArray, List.all_map, List.all_eq_true]
      intro _ _
      rfl
    simp only [ha, if_true]
    exact wpAny_pure (wpAny_pure q)
theorem sorts_empt {vs : List Value} {ds : List PyData} (e : EachIs (fun v d => ∃ as, Reads s.heap v d as) vs (.tuple [] :: ds)) (hal : AllAlike (.tuple [] :: ds)) (ht : ∀ d ∈ PyData.tuple [] :: ds, ∃ xs, d = .tuple xs) (hu : ∀ d ∈ PyData.tuple [] :: ds, A.units + d.depth < cLine) : SortsAt prog w A s (dataKind s.heap (.tuple [] :: ds)) vs := by
  refine ⟨fun v hv => ?_, oneType', ?_, fun h2 E Q hq => kind_empt e ht hq⟩
  · obtain ⟨d, hd, as, r⟩ := e.left v hv
    exact ⟨_, dataKind_some hal hd r⟩
  · intro E x y a b Q ha hb hq
    obtain ⟨d, as, hd, ra, rfl⟩ := dataKind_inv ha
    obtain ⟨d', as', hd', rb, rfl⟩ := dataKind_inv hb
    have hdd := hal d hd d' hd'
    have hroom : A.units + min d.depth d'.depth < cLine := Nat.lt_of_le_of_lt (Nat.add_le_add_left (Nat.min_le_left _ _) _) (hu d hd)
    obtain ⟨xs, rfl⟩ := ht d hd
    obtain ⟨ys, rfl⟩ := ht d' hd'
    rw [keyLt'_oneType]
    exact tup_lt1 ra rb (by simpa [alike] using hdd) hroom hq
theorem sorted_empt {β : Type} {vs : List Value} {bs : List β} {enc : β → PyData} {R : Value → β → Prop} {l : Addr} {r : List PyData} {Q : Value → Shared → Prop} (hl : s.heap.IsList l vs.toArray) (e : EachIs R vs bs) (er : EachIs (fun v b => ∃ as, Reads s.heap v (enc b) as) vs bs) (hal : AllAlike (bs.map enc)) (h0 : bs.map enc = .tuple [] :: r) (ht : ∀ d ∈ bs.map enc, ∃ xs, d = .tuple xs) (hL : bs.length ≤ sizeLine)
    (hu : ∀ b, b ∈ bs → A.units + 2 + (enc b).depth < cLine) (h : ∀ out, out.length = bs.length → EachIs R out (bs.mergeSort (dataLe false enc)) → Q (.ref (s.heap.objs.size + 1)) { s with heap := sortedAll s.heap vs (List.toArray out) }) :
    wpAny (model prog w) A (call (.builtin "sorted") [.ref l]) Q E s := by
  have er2 : EachIs (fun v b => ∃ as, Reads (sortingHeap (copyHeap s.heap vs) (s.heap.objs.size + 1) vs) v (enc b) as) vs bs := er.mono fun _ _ ⟨as, z⟩ => ⟨as, PyProof.Rows.Reads.keeps (fun _ _ => sorting_copy_old) z⟩
  have em := each_map (R := fun v d => ∃ as, Reads (sortingHeap (copyHeap s.heap vs) (s.heap.objs.size + 1) vs) v d as) enc er2
  have bm := bound_map (A := A.in1.in1) (bs := bs) (enc := enc) hu
  have S : SortsAt prog w A.in1.in1 { s with heap := sortingHeap (copyHeap s.heap vs) (s.heap.objs.size + 1) vs } (dataKind (sortingHeap (copyHeap s.heap vs) (s.heap.objs.size + 1) vs) (bs.map enc)) vs := by
    rw [h0] at em bm ht hal ⊢
    exact sorts_empt (s := { s with heap := sortingHeap (copyHeap s.heap vs) (s.heap.objs.size + 1) vs }) em hal ht bm
  exact sorted_vals hl S (by rw [e.length]; exact hL) (h _ (by rw [sortVals_length false rfl]; exact e.length) (sortVals_data false e er2 hal))
end
/-- sorted of tuples, the first of them empty -/
def rSortE (K : PySem.W.Frag) : List V → Hp → VK → Prop := fun vs H Q => ∃ (β : Type) (v : β → V) (d : β → PyData) (a : Addr) (bs : List β) (r : List PyData), vs = [.ref a] ∧ SqL K H a (bs.map v) ∧ (∀ b ∈ bs, Dp K H (v b) (d b) ∧ (d b).depth ≤ 50) ∧
  PySem.W.AllAlike (bs.map d) ∧ bs.map d = .tuple [] :: r ∧ (∀ e ∈ bs.map d, ∃ xs, e = .tuple xs) ∧ ∀ p, H p = none → Q (.ref p) (upd H p (.lst ((bs.mergeSort (PySem.W.dataLe false d)).map v)))
theorem cr_sortE (K : PySem.W.Frag) {X : Cx} (hu : X.A.units + 64 < cLine) (hK : X.K = K := by rfl) : CallR X (.builtin "sorted") (rSortE K) := by
  subst hK
  intro pins s σ H vs us Q I r h
  obtain ⟨β, v, d, a, bs, rd, rfl, hs, hd, al, h0, ht, q⟩ := h
  obtain ⟨u, rfl, rfl⟩ := vals1 r
  obtain ⟨its, rv, hl, hz⟩ := I.list hs
  rw [List.length_map] at hz
  refine sorted_empt (enc := d) (R := fun (u : Value) (b : β) => RelV (v b) u) hl.isList (each_vals rv) (each_reads I rv fun b hb => (hd b hb).1) al h0 ht hz (fun b hb => ?_) fun out hlen he => ?_
  · have := (hd b hb).2
    omega
  · obtain ⟨ep, he'⟩ := PyProof.Rows.sortedAll_at s.heap its out.toArray
    have hlen2 : ((bs.mergeSort (PySem.W.dataLe false d)).map v).length ≤ sizeLine := by
      rw [List.length_map, List.length_mergeSort]
      exact hz
    exact ⟨.ref _, upd H (s.heap.objs.size + 1) (.lst ((bs.mergeSort (PySem.W.dataLe false d)).map v)), I.laid (t' := s.toks) (fun _ _ => PyProof.Rows.sortedAll_old) (Nat.le_succ _) ⟨hlen2, out, ep, vals_each he, by simpa using he'⟩, rfl, q _ (I.hok.fresh (Nat.le_succ _))⟩
end Pf


namespace Pf
open PySem PySem.Spec PyProof.Rows L2
/-! ### a dict by tuples, made in a comprehension -/
theorem dset_t {X : Cx} {pins : List (Addr × Obj)} {σ : L2.St} {H : Hp} {s : Shared} {E : Value → Shared → Prop} {D b : Addr} {kvs : List (List Key × V)} {ks : List Key} {z : V} {u : Value} {Q : Unit → Shared → Prop} (hu : X.A.units < cLine) (I : Inv X pins σ H s) (hD : H D = some (.dT kvs)) (hb : H b = some (.tup (ks.map kV))) (hz : kvs.length < sizeLine)
    (rz : RelV z u) (go : ∀ s', Inv X pins σ (upd H D (.dT (putK kvs ks z))) s' → Q () s') : wpAny (model X.prog X.w) X.A (dictSet D (.ref b) u) Q E s := by
  obtain ⟨len, nsys, xs, rel, dd⟩ := dt_of I.hok hD
  have lx : xs.length ≤ sizeLine := Paired.length rel ▸ len
  have lp := length_putK kvs ks z
  refine wpAny_dictSet_heap (hsz := lx) (show (tupleKind (mixKind X.prog X.w)).room X.A from hu) (key_of I.hok hb) dd fun h' dd' same => go _ ?_
  obtain ⟨ob, es, ep, e1, e2, e3, e4, _, e5⟩ := dd'
  have stays : ∀ c ys, H c = some (.tup ys) → (upd H D (.dT (putK kvs ks z))) c = some (.tup ys) := fun c ys ec => by
    rw [upd_ne (ne_of ec hD (by intro y; cases y))]
    exact ec
  exact d_write I (by rw [hD]; exact True.intro) same ⟨ob, e1⟩ ⟨by omega, nsys, _, (rel.put ks hb rz).keeps stays, ob, es, ep, e1, e2, e3, e4, e5⟩
/-- what is asked of a turn's key and value -/
def PutT (D : Addr) (y z : V) (H : Hp) (N : Hp → Prop) : Prop := ∃ kvs ks b, y = .ref b ∧ H b = some (.tup (ks.map kV)) ∧ H D = some (.dT kvs) ∧ kvs.length < sizeLine ∧ N (upd H D (.dT (putK kvs ks z)))
def tDcT (wi : TI) (g : TG) (tk tv : TE) (vs : List Nat) : TE := fun σ H Q => wi σ H fun J H1 => ∀ D, H1 D = none → ∃ W : Nat → Nat → Hp → Prop, (∃ m, W 0 m (upd H1 D (.dT []))) ∧ ∀ i m H, W i m H →
  (J.stop i H ∧ Q (.ref D) H) ∨ (J.go i H ∧ ∃ Nx : Hp → Prop, (∀ H', Nx H' → ∃ m', m' < m ∧ W (i + 1) m' H') ∧ ∀ x H', J.yld i H x H' → g x (wipe σ vs) H' fun σ2 H2 => wipe σ2 vs = wipe σ vs ∧ tk σ2 H2 fun y H3 => tv σ2 H3 fun z H4 => PutT D y z H4 Nx)
/-- the block's context is free of what the walk itself holds -/
theorem blk_free {X : Cx} {s : Shared} {H : Hp} {scope : Scope} {ce : Env} {fp : List Addr} {σ' : L2.St} {H' : Hp} {s' : Shared} (J : Inv (X.blk s H scope ce fp) [] σ' H' s') (nn : ∀ b ∈ fp, H' b = none) : ∀ b ∈ fp, FpOk (X.blk s H scope ce fp) [] H' b := fun b hb =>
  ⟨nn b hb, (J.ok.exf b hb).1, J.ok.exfs b hb, .inl hb, fun x c e => (J.ok.exf b hb).2 x c e, fun p hp => by
    have hp : p ∈ ([] : List (Addr × Obj)) ++ [] := hp
    cases hp⟩
/-- a turn is over: the block again as it began, but for the heap -/
theorem blk_turn {X Y : Cx} {fp : List Addr} {it : Addr} {tg : Expr} {J : It} {tn : Nat → Heap → Prop} {P : Program} {w : World} {K : PySem.W.Frag} (T : Turn P w K tg J fp it tn) {i : Nat} {h7 : Heap} (st : tn (i + 1) h7) {σ0 σ8 : L2.St} {vs : List Nat} {H' : Hp} {s' : Shared} (hw : wipe σ8 vs = wipe σ0 vs)
    (JJ : Inv Y ([] ++ pinsAt fp h7) σ8 H' s') : Inv Y [] (wipe σ0 vs) H' s' ∧ tn (i + 1) s'.heap ∧ ∀ b ∈ fp, H' b = none := by
  have held : ∀ b ∈ fp, ∀ o, h7.get? b = some o → s'.heap.get? b = some o ∧ H' b = none := fun b hb o e => by
    have z := JJ.pin (b, o) (List.mem_append_right _ (List.mem_append_right _ (mem_pinsAt hb e)))
    exact ⟨z.1, z.2.1⟩
  refine ⟨(JJ.unpinned (pins := [])).weak (by rw [← hw, wipe_length]) (fun j v e => ?_), T.keep _ _ _ st fun b hb o e => (held b hb o e).1, fun b hb => ?_⟩
  · rw [← hw] at e
    exact (wipe_some e).1
  · obtain ⟨o, e, _⟩ := T.obj _ _ st b hb
    exact (held b hb o e).2
theorem dcT_core {X : Cx} {pins : List (Addr × Obj)} {s : Shared} {σ : L2.St} {H : Hp} {Q : VK} {kx vx tg iter : Expr} {scope : Scope} {own : List (Str × Nat)} {pos pos' : Pos} {wi : TI} {g : TG} {tk tv : TE} {use : Option (Value → Sem Unit)} {Qf : Value → Shared → Prop} (hu : X.A.units < cLine) (calm : X.calm = true) (nd : X.N.Nodup) (I : Inv X pins σ H s) (hi : PI X tg iter wi) (ok : BlkOk X.N X.env.scope scope own)
    (hg : ∀ (s : Shared) (H : Hp) (C : Addr) (cl : List (Str × Addr)) (fp : List Addr), PG (X.blk s H scope (compEnvC scope cl C X.env) fp) tg g)
    (hk : ∀ (s : Shared) (H : Hp) (C : Addr) (cl : List (Str × Addr)) (fp : List Addr), PE (X.blk s H scope (compEnvC scope cl C X.env) fp) kx tk)
    (hv : ∀ (s : Shared) (H : Hp) (C : Addr) (cl : List (Str × Addr)) (fp : List Addr), PE (X.blk s H scope (compEnvC scope cl C X.env) fp) vx tv) (hfs : ∀ x, foldedSetIterable iter X.env x = pure x) (h : tDcT wi g tk tv (own.map (·.2)) σ H Q)
    (fin : ∀ D C s' m H', Inv X pins σ H' s' → Q (.ref D) H' → s'.heap.Ns C m → FpOk X pins H' C → compPost (model X.prog X.w) X.A X.xe use Qf (.ref D) C (.ok .next) s') :
    wpAny (model X.prog X.w) X.A (comprehension (.DictComp kx vx [⟨tg, iter, [], 0⟩] scope pos) scope X.env pos' newDict false (eval iter X.env) use) Qf X.xe s := by
  have cells : ∀ y ∈ scope.names, y.2 = .free → ∃ c, X.env.cells.lookup y.1 = some c := fun y hy e => (ok.free y hy e).elim (fun k => I.ok.has _ (.inl k)) fun k => I.ok.has _ (.inr k)
  refine wpAny_comprehension_free (use := use) rfl hfs (closure_ok cells) ok.kind (fun y hy e => by rw [ok.uniq y hy, e]) (thn (hi.run pins s σ H _ I h) fun xv sa ha => thn ha fun itv sb hb => ?_)
  obtain ⟨it, fp, tn, J, Hb, rfl, Ib, T, stb, fb, rest⟩ := hb
  refine wpAny_newObj_type (newEnv_comp ?_)
  obtain ⟨W, ⟨m0, w0⟩, turn⟩ := rest sb.heap.objs.size (Ib.hok.fresh (Nat.le_refl _))
  have Ic : Inv X pins σ (upd Hb sb.heap.objs.size (.dT [])) { sb with heap := sb.heap.push { cls := .type "dict", data := .dict #[] } } := Ib.laid (t' := sb.toks) (fun b o e => Heap.get?_push_of_some _ e) (Nat.le_refl _) (dt_empty sb.heap Ib.big)
  have stc : tn 0 (sb.heap.push { cls := .type "dict", data := .dict #[] }) := T.keep _ _ _ stb fun b _ o e => Heap.get?_push_of_some _ e
  have below : ∀ b ∈ fp, b < sb.heap.objs.size := fun b hb => by
    obtain ⟨o, e, _⟩ := T.obj _ _ stb b hb
    exact Heap.lt_size e
  have fc : ∀ b ∈ fp, FpOk X pins (upd Hb sb.heap.objs.size (.dT [])) b ∧ b < (sb.heap.push { cls := .type "dict", data := .dict #[] }).objs.size := fun b hb => by
    refine ⟨⟨?_, (fb b hb).2⟩, ?_⟩
    · rw [upd_ne (Nat.ne_of_lt (below b hb))]
      exact (fb b hb).1
    · rw [Heap.size_push]
      exact Nat.lt_succ_of_lt (below b hb)
  generalize sb.heap.objs.size = D at turn w0 Ic fc ⊢
  generalize hsc : ({ sb with heap := sb.heap.push { cls := .type "dict", data := .dict #[] } } : Shared) = sc at Ic ⊢
  have stc : tn 0 sc.heap := by rw [← hsc]; exact stc
  generalize upd Hb D (.dT []) = Hc at w0 Ic fc
  have fc : ∀ b ∈ fp, FpOk X pins Hc b ∧ b < sc.heap.objs.size := by rw [← hsc]; exact fc
  have Id := block_start Ic ok nd fc
  have pg := hg sc Hc sc.heap.objs.size (cellsFrom (sc.heap.objs.size + 1) scope.names (cloFrom X.env.cells scope.names [])) fp
  have pk := hk sc Hc sc.heap.objs.size (cellsFrom (sc.heap.objs.size + 1) scope.names (cloFrom X.env.cells scope.names [])) fp
  have pv := hv sc Hc sc.heap.objs.size (cellsFrom (sc.heap.objs.size + 1) scope.names (cloFrom X.env.cells scope.names [])) fp
  show codeAny _ _ (.compStart _ 0 (.ref it) (.ref D) (compEnvC scope (cellsFrom (sc.heap.objs.size + 1) scope.names (cloFrom X.env.cells scope.names [])) sc.heap.objs.size X.env)) (compPost _ _ _ _ _ (.ref D) sc.heap.objs.size) { sc with heap := pushCells (sc.heap.push { cls := .type "dict", data := .dict #[] }) scope.names }
  have std : tn 0 (pushCells (sc.heap.push { cls := .type "dict", data := .dict #[] }) scope.names) := T.keep _ _ _ stc fun b _ o e => pushCells_keeps _ _ _ _ (Heap.get?_push_of_some _ e)
  generalize ec : compEnvC scope (cellsFrom (sc.heap.objs.size + 1) scope.names (cloFrom X.env.cells scope.names [])) sc.heap.objs.size X.env = ce at Id pg pk pv ⊢
  have cl : ce.locals = sc.heap.objs.size := by rw [← ec]; rfl
  generalize ed : ({ sc with heap := pushCells (sc.heap.push { cls := .type "dict", data := .dict #[] }) scope.names } : Shared) = sd at Id ⊢
  have std : tn 0 sd.heap := by rw [← ed]; exact std
  have loop : codeAny (model X.prog X.w) X.A (.compLoop (.DictComp kx vx [⟨tg, iter, [], 0⟩] scope pos) 0 (.ref it) (.ref D) ce) (compPost (model X.prog X.w) X.A X.xe use Qf (.ref D) sc.heap.objs.size) sd := by
    refine compLoop_anyD (fun n s' => ∃ i H', Inv (X.blk sc Hc scope ce fp) [] (wipe σ (own.map (·.2))) H' s' ∧ tn i s'.heap ∧ (∀ b ∈ fp, H' b = none) ∧ W i n H') ?_ m0 ⟨0, Hc, Id, std, fun b hb => (fc b hb).1.1, w0⟩
    rintro n s5 ⟨i, H5, I5, st5, n5, w5⟩
    rcases turn i n H5 w5 with ⟨ends, qq⟩ | ⟨goes, Nx, hNx, step⟩
    · refine thnF (T.done (X.blk sc Hc scope ce fp) rfl rfl rfl calm i [] s5 _ H5 (fun _ _ => False) I5 (blk_free I5 n5) st5 ends) fun r s6 ⟨er, I6⟩ => ?_
      subst er
      have I7 : Inv X pins σ H5 s6 := Ic.call' (ch := fp) I6.os I6.base I6.hok I6.bare fun b hb => ⟨(fc b hb).1.2.2.2.1, (fc b hb).1.2.1, (fc b hb).1.2.2.2.2.1, (fc b hb).1.2.2.2.2.2⟩
      have nl : H5 sc.heap.objs.size = none := by
        rw [← cl]
        exact I6.free
      obtain ⟨m, hn, _⟩ := I6.loc
      have hn : s6.heap.Ns ce.locals m := hn
      rw [cl] at hn
      exact fin D sc.heap.objs.size s6 m H5 I7 qq hn (Ic.fpOk (Nat.le_refl _) nl)
    · refine thnF (T.item (X.blk sc Hc scope ce fp) rfl rfl rfl calm i [] s5 _ H5 (fun _ _ => False) I5 (blk_free I5 n5) st5 goes) fun r s6 ⟨u, er, h6⟩ => ?_
      subst er
      refine thnF h6 fun _ s7 ⟨x, H7, I7, r7, y7, st7, n7⟩ => ?_
      refine thnF (pg.run _ s7 _ H7 x u _ (I7.pinned (blk_free I7 n7) (T.obj _ _ st7)) r7 (step x H7 y7)) fun _ s8 ⟨σ8, H8, I8, hw8, q8⟩ => ?_
      rw [List.forIn_nil]
      refine wpAny_pure ?_
      rw [if_pos rfl]
      refine thnF (pk.run _ s8 σ8 H8 _ I8 q8) fun v9 s9 ⟨y9, H9, I9, r9, q9⟩ => ?_
      refine thnF (pv.run _ s9 σ8 H9 _ I9 q9) fun v10 s10 ⟨z10, H10, I10, r10, kvs, ks, b, ey, eb, eD, lz, nx⟩ => ?_
      subst ey
      cases (show v9 = Value.ref b from r9)
      refine dset_t (X := X.blk sc Hc scope ce fp) hu I10 eD eb lz r10 fun s11 I11 => ?_
      obtain ⟨m', hm, w'⟩ := hNx _ nx
      obtain ⟨a1, a2, a3⟩ := blk_turn (X := X) T st7 hw8 I11
      exact ⟨m', hm, i + 1, _, a1, a2, a3, w'⟩
  exact codeAny_compStart_dict loop (T.self X.A 0 _ _ _ std loop)
theorem pe_dcT {X : Cx} {kx vx tg iter : Expr} {scope : Scope} {own : List (Str × Nat)} {pos : Pos} {wi : TI} {g : TG} {tk tv : TE} (hu : X.A.units < cLine) (calm : X.calm = true) (nd : X.N.Nodup) (hi : PI X tg iter wi) (ok : BlkOk X.N X.env.scope scope own)
    (hg : ∀ (s : Shared) (H : Hp) (C : Addr) (cl : List (Str × Addr)) (fp : List Addr), PG (X.blk s H scope (compEnvC scope cl C X.env) fp) tg g)
    (hk : ∀ (s : Shared) (H : Hp) (C : Addr) (cl : List (Str × Addr)) (fp : List Addr), PE (X.blk s H scope (compEnvC scope cl C X.env) fp) kx tk)
    (hv : ∀ (s : Shared) (H : Hp) (C : Addr) (cl : List (Str × Addr)) (fp : List Addr), PE (X.blk s H scope (compEnvC scope cl C X.env) fp) vx tv) (hfs : ∀ x, foldedSetIterable iter X.env x = pure x := by intro _; rfl) :
    PE X (.DictComp kx vx [⟨tg, iter, [], 0⟩] scope pos) (tDcT wi g tk tv (own.map (·.2))) := by
  refine ⟨fun pins s σ H Q I h => ?_⟩
  rw [arm_eval_DictComp]
  refine dcT_core hu calm nd I hi ok hg hk hv hfs h fun D C s' m H' I' q hn f => ⟨m, hn, fun h'' sb => ?_⟩
  obtain ⟨f0, f1, f2, f3, f4, f5⟩ := f
  exact ⟨.ref D, H', I'.turned (t' := s'.toks) (fun b o hb e => (sb.2 b hb).trans e) f0 f1 f3 f4 f5, rfl, q⟩
/-- a name on the same line takes it, before the block's own names go -/
theorem ps_setDcT {X : Cx} {i : Nat} {y : Str} {py : Pos} {kx vx tg iter : Expr} {scope : Scope} {own : List (Str × Nat)} {pos spos : Pos} {wi : TI} {g : TG} {tk tv : TE} (hu : X.A.units < cLine) (calm : X.calm = true) (nd : X.N.Nodup) (at_ : X.N[i]? = some y) (loc : X.env.scope.names.lookup y = some .local)
    (sw : swapsWith (.DictComp kx vx [⟨tg, iter, [], 0⟩] scope pos) (some (.Name y py)) spos.line X.env = pure true) (hi : PI X tg iter wi) (ok : BlkOk X.N X.env.scope scope own)
    (hg : ∀ (s : Shared) (H : Hp) (C : Addr) (cl : List (Str × Addr)) (fp : List Addr), PG (X.blk s H scope (compEnvC scope cl C X.env) fp) tg g)
    (hk : ∀ (s : Shared) (H : Hp) (C : Addr) (cl : List (Str × Addr)) (fp : List Addr), PE (X.blk s H scope (compEnvC scope cl C X.env) fp) kx tk)
    (hv : ∀ (s : Shared) (H : Hp) (C : Addr) (cl : List (Str × Addr)) (fp : List Addr), PE (X.blk s H scope (compEnvC scope cl C X.env) fp) vx tv) (hfs : ∀ x, foldedSetIterable iter X.env x = pure x := by intro _; rfl) :
    PS X (.Assign [.Name y py] (.DictComp kx vx [⟨tg, iter, [], 0⟩] scope pos) spos) (tAsg (tDcT wi g tk tv (own.map (·.2))) (gName i)) := by
  refine ⟨fun pins s σ H D I h => ?_⟩
  rw [exec_Assign_Name_used _ _ _ _ sw]
  refine wpAny_bind (wpAny_standAt (wpAny_bind ?_))
  show wpAny _ X.A (do let _ ← comprehension (.DictComp kx vx [⟨tg, iter, [], 0⟩] scope pos) scope X.env (firstIterPos [⟨tg, iter, [], 0⟩] pos) newDict false (eval iter X.env) (some (assign (.Name y py) X.env))) _ _ s
  have h : tDcT wi g tk tv (own.map (·.2)) σ H (fun x H1 => gName i x σ H1 D.nx) := h
  refine wpAny_bind (thn (dcT_core (Qf := fun _ s' => SP X pins D .next s') hu calm nd I hi ok hg hk hv hfs h fun L C s' m H' I' q hn f => ?_) fun _ s' hq => wpAny_pure (wpAny_pure hq))
  show wpAny _ _ (assign (.Name y py) X.env (.ref L)) _ _ _
  refine wpAny_assign_Name (store_ok2 (v := V.ref L) I' nd at_ (.inl loc) rfl (fun s2 I2 ⟨a, sb, ha⟩ => ?_) (.inr loc))
  obtain ⟨f0, f1, f2, f3, f4, f5⟩ := f
  have apart : C ≠ a := by
    rcases ha with z | z
    · rw [z]
      exact f1
    · exact fun e => f4 y a z e.symm
  exact ⟨m, hn.sameBut sb apart, fun h3 sb3 => ⟨_, H', I2.turned (t' := s2.toks) (fun b o hb e => (sb3.2 b hb).trans e) f0 f1 f3 f4 f5, q⟩⟩
theorem swD_true {kx vx : Expr} {gs : List Comprehension} {scope : Scope} {pos py : Pos} {y : Str} {l : Nat} {env : Env} (hk : env.scope.kind = .function) (hy : env.scope.names.lookup y = some .local) (hl : (py.line == pos.line) = true)
    (ha : (scope.names.any fun (n, k) => n == y && (k == .local || k == .cell)) = false) : swapsWith (.DictComp kx vx gs scope pos) (some (.Name y py)) l env = pure true := by
  have ky : env.kindOf y = some .local := hy
  have hb : env.blockKind = .function := by unfold Env.blockKind; rw [hk]; rfl
  unfold swapsWith
  simp only [hb, ky, ha, Expr.pos, hl]
  rfl
theorem dcT_it {J : It} {n : Nat} {G : Hp → Prop} {Y : Nat → Hp → V → Hp → Prop} (w : Walk J n G Y) {g : TG} {tk tv : TE} {vs : List Nat} {σ : L2.St} {H1 : Hp} {D : Addr} {Qd : Hp → Prop} (Pv : Nat → Hp → Prop) (h0 : Pv 0 (upd H1 D (.dT []))) (hG : ∀ i H, i ≤ n → Pv i H → G H)
    (hs : ∀ i x H H', i < n → Pv i H → Y i H x H' → g x (wipe σ vs) H' fun σ2 H2 => wipe σ2 vs = wipe σ vs ∧ tk σ2 H2 fun y H3 => tv σ2 H3 fun z H4 => PutT D y z H4 (Pv (i + 1))) (hd : ∀ H, Pv n H → Qd H) :
    ∃ W : Nat → Nat → Hp → Prop, (∃ m, W 0 m (upd H1 D (.dT []))) ∧ ∀ i m H, W i m H → (J.stop i H ∧ Qd H) ∨ (J.go i H ∧ ∃ Nx : Hp → Prop, (∀ H', Nx H' → ∃ m', m' < m ∧ W (i + 1) m' H') ∧ ∀ x H', J.yld i H x H' → g x (wipe σ vs) H' fun σ2 H2 => wipe σ2 vs = wipe σ vs ∧ tk σ2 H2 fun y H3 => tv σ2 H3 fun z H4 => PutT D y z H4 Nx) := by
  refine ⟨fun i m H => m = n - i ∧ i ≤ n ∧ Pv i H, ⟨n, rfl, Nat.zero_le _, h0⟩, ?_⟩
  rintro i m H ⟨rfl, hi, pv⟩
  have hq := hG i H hi pv
  by_cases hlt : i < n
  · exact .inr ⟨w.goes i H hlt hq, Pv (i + 1), fun H' p' => ⟨n - (i + 1), by omega, rfl, hlt, p'⟩, fun x H' y => hs i x H H' hlt pv (w.yields i H x H' hlt hq y)⟩
  · obtain rfl : i = n := by omega
    exact .inl ⟨w.stops H hq, hd H pv⟩
end Pf


namespace Pf
open PySem PySem.Spec PyProof.Rows L2
/-! ### a list lengthened in its place -/
theorem lk_iadd : typeLookup (.type "list") (dunderI "add") = pure (some (.builtin "list.__iadd__")) := PySem.F.slot_list_iadd.lookup
theorem nf_list : fillsNumberSlot (.type "list") "add" = pure false := by kernel_rfl
theorem iadd_lst {M : Model} {A : Around} {E : Value → Shared → Prop} {s : Shared} {a b : Value} {Q : Value → Shared → Prop} (ha : s.TypeIs a "list") (hb : s.TypeIs b "list") (hc : wpAny M A (call (.builtin "list.__iadd__") [a, b]) Q E s) : wpAny M A (inplaceOp .Add a b) Q E s := by
  unfold inplaceOp
  refine wpAny_holding ?_
  have h1 : fillsInplaceSlot (.type "list") "add" (Operator.Add == .Add) = pure false := by
    unfold fillsInplaceSlot
    show (typeLookup (.type "list") (dunderI "add") >>= fun z => pure (z.isSome && !isSeqSlot z)) = pure false
    rw [lk_iadd]
    kernel_rfl
  have h2 : seqSlot? (.type "list") (dunderI "add") = pure (some (.builtin "list.__iadd__")) := PySem.seqSlot_of lk_iadd (by kernel_rfl)
  refine wpAny_bind (wpAny_typeOf ha (wpAny_bind (wpAny_of_eq h1 ?_)))
  show wpAny M A (if false = true then _ else _) Q E s
  rw [if_neg Bool.false_ne_true]
  exact wpAny_bind (wpAny_binaryOp1_none (nm := "add") ha hb nf_list (wpAny_bind (wpAny_of_eq h2 (wpAny_bind (wpAny_rule hc)))))
def rIext : TIp := fun x y H Q => ∃ l b xs zs, x = .ref l ∧ y = .ref b ∧ H l = some (.lst xs) ∧ H b = some (.lst zs) ∧ xs.length + zs.length ≤ sizeLine ∧ Q (.ref l) (upd H l (.lst (xs ++ zs)))
theorem ip_ext {X : Cx} : PIp X .Add rIext := by
  intro pins s σ H x y v u Q I rx ry h
  obtain ⟨l, b, xs, zs, rfl, rfl, hH, hB, hz, q⟩ := h
  cases rx
  cases ry
  obtain ⟨z, its, n, r, hl, e⟩ := I.lstM hH
  obtain ⟨z2, its2, n2, r2, hl2, e2⟩ := I.lstM hB
  have hs2 : its.toArray.size + its2.toArray.size ≤ sizeLine := by
    rw [List.size_toArray, List.size_toArray]
    omega
  have long : ¬ (!its.toArray.isEmpty && Builtin.List.listTooLong (its.toArray.size + its2.toArray.size)) = true := by
    rw [notLongL hs2, Bool.and_false]
    exact Bool.false_ne_true
  refine iadd_lst ⟨_, e, rfl⟩ ⟨_, e2, rfl⟩ (call_meets PySem.F.slot_list_iadd ⟨_, e, rfl⟩ PySem.F.entry_list_iadd (PySem.F.args_list_iadd_2 _ _) (AutoSeq1.list___iadd___list_list_0 l its.toArray n b its2.toArray n2 long (by rw [List.size_toArray]; omega) (by omega)) ⟨e, e2, ?_⟩)
  refine ⟨.ref l, _, I.lset (its' := its ++ its2) hH e (by simp) (r.append r2) ?_, rfl, q⟩
  rw [List.length_append]
  omega
end Pf


namespace Pf
open PySem PySem.Spec PyProof.Rows L2
/-! ### sorted of a dict by tuples -/
theorem obj_there {P : Program} {w : World} {H : Hp} {h : Heap} {a : Addr} {o : HO} (x : ObjOk P w H h a o) : ∃ u, h.get? a = some u := by
  cases o with
  | lst _ =>
    obtain ⟨_, _, _, _, e⟩ := x
    exact ⟨_, e⟩
  | tup _ =>
    obtain ⟨_, _, _, u, e, _⟩ := x
    exact ⟨u, e⟩
  | dK _ =>
    obtain ⟨_, _, _, _, u, _, _, e, _⟩ := x
    exact ⟨u, e⟩
  | dT _ =>
    obtain ⟨_, _, _, _, u, _, _, e, _⟩ := x
    exact ⟨u, e⟩
  | set _ _ =>
    obtain ⟨u, _, _, _, e, _⟩ := x
    exact ⟨u, e⟩
  | ins _ _ _ =>
    obtain ⟨_, _, _, e, _⟩ := x
    exact ⟨_, e⟩
  | own _ => exact x
  | xd _ =>
    obtain ⟨_, ⟨u, _, _, e, _⟩, _⟩ := x
    exact ⟨u, e⟩
  | rng _ _ =>
    obtain ⟨_, _, _, e⟩ := x
    exact ⟨_, e⟩
  | frz u _ => exact ⟨u, x.1⟩
  | tbl _ => exact ⟨_, x⟩
  | met _ _ => exact ⟨_, x⟩
  | ext _ => exact x.2.1
def rSortKT (K : PySem.W.Frag) : List V → Hp → VK → Prop := fun vs H Q => ∃ (d : Addr) (kvs : List (List Key × V)), vs = [.ref d] ∧ Rd H d (.dT kvs) ∧ ∀ bs : List Addr, IsKeys H kvs bs → ∃ (β : Type) (ad : β → Addr) (dd : β → PyData) (ys : List β), bs = ys.map ad ∧ (∀ y ∈ ys, Dp K H (.ref (ad y)) (dd y) ∧ (dd y).depth ≤ 50) ∧
  PySem.W.AllAlike (ys.map dd) ∧ PySem.W.Sortable (ys.map dd) ∧ ∀ p, H p = none → Q (.ref p) (upd H p (.lst ((ys.mergeSort (PySem.W.dataLe false dd)).map fun y => .ref (ad y))))
theorem cr_sortKT (K : PySem.W.Frag) {X : Cx} (calm : X.calm = true) (hu : X.A.units + 64 < cLine) (hK : X.K = K := by rfl) : CallR X (.builtin "sorted") (rSortKT K) := by
  subst hK
  intro pins s σ H vs us Q I r h
  obtain ⟨d, kvs, rfl, hd, q⟩ := h
  obtain ⟨u, rfl, er⟩ := vals1 r
  cases er
  obtain ⟨z, hs, ks, pr, o, es, ep, ho, hx, hdt, he, hn⟩ := (show ObjOk X.prog X.w H s.heap d (.dT kvs) from hd.ok I.hok)
  have l1 : es.size = ks.length := size_of_entries he
  have l2 : kvs.length = ks.length := Paired.length pr
  obtain ⟨β, ad, dd, ys, eys, hy, al, so, qq⟩ := q _ (isKeys_of pr)
  have hyl : ys.length = ks.length := by
    have := congrArg List.length eys
    rw [List.length_map, List.length_map] at this
    exact this.symm
  refine Calls.call_function_entry kind_sorted plain_sorted entry_sorted (args_sorted1 _) ?_
  unfold Builtin.«sorted»
  refine wpAny_bind (m := checkCount "sorted" 1 1 _) (wpAny_pure ?_)
  refine wpAny_bind (PySem.W.kdu_collect (kdl_raw hs hx hdt) (I.ok.hd calm) ho (by omega) fun h1 tk acc kp items => ?_)
  have ea : acc.toList = ys.map fun y => Value.ref (ad y) := by
    have e0 : (ks.map fun x => x.2.1).map Value.ref = ys.map fun y => Value.ref (ad y) := by
      rw [eys, List.map_map]
      rfl
    rw [← e0]
    refine List.ext_getElem? fun j => ?_
    rw [List.getElem?_map, List.getElem?_map]
    cases hj : acc.toList[j]? with
    | none =>
      have := List.getElem?_eq_none_iff.mp hj
      rw [Array.length_toList, items.1] at this
      rw [List.getElem?_eq_none (by omega)]
      rfl
    | some v =>
      obtain ⟨en, hen, hv⟩ := items.2 j v (by rw [← Array.getElem?_toList]; exact hj)
      have qe := entry_at he j
      rw [hen] at qe
      cases hb : ks[j]? with
      | none =>
        rw [hb] at qe
        exact nomatch (show some en = none from qe)
      | some b =>
        rw [hb] at qe
        rw [hv, Option.some.inj (show some en = some (entryOfKey (tupleKind (mixKind X.prog X.w)) b) from qe)]
        rfl
  have hz2 : acc.toList.length ≤ sizeLine := by
    rw [ea, List.length_map]
    omega
  refine wpAny_bind (wpAny_newList ?_ hz2)
  have hat : (h1.push (seqObj "list" acc.toList.toArray 0)).get? h1.objs.size = some (seqObj "list" acc.toList.toArray 0) := Heap.get?_push_size _ rfl
  have hlt : ∀ b ob, s.heap.get? b = some ob → b ≠ h1.objs.size := fun b ob e => Nat.ne_of_lt (Heap.lt_size (kp b ob e))
  have old : ∀ b ob, s.heap.get? b = some ob → (h1.push (seqObj "list" acc.toList.toArray 0)).get? b = some ob := fun b ob e => Heap.get?_push_of_some _ (kp b ob e)
  have rel : PySem.W.EachIs (fun (v : Value) (y : β) => RelV (V.ref (ad y)) v) acc.toList ys := by
    rw [ea]
    clear q qq eys hy al so hyl ea
    induction ys with
    | nil => exact .nil
    | cons y t ih => exact .cons rfl ih
  have rv : Vals (ys.map fun y => V.ref (ad y)) acc.toList := vals_each (v := fun y => V.ref (ad y)) rel
  have rd : PySem.W.EachIs (fun (v : Value) (y : β) => ∃ as, Reads (PySem.W.sortingHeap (h1.push (seqObj "list" acc.toList.toArray 0)) h1.objs.size acc.toList) v (dd y) as) acc.toList ys := (each_reads (v := fun y => V.ref (ad y)) I rv fun y hy' => (hy y hy').1).mono fun _ _ ⟨as, w⟩ => ⟨as, PyProof.Rows.Reads.keeps (fun b ob e => PySem.W.sortingHeap_old (hlt b ob e) (old b ob e)) w⟩
  have hub : ∀ y ∈ ys, X.A.in1.in1.units + (dd y).depth < cLine := fun y hy' => by
    have := (hy y hy').2
    show X.A.units + 2 + (dd y).depth < cLine
    omega
  have S := PySem.W.SortsAt.data (prog := X.prog) (w := X.w) (A := X.A.in1.in1) (s := { s with heap := PySem.W.sortingHeap (h1.push (seqObj "list" acc.toList.toArray 0)) h1.objs.size acc.toList, toks := tk }) (PySem.W.each_map (R := fun v d => ∃ as, Reads (PySem.W.sortingHeap (h1.push (seqObj "list" acc.toList.toArray 0)) h1.objs.size acc.toList) v d as) dd rd) al so (PySem.W.bound_map hub)
  refine wpAny_bind (wpAny_holding (wpAny_call_entry slot_list_sort ⟨_, hat, rfl⟩ entry_list_sort ?body (args_list_sort _)))
  case body =>
    refine PySem.W.list_sort_vals (s := { s with heap := h1.push (seqObj "list" acc.toList.toArray 0), toks := tk }) hat S hz2 ⟨_, rfl, wpAny_pure ⟨_, rfl, ?_⟩⟩
    have each := PySem.W.sortVals_data false rel rd al
    generalize PySem.W.sortVals (PySem.W.dataKind (PySem.W.sortingHeap (h1.push (seqObj "list" acc.toList.toArray 0)) h1.objs.size acc.toList) (ys.map dd)) false acc.toList acc.toList = out at each ⊢
    obtain ⟨ee, he'⟩ := PyProof.Rows.sortedHeap_at (vs := acc.toList) (out := out.toArray) hat
    have hl2 : ((ys.mergeSort (PySem.W.dataLe false dd)).map fun y => V.ref (ad y)).length ≤ sizeLine := by
      rw [List.length_map, List.length_mergeSort]
      omega
    have gone : s.heap.get? h1.objs.size = none := by
      cases e : s.heap.get? h1.objs.size with
      | none => rfl
      | some ob => exact absurd rfl (hlt _ ob e)
    have free : H h1.objs.size = none := by
      cases e : H h1.objs.size with
      | none => rfl
      | some u =>
        obtain ⟨ob, e2⟩ := obj_there (I.hok _ _ e)
        rw [gone] at e2
        cases e2
    exact ⟨.ref h1.objs.size, upd H h1.objs.size (.lst ((ys.mergeSort (PySem.W.dataLe false dd)).map fun y => V.ref (ad y))), I.laidN (t' := tk) (fun b ob e => by rw [PyProof.Rows.sortedHeap_old (hlt b ob e) (Heap.lt_size (old b ob e))]; exact old b ob e) gone free ⟨hl2, out, ee, vals_each (v := fun y => V.ref (ad y)) each, by simpa using he'⟩, rfl, qq _ free⟩
end Pf


namespace Pf
open PySem PySem.Spec PyProof.Rows L2
/-! ### a text so many times: some text of its letters, no longer than it may be -/
theorem rep_cps (x : Array Nat) : ∀ (n : Nat) (acc : Array Nat), (((List.replicate n x).foldl (· ++ ·) acc).size = acc.size + x.size * n) ∧ ∀ c ∈ ((List.replicate n x).foldl (· ++ ·) acc).toList, c ∈ acc.toList ∨ c ∈ x.toList
  | 0, acc => ⟨by rw [Nat.mul_zero]; rfl, fun c h => .inl h⟩
  | n + 1, acc => by
    have ih := rep_cps x n (acc ++ x)
    rw [List.replicate_succ, List.foldl_cons]
    refine ⟨?_, fun c h => ?_⟩
    · rw [ih.1, Array.size_append, Nat.mul_succ]
      omega
    · rcases ih.2 c h with z | z
      · rw [Array.toList_append, List.mem_append] at z
        exact z
      · exact .inr z
def rRepS : R2 := fun x y H Q => ∃ (z : Str) (k : Int), x = .str z ∧ y = .int k ∧ 0 ≤ k ∧ k ≤ 1000 ∧ z.length ≤ 1000 ∧ ∀ w : Str, w.length ≤ z.length * k.toNat → (∀ c ∈ w.cps.toList, c ∈ z.cps.toList) → Q (.str w) H
theorem op_repS {X : Cx} : OpR X (binaryOp .Mult) rRepS := by
  intro pins s σ H x y v u Q I rx ry h
  obtain ⟨z, k, rfl, rfl, k0, k1, hz, q⟩ := h
  obtain ⟨t, rfl⟩ := rx
  obtain ⟨t2, rfl⟩ := ry
  have hm : z.length * k.toNat ≤ 1000 * 1000 := Nat.mul_le_mul hz (by omega)
  have hbig : (z.length : Int) * k ≤ 1000 * 1000 := Int.mul_le_mul (by omega) k1 k0 (by decide)
  refine PySem.P.mul_str (by rw [decide_eq_false (by omega), decide_eq_false (by omega)]; rfl) (fun h1 _ z2 => ?_) (fun _ _ => ?_) ?_
  · have h3 : (1000 : Int) ≤ (2 ^ 63 - 1) / k := by
      rw [Int.le_ediv_iff_mul_le (by omega)]
      omega
    omega
  · unfold Builtin.Str.tooLong
    exact decide_eq_false (by rw [sizeLine_eq]; omega)
  · by_cases c1 : k < 1
    · rw [if_pos c1]
      exact ⟨by decide, .str Str.empty, H, I.tok _, ⟨_, rfl⟩, q _ (Nat.zero_le _) (fun c hc => by cases hc)⟩
    · rw [if_neg c1]
      by_cases c2 : (k == 1 || z.length == 0) = true
      · rw [if_pos c2]
        refine ⟨.str z, H, I, ⟨_, rfl⟩, q z ?_ fun _ hc => hc⟩
        exact Nat.le_mul_of_pos_right _ (by omega)
      · rw [if_neg c2]
        have hr := rep_cps z.cps k.toNat #[]
        have hl : (⟨(List.replicate k.toNat z.cps).foldl (· ++ ·) #[]⟩ : Str).length = z.length * k.toNat := by
          show ((List.replicate k.toNat z.cps).foldl (· ++ ·) #[]).size = _
          rw [hr.1]
          show 0 + z.length * k.toNat = _
          omega
        refine ⟨?_, .str _, H, I.tok _, ⟨_, rfl⟩, q _ (Nat.le_of_eq hl) fun c hc => ?_⟩
        · rw [hl, sizeLine_eq]
          omega
        · rcases hr.2 c hc with y | y
          · cases y
          · exact y
/-! ### a list under way -/
section
variable {β : Type} {R : Hp → V → β → Prop} {D : Addr} {H H1 H4 : Hp} {ys : List β} {v : V} {b : β}
def GenL (R : Hp → V → β → Prop) (D : Addr) (H1 : Hp) (ys : List β) (H : Hp) : Prop := ∃ vs, H D = some (.lst vs) ∧ Paired (R H) vs ys ∧ Ext H1 H
theorem genl_new (hD : H1 D = none) : GenL R D H1 [] (upd H1 D (.lst [])) := ⟨[], upd_same, .nil, Ext.new hD⟩
theorem GenL.ext (h : GenL R D H1 ys H) : Ext H1 H := by
  obtain ⟨_, _, _, k⟩ := h
  exact k
theorem GenL.keep (m : Mono R) (h : GenL R D H1 ys H) (k : Ext H H4) : GenL R D H1 ys H4 := by
  obtain ⟨vs, hL, hP, k1⟩ := h
  exact ⟨vs, k _ _ hL, paired_imp (fun _ _ => m _ _ _ _ (TupK.ext k)) hP, k1.trans k⟩
theorem genl_step (m : Mono R) (hD : H1 D = none) (h : GenL R D H1 ys H) (k : Ext H H4) (hv : R H4 v b) (hn : ys.length < 1000000) : ∃ acc, H4 D = some (.lst acc) ∧ acc.length < sizeLine ∧ GenL R D H1 (ys ++ [b]) (upd H4 D (.lst (acc ++ [v]))) := by
  obtain ⟨vs, hL, hP, k1⟩ := h
  have hl := paired_len hP
  have hL4 := k _ _ hL
  exact ⟨vs, hL4, szLt (by omega), vs ++ [v], upd_same, paired_app (paired_imp (fun _ _ => m _ _ _ _ ((TupK.ext k).trans (TupK.lst hL4))) hP) (.cons (m _ _ _ _ (TupK.lst hL4) hv) .nil), (k1.trans k).put hD⟩
/-- one more at its end -/
theorem app_ok {Q : VK} (m : Mono R) (hD : H1 D = none) (h : GenL R D H1 ys H) (k : Ext H H4) (hv : R H4 v b) (hn : ys.length < 1000000) (q : ∀ H', GenL R D H1 (ys ++ [b]) H' → Q .non H') : rAppend (.ref D) [v] H4 Q := by
  obtain ⟨acc, h1, h2, h3⟩ := genl_step m hD h k hv hn
  exact ⟨D, acc, v, rfl, rfl, h1, h2, q _ h3⟩
theorem GenL.sq {K : PySem.W.Frag} (h : GenL R D H1 ys H) : ∃ vs, SqL K H D vs := by
  obtain ⟨vs, h1, _⟩ := h
  exact ⟨vs, SqL.of h1⟩
end
theorem putT_len (c : List (List Key × V)) (k : List Key) (v : V) : (putK c k v).length ≤ c.length + 1 := by
  unfold putK
  split
  · rw [List.length_map]
    omega
  · rw [List.length_append, List.length_singleton]
    exact Nat.le_refl _
end Pf


namespace Pf
open PySem PySem.Spec PyProof.Rows L2 LamX
/-! ### a def that is held by a name, called; it may raise -/
def FnV (P : Program) (w : World) (K : PySem.W.Frag) (mg : Str → Option Value) (base : Heap) (k : Nat) (f : Addr) (sp : Sp) : Prop :=
  ∃ (fd : FuncData) (ps : List Str), FnOk P w K mg base (L2.CX P w) k f fd ps sp ∧ PySem.W.keepIn K (.ref f) = true ∧ Binds K fd ps []
section
variable {X : Cx} {W : WX} {k i : Nat} {sp : Sp} {x : Str} {e : Expr} {es : List Expr} {t : TA} {p pos : Pos} {E : XK} {kws : List Keyword} {ps ks : List Str} {gV : List V → List V → List V} {tk : TA}
def tCallVs (P : Program) (w : World) (K : PySem.W.Frag) (mg : Str → Option Value) (base : Heap) (i k : Nat) (sp : Sp) (E : L2.St → XK) (t : TA) : TE := fun σ H Q => ∃ f : Addr, σ[i]? = some (some (.ref f)) ∧ FnV P w K mg base k f sp ∧ t σ H fun vs H1 => sp vs H1 Q (E σ)
theorem pe_callVs {P : Program} {w : World} {K : PySem.W.Frag} {mg : Str → Option Value} {base : Heap} (hX : X.prog = P ∧ X.w = w ∧ X.K = K ∧ X.mg = mg ∧ X.base = base) (hr : Room k X.A) (tkx : Takes X W) (hN : X.N[i]? = some x) (hv : Vis X.env.scope x) (ha : PA X (e :: es) t)
    (hd : (x == ("__debug__" : Str)) = false := by decide) (hcd : (x == ("__classdict__" : Str)) = false := by decide)
    (he : starEach (e :: es) X.env = (false, eval e X.env) :: starEach es X.env := by rfl) (hpl : (backTo pos (starEach es X.env)).any (·.1) = false := by rfl) : PE X (.Call (.Name x p) (e :: es) [] pos) (tCallVs P w K mg base i k sp (WE W) t) := by
  obtain ⟨rfl, rfl, rfl, rfl, rfl⟩ := hX
  constructor
  intro pins s σ H Q I h
  obtain ⟨f, hs, ⟨fd, ps, F, hk, hb⟩, h⟩ := h
  have hp := (pe_var (X := X) (pos := p) (i := i) hN hv hd hcd).run pins s σ H (fun v H1 => v = .ref f ∧ H1 = H) I ⟨.ref f, hs, rfl, rfl⟩
  refine wpAny_Call_Name_kw (thn hp fun u s1 hu => ?_)
  obtain ⟨v, H1, I1, r1, ev, eH⟩ := hu
  subst ev eH
  cases r1
  refine PySem.W.callWith_K (h₀ := X.base) I.ok.mod.kin hk (thn (ha.run pos pins s1 σ H1 _ I1 h) fun us s2 hu => ?_) he hpl
  obtain ⟨vs, H2, I2, r, q⟩ := hu
  exact ⟨I2.kIn, run_fnS F hr hb (passAt tkx σ) I2 r q⟩
/-- a def that may raise, called by names -/
structure CaXK (P : Program) (w : World) (K : PySem.W.Frag) (mg : Str → Option Value) (base : Heap) (k : Nat) (x : Str) (ps ks : List Str) (gV : List V → List V → List V) (sp : Sp) : Prop where
  ex : ∃ f fd g, FnOk P w K mg base (L2.CX P w) k f fd ps sp ∧ mg x = some (.ref f) ∧ PySem.W.keepIn K (.ref f) = true ∧ KBn K fd ps 0 ks g gV
theorem pe_caXK (c : CaXK X.prog X.w X.K X.mg X.base k x ps ks gV sp) (hr : Room k X.A) (hg : Gl X x) (tkx : Takes X (fun cls d _ H => E cls d H)) (hkw : PK X kws tk)
    (hall : (backToKw pos (keywordEach kws X.env)).all (·.1.isSome) = true := by rfl) (hks : (backToKw pos (keywordEach kws X.env)).filterMap (·.1) = ks := by rfl) (hdb : (x == ("__debug__" : Str)) = false := by decide)
    (hpl : ((backTo pos (starEach [] X.env)).any (·.1) || (backToKw pos (keywordEach kws X.env)).any (·.1.isNone)) = false := by rfl) :
    PE X (.Call (.Name x p) [] kws pos) (tCallN 0 ks.length sp gV E tNil tk) := by
  obtain ⟨f, fd, g, F, hm, hk, hb⟩ := c.ex
  refine ⟨fun pins s σ H Q I h => ?_⟩
  refine wpAny_Call_Name_kw (ld_glob I hg hm ?_ hdb)
  refine PySem.W.callWith_KW0 (h₀ := X.base) I.ok.mod.kin hk hall ?_ hpl
  refine thn (hkw.run pos pins s σ H _ I h) fun ws s2 ⟨zs, H2, I2, rz, l1, l2, q2⟩ => ⟨I2.kIn, ?_⟩
  rw [hks]
  exact run_fnN (us := []) (vs := []) F hr hb (passes_call tkx fun _ _ _ _ h => h) I2 .nil rz rfl l2 q2
end
/-! ### an own class under a built-in one -/
theorem under_ty {K : PySem.W.Frag} {C : Addr} {T : String} {b : Bool} (hm : PySem.W.kitMeta T = true) (h : PySem.W.subIn K (.ref C) (.type T) = some b) : PySem.W.kitOne K (.ref C) (.type T) = some b := by
  unfold PySem.W.kitOne
  rw [show (Value.ref C == Value.type T) = false from rfl]
  show PySem.W.kitCls K (.ref C) (.type T) = some b
  unfold PySem.W.kitCls
  simp only [hm, h, if_true]
/-! ### a thing, and what it is -/
def Tx (K : PySem.W.Frag) (H : Hp) (v : V) (d : PyData) : Prop := TyX K H v (.type (tyD d)) ∧ ∀ x, d = .str x → v = .str x ∧ x.length ≤ 100
theorem Tx.str {K : PySem.W.Frag} {H : Hp} {x : Str} (h : x.length ≤ 100) : Tx K H (.str x) (.str x) := ⟨.base (.str x), fun y e => by cases e; exact ⟨rfl, h⟩⟩
theorem Tx.non {K : PySem.W.Frag} {H : Hp} : Tx K H .non .none := ⟨.base .non, fun y e => by cases e⟩
theorem Tx.bl {K : PySem.W.Frag} {H : Hp} (b : Bool) : Tx K H (.bl b) (.bool b) := ⟨.base (.bl b), fun y e => by cases e⟩
theorem Tx.int {K : PySem.W.Frag} {H : Hp} (i : Int) : Tx K H (.int i) (.int i) := ⟨.base (.int i), fun y e => by cases e⟩
theorem Tx.tup {K : PySem.W.Frag} {H : Hp} {a : Addr} {xs : List V} (h : H a = some (.tup xs)) : Tx K H (.ref a) (.tuple []) := ⟨.base (.tup h), fun y e => by cases e⟩
theorem Tx.lst {K : PySem.W.Frag} {H : Hp} {a : Addr} {xs : List V} (h : H a = some (.lst xs)) : Tx K H (.ref a) (.list []) := ⟨.base (.lst h), fun y e => by cases e⟩
theorem Tx.dK {K : PySem.W.Frag} {H : Hp} {a : Addr} {kvs : List (Key × V)} (h : H a = some (.dK kvs)) : Tx K H (.ref a) (.dict []) := ⟨.base (.dK h), fun y e => by cases e⟩
/-- a thing of which it is told what it is, wherever tables alone change -/
inductive ThX (H : Hp) : V → PyData → Prop where
  | str {x : Str} (h : x.length ≤ 100) : ThX H (.str x) (.str x)
  | non : ThX H .non .none
  | bl (b : Bool) : ThX H (.bl b) (.bool b)
  | int (i : Int) : ThX H (.int i) (.int i)
  | tup {a : Addr} {xs : List V} (h : H a = some (.tup xs)) : ThX H (.ref a) (.tuple [])
  | lst {a : Addr} {xs : List V} (h : H a = some (.lst xs)) : ThX H (.ref a) (.list [])
  | dK {a : Addr} {kvs : List (Key × V)} (h : H a = some (.dK kvs)) : ThX H (.ref a) (.dict [])
theorem ThX.tx {K : PySem.W.Frag} {H : Hp} {v : V} {d : PyData} (h : ThX H v d) : Tx K H v d := by
  cases h with
  | str h => exact .str h
  | non => exact .non
  | bl b => exact .bl b
  | int i => exact .int i
  | tup h => exact .tup h
  | lst h => exact .lst h
  | dK h => exact .dK h
theorem ThX.extN {H H' : Hp} {v : V} {d : PyData} (h : ThX H v d) (k : ExtN H H') : ThX H' v d := by
  cases h with
  | str h => exact .str h
  | non => exact .non
  | bl b => exact .bl b
  | int i => exact .int i
  | tup h => exact .tup (k _ _ h fun _ z => by cases z)
  | lst h => exact .lst (k _ _ h fun _ z => by cases z)
  | dK h => exact .dK (k _ _ h fun _ z => by cases z)
theorem ThX.ext {H H' : Hp} {v : V} {d : PyData} (h : ThX H v d) (k : Ext H H') : ThX H' v d := h.extN (ExtN.ext k)
/-! ### a text so many times, once at least: how long it is -/
def rRepX : R2 := fun x y H Q => ∃ (z : Str) (k : Int), x = .str z ∧ y = .int k ∧ 1 ≤ k ∧ k ≤ 1000 ∧ z.length ≤ 1000 ∧ ∀ w : Str, w.length = z.length * k.toNat → (∀ c ∈ w.cps.toList, c ∈ z.cps.toList) → Q (.str w) H
theorem op_repX {X : Cx} : OpR X (binaryOp .Mult) rRepX := by
  intro pins s σ H x y v u Q I rx ry h
  obtain ⟨z, k, rfl, rfl, k0, k1, hz, q⟩ := h
  obtain ⟨t, rfl⟩ := rx
  obtain ⟨t2, rfl⟩ := ry
  have hm : z.length * k.toNat ≤ 1000 * 1000 := Nat.mul_le_mul hz (by omega)
  have hbig : (z.length : Int) * k ≤ 1000 * 1000 := Int.mul_le_mul (by omega) k1 (by omega) (by decide)
  refine PySem.P.mul_str (by rw [decide_eq_false (by omega), decide_eq_false (by omega)]; rfl) (fun h1 _ z2 => ?_) (fun _ _ => ?_) ?_
  · have h3 : (1000 : Int) ≤ (2 ^ 63 - 1) / k := by
      rw [Int.le_ediv_iff_mul_le (by omega)]
      omega
    omega
  · unfold Builtin.Str.tooLong
    exact decide_eq_false (by rw [sizeLine_eq]; omega)
  · rw [if_neg (show ¬ k < 1 by omega)]
    by_cases c2 : (k == 1 || z.length == 0) = true
    · rw [if_pos c2]
      refine ⟨.str z, H, I, ⟨_, rfl⟩, q z ?_ fun _ hc => hc⟩
      rw [Bool.or_eq_true] at c2
      rcases c2 with c2 | c2
      · rw [show k = 1 from beq_iff_eq.mp c2]
        exact (Nat.mul_one _).symm
      · rw [show z.length = 0 from beq_iff_eq.mp c2, Nat.zero_mul]
    · rw [if_neg c2]
      have hr := rep_cps z.cps k.toNat #[]
      have hl : (⟨(List.replicate k.toNat z.cps).foldl (· ++ ·) #[]⟩ : Str).length = z.length * k.toNat := by
        show ((List.replicate k.toNat z.cps).foldl (· ++ ·) #[]).size = _
        rw [hr.1]
        show 0 + z.length * k.toNat = _
        omega
      refine ⟨?_, .str _, H, I.tok _, ⟨_, rfl⟩, q _ hl fun c hc => ?_⟩
      · rw [hl, sizeLine_eq]
        omega
      · rcases hr.2 c hc with y | y
        · cases y
        · exact y
end Pf


namespace Pf
open PySem PySem.Spec PyProof.Rows L2
abbrev wI (i : Int) : Str := Str.ofString (toString i)
theorem wI_all : ∀ n : Nat, n < 100 → (wI (n : Int)).length ≤ 3 ∧ ((wI (n : Int)).cps.toList.all fun c => decide (c < 128)) = true := by decide +kernel
theorem log_small {i : Int} (h0 : 0 ≤ i) (h1 : i ≤ 99) : i.natAbs.log2 < 1920 := by
  have h : i.natAbs < 2 ^ 7 := by omega
  have := (Nat.log2_lt (n := i.natAbs) (k := 7))
  by_cases c : i.natAbs = 0
  · rw [c]
    decide
  · have := (this c).mpr h
    omega
inductive PartIs : V → Str → Prop
  | s (a : Str) : PartIs (.str a) a
  | i {n : Int} : 0 ≤ n → n ≤ 99 → PartIs (.int n) (wI n)
theorem strE {X : Cx} : CallR X (.type "str") (fun xs H Q => ∃ v a, xs = [v] ∧ PartIs v a ∧ Q (.str a) H) := by
  intro pins s σ H xs us Q I r h
  obtain ⟨v, a, rfl, hp, q⟩ := h
  cases hp with
  | s a => exact SkE.call_str_str pins s σ H _ us Q I r ⟨_, rfl, q⟩
  | i h0 h1 => exact call_str_int pins s σ H _ us Q I r ⟨_, rfl, log_small h0 h1, q⟩
/-! ### data that do not reach the pen -/
def LowC (x : Str) : Prop := ∀ c ∈ x.cps.toList, c < 128
/-- a part of a line: a short text or a number from 0 to 99 -/
def PartV (v : V) : Prop := (∃ x : Str, v = .str x ∧ LowC x ∧ x.length ≤ 50) ∨ ∃ i : Int, v = .int i ∧ 0 ≤ i ∧ i ≤ 99
def LineAt (H : Hp) (v : V) : Prop := ∃ a us, v = .ref a ∧ H a = some (.tup us) ∧ 1 ≤ us.length ∧ us.length ≤ 3 ∧ ∀ u ∈ us, PartV u
theorem LineAt.kp {p : Addr} {H H' : Hp} {v : V} {ys : List V} (h : LineAt H v) (k : Kp p H H') (hp : H p = some (.lst ys)) : LineAt H' v := by
  obtain ⟨a, us, e, h, r⟩ := h
  exact ⟨a, us, e, k.tup hp h, r⟩
theorem LineAt.ext {H H' : Hp} {v : V} (h : LineAt H v) (k : Ext H H') : LineAt H' v := by
  obtain ⟨a, us, e, h, r⟩ := h
  exact ⟨a, us, e, k _ _ h, r⟩
theorem PartV.is {v : V} (h : PartV v) : ∃ a, PartIs v a ∧ LowC a ∧ a.length ≤ 50 := by
  rcases h with ⟨x, rfl, h1, h2⟩ | ⟨i, rfl, h1, h2⟩
  · exact ⟨x, .s x, h1, h2⟩
  · refine ⟨_, .i h1 h2, ?_⟩
    have := wI_all i.toNat (by omega)
    rw [show ((i.toNat : Nat) : Int) = i by omega] at this
    exact ⟨fun c hc => of_decide_eq_true (List.all_eq_true.mp this.2 c hc), by omega⟩
def Dm (m k : Nat) (p D : Addr) (H : Hp) (v : V) : Prop := ∃ d, De (hd2 p D H) v d ∧ BgD 201 m k d
theorem Dm.le {m k m' k' : Nat} {p D : Addr} {H : Hp} {v : V} (h : Dm m k p D H v) (hm : m ≤ m') (hk : k ≤ k') : Dm m' k' p D H v := by
  obtain ⟨d, h1, h2⟩ := h
  exact ⟨d, h1, h2.le hm hk⟩
theorem Dm.kp {m k : Nat} {p D : Addr} {H H' : Hp} {v : V} (h : Dm m k p D H v) (e : Kp p H H') : Dm m k p D H' v := by
  obtain ⟨d, h1, h2⟩ := h
  exact ⟨d, de_ext (hd2_kp e) h1, h2⟩
theorem hd2_pen {p D a : Addr} {H : Hp} (h : a ≠ p) (h2 : a ≠ D) : hd2 p D H a = H a := hd2_ne h h2
theorem Dm.non {p D : Addr} {H : Hp} : Dm 0 0 p D H .non := ⟨_, .non, Bg.non.d⟩
theorem Dm.bl {p D : Addr} {H : Hp} (b : Bool) : Dm 0 0 p D H (.bl b) := ⟨_, .bl b, (Bg.bl b).d⟩
theorem Dm.int {p D : Addr} {H : Hp} {i : Int} (h : i.natAbs < 2 ^ 200) : Dm 200 0 p D H (.int i) := ⟨_, .int i, (Bg.int (B := 200) (by decide) (by decide) h).d⟩
theorem Dm.str {p D : Addr} {H : Hp} {x : Str} {n : Nat} (hc : LowC x) (hn : x.length ≤ n) : Dm n 0 p D H (.str x) := by
  refine ⟨_, .str x, ?_, ?_, ?_, ?_⟩
  · simp [PyData.showable]
  · simp only [PyData.leavesShort]
    refine List.all_eq_true.mpr fun c h => decide_eq_true ?_
    have := hc c h
    have e : (128 : Nat) < 16 ^ 8 := by decide
    omega
  · simp only [PyData.weight]
    exact hn
  · simp [PyData.depth]
theorem dm_all {m k : Nat} {p D : Addr} {H : Hp} : ∀ {us : List V}, (∀ u ∈ us, Dm m k p D H u) → ∃ ds, DeAll (hd2 p D H) us ds ∧ ∀ d ∈ ds, BgD 201 m k d
  | [], _ => ⟨[], .nil, fun d h => by cases h⟩
  | u :: us, h => by
    obtain ⟨d, h1, h2⟩ := h u (List.mem_cons_self ..)
    obtain ⟨ds, h3, h4⟩ := dm_all fun x hx => h x (List.mem_cons_of_mem _ hx)
    refine ⟨d :: ds, .cons h1 h3, fun z hz => ?_⟩
    rcases List.mem_cons.mp hz with rfl | hz
    · exact h2
    · exact h4 z hz
theorem Dm.tup {m k n M : Nat} {p D : Addr} {H : Hp} {a : Addr} {us : List V} (h : H a = some (.tup us)) (hp : a ≠ p) (hd : a ≠ D) (hu : ∀ u ∈ us, Dm m k p D H u) (hn : us.length ≤ n) (hM : n * (m + 1) ≤ M) : Dm M (k + 1) p D H (.ref a) := by
  obtain ⟨ds, h1, h2⟩ := dm_all hu
  have := deAll_len h1
  exact ⟨_, .tup (by rw [hd2_pen hp hd]; exact h) h1, BgD.tup (n := n) (by omega) h2 hM⟩
theorem Dm.lst {m k n M : Nat} {p D : Addr} {H : Hp} {a : Addr} {us : List V} (h : H a = some (.lst us)) (hp : a ≠ p) (hd : a ≠ D) (hu : ∀ u ∈ us, Dm m k p D H u) (hn : us.length ≤ n) (hM : n * (m + 1) ≤ M) : Dm M (k + 1) p D H (.ref a) := by
  obtain ⟨ds, h1, h2⟩ := dm_all hu
  have := deAll_len h1
  exact ⟨_, .lst (by rw [hd2_pen hp hd]; exact h) h1, BgD.lst (n := n) (by omega) h2 hM⟩
theorem Dm.emp {p D : Addr} {H : Hp} {a : Addr} (h : H a = some (.dK [])) (hp : a ≠ p) (hd : a ≠ D) : Dm 0 1 p D H (.ref a) := ⟨_, .emp (by rw [hd2_pen hp hd]; exact h), BgD.emp⟩
theorem PartV.dm {p D : Addr} {H : Hp} {v : V} (h : PartV v) : Dm 200 0 p D H v := by
  rcases h with ⟨x, rfl, h1, h2⟩ | ⟨i, rfl, h1, h2⟩
  · exact Dm.str h1 (by omega)
  · refine Dm.int (Nat.lt_of_lt_of_le (show i.natAbs < 2 ^ 7 by omega) (by decide +kernel))
theorem LineAt.dm {p c D : Addr} {n : Nat} {H : Hp} {v : V} {zs : List V} (h : LineAt H v) (hP : Pen H p c n) (hD : H D = some (.lst zs)) : Dm 603 1 p D H v := by
  obtain ⟨a, us, rfl, ha, h1, h3, hu⟩ := h
  exact Dm.tup ha (hP.tup ha) (ne_of ha hD (by intro z; cases z)) (fun u h => (hu u h).dm) h3 (by decide)
theorem cutV_memP {xs : List V} {lo hi : Option Int} {u : V} (h : u ∈ cutV xs lo hi) : u ∈ xs := by
  unfold cutV at h
  exact List.mem_of_mem_drop (List.mem_of_mem_take h)
section
variable {P : Program} {w : World} {K : PySem.W.Frag} {mg : Str → Option Value} {base : Heap}
abbrev s_law_line : Stmt := topS 22
theorem sc_law_line : FnScope ["_law_pen_here", "_law_number", "_law_texts", "_law_marks", "_law_some"] ["_law_pen_here"] (defScope s_law_line) :=
  ⟨rfl, rfl, rfl, by decide +kernel, rfl, by decide +kernel, by decide +kernel⟩
def spLn : Sp := fun vs H Q _ => ∃ (p c : Addr) (n : Nat), vs = [.ref p] ∧ Pen H p c n ∧ n + 10 < 1000000 ∧ ∀ v H', LineAt H' v → Kp p H H' → Pen H' p c (n + 10) → Q v H'
theorem ok_ln {f : Addr} {fd : FuncData} (F : Fun K "_law_line" "_law_line" s_law_line f fd) (c_law_take : CDraw P w K mg base) : FnOk P w K mg base CX0 2 f fd ["_law_pen_here"] spLn := by
  refine F.ok sc_law_line (fun vs H Q E h => ?_) (fun cdv A outer s H vs Q E hr h => ?_)
  · obtain ⟨p, c, n, rfl, _⟩ := h
    rfl
  · obtain ⟨p, c, n, rfl, hP, hn, q⟩ := h
    obtain ⟨cells0, a00, r00, hpp, _⟩ := id hP
    refine ⟨_, (pss_cons (ps_set (i := 1) sc_law_line.nd rfl (.inl rfl) (pe_ix (ixL K) (pe_lst (pa_cons pe_int (pa_cons pe_int (pa_cons (pe_ca c_law_take (hr.mono (by decide)) (by rfl) (pa_cons (pv 0) (pa_cons pe_int pa_nil))) (pa_cons pe_int pa_nil))))) (pe_ca c_law_take (hr.mono (by decide)) (by rfl) (pa_cons (pv 0) (pa_cons pe_int pa_nil))) (fun _ _ => rfl)))
      (pss_cons (ps_set (i := 2) sc_law_line.nd rfl (.inl rfl) (pe_lst (pa_cons pe_str (pa_cons pe_str (pa_cons (pe_op op_repX pe_str pe_int) (pa_cons pe_str (pa_cons pe_str pa_nil)))))))
      (pss_cons (ps_set (i := 3) sc_law_line.nd rfl (.inl rfl) (pe_lst (pa_cons pe_str (pa_cons pe_str (pa_cons (pe_op op_repX pe_str pe_int) (pa_cons (pe_op op_repX pe_str pe_int) (pa_cons pe_str (pa_cons pe_str pa_nil))))))))
      (pss_cons (ps_set (i := 4) sc_law_line.nd rfl (.inl rfl) (pe_lst (pa_cons (pe_tup (pa_cons pe_str pa_nil)) (pa_cons (pe_tup (pa_cons pe_str pa_nil)) (pa_cons (pe_tup (pa_cons pe_str (pa_cons (pv 1) pa_nil))) (pa_cons (pe_tup (pa_cons pe_str (pa_cons (pv 1) (pa_cons (pe_ca c_law_take (hr.mono (by decide)) (by rfl) (pa_cons (pv 0) (pa_cons pe_int pa_nil))) pa_nil)))) (pa_cons (pe_tup (pa_cons pe_str (pa_cons (pv 1) (pa_cons pe_str pa_nil)))) pa_nil)))))))
      (pss_cons (ps_set (i := 4) sc_law_line.nd rfl (.inl rfl) (pe_op op_cat (pv 4) (pe_lst (pa_cons (pe_tup (pa_cons pe_str (pa_cons (pe_ix (ixL K) (pv 2) (pe_ca c_law_take (hr.mono (by decide)) (by rfl) (pa_cons (pv 0) (pa_cons pe_int pa_nil))) (fun _ _ => rfl)) pa_nil))) (pa_cons (pe_tup (pa_cons pe_str (pa_cons (pe_ix (ixL K) (pv 3) (pe_ca c_law_take (hr.mono (by decide)) (by rfl) (pa_cons (pv 0) (pa_cons pe_int pa_nil))) (fun _ _ => rfl)) pa_nil))) pa_nil)))))
      (pss_one (ps_ret (pe_ix (ixL K) (pv 4) (pe_ca c_law_take (hr.mono (by decide)) (by rfl) (pa_cons (pv 0) (pa_cons pe_int pa_nil))) (fun _ _ => rfl))))))))), ?_⟩
    -- a number
    refine ⟨_, rfl, p, c, 100, n, rfl, hP, by omega, by decide, by decide, fun r1 H1 r10 r11 k1 hP1 => ⟨szL (show 4 ≤ 1000000 by decide), fun l1 hl1 => ?_⟩⟩
    refine ⟨_, rfl, p, c, 4, _, rfl, hP1.new hl1, by omega, by decide, by decide, fun e2 H2 e20 e21 k2 hP2 => ?_⟩
    obtain ⟨num, hnum, hat1⟩ := atI_ints (ns := [0, 99, r1, 1]) e20 (by show e2 < 4; omega)
    have hnb : 0 ≤ num ∧ num ≤ 99 := by
      simp only [List.mem_cons, List.not_mem_nil, or_false] at hnum
      omega
    refine ⟨l1, _, e2, .int num, rfl, rfl, SqL.of (k2 _ _ (hP1.ne hl1).1 upd_same), hat1, ?_⟩
    have k02 : Kp p H H2 := k1.trans ((Kp.new hl1).trans k2)
    clear k1 k2 hP1 hl1 hat1 hnum
    -- texts
    refine ⟨"z", 40, rfl, rfl, by decide, by decide, by decide +kernel, fun w1 w1l w1c => ⟨szL (show 5 ≤ 1000000 by decide), fun l2 hl2 => ?_⟩⟩
    refine ⟨"(.)", 13, rfl, rfl, by decide, by decide, by decide +kernel, fun w2 w2l w2c => ?_⟩
    refine ⟨".", 40, rfl, rfl, by decide, by decide, by decide +kernel, fun w3 w3l w3c => ⟨szL (show 6 ≤ 1000000 by decide), fun l3 hl3 => ?_⟩⟩
    have w1l : w1.length = 40 := w1l.trans (by decide +kernel)
    have w2l : w2.length = 39 := w2l.trans (by decide +kernel)
    have w3l : w3.length = 40 := w3l.trans (by decide +kernel)
    have lz : LowC "z" := by unfold LowC; decide +kernel
    have lb : LowC "(.)" := by unfold LowC; decide +kernel
    have ld : LowC "." := by unfold LowC; decide +kernel
    have q2 : ∀ v ∈ [V.str "", .str "abc", .str w1, .str "acgu", .str "abcdefghijklmnopqrstuvwxyz"], PartV v := by
      intro v hv
      simp only [List.mem_cons, List.not_mem_nil, or_false] at hv
      rcases hv with rfl | rfl | rfl | rfl | rfl
      · exact .inl ⟨_, rfl, by unfold LowC; decide +kernel, by decide +kernel⟩
      · exact .inl ⟨_, rfl, by unfold LowC; decide +kernel, by decide +kernel⟩
      · exact .inl ⟨_, rfl, fun c hc => lz c (w1c c hc), by omega⟩
      · exact .inl ⟨_, rfl, by unfold LowC; decide +kernel, by decide +kernel⟩
      · exact .inl ⟨_, rfl, by unfold LowC; decide +kernel, by decide +kernel⟩
    have q3 : ∀ v ∈ [V.str "", .str "()", .str w2, .str w3, .str "(((", .str ")("], PartV v := by
      intro v hv
      simp only [List.mem_cons, List.not_mem_nil, or_false] at hv
      rcases hv with rfl | rfl | rfl | rfl | rfl | rfl
      · exact .inl ⟨_, rfl, by unfold LowC; decide +kernel, by decide +kernel⟩
      · exact .inl ⟨_, rfl, by unfold LowC; decide +kernel, by decide +kernel⟩
      · exact .inl ⟨_, rfl, fun c hc => lb c (w2c c hc), by omega⟩
      · exact .inl ⟨_, rfl, fun c hc => ld c (w3c c hc), by omega⟩
      · exact .inl ⟨_, rfl, by unfold LowC; decide +kernel, by decide +kernel⟩
      · exact .inl ⟨_, rfl, by unfold LowC; decide +kernel, by decide +kernel⟩
    have ll2 : ([V.str "", .str "abc", .str w1, .str "acgu", .str "abcdefghijklmnopqrstuvwxyz"] : List V).length = 5 := rfl
    have ll3 : ([V.str "", .str "()", .str w2, .str w3, .str "(((", .str ")("] : List V).length = 6 := rfl
    generalize [V.str "", .str "abc", .str w1, .str "acgu", .str "abcdefghijklmnopqrstuvwxyz"] = u2 at q2 ll2 hl3 ⊢
    generalize [V.str "", .str "()", .str w2, .str w3, .str "(((", .str ")("] = u3 at q3 ll3 ⊢
    have n2 := (hP2.ne hl2).1
    have hP2' := hP2.new (o := .lst u2) hl2
    have n3 := (hP2'.ne hl3).1
    have hP3 := hP2'.new (o := .lst u3) hl3
    have h32 : upd (upd H2 l2 (.lst u2)) l3 (.lst u3) l2 = some (.lst u2) := Ext.new hl3 _ _ upd_same
    have h33 : upd (upd H2 l2 (.lst u2)) l3 (.lst u3) l3 = some (.lst u3) := upd_same
    have k3 : Kp p H (upd (upd H2 l2 (.lst u2)) l3 (.lst u3)) := (k02.trans (Kp.new hl2)).trans (Kp.new hl3)
    generalize upd (upd H2 l2 (.lst u2)) l3 (.lst u3) = H3 at hP3 h32 h33 k3 ⊢
    clear hl2 hl3 hP2 hP2' k02 w1l w2l w3l w1c w2c w3c lz lb ld
    -- lines
    refine ⟨szL (show 1 ≤ 1000000 by decide), fun t1 ht1 => ⟨szL (show 1 ≤ 1000000 by decide), fun t2 ht2 => ⟨_, rfl, szL (show 2 ≤ 1000000 by decide), fun t3 ht3 => ?_⟩⟩⟩
    have x1 := Ext.new (o := .tup [.str "least"]) ht1
    have x2 := Ext.new (o := .tup [.str "count"]) ht2
    have x3 := Ext.new (o := .tup [.str "within", .int num]) ht3
    have k13 := x1.trans (x2.trans x3)
    have pl : ∀ z : Str, LowC z → z.length ≤ 50 → PartV (.str z) := fun z h1 h2 => .inl ⟨z, rfl, h1, h2⟩
    have pn : PartV (.int num) := .inr ⟨num, rfl, hnb⟩
    have L1 : LineAt (upd (upd (upd H3 t1 (.tup [.str "least"])) t2 (.tup [.str "count"])) t3 (.tup [.str "within", .int num])) (.ref t1) := ⟨t1, _, rfl, (x2.trans x3) _ _ upd_same, by simp, by simp, fun u hu => by
      rw [List.mem_singleton.mp hu]
      exact pl _ (by unfold LowC; decide +kernel) (by decide +kernel)⟩
    have L2 : LineAt (upd (upd (upd H3 t1 (.tup [.str "least"])) t2 (.tup [.str "count"])) t3 (.tup [.str "within", .int num])) (.ref t2) := ⟨t2, _, rfl, x3 _ _ upd_same, by simp, by simp, fun u hu => by
      rw [List.mem_singleton.mp hu]
      exact pl _ (by unfold LowC; decide +kernel) (by decide +kernel)⟩
    have L3 : LineAt (upd (upd (upd H3 t1 (.tup [.str "least"])) t2 (.tup [.str "count"])) t3 (.tup [.str "within", .int num])) (.ref t3) := ⟨t3, _, rfl, upd_same, by simp, by simp, fun u hu => by
      simp only [List.mem_cons, List.not_mem_nil, or_false] at hu
      rcases hu with rfl | rfl
      · exact pl _ (by unfold LowC; decide +kernel) (by decide +kernel)
      · exact pn⟩
    have h42 := k13 _ _ h32
    have h43 := k13 _ _ h33
    have hP4 := hP3.ext k13
    have k4 := k3.trans (Kp.ext k13)
    generalize upd (upd (upd H3 t1 (.tup [.str "least"])) t2 (.tup [.str "count"])) t3 (.tup [.str "within", .int num]) = H4 at L1 L2 L3 h42 h43 hP4 k4 ⊢
    clear x1 x2 x3 k13 ht1 ht2 ht3 h32 h33 hP3 k3
    refine ⟨_, rfl, _, rfl, p, c, 100, _, rfl, hP4, by omega, by decide, by decide, fun r5 H5 r50 r51 k5 hP5 => ⟨szL (show 3 ≤ 1000000 by decide), fun t4 ht4 => ⟨_, rfl, szL (show 3 ≤ 1000000 by decide), fun t5 ht5 => ⟨szL (show 5 ≤ 1000000 by decide), fun l6 hl6 => ?_⟩⟩⟩⟩
    obtain ⟨_, _, _, hpp4, _⟩ := id hP4
    have x4 := Ext.new (o := .tup [.str "has", .int num, .int r5]) ht4
    have x5 := Ext.new (o := .tup [.str "letter", .int num, .str "q"]) ht5
    have x6 := Ext.new (o := .lst [.ref t1, .ref t2, .ref t3, .ref t4, .ref t5]) hl6
    have k46 := x4.trans (x5.trans x6)
    have q6 : ∀ v ∈ [V.ref t1, .ref t2, .ref t3, .ref t4, .ref t5], LineAt (upd (upd (upd H5 t4 (.tup [.str "has", .int num, .int r5])) t5 (.tup [.str "letter", .int num, .str "q"])) l6 (.lst [.ref t1, .ref t2, .ref t3, .ref t4, .ref t5])) v := by
      intro v hv
      simp only [List.mem_cons, List.not_mem_nil, or_false] at hv
      rcases hv with rfl | rfl | rfl | rfl | rfl
      · exact (L1.kp k5 hpp4).ext k46
      · exact (L2.kp k5 hpp4).ext k46
      · exact (L3.kp k5 hpp4).ext k46
      · refine ⟨t4, _, rfl, (x5.trans x6) _ _ upd_same, by simp, by simp, fun u hu => ?_⟩
        simp only [List.mem_cons, List.not_mem_nil, or_false] at hu
        rcases hu with rfl | rfl | rfl
        · exact pl _ (by unfold LowC; decide +kernel) (by decide +kernel)
        · exact pn
        · exact .inr ⟨r5, rfl, by omega, by omega⟩
      · refine ⟨t5, _, rfl, x6 _ _ upd_same, by simp, by simp, fun u hu => ?_⟩
        simp only [List.mem_cons, List.not_mem_nil, or_false] at hu
        rcases hu with rfl | rfl | rfl
        · exact pl _ (by unfold LowC; decide +kernel) (by decide +kernel)
        · exact pn
        · exact pl _ (by unfold LowC; decide +kernel) (by decide +kernel)
    have l65 : ([V.ref t1, .ref t2, .ref t3, .ref t4, .ref t5] : List V).length = 5 := rfl
    have h66 : upd (upd (upd H5 t4 (.tup [.str "has", .int num, .int r5])) t5 (.tup [.str "letter", .int num, .str "q"])) l6 (.lst [.ref t1, .ref t2, .ref t3, .ref t4, .ref t5]) l6 = some (.lst [.ref t1, .ref t2, .ref t3, .ref t4, .ref t5]) := upd_same
    have hP6 := hP5.ext k46
    have h62 := k46 _ _ (k5 _ _ n2 h42)
    have h63 := k46 _ _ (k5 _ _ n3 h43)
    have k6 := (k4.trans k5).trans (Kp.ext k46)
    have n6 : l6 ≠ p := (((hP5.new (o := .tup [.str "has", .int num, .int r5]) ht4).new (o := .tup [.str "letter", .int num, .str "q"]) ht5).ne hl6).1
    generalize [V.ref t1, .ref t2, .ref t3, .ref t4, .ref t5] = u6 at q6 l65 h66 hP6 h62 h63 k6 ⊢
    generalize upd (upd (upd H5 t4 (.tup [.str "has", .int num, .int r5])) t5 (.tup [.str "letter", .int num, .str "q"])) l6 (.lst u6) = H6 at q6 h66 hP6 h62 h63 k6 ⊢
    clear L1 L2 L3 x4 x5 x6 k46 hl6 ht4 ht5 hP5 hP4 k4 k5 h42 h43 hpp4
    -- two more
    refine ⟨_, rfl, _, rfl, _, rfl, p, c, 5, _, rfl, hP6, by omega, by decide, by decide, fun e7 H7 e70 e71 k7 hP7 => ?_⟩
    obtain ⟨v7, hv7, hat7⟩ := atI_mem (xs := u2) e70 (by omega)
    refine ⟨l2, _, e7, v7, rfl, rfl, SqL.of (k7 _ _ n2 h62), hat7, szL (show 2 ≤ 1000000 by decide), fun t6 ht6 => ?_⟩
    have hP7' := hP7.new (o := .tup [.str "string", v7]) ht6
    refine ⟨_, rfl, _, rfl, p, c, 6, _, rfl, hP7', by omega, by decide, by decide, fun e8 H8 e80 e81 k8 hP8 => ?_⟩
    obtain ⟨v8, hv8, hat8⟩ := atI_mem (xs := u3) e80 (by omega)
    have k78 : Kp p H6 H8 := k7.trans ((Kp.new ht6).trans k8)
    refine ⟨l3, _, e8, v8, rfl, rfl, SqL.of (k78 _ _ n3 h63), hat8, szL (show 2 ≤ 1000000 by decide), fun t7 ht7 => ⟨szL (show 2 ≤ 1000000 by decide), fun l9 hl9 => ?_⟩⟩
    have x7 := Ext.new (o := .tup [.str "worth", v8]) ht7
    have x9 := Ext.new (o := .lst [.ref t6, .ref t7]) hl9
    obtain ⟨_, _, _, hpp6, _⟩ := id hP6
    obtain ⟨_, _, _, hpp7, _⟩ := id hP7'
    have h86 := k78 _ _ n6 h66
    refine ⟨l6, l9, u6, [.ref t6, .ref t7], rfl, rfl, (x7.trans x9) _ _ h86, upd_same, szL (by rw [l65]; show 5 + 2 ≤ 1000000; decide), fun l10 hl10 => ?_⟩
    have x10 := Ext.new (o := .lst (u6 ++ [.ref t6, .ref t7])) hl10
    have k710 := x7.trans (x9.trans x10)
    have q10 : ∀ v ∈ u6 ++ [V.ref t6, .ref t7], LineAt (upd (upd (upd H8 t7 (.tup [.str "worth", v8])) l9 (.lst [.ref t6, .ref t7])) l10 (.lst (u6 ++ [.ref t6, .ref t7]))) v := by
      intro v hv
      rcases List.mem_append.mp hv with hv | hv
      · exact ((q6 v hv).kp k78 hpp6).ext k710
      · simp only [List.mem_cons, List.not_mem_nil, or_false] at hv
        rcases hv with rfl | rfl
        · refine ⟨t6, _, rfl, k710 _ _ (k8.tup hpp7 upd_same), by simp, by simp, fun u hu => ?_⟩
          simp only [List.mem_cons, List.not_mem_nil, or_false] at hu
          rcases hu with rfl | rfl
          · exact pl _ (by unfold LowC; decide +kernel) (by decide +kernel)
          · exact q2 _ hv7
        · refine ⟨t7, _, rfl, (x9.trans x10) _ _ upd_same, by simp, by simp, fun u hu => ?_⟩
          simp only [List.mem_cons, List.not_mem_nil, or_false] at hu
          rcases hu with rfl | rfl
          · exact pl _ (by unfold LowC; decide +kernel) (by decide +kernel)
          · exact q3 _ hv8
    have hP10 := hP8.ext k710
    have h10 : upd (upd (upd H8 t7 (.tup [.str "worth", v8])) l9 (.lst [.ref t6, .ref t7])) l10 (.lst (u6 ++ [.ref t6, .ref t7])) l10 = some (.lst (u6 ++ [.ref t6, .ref t7])) := upd_same
    have l107 : (u6 ++ [V.ref t6, .ref t7]).length = 7 := by rw [List.length_append, l65]; rfl
    have k10 := (k6.trans k78).trans (Kp.ext k710)
    have n10 : l10 ≠ p := (((hP8.new (o := .tup [.str "worth", v8]) ht7).new (o := .lst [.ref t6, .ref t7]) hl9).ne hl10).1
    generalize u6 ++ [V.ref t6, .ref t7] = u10 at q10 hP10 h10 l107 k10 ⊢
    generalize upd (upd (upd H8 t7 (.tup [.str "worth", v8])) l9 (.lst [.ref t6, .ref t7])) l10 (.lst u10) = H10 at q10 hP10 h10 k10 ⊢
    refine ⟨_, rfl, _, rfl, p, c, 7, _, rfl, hP10, by omega, by decide, by decide, fun e11 H11 e110 e111 k11 hP11 => ?_⟩
    obtain ⟨v11, hv11, hat11⟩ := atI_mem (xs := u10) e110 (by omega)
    obtain ⟨_, _, _, hpp10, _⟩ := id hP10
    exact ⟨l10, _, e11, v11, rfl, rfl, SqL.of (k11 _ _ n10 h10), hat11, q _ _ ((q10 _ hv11).kp k11 hpp10) (k10.trans k11) (hP11.mono (by omega))⟩
abbrev CLn84 (P : Program) (w : World) (K : PySem.W.Frag) (mg : Str → Option Value) (base : Heap) : Prop := Ca P w K mg base 2 "_law_line" ["_law_pen_here"] spLn
abbrev s_law_odd : Stmt := topS 23
theorem sc_law_odd : FnScope ["_law_pen_here", "_law_one", "_law_some"] ["_law_pen_here", "_law_one"] (defScope s_law_odd) :=
  ⟨rfl, rfl, rfl, by decide +kernel, rfl, by decide +kernel, by decide +kernel⟩
def spOd : Sp := fun vs H Q _ => ∃ (p c D : Addr) (o : V) (n : Nat) (zs : List V), vs = [.ref p, o] ∧ PartV o ∧ D ≠ p ∧ H D = some (.lst zs) ∧ Pen H p c n ∧ n + 10 < 1000000 ∧ ∀ v H', Dm 201 1 p D H' v → Kp p H H' → Pen H' p c (n + 1) → Q v H'
theorem ok_od {f : Addr} {fd : FuncData} (F : Fun K "_law_odd" "_law_odd" s_law_odd f fd) (c_law_take : CDraw P w K mg base) (mstr : mg "str" = none) : FnOk P w K mg base CX0 2 f fd ["_law_pen_here", "_law_one"] spOd := by
  refine F.ok sc_law_odd (fun vs H Q E h => ?_) (fun cdv A outer s H vs Q E hr h => ?_)
  · obtain ⟨p, c, D, o, n, zs, rfl, _⟩ := h
    rfl
  · obtain ⟨p, c, D, o, n, zs, rfl, ho, nD, hD, hP, hn, q⟩ := h
    refine ⟨_, (pss_cons (ps_set (i := 2) sc_law_odd.nd rfl (.inl rfl) (pe_lst (pa_cons pe_non (pa_cons pe_bl (pa_cons pe_bl (pa_cons (pe_un un_neg pe_int) (pa_cons pe_int (pa_cons pe_int (pa_cons pe_int (pa_cons (pe_op op_pow pe_int pe_int) (pa_cons pe_str (pa_cons pe_str (pa_cons pe_str (pa_cons pe_str (pa_cons (pe_op op_repX pe_str pe_int) (pa_cons (pe_op op_repX pe_str pe_int) (pa_cons pe_str (pa_cons pe_str (pa_cons pe_str pa_nil)))))))))))))))))))
      (pss_cons (ps_set (i := 2) sc_law_odd.nd rfl (.inl rfl) (pe_op op_cat (pv 2) (pe_lst (pa_cons pe_str (pa_cons pe_str (pa_cons pe_str (pa_cons pe_str (pa_cons pe_str (pa_cons pe_str (pa_cons pe_str (pa_cons pe_str (pa_cons (pe_lst pa_nil) (pa_cons (pe_tup pa_nil) (pa_cons pe_dnewK (pa_cons (pe_lst (pa_cons (pv 1) pa_nil)) (pa_cons (pe_tup (pa_cons (pv 1) pa_nil)) pa_nil))))))))))))))))
      (pss_one (ps_ret (pe_ix (ixL K) (pe_op op_cat (pv 2) (pe_lst (pa_cons (pe_callTy strE (by rfl) mstr (by decide +kernel) (pa_cons (pv 1) pa_nil)) (pa_cons pe_str (pa_cons pe_str pa_nil))))) (pe_ca c_law_take (hr.mono (by decide)) (by rfl) (pa_cons (pv 0) (pa_cons pe_int pa_nil))) (fun _ _ => rfl)))))), ?_⟩
    refine ⟨1, rfl, 10, 60, rfl, rfl, ⟨by decide, by decide, by decide⟩, "z", 41, rfl, rfl, by decide, by decide, by decide +kernel, fun w1 w1l w1c => ⟨"(", 41, rfl, rfl, by decide, by decide, by decide +kernel, fun w2 w2l w2c => ⟨szL (show 17 ≤ 1000000 by decide), fun l1 hl1 => ?_⟩⟩⟩
    have w1l : w1.length = 41 := w1l.trans (by decide +kernel)
    have w2l : w2.length = 41 := w2l.trans (by decide +kernel)
    have lz : LowC "z" := by unfold LowC; decide +kernel
    have lb : LowC "(" := by unfold LowC; decide +kernel
    have n1 := (hP.ne hl1).1
    have S0 : ∀ {H' : Hp} (z : Str), LowC z → z.length ≤ 50 → Dm 201 1 p D H' (.str z) := fun z h1 h2 => (Dm.str h1 h2).le (by decide) (by decide)
    have I0 : ∀ {H' : Hp} (z : Int), z.natAbs < 2 ^ 200 → Dm 201 1 p D H' (.int z) := fun z h => (Dm.int h).le (by decide) (by decide)
    obtain ⟨us1, hus1⟩ : ∃ us1, us1 = [V.non, .bl true, .bl false, .int (-1), .int 0, .int 99, .int 100, .int (10 ^ (60 : Int).toNat), .str "", .str "a", .str "A", .str "ab", .str w1, .str w2, .str "a b", .str "[]", .str "\n"] := ⟨_, rfl⟩
    rw [← hus1]
    have q1 : ∀ {H' : Hp}, ∀ v ∈ us1, Dm 201 1 p D H' v := by
      intro H' v hv
      rw [hus1] at hv
      simp only [List.mem_cons, List.not_mem_nil, or_false] at hv
      rcases hv with rfl | rfl | rfl | rfl | rfl | rfl | rfl | rfl | rfl | rfl | rfl | rfl | rfl | rfl | rfl | rfl | rfl
      · exact Dm.non.le (by decide) (by decide)
      · exact (Dm.bl _).le (by decide) (by decide)
      · exact (Dm.bl _).le (by decide) (by decide)
      · exact I0 _ (by decide)
      · exact I0 _ (by decide)
      · exact I0 _ (by decide)
      · exact I0 _ (by decide)
      · exact I0 _ (by decide +kernel)
      · exact S0 _ (by unfold LowC; decide +kernel) (by decide +kernel)
      · exact S0 _ (by unfold LowC; decide +kernel) (by decide +kernel)
      · exact S0 _ (by unfold LowC; decide +kernel) (by decide +kernel)
      · exact S0 _ (by unfold LowC; decide +kernel) (by decide +kernel)
      · exact S0 _ (fun c hc => lz c (w1c c hc)) (by omega)
      · exact S0 _ (fun c hc => lb c (w2c c hc)) (by omega)
      · exact S0 _ (by unfold LowC; decide +kernel) (by decide +kernel)
      · exact S0 _ (by unfold LowC; decide +kernel) (by decide +kernel)
      · exact S0 _ (by unfold LowC; decide +kernel) (by decide +kernel)
    have l17 : us1.length = 17 := by rw [hus1]; rfl
    clear hus1
    have x1 := Ext.new (o := .lst us1) hl1
    have h1 : upd H l1 (.lst us1) l1 = some (.lst us1) := upd_same
    have hP1 := hP.new (o := .lst us1) hl1
    have hD1 := x1 _ _ hD
    have k1 : Kp p H (upd H l1 (.lst us1)) := Kp.new hl1
    generalize upd H l1 (.lst us1) = H1 at h1 hP1 k1 hD1 ⊢
    clear x1 hl1
    refine ⟨_, rfl, Nat.zero_le _, fun la hla => ⟨Nat.zero_le _, fun ta hta => fun da hda => ⟨_, rfl, szL (show 1 ≤ 1000000 by decide), fun lb' hlb => ⟨_, rfl, szL (show 1 ≤ 1000000 by decide), fun tb htb => ⟨szL (show 13 ≤ 1000000 by decide), fun l2 hl2 => ?_⟩⟩⟩⟩⟩
    obtain ⟨us2, hus2⟩ : ∃ us2, us2 = [V.str "least", .str "string", .str "worth", .str "has", .str "within", .str "letter", .str "Count", .str "counts", .ref la, .ref ta, .ref da, .ref lb', .ref tb] := ⟨_, rfl⟩
    rw [← hus2]
    have a1 := Ext.new (o := .lst []) hla
    have a2 := Ext.new (o := .tup []) hta
    have a3 := Ext.new (o := .dK []) hda
    have a4 := Ext.new (o := .lst [o]) hlb
    have a5 := Ext.new (o := .tup [o]) htb
    have a6 := Ext.new (o := .lst us2) hl2
    have mla : la ≠ D := fun z => by
      rw [z, hD1] at hla
      cases hla
    have mta : ta ≠ D := fun z => by
      rw [z, a1 _ _ hD1] at hta
      cases hta
    have mda : da ≠ D := fun z => by
      rw [z, (a1.trans a2) _ _ hD1] at hda
      cases hda
    have mlb : lb' ≠ D := fun z => by
      rw [z, (a1.trans (a2.trans a3)) _ _ hD1] at hlb
      cases hlb
    have mtb : tb ≠ D := fun z => by
      rw [z, (a1.trans (a2.trans (a3.trans a4))) _ _ hD1] at htb
      cases htb
    have nla := (hP1.ne hla).1
    have hPa := hP1.new (o := .lst []) hla
    have hPb := hPa.new (o := .tup []) hta
    have nda := (hPb.ne hda).1
    have nta := (hPa.ne hta).1
    have hPc := hPb.new (o := .dK []) hda
    have nlb := (hPc.ne hlb).1
    have hPd := hPc.new (o := .lst [o]) hlb
    have ntb := (hPd.ne htb).1
    have hPe := hPd.new (o := .tup [o]) htb
    have nl2 := (hPe.ne hl2).1
    have b1 := (a2.trans (a3.trans (a4.trans (a5.trans a6)))) la _ upd_same
    have b2 := (a3.trans (a4.trans (a5.trans a6))) ta _ upd_same
    have b3 := (a4.trans (a5.trans a6)) da _ upd_same
    have b4 := (a5.trans a6) lb' _ upd_same
    have b5 := a6 tb _ upd_same
    have k12 := a1.trans (a2.trans (a3.trans (a4.trans (a5.trans a6))))
    have b6 : upd (upd (upd (upd (upd (upd H1 la (.lst [])) ta (.tup [])) da (.dK [])) lb' (.lst [o])) tb (.tup [o])) l2 (.lst us2) l2 = some (.lst us2) := upd_same
    have hPf := hPe.new (o := .lst us2) hl2
    generalize upd (upd (upd (upd (upd (upd H1 la (.lst [])) ta (.tup [])) da (.dK [])) lb' (.lst [o])) tb (.tup [o])) l2 (.lst us2) = H2 at b1 b2 b3 b4 b5 b6 k12 hPf ⊢
    have q2 : ∀ v ∈ us2, Dm 201 1 p D H2 v := by
      intro v hv
      rw [hus2] at hv
      simp only [List.mem_cons, List.not_mem_nil, or_false] at hv
      rcases hv with rfl | rfl | rfl | rfl | rfl | rfl | rfl | rfl | rfl | rfl | rfl | rfl | rfl
      · exact S0 _ (by unfold LowC; decide +kernel) (by decide +kernel)
      · exact S0 _ (by unfold LowC; decide +kernel) (by decide +kernel)
      · exact S0 _ (by unfold LowC; decide +kernel) (by decide +kernel)
      · exact S0 _ (by unfold LowC; decide +kernel) (by decide +kernel)
      · exact S0 _ (by unfold LowC; decide +kernel) (by decide +kernel)
      · exact S0 _ (by unfold LowC; decide +kernel) (by decide +kernel)
      · exact S0 _ (by unfold LowC; decide +kernel) (by decide +kernel)
      · exact S0 _ (by unfold LowC; decide +kernel) (by decide +kernel)
      · exact (Dm.lst (n := 0) (m := 0) (k := 0) (M := 0) b1 nla mla (fun u h => by cases h) (Nat.le_refl _) (by decide)).le (by decide) (by decide)
      · exact (Dm.tup (n := 0) (m := 0) (k := 0) (M := 0) b2 nta mta (fun u h => by cases h) (Nat.le_refl _) (by decide)).le (by decide) (by decide)
      · exact (Dm.emp b3 nda mda).le (by decide) (by decide)
      · exact Dm.lst (n := 1) (m := 200) (k := 0) b4 nlb mlb (fun u h => by rw [List.mem_singleton.mp h]; exact ho.dm) (Nat.le_refl _) (by decide)
      · exact Dm.tup (n := 1) (m := 200) (k := 0) b5 ntb mtb (fun u h => by rw [List.mem_singleton.mp h]; exact ho.dm) (Nat.le_refl _) (by decide)
    have l13 : us2.length = 13 := by rw [hus2]; rfl
    have h12 := k12 _ _ h1
    have k2 := k1.trans (Kp.ext k12)
    clear hus2 a1 a2 a3 a4 a5 a6 b1 b2 b3 b4 b5 hPa hPb hPc hPd hPe k12 hla hta hda hlb htb hl2 hP1 h1 k1
    refine ⟨l1, l2, us1, us2, rfl, rfl, h12, b6, szL (by omega), fun l3 hl3 => ?_⟩
    have c1 := Ext.new (o := .lst (us1 ++ us2)) hl3
    have n3 := (hPf.ne hl3).1
    have hPg := hPf.new (o := .lst (us1 ++ us2)) hl3
    have q3 : ∀ v ∈ us1 ++ us2, Dm 201 1 p D (upd H2 l3 (.lst (us1 ++ us2))) v := fun v hv => ((List.mem_append.mp hv).elim (q1 v) (q2 v)).kp (Kp.new hl3)
    have h3 : upd H2 l3 (.lst (us1 ++ us2)) l3 = some (.lst (us1 ++ us2)) := upd_same
    have l30 : (us1 ++ us2).length = 30 := by rw [List.length_append, l17, l13]
    have k3 : Kp p H (upd H2 l3 (.lst (us1 ++ us2))) := k2.trans (Kp.new hl3)
    generalize us1 ++ us2 = us3 at hPg q3 h3 l30 k3 ⊢
    generalize upd H2 l3 (.lst us3) = H3 at hPg q3 h3 k3 ⊢
    obtain ⟨pa, hpa, hpl, hpn⟩ := ho.is
    refine ⟨_, rfl, _, rfl, o, pa, rfl, hpa, szL (show 3 ≤ 1000000 by decide), fun l4 hl4 => ?_⟩
    have d1 := Ext.new (o := .lst [.str pa, .str "()", .str ".."]) hl4
    refine ⟨l3, l4, us3, _, rfl, rfl, d1 _ _ h3, upd_same, szL (by rw [l30]; show 30 + 3 ≤ 1000000; decide), fun l5 hl5 => ?_⟩
    have d2 := Ext.new (o := .lst (us3 ++ [.str pa, .str "()", .str ".."])) hl5
    have q5 : ∀ v ∈ us3 ++ [V.str pa, .str "()", .str ".."], Dm 201 1 p D (upd (upd H3 l4 (.lst [.str pa, .str "()", .str ".."])) l5 (.lst (us3 ++ [.str pa, .str "()", .str ".."]))) v := by
      intro v hv
      rcases List.mem_append.mp hv with hv | hv
      · exact (q3 v hv).kp ((Kp.new hl4).trans (Kp.new hl5))
      · simp only [List.mem_cons, List.not_mem_nil, or_false] at hv
        rcases hv with rfl | rfl | rfl
        · exact S0 _ hpl hpn
        · exact S0 _ (by unfold LowC; decide +kernel) (by decide +kernel)
        · exact S0 _ (by unfold LowC; decide +kernel) (by decide +kernel)
    have hP5 := (hPg.new (o := .lst [.str pa, .str "()", .str ".."]) hl4).new (o := .lst (us3 ++ [.str pa, .str "()", .str ".."])) hl5
    have n5 := ((hPg.new (o := .lst [.str pa, .str "()", .str ".."]) hl4).ne hl5).1
    have h5 : upd (upd H3 l4 (.lst [.str pa, .str "()", .str ".."])) l5 (.lst (us3 ++ [.str pa, .str "()", .str ".."])) l5 = some (.lst (us3 ++ [.str pa, .str "()", .str ".."])) := upd_same
    have l33 : (us3 ++ [V.str pa, .str "()", .str ".."]).length = 33 := by rw [List.length_append, l30]; rfl
    have k5 : Kp p H (upd (upd H3 l4 (.lst [.str pa, .str "()", .str ".."])) l5 (.lst (us3 ++ [.str pa, .str "()", .str ".."]))) := (k3.trans (Kp.new hl4)).trans (Kp.new hl5)
    generalize us3 ++ [V.str pa, .str "()", .str ".."] = us5 at q5 hP5 h5 l33 k5 ⊢
    generalize upd (upd H3 l4 (.lst [.str pa, .str "()", .str ".."])) l5 (.lst us5) = H5 at q5 hP5 h5 k5 ⊢
    refine ⟨_, rfl, p, c, 33, _, rfl, hP5, by omega, by decide, by decide, fun e6 H6 e60 e61 k6 hP6 => ?_⟩
    obtain ⟨v6, hv6, hat6⟩ := atI_mem (xs := us5) e60 (by omega)
    exact ⟨l5, _, e6, v6, rfl, rfl, SqL.of (k6 _ _ n5 h5), hat6, q _ _ ((q5 _ hv6).kp k6) (k5.trans k6) hP6⟩
abbrev COd (P : Program) (w : World) (K : PySem.W.Frag) (mg : Str → Option Value) (base : Heap) : Prop := Ca P w K mg base 2 "_law_odd" ["_law_pen_here", "_law_one"] spOd
end
end Pf


namespace Pf
open PySem PySem.Spec PyProof.Rows L2
theorem Dm.tupP {m k n M c : Nat} {p c' D : Addr} {H : Hp} {a : Addr} {us zs : List V} (hP : Pen H p c' c) (hD : H D = some (.lst zs)) (h : H a = some (.tup us)) (hu : ∀ u ∈ us, Dm m k p D H u) (hn : us.length ≤ n) (hM : n * (m + 1) ≤ M) : Dm M (k + 1) p D H (.ref a) := Dm.tup h (hP.tup h) (ne_of h hD (by intro z; cases z)) hu hn hM
theorem cutV_to (xs : List V) (k : Nat) : (cutV xs none (some (k : Int))).length ≤ k := by
  unfold cutV
  rw [List.length_take, List.length_drop]
  have h1 : HT.sIx xs.length xs.length (some (k : Int)) = min k xs.length := HT.sIx_nat _ _ _
  have h3 : HT.sIx xs.length 0 none = 0 := rfl
  rw [h1, h3]
  omega
theorem mem_rep {α : Type} {k : Nat} {xs : List α} {u : α} (h : u ∈ (List.replicate k xs).flatten) : u ∈ xs := by
  obtain ⟨l, hl, hu⟩ := List.mem_flatten.mp h
  rw [(List.mem_replicate.mp hl).2] at hu
  exact hu
theorem len_rep {α : Type} (k : Nat) (xs : List α) : (List.replicate k xs).flatten.length = k * xs.length := by
  rw [List.length_flatten, List.map_replicate, List.sum_replicate_nat]
theorem cut_sum (xs : List V) (a : Int) : (cutV xs none (some a)).length + 1 + (cutV xs (some (a + 1)) none).length ≤ 4 ∨ 3 < xs.length ∨ a < 0 ∨ (xs.length : Int) ≤ a := by
  by_cases h0 : a < 0
  · exact .inr (.inr (.inl h0))
  by_cases h1 : (xs.length : Int) ≤ a
  · exact .inr (.inr (.inr h1))
  by_cases h3 : 3 < xs.length
  · exact .inr (.inl h3)
  refine .inl ?_
  have e : a = ((a.toNat : Nat) : Int) := by omega
  have e1 : a + 1 = ((a.toNat + 1 : Nat) : Int) := by omega
  have c1 := cutV_to xs a.toNat
  rw [e1, cut_from, List.length_drop]
  rw [e]
  omega
section
variable {P : Program} {w : World} {K : PySem.W.Frag} {mg : Str → Option Value} {base : Heap}
abbrev s_law_bent : Stmt := topS 24
theorem sc_law_bent : FnScope ["_law_pen_here", "_law_lines", "_law_way", "_law_some", "_law_at", "_law_line_here", "_law_spot", "_law_bent_here"] ["_law_pen_here", "_law_lines"] (defScope s_law_bent) :=
  ⟨rfl, rfl, rfl, by decide +kernel, rfl, by decide +kernel, by decide +kernel⟩
def ProgAt (H : Hp) (a : Addr) (us : List V) : Prop := H a = some (.tup us) ∧ us.length ≤ 21 ∧ ∀ u ∈ us, LineAt H u
theorem ProgAt.kp {p a : Addr} {us ys : List V} {H H' : Hp} (h : ProgAt H a us) (k : Kp p H H') (hp : H p = some (.lst ys)) : ProgAt H' a us := ⟨k.tup hp h.1, h.2.1, fun u hu => (h.2.2 u hu).kp k hp⟩
theorem ProgAt.ext {a : Addr} {us : List V} {H H' : Hp} (h : ProgAt H a us) (k : Ext H H') : ProgAt H' a us := ⟨k _ _ h.1, h.2.1, fun u hu => (h.2.2 u hu).ext k⟩
def spBt : Sp := fun vs H Q _ => ∃ (p c D : Addr) (a : Addr) (us zs : List V) (n : Nat), vs = [.ref p, .ref a] ∧ D ≠ p ∧ H D = some (.lst zs) ∧ ProgAt H a us ∧ Pen H p c n ∧ n + 30 < 1000000 ∧ ∀ v H', Dm 43100 3 p D H' v → Kp p H H' → Pen H' p c (n + 10) → Q v H'
theorem ok_bt {f : Addr} {fd : FuncData} (F : Fun K "_law_bent" "_law_bent" s_law_bent f fd) (c_law_take : CDraw P w K mg base) (c_law_odd : COd P w K mg base) (mlen : mg "len" = none) (mlist : mg "list" = none) : FnOk P w K mg base CX0 3 f fd ["_law_pen_here", "_law_lines"] spBt := by
  refine F.ok sc_law_bent (fun vs H Q E h => ?_) (fun cdv A outer s H vs Q E hr h => ?_)
  · obtain ⟨p, c, D, a, us, zs, n, rfl, _⟩ := h
    rfl
  · obtain ⟨p, c, D, al, us, zs, n, rfl, nD, hD, hG, hP, hn, q⟩ := h
    refine ⟨_, (pss_cons (ps_set (i := 2) sc_law_bent.nd rfl (.inl rfl) (pe_ca c_law_take (hr.mono (by decide)) (by rfl) (pa_cons (pv 0) (pa_cons pe_int pa_nil))))
      (pss_cons (ps_if (PW.pt (pw_or (pt_cmpR (eqT0 K hr.units) (pv 1) (pe_tup pa_nil) (nomark _)) (pw_or1 (pt_cmpR op_eq (pv 2) pe_int (nomark _))))) (pss_cons (ps_set (i := 3) sc_law_bent.nd rfl (.inl rfl) (pe_lst (pa_cons pe_non (pa_cons pe_bl (pa_cons pe_int (pa_cons pe_str (pa_cons pe_str (pa_cons (pe_tup pa_nil) (pa_cons (pe_lst pa_nil) (pa_cons pe_dnewK (pa_cons (pe_tup (pa_cons pe_str pa_nil)) (pa_cons (pe_tup (pa_cons (pe_tup (pa_cons pe_str pa_nil)) (pa_cons pe_non pa_nil))) (pa_cons (pe_lst (pa_cons (pe_tup (pa_cons pe_str pa_nil)) pa_nil)) (pa_cons (pe_tup (pa_cons (pe_tup pa_nil) pa_nil)) pa_nil))))))))))))))
      (pss_one (ps_ret (pe_ix (ixL K) (pv 3) (pe_ca c_law_take (hr.mono (by decide)) (by rfl) (pa_cons (pv 0) (pa_cons pe_int pa_nil))) (fun _ _ => rfl))))) pss_nil)
      (pss_cons (ps_set (i := 4) sc_law_bent.nd rfl (.inl rfl) (pe_ca c_law_take (hr.mono (by decide)) (by rfl) (pa_cons (pv 0) (pa_cons (pe_callB (lenQ K) (by rfl) mlen (by decide +kernel) (pa_cons (pv 1) pa_nil)) pa_nil))))
      (pss_cons (ps_set (i := 5) sc_law_bent.nd rfl (.inl rfl) (pe_ix (ixT K) (pv 1) (pv 4) (fun _ _ => rfl)))
      (pss_cons (ps_set (i := 6) sc_law_bent.nd rfl (.inl rfl) (pe_ca c_law_take (hr.mono (by decide)) (by rfl) (pa_cons (pv 0) (pa_cons (pe_callB (lenQ K) (by rfl) mlen (by decide +kernel) (pa_cons (pv 5) pa_nil)) pa_nil))))
      (pss_cons (ps_if (pt_cmpR op_lt (pv 2) pe_int (nomark _)) (pss_cons (ps_set (i := 7) sc_law_bent.nd rfl (.inl rfl) (pe_op (catN K) (pe_op (catN K) (pe_slice (slN K) (pv 5) po_none (po_some (pv 6))) (pe_tup (pa_cons (pe_ca c_law_odd (hr.mono (by decide)) (by rfl) (pa_cons (pv 0) (pa_cons (pe_ix (ixT K) (pv 5) (pv 6) (fun _ _ => rfl)) pa_nil))) pa_nil))) (pe_slice (slN K) (pv 5) (po_some (pe_op op_add (pv 6) pe_int)) po_none)))
      (pss_one (ps_ret (pe_op (catN K) (pe_op (catN K) (pe_slice (slN K) (pv 1) po_none (po_some (pv 4))) (pe_tup (pa_cons (pv 7) pa_nil))) (pe_slice (slN K) (pv 1) (po_some (pe_op op_add (pv 4) pe_int)) po_none))))) pss_nil)
      (pss_cons (ps_if (pt_cmpR op_eq (pv 2) pe_int (nomark _)) (pss_cons (ps_set (i := 3) sc_law_bent.nd rfl (.inl rfl) (pe_lst (pa_cons (pe_slice (slN K) (pv 5) po_none (po_some (pe_un un_neg pe_int))) (pa_cons (pe_op (catN K) (pv 5) (pe_tup (pa_cons pe_int pa_nil))) (pa_cons (pe_callTy (listOf K) (by rfl) mlist (by decide +kernel) (pa_cons (pv 5) pa_nil)) (pa_cons (pe_ix (ixT K) (pv 5) pe_int (fun _ _ => rfl)) (pa_cons pe_non (pa_cons (pe_tup (pa_cons (pv 5) pa_nil)) (pa_cons (pe_revT (pv 5)) (pa_cons (pe_op (catN K) (pv 5) (pe_tup (pa_cons pe_str pa_nil))) pa_nil))))))))))
      (pss_cons (ps_set (i := 7) sc_law_bent.nd rfl (.inl rfl) (pe_ix (ixL K) (pv 3) (pe_ca c_law_take (hr.mono (by decide)) (by rfl) (pa_cons (pv 0) (pa_cons pe_int pa_nil))) (fun _ _ => rfl)))
      (pss_one (ps_ret (pe_op (catN K) (pe_op (catN K) (pe_slice (slN K) (pv 1) po_none (po_some (pv 4))) (pe_tup (pa_cons (pv 7) pa_nil))) (pe_slice (slN K) (pv 1) (po_some (pe_op op_add (pv 4) pe_int)) po_none)))))) pss_nil)
      (pss_cons (ps_if (pt_cmpR op_eq (pv 2) pe_int (nomark _)) (pss_one (ps_ret (pe_ix (ixL K) (pe_lst (pa_cons (pe_op (repT K) (pv 1) pe_int) (pa_cons (pe_op (catN K) (pe_slice (slN K) (pv 1) po_none (po_some (pv 4))) (pe_slice (slN K) (pv 1) (po_some (pe_op op_add (pv 4) pe_int)) po_none)) (pa_cons (pe_op (catN K) (pe_slice (slN K) (pv 1) po_none (po_some (pe_op op_add (pv 4) pe_int))) (pe_slice (slN K) (pv 1) (po_some (pv 4)) po_none)) (pa_cons (pe_callTy (listOf K) (by rfl) mlist (by decide +kernel) (pa_cons (pv 1) pa_nil)) pa_nil))))) (pe_ca c_law_take (hr.mono (by decide)) (by rfl) (pa_cons (pv 0) (pa_cons pe_int pa_nil))) (fun _ _ => rfl)))) pss_nil)
      (pss_one (ps_ret (pe_ix (ixL K) (pe_lst (pa_cons (pe_slice (slN K) (pe_op (repT K) (pv 1) pe_int) po_none (po_some pe_int)) (pa_cons (pe_slice (slN K) (pe_op (repT K) (pv 1) pe_int) po_none (po_some pe_int)) (pa_cons (pe_tup (pa_cons (pv 1) pa_nil)) pa_nil)))) (pe_ca c_law_take (hr.mono (by decide)) (by rfl) (pa_cons (pv 0) (pa_cons pe_int pa_nil))) (fun _ _ => rfl)))))))))))), ?_⟩
    have S0 : ∀ {H' : Hp} (z : Str), LowC z → z.length ≤ 50 → Dm 1000 2 p D H' (.str z) := fun z h1 h2 => (Dm.str h1 h2).le (by decide) (by decide)
    have pl : ∀ z : Str, LowC z → z.length ≤ 50 → PartV (.str z) := fun z h1 h2 => .inl ⟨z, rfl, h1, h2⟩
    obtain ⟨_, _, _, hpp, _⟩ := id hP
    refine ⟨_, rfl, p, c, 8, n, rfl, hP, by omega, by decide, by decide, fun way H1 w0 w1 k1 hP1 => ?_⟩
    have hG1 := hG.kp k1 hpp
    refine ⟨_, rfl, Nat.zero_le _, fun t0 ht0 => ⟨al, t0, us, rfl, rfl, SqT.of (Ext.new ht0 _ _ hG1.1), SqT.of upd_same, us.isEmpty, rfl, ?_⟩⟩
    have hP2 := hP1.new (o := .tup []) ht0
    have hG2 := hG1.ext (Ext.new (o := .tup []) ht0)
    have k2 : Kp p H (upd H1 t0 (.tup [])) := k1.trans (Kp.new ht0)
    generalize upd H1 t0 (.tup []) = H2 at hP2 hG2 k2 ⊢
    clear hP1 hG1 k1 ht0
    by_cases hem : us.isEmpty = true
    · rw [hem]
      refine iteT ?_
      refine ⟨Nat.zero_le _, fun t1 ht1 => ⟨Nat.zero_le _, fun l1 hl1 => fun d1 hd1 => ⟨szL (show 1 ≤ 1000000 by decide), fun t2 ht2 => ⟨szL (show 1 ≤ 1000000 by decide), fun t3 ht3 => ⟨szL (show 2 ≤ 1000000 by decide), fun t4 ht4 => ⟨szL (show 1 ≤ 1000000 by decide), fun t5 ht5 => ⟨szL (show 1 ≤ 1000000 by decide), fun l2 hl2 => ⟨Nat.zero_le _, fun t6 ht6 => ⟨szL (show 1 ≤ 1000000 by decide), fun t7 ht7 => ⟨szL (show 12 ≤ 1000000 by decide), fun l3 hl3 => ?_⟩⟩⟩⟩⟩⟩⟩⟩⟩⟩
      have g1 := hP2.new (o := .tup []) ht1
      have n1 := (g1.ne hl1).1
      have g2 := g1.new (o := .lst []) hl1
      have nd := (g2.ne hd1).1
      have g3 := g2.new (o := .dK []) hd1
      have g4 := g3.new (o := .tup [.str "least"]) ht2
      have g5 := g4.new (o := .tup [.str "least"]) ht3
      have g6 := g5.new (o := .tup [.ref t3, .non]) ht4
      have g7 := g6.new (o := .tup [.str "least"]) ht5
      have n2 := (g7.ne hl2).1
      have g8 := g7.new (o := .lst [.ref t5]) hl2
      have g9 := g8.new (o := .tup []) ht6
      have g10 := g9.new (o := .tup [.ref t6]) ht7
      have n3 := (g10.ne hl3).1
      obtain ⟨us3, hus3⟩ : ∃ us3, us3 = [V.non, .bl true, .int 0, .str "", .str "least", .ref t1, .ref l1, .ref d1, .ref t2, .ref t4, .ref l2, .ref t7] := ⟨_, rfl⟩
      rw [← hus3]
      have g11 := g10.new (o := .lst us3) hl3
      have e1 := Ext.new (o := .tup []) ht1
      have e2 := Ext.new (o := .lst []) hl1
      have e3 := Ext.new (o := .dK []) hd1
      have e4 := Ext.new (o := .tup [.str "least"]) ht2
      have e5 := Ext.new (o := .tup [.str "least"]) ht3
      have e6 := Ext.new (o := .tup [.ref t3, .non]) ht4
      have e7 := Ext.new (o := .tup [.str "least"]) ht5
      have e8 := Ext.new (o := .lst [.ref t5]) hl2
      have e9 := Ext.new (o := .tup []) ht6
      have e10 := Ext.new (o := .tup [.ref t6]) ht7
      have e11 := Ext.new (o := .lst us3) hl3
      have f10 := e10.trans e11
      have f9 := e9.trans f10
      have f8 := e8.trans f9
      have f7 := e7.trans f8
      have f6 := e6.trans f7
      have f5 := e5.trans f6
      have f4 := e4.trans f5
      have f3 := e3.trans f4
      have f2 := e2.trans f3
      have f1 := e1.trans f2
      have hD2 := k2 _ _ nD hD
      have m1 : l1 ≠ D := fun z => by
        rw [z, e1 _ _ hD2] at hl1
        cases hl1
      have md : d1 ≠ D := fun z => by
        rw [z, (e1.trans e2) _ _ hD2] at hd1
        cases hd1
      have m2 : l2 ≠ D := fun z => by
        rw [z, (e1.trans (e2.trans (e3.trans (e4.trans (e5.trans (e6.trans e7)))))) _ _ hD2] at hl2
        cases hl2
      have hD3 := f1 _ _ hD2
      have o1 := f2 t1 _ upd_same
      have o2 := f3 l1 _ upd_same
      have o3 := f4 d1 _ upd_same
      have o4 := f5 t2 _ upd_same
      have o5 := f6 t3 _ upd_same
      have o6 := f7 t4 _ upd_same
      have o7 := f8 t5 _ upd_same
      have o8 := f9 l2 _ upd_same
      have o9 := f10 t6 _ upd_same
      have o10 := e11 t7 _ upd_same
      have o11 : upd (upd (upd (upd (upd (upd (upd (upd (upd (upd (upd H2 t1 (.tup [])) l1 (.lst [])) d1 (.dK [])) t2 (.tup [.str "least"])) t3 (.tup [.str "least"])) t4 (.tup [.ref t3, .non])) t5 (.tup [.str "least"])) l2 (.lst [.ref t5])) t6 (.tup [])) t7 (.tup [.ref t6])) l3 (.lst us3) l3 = some (.lst us3) := upd_same
      generalize upd (upd (upd (upd (upd (upd (upd (upd (upd (upd (upd H2 t1 (.tup [])) l1 (.lst [])) d1 (.dK [])) t2 (.tup [.str "least"])) t3 (.tup [.str "least"])) t4 (.tup [.ref t3, .non])) t5 (.tup [.str "least"])) l2 (.lst [.ref t5])) t6 (.tup [])) t7 (.tup [.ref t6])) l3 (.lst us3) = H3 at f1 o1 o2 o3 o4 o5 o6 o7 o8 o9 o10 o11 g11 hD3 ⊢
      have ll : LowC "least" := by unfold LowC; decide +kernel
      have ls : ("least" : Str).length ≤ 50 := by decide +kernel
      have one : ∀ t, H3 t = some (.tup [.str "least"]) → Dm 51 1 p D H3 (.ref t) := fun t h => Dm.tupP (n := 1) (m := 50) (k := 0) g11 hD3 h (fun u hu => by rw [List.mem_singleton.mp hu]; exact Dm.str ll ls) (Nat.le_refl _) (by decide)
      have z0 : ∀ t, H3 t = some (.tup []) → Dm 0 1 p D H3 (.ref t) := fun t h => Dm.tupP (n := 0) (m := 0) (k := 0) g11 hD3 h (fun u hu => by cases hu) (Nat.le_refl _) (by decide)
      have q3 : ∀ v ∈ us3, Dm 1000 2 p D H3 v := by
        intro v hv
        rw [hus3] at hv
        simp only [List.mem_cons, List.not_mem_nil, or_false] at hv
        rcases hv with rfl | rfl | rfl | rfl | rfl | rfl | rfl | rfl | rfl | rfl | rfl | rfl
        · exact Dm.non.le (by decide) (by decide)
        · exact (Dm.bl _).le (by decide) (by decide)
        · exact (Dm.int (by decide)).le (by decide) (by decide)
        · exact S0 _ (by unfold LowC; decide +kernel) (by decide +kernel)
        · exact S0 _ ll ls
        · exact (z0 _ o1).le (by decide) (by decide)
        · exact (Dm.lst (n := 0) (m := 0) (k := 0) (M := 0) o2 n1 m1 (fun u h => by cases h) (Nat.le_refl _) (by decide)).le (by decide) (by decide)
        · exact (Dm.emp o3 nd md).le (by decide) (by decide)
        · exact (one _ o4).le (by decide) (by decide)
        · exact (Dm.tupP (n := 2) (m := 51) (k := 1) (M := 104) g11 hD3 o6 (fun u hu => by
            simp only [List.mem_cons, List.not_mem_nil, or_false] at hu
            rcases hu with rfl | rfl
            · exact one _ o5
            · exact Dm.non.le (by decide) (by decide)) (Nat.le_refl _) (by decide)).le (by decide) (by decide)
        · exact (Dm.lst (n := 1) (m := 51) (k := 1) (M := 52) o8 n2 m2 (fun u hu => by rw [List.mem_singleton.mp hu]; exact one _ o7) (Nat.le_refl _) (by decide)).le (by decide) (by decide)
        · exact (Dm.tupP (n := 1) (m := 0) (k := 1) (M := 1) g11 hD3 o10 (fun u hu => by rw [List.mem_singleton.mp hu]; exact z0 _ o9) (Nat.le_refl _) (by decide)).le (by decide) (by decide)
      have l12 : us3.length = 12 := by rw [hus3]; rfl
      refine ⟨_, rfl, _, rfl, p, c, 12, _, rfl, g11, by omega, by decide, by decide, fun e6 H6 e60 e61 k6 hP6 => ?_⟩
      obtain ⟨v6, hv6, hat6⟩ := atI_mem (xs := us3) e60 (by omega)
      exact ⟨l3, _, e6, v6, rfl, rfl, SqL.of (k6 _ _ n3 o11), hat6, q _ _ (((q3 _ hv6).kp k6).le (by decide) (by decide)) ((k2.trans (Kp.ext f1)).trans k6) (hP6.mono (by omega))⟩
    rw [Bool.eq_false_iff.mpr hem]
    have une : us ≠ [] := fun z => hem (by rw [z]; rfl)
    have ul : 1 ≤ us.length := by
      cases us with
      | nil => exact absurd rfl une
      | cons _ _ => rw [List.length_cons]; omega
    refine iteF ⟨_, rfl, rfl, _, rfl, ite2 (fun ew => ?_) (fun ew0 => ?_)⟩
    · clear ew
      refine ⟨Nat.zero_le _, fun t1 ht1 => ⟨Nat.zero_le _, fun l1 hl1 => fun d1 hd1 => ⟨szL (show 1 ≤ 1000000 by decide), fun t2 ht2 => ⟨szL (show 1 ≤ 1000000 by decide), fun t3 ht3 => ⟨szL (show 2 ≤ 1000000 by decide), fun t4 ht4 => ⟨szL (show 1 ≤ 1000000 by decide), fun t5 ht5 => ⟨szL (show 1 ≤ 1000000 by decide), fun l2 hl2 => ⟨Nat.zero_le _, fun t6 ht6 => ⟨szL (show 1 ≤ 1000000 by decide), fun t7 ht7 => ⟨szL (show 12 ≤ 1000000 by decide), fun l3 hl3 => ?_⟩⟩⟩⟩⟩⟩⟩⟩⟩⟩
      have g1 := hP2.new (o := .tup []) ht1
      have n1 := (g1.ne hl1).1
      have g2 := g1.new (o := .lst []) hl1
      have nd := (g2.ne hd1).1
      have g3 := g2.new (o := .dK []) hd1
      have g4 := g3.new (o := .tup [.str "least"]) ht2
      have g5 := g4.new (o := .tup [.str "least"]) ht3
      have g6 := g5.new (o := .tup [.ref t3, .non]) ht4
      have g7 := g6.new (o := .tup [.str "least"]) ht5
      have n2 := (g7.ne hl2).1
      have g8 := g7.new (o := .lst [.ref t5]) hl2
      have g9 := g8.new (o := .tup []) ht6
      have g10 := g9.new (o := .tup [.ref t6]) ht7
      have n3 := (g10.ne hl3).1
      obtain ⟨us3, hus3⟩ : ∃ us3, us3 = [V.non, .bl true, .int 0, .str "", .str "least", .ref t1, .ref l1, .ref d1, .ref t2, .ref t4, .ref l2, .ref t7] := ⟨_, rfl⟩
      rw [← hus3]
      have g11 := g10.new (o := .lst us3) hl3
      have e1 := Ext.new (o := .tup []) ht1
      have e2 := Ext.new (o := .lst []) hl1
      have e3 := Ext.new (o := .dK []) hd1
      have e4 := Ext.new (o := .tup [.str "least"]) ht2
      have e5 := Ext.new (o := .tup [.str "least"]) ht3
      have e6 := Ext.new (o := .tup [.ref t3, .non]) ht4
      have e7 := Ext.new (o := .tup [.str "least"]) ht5
      have e8 := Ext.new (o := .lst [.ref t5]) hl2
      have e9 := Ext.new (o := .tup []) ht6
      have e10 := Ext.new (o := .tup [.ref t6]) ht7
      have e11 := Ext.new (o := .lst us3) hl3
      have f10 := e10.trans e11
      have f9 := e9.trans f10
      have f8 := e8.trans f9
      have f7 := e7.trans f8
      have f6 := e6.trans f7
      have f5 := e5.trans f6
      have f4 := e4.trans f5
      have f3 := e3.trans f4
      have f2 := e2.trans f3
      have f1 := e1.trans f2
      have hD2 := k2 _ _ nD hD
      have m1 : l1 ≠ D := fun z => by
        rw [z, e1 _ _ hD2] at hl1
        cases hl1
      have md : d1 ≠ D := fun z => by
        rw [z, (e1.trans e2) _ _ hD2] at hd1
        cases hd1
      have m2 : l2 ≠ D := fun z => by
        rw [z, (e1.trans (e2.trans (e3.trans (e4.trans (e5.trans (e6.trans e7)))))) _ _ hD2] at hl2
        cases hl2
      have hD3 := f1 _ _ hD2
      have o1 := f2 t1 _ upd_same
      have o2 := f3 l1 _ upd_same
      have o3 := f4 d1 _ upd_same
      have o4 := f5 t2 _ upd_same
      have o5 := f6 t3 _ upd_same
      have o6 := f7 t4 _ upd_same
      have o7 := f8 t5 _ upd_same
      have o8 := f9 l2 _ upd_same
      have o9 := f10 t6 _ upd_same
      have o10 := e11 t7 _ upd_same
      have o11 : upd (upd (upd (upd (upd (upd (upd (upd (upd (upd (upd H2 t1 (.tup [])) l1 (.lst [])) d1 (.dK [])) t2 (.tup [.str "least"])) t3 (.tup [.str "least"])) t4 (.tup [.ref t3, .non])) t5 (.tup [.str "least"])) l2 (.lst [.ref t5])) t6 (.tup [])) t7 (.tup [.ref t6])) l3 (.lst us3) l3 = some (.lst us3) := upd_same
      generalize upd (upd (upd (upd (upd (upd (upd (upd (upd (upd (upd H2 t1 (.tup [])) l1 (.lst [])) d1 (.dK [])) t2 (.tup [.str "least"])) t3 (.tup [.str "least"])) t4 (.tup [.ref t3, .non])) t5 (.tup [.str "least"])) l2 (.lst [.ref t5])) t6 (.tup [])) t7 (.tup [.ref t6])) l3 (.lst us3) = H3 at f1 o1 o2 o3 o4 o5 o6 o7 o8 o9 o10 o11 g11 hD3 ⊢
      have ll : LowC "least" := by unfold LowC; decide +kernel
      have ls : ("least" : Str).length ≤ 50 := by decide +kernel
      have one : ∀ t, H3 t = some (.tup [.str "least"]) → Dm 51 1 p D H3 (.ref t) := fun t h => Dm.tupP (n := 1) (m := 50) (k := 0) g11 hD3 h (fun u hu => by rw [List.mem_singleton.mp hu]; exact Dm.str ll ls) (Nat.le_refl _) (by decide)
      have z0 : ∀ t, H3 t = some (.tup []) → Dm 0 1 p D H3 (.ref t) := fun t h => Dm.tupP (n := 0) (m := 0) (k := 0) g11 hD3 h (fun u hu => by cases hu) (Nat.le_refl _) (by decide)
      have q3 : ∀ v ∈ us3, Dm 1000 2 p D H3 v := by
        intro v hv
        rw [hus3] at hv
        simp only [List.mem_cons, List.not_mem_nil, or_false] at hv
        rcases hv with rfl | rfl | rfl | rfl | rfl | rfl | rfl | rfl | rfl | rfl | rfl | rfl
        · exact Dm.non.le (by decide) (by decide)
        · exact (Dm.bl _).le (by decide) (by decide)
        · exact (Dm.int (by decide)).le (by decide) (by decide)
        · exact S0 _ (by unfold LowC; decide +kernel) (by decide +kernel)
        · exact S0 _ ll ls
        · exact (z0 _ o1).le (by decide) (by decide)
        · exact (Dm.lst (n := 0) (m := 0) (k := 0) (M := 0) o2 n1 m1 (fun u h => by cases h) (Nat.le_refl _) (by decide)).le (by decide) (by decide)
        · exact (Dm.emp o3 nd md).le (by decide) (by decide)
        · exact (one _ o4).le (by decide) (by decide)
        · exact (Dm.tupP (n := 2) (m := 51) (k := 1) (M := 104) g11 hD3 o6 (fun u hu => by
            simp only [List.mem_cons, List.not_mem_nil, or_false] at hu
            rcases hu with rfl | rfl
            · exact one _ o5
            · exact Dm.non.le (by decide) (by decide)) (Nat.le_refl _) (by decide)).le (by decide) (by decide)
        · exact (Dm.lst (n := 1) (m := 51) (k := 1) (M := 52) o8 n2 m2 (fun u hu => by rw [List.mem_singleton.mp hu]; exact one _ o7) (Nat.le_refl _) (by decide)).le (by decide) (by decide)
        · exact (Dm.tupP (n := 1) (m := 0) (k := 1) (M := 1) g11 hD3 o10 (fun u hu => by rw [List.mem_singleton.mp hu]; exact z0 _ o9) (Nat.le_refl _) (by decide)).le (by decide) (by decide)
      have l12 : us3.length = 12 := by rw [hus3]; rfl
      refine ⟨_, rfl, _, rfl, p, c, 12, _, rfl, g11, by omega, by decide, by decide, fun e6 H6 e60 e61 k6 hP6 => ?_⟩
      obtain ⟨v6, hv6, hat6⟩ := atI_mem (xs := us3) e60 (by omega)
      exact ⟨l3, _, e6, v6, rfl, rfl, SqL.of (k6 _ _ n3 o11), hat6, q _ _ (((q3 _ hv6).kp k6).le (by decide) (by decide)) ((k2.trans (Kp.ext f1)).trans k6) (hP6.mono (by omega))⟩
    -- a line, a part of it
    refine ⟨_, rfl, _, rfl, al, us, rfl, .inr (SqT.of hG2.1), p, c, _, _, rfl, hP2, by omega, by omega, by have := hG2.2.1; omega, fun at_ H3 a0 a1 k3 hP3 => ?_⟩
    obtain ⟨_, _, _, hpp2, _⟩ := id hP2
    have hG3 := hG2.kp k3 hpp2
    obtain ⟨lv, hlv, hat⟩ := atI_mem (xs := us) a0 a1
    refine ⟨_, rfl, _, rfl, al, us, at_, lv, rfl, rfl, SqT.of hG3.1, hat, ?_⟩
    obtain ⟨aL, ps, rfl, hL3, pl1, pl3, hps⟩ := hG3.2.2 _ hlv
    refine ⟨_, rfl, _, rfl, aL, ps, rfl, .inr (SqT.of hL3), p, c, _, _, rfl, hP3, by omega, by omega, by omega, fun sp_ H4 s0 s1 k4 hP4 => ?_⟩
    obtain ⟨_, _, _, hpp3, _⟩ := id hP3
    have hG4 := hG3.kp k4 hpp3
    have hL4 := k4.tup hpp3 hL3
    have k04 := (k2.trans k3).trans k4
    have hbw : ∀ m, decide (V.int way = V.int m) = decide (way = m) := fun m => decide_eq_decide.mpr ⟨V.int.inj, congrArg V.int⟩
    clear hP2 hG2 k2 hP3 hG3 hL3 k3 k4 hat hpp2 hpp3
    refine ⟨_, rfl, _, _, rfl, rfl, _, rfl, ite2 (fun e4 => ?_) (fun e4 => ?_)⟩
    · -- a part otherwise
      clear e4
      refine ⟨_, rfl, _, rfl, sp_, rfl, aL, ps, rfl, hL4, fun t1 H5 e5 ht1 => ?_⟩
      obtain ⟨pv_, hpv, hats⟩ := atI_mem (xs := ps) s0 s1
      refine ⟨_, rfl, _, rfl, _, rfl, aL, ps, sp_, pv_, rfl, rfl, SqT.of (e5 _ _ hL4), hats, p, c, D, pv_, _, zs, rfl, hps _ hpv, nD, e5 _ _ (k04 _ _ nD hD), hP4.ext e5, by omega, fun ov H6 hov k6 hP6 => ⟨szL (show 1 ≤ 1000000 by decide), fun t2 ht2 => ?_⟩⟩
      obtain ⟨_, _, _, hpp5, _⟩ := id (hP4.ext e5)
      have x2 := Ext.new (o := .tup [ov]) ht2
      have d1 := cutV_length ps none (some sp_)
      have d2 := cutV_length ps (some (sp_ + 1)) none
      refine ⟨t1, t2, _, _, rfl, rfl, x2 _ _ (k6.tup hpp5 ht1), upd_same, szL (by rw [List.length_singleton]; omega), fun t3 H7 e7 ht3 => ?_⟩
      have hL7 := e7 _ _ (x2 _ _ (k6.tup hpp5 (e5 _ _ hL4)))
      refine ⟨_, rfl, _, rfl, _, 1, rfl, rfl, _, rfl, aL, ps, rfl, hL7, fun t4 H8 e8 ht4 => ?_⟩
      refine ⟨t3, t4, _, _, rfl, rfl, e8 _ _ ht3, ht4, szL (by rw [List.length_append, List.length_singleton]; omega), fun t5 H9 e9 ht5 => ?_⟩
      have x69 := (x2.trans e7).trans (e8.trans e9)
      have hPT := hP6.ext x69
      have hGT := ((hG4.ext e5).kp k6 hpp5).ext x69
      have kpT := (k04.trans (Kp.ext e5)).trans (k6.trans (Kp.ext x69))
      obtain ⟨bv, hbve⟩ : ∃ bv, bv = V.ref t5 := ⟨_, rfl⟩
      have hbv : Dm 1000 2 p D H9 bv := by
        rw [hbve]
        refine (Dm.tupP (n := 4) (m := 201) (k := 1) (M := 808) hPT (kpT _ _ nD hD) ht5 (fun u hu => ?_) ?_ (by decide)).le (by decide) (by decide)
        · rcases List.mem_append.mp hu with hu | hu
          · rcases List.mem_append.mp hu with hu | hu
            · exact (hps _ (cutV_memP hu)).dm.le (by decide) (by decide)
            · rw [List.mem_singleton.mp hu]
              exact hov.kp (Kp.ext x69)
          · exact (hps _ (cutV_memP hu)).dm.le (by decide) (by decide)
        · rw [List.length_append, List.length_append, List.length_singleton]
          have := cut_sum ps sp_
          omega
      rw [← hbve]
      clear hbve ht5 ht4 ht3 ht2 ht1 hL7 hov
      -- put back
      obtain ⟨_, _, _, hppT, _⟩ := id hPT
      refine ⟨_, rfl, _, rfl, at_, rfl, al, us, rfl, hGT.1, fun ta Ha ea hta => ?_⟩
      refine ⟨_, rfl, szL (show 1 ≤ 1000000 by decide), fun tb htb => ?_⟩
      have eb := Ext.new (o := .tup [bv]) htb
      have c1 := cutV_length us none (some at_)
      have c2 := cutV_length us (some (at_ + 1)) none
      have u21 := hGT.2.1
      refine ⟨ta, tb, _, _, rfl, rfl, eb _ _ hta, upd_same, szL (by rw [List.length_singleton]; omega), fun tc Hc ec htc => ?_⟩
      have kac := (ea.trans eb).trans ec
      refine ⟨_, rfl, _, rfl, _, 1, rfl, rfl, _, rfl, al, us, rfl, kac _ _ hGT.1, fun td Hd ed htd => ?_⟩
      refine ⟨tc, td, _, _, rfl, rfl, ed _ _ htc, htd, szL (by rw [List.length_append, List.length_singleton]; omega), fun te He ee hte => ?_⟩
      have kT := (kac.trans ed).trans ee
      have hGe := hGT.ext kT
      have hPe := hPT.ext kT
      have hDe := (kpT.trans (Kp.ext kT)) _ _ nD hD
      refine q _ _ ((Dm.tupP (n := 43) (m := 1000) (k := 2) (M := 43043) hPe hDe hte (fun u hu => ?_) (by rw [List.length_append, List.length_append, List.length_singleton]; omega) (by decide)).le (by decide) (by decide)) (kpT.trans (Kp.ext kT)) (hPe.mono (by omega))
      rcases List.mem_append.mp hu with hu | hu
      · rcases List.mem_append.mp hu with hu | hu
        · exact ((hGe.2.2 u (cutV_memP hu)).dm hPe hDe).le (by decide) (by decide)
        · rw [List.mem_singleton.mp hu]
          exact hbv.kp (Kp.ext kT)
      · exact ((hGe.2.2 u (cutV_memP hu)).dm hPe hDe).le (by decide) (by decide)
    -- a line otherwise
    refine ⟨_, rfl, rfl, _, rfl, ite2 (fun e5 => ?_) (fun e5 => ?_)⟩
    · clear e5
      obtain ⟨p0, ps', rfl⟩ : ∃ p0 ps', ps = p0 :: ps' := by
        cases ps with
        | nil => simp at pl1
        | cons a b => exact ⟨a, b, rfl⟩
      refine ⟨_, rfl, 1, rfl, _, rfl, aL, _, rfl, hL4, fun t1 H5 e5 ht1 => ?_⟩
      refine ⟨_, rfl, szL (show 1 ≤ 1000000 by decide), fun t2 ht2 => ?_⟩
      have x2 := Ext.new (o := .tup [.int 0]) ht2
      refine ⟨aL, t2, _, _, rfl, rfl, (e5.trans x2) _ _ hL4, upd_same, szL (by rw [List.length_singleton]; omega), fun t3 H6 e6 ht3 => ?_⟩
      have k46 := (e5.trans x2).trans e6
      have hL6 := k46 _ _ hL4
      refine ⟨_, rfl, aL, _, rfl, .inr (SqT.of hL6), fun l4 hl4 => ?_⟩
      have hP6 := hP4.ext k46
      have n4 := (hP6.ne hl4).1
      have m4 : l4 ≠ D := fun z => by
        rw [z, (k04.trans (Kp.ext k46)) _ _ nD hD] at hl4
        cases hl4
      have x4 := Ext.new (o := .lst (p0 :: ps')) hl4
      refine ⟨_, rfl, aL, _, 0, p0, rfl, rfl, SqT.of (x4 _ _ hL6), at0 _ _, ?_⟩
      refine ⟨_, rfl, szL (show 1 ≤ 1000000 by decide), fun t5 ht5 => ?_⟩
      have x5 := Ext.new (o := .tup [.ref aL]) ht5
      refine ⟨_, rfl, aL, _, rfl, SqT.of (x5 _ _ (x4 _ _ hL6)), fun t6 ht6 => ?_⟩
      have x6 := Ext.new (o := .tup (p0 :: ps').reverse) ht6
      refine ⟨_, rfl, szL (show 1 ≤ 1000000 by decide), fun t7 ht7 => ?_⟩
      have x7 := Ext.new (o := .tup [.str "a"]) ht7
      have k47 := x4.trans (x5.trans (x6.trans x7))
      refine ⟨aL, t7, _, _, rfl, rfl, k47 _ _ hL6, upd_same, szL (by rw [List.length_singleton]; omega), fun t8 H8 e8 ht8 => ⟨szL (show 8 ≤ 1000000 by decide), fun l9 hl9 => ?_⟩⟩
      obtain ⟨us9, hus9⟩ : ∃ us9, us9 = [V.ref t1, .ref t3, .ref l4, p0, .non, .ref t5, .ref t6, .ref t8] := ⟨_, rfl⟩
      rw [← hus9]
      have x9 := Ext.new (o := .lst us9) hl9
      have k89 := e8.trans x9
      have hP8 := hP6.ext (k47.trans e8)
      have n9 := (hP8.ne hl9).1
      have hP9 := hP8.new (o := .lst us9) hl9
      have o1 := (k47.trans k89) t1 _ (e6 _ _ (x2 _ _ ht1))
      have o3 := (k47.trans k89) t3 _ ht3
      have o4 := ((x5.trans (x6.trans x7)).trans k89) l4 _ upd_same
      have o5 := ((x6.trans x7).trans k89) t5 _ upd_same
      have o6 := (x7.trans k89) t6 _ upd_same
      have o8 := x9 t8 _ ht8
      have k49 := k46.trans (k47.trans k89)
      have hL9 := k49 _ _ hL4
      have hD9 := (k04.trans (Kp.ext k49)) _ _ nD hD
      have h9 : upd H8 l9 (.lst us9) l9 = some (.lst us9) := upd_same
      have hG9 := hG4.ext k49
      generalize upd H8 l9 (.lst us9) = H9 at hP9 hD9 o1 o3 o4 o5 o6 o8 k49 hL9 h9 hG9 hD9 ⊢
      have pm : ∀ u ∈ p0 :: ps', Dm 200 0 p D H9 u := fun u hu => (hps u hu).dm
      have q9 : ∀ v ∈ us9, Dm 1000 2 p D H9 v := by
        intro v hv
        rw [hus9] at hv
        simp only [List.mem_cons, List.not_mem_nil, or_false] at hv
        rcases hv with rfl | rfl | rfl | rfl | rfl | rfl | rfl | rfl
        · exact (Dm.tupP (n := 3) (m := 200) (k := 0) (M := 603) hP9 hD9 o1 (fun u hu => pm u (cutV_memP hu)) (Nat.le_trans (cutV_length _ _ _) pl3) (by decide)).le (by decide) (by decide)
        · exact (Dm.tupP (n := 4) (m := 200) (k := 0) (M := 804) hP9 hD9 o3 (fun u hu => (List.mem_append.mp hu).elim (pm u) (fun h => by rw [List.mem_singleton.mp h]; exact Dm.int (by decide))) (by rw [List.length_append, List.length_singleton]; omega) (by decide)).le (by decide) (by decide)
        · exact (Dm.lst (n := 3) (m := 200) (k := 0) (M := 603) o4 n4 m4 pm pl3 (by decide)).le (by decide) (by decide)
        · exact (pm _ (List.mem_cons_self ..)).le (by decide) (by decide)
        · exact Dm.non.le (by decide) (by decide)
        · exact (Dm.tupP (n := 1) (m := 603) (k := 1) (M := 604) hP9 hD9 o5 (fun u hu => by rw [List.mem_singleton.mp hu]; exact Dm.tupP (n := 3) (m := 200) (k := 0) hP9 hD9 hL9 pm pl3 (by decide)) (Nat.le_refl _) (by decide)).le (by decide) (by decide)
        · exact (Dm.tupP (n := 3) (m := 200) (k := 0) (M := 603) hP9 hD9 o6 (fun u hu => pm u (List.mem_reverse.mp hu)) (by rw [List.length_reverse]; exact pl3) (by decide)).le (by decide) (by decide)
        · exact (Dm.tupP (n := 4) (m := 200) (k := 0) (M := 804) hP9 hD9 o8 (fun u hu => (List.mem_append.mp hu).elim (pm u) (fun h => by rw [List.mem_singleton.mp h]; exact (pl "a" (by unfold LowC; decide +kernel) (by decide +kernel)).dm)) (by rw [List.length_append, List.length_singleton]; omega) (by decide)).le (by decide) (by decide)
      have l98 : us9.length = 8 := by rw [hus9]; rfl
      clear hus9 o1 o3 o4 o5 o6 o8 x4 x5 x6 x7 k47 k89 e8 x9 hl9 ht8 ht7 ht6 ht5 hl4 hL6 k46 hP6 hP8 ht3 ht1 ht2 e6 e5
      refine ⟨_, rfl, _, rfl, p, c, 8, _, rfl, hP9, by omega, by decide, by decide, fun e10 H10 e100 e101 k10 hPT => ?_⟩
      obtain ⟨_, _, _, hpp9, _⟩ := id hP9
      obtain ⟨bv, hbvm, hat10⟩ := atI_mem (xs := us9) e100 (by omega)
      refine ⟨l9, _, e10, bv, rfl, rfl, SqL.of (k10 _ _ n9 h9), hat10, ?_⟩
      have hbv := (q9 _ hbvm).kp k10
      have hGT := hG9.kp k10 hpp9
      have kpT := (k04.trans (Kp.ext k49)).trans k10
      -- put back
      obtain ⟨_, _, _, hppT, _⟩ := id hPT
      refine ⟨_, rfl, _, rfl, at_, rfl, al, us, rfl, hGT.1, fun ta Ha ea hta => ?_⟩
      refine ⟨_, rfl, szL (show 1 ≤ 1000000 by decide), fun tb htb => ?_⟩
      have eb := Ext.new (o := .tup [bv]) htb
      have c1 := cutV_length us none (some at_)
      have c2 := cutV_length us (some (at_ + 1)) none
      have u21 := hGT.2.1
      refine ⟨ta, tb, _, _, rfl, rfl, eb _ _ hta, upd_same, szL (by rw [List.length_singleton]; omega), fun tc Hc ec htc => ?_⟩
      have kac := (ea.trans eb).trans ec
      refine ⟨_, rfl, _, rfl, _, 1, rfl, rfl, _, rfl, al, us, rfl, kac _ _ hGT.1, fun td Hd ed htd => ?_⟩
      refine ⟨tc, td, _, _, rfl, rfl, ed _ _ htc, htd, szL (by rw [List.length_append, List.length_singleton]; omega), fun te He ee hte => ?_⟩
      have kT := (kac.trans ed).trans ee
      have hGe := hGT.ext kT
      have hPe := hPT.ext kT
      have hDe := (kpT.trans (Kp.ext kT)) _ _ nD hD
      refine q _ _ ((Dm.tupP (n := 43) (m := 1000) (k := 2) (M := 43043) hPe hDe hte (fun u hu => ?_) (by rw [List.length_append, List.length_append, List.length_singleton]; omega) (by decide)).le (by decide) (by decide)) (kpT.trans (Kp.ext kT)) (hPe.mono (by omega))
      rcases List.mem_append.mp hu with hu | hu
      · rcases List.mem_append.mp hu with hu | hu
        · exact ((hGe.2.2 u (cutV_memP hu)).dm hPe hDe).le (by decide) (by decide)
        · rw [List.mem_singleton.mp hu]
          exact hbv.kp (Kp.ext kT)
      · exact ((hGe.2.2 u (cutV_memP hu)).dm hPe hDe).le (by decide) (by decide)
    -- lines out, twice
    refine ⟨_, rfl, rfl, _, rfl, ite2 (fun e6 => ?_) (fun e6 => ?_)⟩
    · clear e6
      have u21 := hG4.2.1
      refine ⟨_, rfl, al, 2, us, rfl, rfl, SqT.of hG4.1, une, by decide, by decide, by omega, fun t1 ht1 => ?_⟩
      have x1 := Ext.new (o := .tup (List.replicate (Int.toNat 2) us).flatten) ht1
      refine ⟨_, rfl, _, rfl, at_, rfl, al, us, rfl, x1 _ _ hG4.1, fun t2 H5 e5 ht2 => ?_⟩
      have k5 := x1.trans e5
      refine ⟨_, rfl, _, rfl, _, 1, rfl, rfl, _, rfl, al, us, rfl, k5 _ _ hG4.1, fun t3 H6 e6 ht3 => ?_⟩
      have c1 := cutV_length us none (some at_)
      have c2 := cutV_length us (some (at_ + 1)) none
      have c3 := cutV_length us none (some (at_ + 1))
      have c4 := cutV_length us (some at_) none
      refine ⟨t2, t3, _, _, rfl, rfl, e6 _ _ ht2, ht3, szL (by omega), fun t4 H7 e7 ht4 => ?_⟩
      have k7 := k5.trans (e6.trans e7)
      refine ⟨_, rfl, _, rfl, _, 1, rfl, rfl, _, rfl, al, us, rfl, k7 _ _ hG4.1, fun t5 H8 e8 ht5 => ?_⟩
      refine ⟨_, rfl, _, rfl, at_, rfl, al, us, rfl, (k7.trans e8) _ _ hG4.1, fun t6 H9 e9 ht6 => ?_⟩
      refine ⟨t5, t6, _, _, rfl, rfl, e9 _ _ ht5, ht6, szL (by omega), fun t7 H10 e10 ht7 => ?_⟩
      have k10 := k7.trans (e8.trans (e9.trans e10))
      refine ⟨_, rfl, al, us, rfl, .inr (SqT.of (k10 _ _ hG4.1)), fun l8 hl8 => ⟨szL (show 4 ≤ 1000000 by decide), fun l9 hl9 => ?_⟩⟩
      have hP10 := hP4.ext k10
      have n8 := (hP10.ne hl8).1
      have m8 : l8 ≠ D := fun z => by
        rw [z, (k04.trans (Kp.ext k10)) _ _ nD hD] at hl8
        cases hl8
      have x8 := Ext.new (o := .lst us) hl8
      have hP11 := hP10.new (o := .lst us) hl8
      have n9 := (hP11.ne hl9).1
      obtain ⟨us9, hus9⟩ : ∃ us9, us9 = [V.ref t1, .ref t4, .ref t7, .ref l8] := ⟨_, rfl⟩
      rw [← hus9]
      have x9 := Ext.new (o := .lst us9) hl9
      have hP12 := hP11.new (o := .lst us9) hl9
      have x89 := x8.trans x9
      have k12 := k10.trans x89
      have hG12 := hG4.ext k12
      have hD12 := (k04.trans (Kp.ext k12)) _ _ nD hD
      have o1 := ((e5.trans (e6.trans e7)).trans ((e8.trans (e9.trans e10)).trans x89)) t1 _ upd_same
      have o4 := ((e8.trans (e9.trans e10)).trans x89) t4 _ ht4
      have o7 := x89 t7 _ ht7
      have o8 := x9 l8 _ upd_same
      have h9 : upd (upd H10 l8 (.lst us)) l9 (.lst us9) l9 = some (.lst us9) := upd_same
      generalize upd (upd H10 l8 (.lst us)) l9 (.lst us9) = H12 at hP12 hG12 o1 o4 o7 o8 h9 k12 hD12 ⊢
      have lm : ∀ u ∈ us, Dm 1000 2 p D H12 u := fun u hu => ((hG12.2.2 u hu).dm hP12 hD12).le (by decide) (by decide)
      have q9 : ∀ v ∈ us9, Dm 43100 3 p D H12 v := by
        intro v hv
        rw [hus9] at hv
        simp only [List.mem_cons, List.not_mem_nil, or_false] at hv
        rcases hv with rfl | rfl | rfl | rfl
        · exact (Dm.tupP (n := 43) (m := 1000) (k := 2) (M := 43043) hP12 hD12 o1 (fun u hu => lm u (mem_rep hu)) (by rw [len_rep]; show 2 * us.length ≤ 43; omega) (by decide)).le (by decide) (by decide)
        · exact (Dm.tupP (n := 43) (m := 1000) (k := 2) (M := 43043) hP12 hD12 o4 (fun u hu => lm u ((List.mem_append.mp hu).elim cutV_memP cutV_memP)) (by rw [List.length_append]; omega) (by decide)).le (by decide) (by decide)
        · exact (Dm.tupP (n := 43) (m := 1000) (k := 2) (M := 43043) hP12 hD12 o7 (fun u hu => lm u ((List.mem_append.mp hu).elim cutV_memP cutV_memP)) (by rw [List.length_append]; omega) (by decide)).le (by decide) (by decide)
        · exact (Dm.lst (n := 43) (m := 1000) (k := 2) (M := 43043) o8 n8 m8 lm (by omega) (by decide)).le (by decide) (by decide)
      have l94 : us9.length = 4 := by rw [hus9]; rfl
      refine ⟨_, rfl, p, c, 4, _, rfl, hP12, by omega, by decide, by decide, fun e13 H13 e130 e131 k13 hP13 => ?_⟩
      obtain ⟨bv, hbvm, hat13⟩ := atI_mem (xs := us9) e130 (by omega)
      exact ⟨l9, _, e13, bv, rfl, rfl, SqL.of (k13 _ _ n9 h9), hat13, q _ _ ((q9 _ hbvm).kp k13) ((k04.trans (Kp.ext k12)).trans k13) (hP13.mono (by omega))⟩
    -- many lines
    have u21 := hG4.2.1
    refine ⟨_, rfl, al, 21, us, rfl, rfl, SqT.of hG4.1, une, by decide, by decide, by omega, fun t1 ht1 => ?_⟩
    have x1 := Ext.new (o := .tup (List.replicate (Int.toNat 21) us).flatten) ht1
    refine ⟨20, rfl, t1, _, rfl, upd_same, fun t2 H5 e5 ht2 => ?_⟩
    have k5 := x1.trans e5
    refine ⟨_, rfl, al, 21, us, rfl, rfl, SqT.of (k5 _ _ hG4.1), une, by decide, by decide, by omega, fun t3 ht3 => ?_⟩
    have x3 := Ext.new (o := .tup (List.replicate (Int.toNat 21) us).flatten) ht3
    refine ⟨21, rfl, t3, _, rfl, upd_same, fun t4 H6 e6 ht4 => ?_⟩
    have k6 := k5.trans (x3.trans e6)
    refine ⟨_, rfl, szL (show 1 ≤ 1000000 by decide), fun t5 ht5 => ⟨szL (show 3 ≤ 1000000 by decide), fun l9 hl9 => ?_⟩⟩
    have hP6 := hP4.ext k6
    have x5 := Ext.new (o := .tup [.ref al]) ht5
    have hP7 := hP6.new (o := .tup [.ref al]) ht5
    have n9 := (hP7.ne hl9).1
    obtain ⟨us9, hus9⟩ : ∃ us9, us9 = [V.ref t2, .ref t4, .ref t5] := ⟨_, rfl⟩
    rw [← hus9]
    have x9 := Ext.new (o := .lst us9) hl9
    have hP12 := hP7.new (o := .lst us9) hl9
    have x59 := x5.trans x9
    have k12 := k6.trans x59
    have hG12 := hG4.ext k12
    have hD12 := (k04.trans (Kp.ext k12)) _ _ nD hD
    have o2 := ((x3.trans e6).trans x59) t2 _ ht2
    have o4 := x59 t4 _ ht4
    have o5 := x9 t5 _ upd_same
    have h9 : upd (upd H6 t5 (.tup [.ref al])) l9 (.lst us9) l9 = some (.lst us9) := upd_same
    generalize upd (upd H6 t5 (.tup [.ref al])) l9 (.lst us9) = H12 at hP12 hG12 o2 o4 o5 h9 k12 hD12 ⊢
    have lm : ∀ u ∈ us, Dm 603 1 p D H12 u := fun u hu => (hG12.2.2 u hu).dm hP12 hD12
    have lm2 : ∀ u ∈ us, Dm 1000 2 p D H12 u := fun u hu => (lm u hu).le (by decide) (by decide)
    have q9 : ∀ v ∈ us9, Dm 43100 3 p D H12 v := by
      intro v hv
      rw [hus9] at hv
      simp only [List.mem_cons, List.not_mem_nil, or_false] at hv
      rcases hv with rfl | rfl | rfl
      · exact (Dm.tupP (n := 43) (m := 1000) (k := 2) (M := 43043) hP12 hD12 o2 (fun u hu => lm2 u (mem_rep (cutV_memP hu))) (Nat.le_trans (cutV_to _ 20) (by decide)) (by decide)).le (by decide) (by decide)
      · exact (Dm.tupP (n := 43) (m := 1000) (k := 2) (M := 43043) hP12 hD12 o4 (fun u hu => lm2 u (mem_rep (cutV_memP hu))) (Nat.le_trans (cutV_to _ 21) (by decide)) (by decide)).le (by decide) (by decide)
      · exact (Dm.tupP (n := 1) (m := 13000) (k := 2) (M := 13001) hP12 hD12 o5 (fun u hu => by rw [List.mem_singleton.mp hu]; exact (Dm.tupP (n := 21) (m := 603) (k := 1) (M := 12684) hP12 hD12 hG12.1 lm u21 (by decide)).le (by decide) (by decide)) (Nat.le_refl _) (by decide)).le (by decide) (by decide)
    have l93 : us9.length = 3 := by rw [hus9]; rfl
    refine ⟨_, rfl, p, c, 3, _, rfl, hP12, by omega, by decide, by decide, fun e13 H13 e130 e131 k13 hP13 => ?_⟩
    obtain ⟨bv, hbvm, hat13⟩ := atI_mem (xs := us9) e130 (by omega)
    exact ⟨l9, _, e13, bv, rfl, rfl, SqL.of (k13 _ _ n9 h9), hat13, q _ _ ((q9 _ hbvm).kp k13) ((k04.trans (Kp.ext k12)).trans k13) (hP13.mono (by omega))⟩
abbrev CBt (P : Program) (w : World) (K : PySem.W.Frag) (mg : Str → Option Value) (base : Heap) : Prop := Ca P w K mg base 3 "_law_bent" ["_law_pen_here", "_law_lines"] spBt
end
end Pf


namespace Pf
open PySem PySem.Spec PyProof.Rows L2
theorem gow_name {i : Nat} {v : V} {σ : L2.St} {H : Hp} {Q : L2.St → Hp → Prop} (h : Q (σ.set i (some v)) H) : gName i v σ H Q := h
theorem LineAt.put {H : Hp} {v : V} {D : Addr} {xs ys : List V} (h : LineAt H v) (hD : H D = some (.lst xs)) : LineAt (upd H D (.lst ys)) v := by
  obtain ⟨a, us, e, h, r⟩ := h
  exact ⟨a, us, e, by rw [upd_ne (ne_of h hD (by intro z; cases z))]; exact h, r⟩
theorem Dm.put {m k : Nat} {p D : Addr} {H : Hp} {v : V} {o : HO} (h : Dm m k p D H v) : Dm m k p D (upd H D o) v := by
  obtain ⟨d, h1, h2⟩ := h
  exact ⟨d, by rw [hd2_upd]; exact h1, h2⟩
theorem Dm.de {m k : Nat} {p D : Addr} {H : Hp} {v : V} (h : Dm m k p D H v) : ∃ d, De H v d ∧ BgD 201 m k d := by
  obtain ⟨d, h1, h2⟩ := h
  exact ⟨d, de_ext hd2_le h1, h2⟩
section
variable {P : Program} {w : World} {K : PySem.W.Frag} {mg : Str → Option Value} {base : Heap}
abbrev s_law : Stmt := topS 25
theorem sc_law : FnScope ["_law_script", "_law_pen_here", "_law_turn", "_law_lines", "_law_things", "_law_what_is", "_law_kept", "_law_found", "_law_k"] ["_law_script"] (defScope s_law) :=
  ⟨rfl, rfl, rfl, by decide +kernel, rfl, by decide +kernel, by decide +kernel⟩
def spLaw (K : PySem.W.Frag) : Sp := fun vs H Q _ => ∃ (a : Addr) (ns : List Int), vs = [.ref a] ∧ SqL K H a (ns.map V.int) ∧ ns.length ≤ 63 ∧ ∀ H', Q (.bl true) H'
theorem ok_law {f : Addr} {fd : FuncData} (F : Fun K "law" "law" s_law f fd) (hSM : ∃ o, base.get? sysModules = some o) (room : Room 18 callerA) (c_law_pen : Ca P w K mg base 1 "_law_pen" ["_law_script"] (spStart K)) (c_law_take : CDraw P w K mg base) (c_law_line : CLn84 P w K mg base) (c_law_bent : CBt P w K mg base) (c_law_due : CLdue P w K mg base)
    (cis_program : Ca P w K mg base 5 "is_program" ["thing"] spProgE) (cis_programK : CaK P w K mg base 5 "is_program" ["thing"] ["thing"] (permV [0]) spProgE) (misinstance : mg "isinstance" = none) (mbool : mg "bool" = none) (mrange : mg "range" = none) (mtuple : mg "tuple" = none) (mrepr : mg "repr" = none) : FnG P w K mg base f fd ["_law_script"] (spLaw K) := by
  refine FnG.of (k := 17) F sc_law room (fun vs H Q E h => ?_) (fun cdv s H vs Q E hr hG h => ?_)
  · obtain ⟨a, ns, rfl, _⟩ := h
    rfl
  · obtain ⟨a0, ns, rfl, hS, hns, q⟩ := h
    refine ⟨_, (pss_cons (ps_set (i := 1) sc_law.nd rfl (.inr rfl) (pe_ca c_law_pen (hr.mono (by decide)) (by rfl) (pa_cons (pv 0) pa_nil)))
      (pss_cons (ps_for PassesOwn.never rfl (pi_range1 (by rfl) mrange (pa_cons pe_int pa_nil)) (pg_name (i := 2) sc_law.nd rfl (.inl rfl)) (pss_cons (ps_set (i := 3) sc_law.nd rfl (.inr rfl) (pe_callTy (tupleOf K) (by rfl) mtuple (by decide +kernel) (pa_cons (pe_lc (own := [("_law_k", 8)]) (g := gName 8) (by rfl) sc_law.nd (pi_range1 (by rfl) mrange (pa_cons (pe_ix (ixL K) (pe_lst (pa_cons (pe_ca c_law_take (hr.mono (by decide)) (by rfl) (pa_cons (pv 1) (pa_cons pe_int pa_nil))) (pa_cons pe_int (pa_cons pe_int (pa_cons pe_int pa_nil))))) (pe_ca c_law_take (hr.mono (by decide)) (by rfl) (pa_cons (pv 1) (pa_cons pe_int pa_nil))) (fun _ _ => rfl)) pa_nil)) (blkOk_by (own := [("_law_k", 8)]) (N := ["_law_script", "_law_pen_here", "_law_turn", "_law_lines", "_law_things", "_law_what_is", "_law_kept", "_law_found", "_law_k"]) (sc := defScope s_law) (by decide +kernel)) (fun _ _ _ _ _ => (pg_name (i := 8) sc_law.nd rfl (.inl rfl))) (fun _ _ _ _ _ => pts_nil) (fun _ _ _ _ _ => (pe_ca c_law_line (hr.mono (by decide)) (by rfl) (pa_cons (pv 1) pa_nil)))) pa_nil)))
      (pss_cons (ps_set (i := 4) sc_law.nd rfl (.inl rfl) (pe_op op_cat (pe_lst (pa_cons (pv 3) pa_nil)) (pe_lc (own := [("_law_k", 8)]) (g := gName 8) (by rfl) sc_law.nd (pi_range1 (by rfl) mrange (pa_cons pe_int pa_nil)) (blkOk_by (own := [("_law_k", 8)]) (N := ["_law_script", "_law_pen_here", "_law_turn", "_law_lines", "_law_things", "_law_what_is", "_law_kept", "_law_found", "_law_k"]) (sc := defScope s_law) (by decide +kernel)) (fun _ _ _ _ _ => (pg_name (i := 8) sc_law.nd rfl (.inl rfl))) (fun _ _ _ _ _ => pts_nil) (fun _ _ _ _ _ => (pe_ca c_law_bent (hr.mono (by decide)) (by rfl) (pa_cons (pv 1) (pa_cons (pv 3) pa_nil)))))))
      (pss_one (ps_for PassesOwn.never rfl (pi_list (pe_op op_cat (pv 4) (pe_slice (slL K) (pv 4) po_none (po_some pe_int)))) (pg_name (i := 5) sc_law.nd rfl (.inl rfl)) (pss_cons (ps_set (i := 6) sc_law.nd rfl (.inl rfl) (pe_callB (call_showD hSM hG hr.units) (by rfl) mrepr (by decide +kernel) (pa_cons (pv 5) pa_nil)))
      (pss_one (ps_for PassesOwn.never rfl (pi_list (pe_lst (pa_cons (pe_ca cis_program (hr.mono (by decide)) (by rfl) (pa_cons (pv 5) pa_nil)) (pa_cons (pe_caK cis_programK (hr.mono (by decide)) (by rfl) (pk_cons (pv 5) pk_nil)) pa_nil)))) (pg_name (i := 7) sc_law.nd rfl (.inl rfl)) (pss_one (ps_if (PW.pt (pw_or (pt_not (pt_val (pe_callB (isi1 K) (by rfl) misinstance (by decide +kernel) (pa_cons (pv 7) (pa_cons (pe_bltn (v := .ty "bool") (by rfl) mbool (by decide +kernel) rfl) pa_nil))))) (pw_or (pt_cmpR op_ne (pv 7) (pe_ca c_law_due (hr.mono (by decide)) (by rfl) (pa_cons (pv 5) pa_nil)) (nomark _)) (pw_or1 (pt_cmpR op_ne (pe_callB (call_showD hSM hG hr.units) (by rfl) mrepr (by decide +kernel) (pa_cons (pv 5) pa_nil)) (pv 6) (nomark _)))))) (pss_one (ps_ret pe_bl)) pss_nil))))))))))
      (pss_one (ps_ret pe_bl)))), ?_⟩
    refine ⟨_, rfl, a0, ns, rfl, hS, hns, fun p c H1 hP1 => ?_⟩
    refine ⟨4, rfl, by decide, by decide, for_range (n := 4) (fun t σ H2 => ∃ (y2 y3 y4 y5 y6 y7 : Option V) (n : Nat), σ = [some (.ref a0), some (.ref p), y2, y3, y4, y5, y6, y7, none] ∧ Pen H2 p c n ∧ n ≤ 1000 * t)
      ⟨none, none, none, none, none, none, 0, rfl, hP1, by decide⟩ (fun t σ H2 ht hv => ?_) (fun σ H2 hv => ?_)⟩
    rotate_left
    · obtain ⟨_, _, _, _, _, _, _, rfl, _, _⟩ := hv
      exact q _
    obtain ⟨y2, y3, y4, y5, y6, y7, n, rfl, hP2, hn⟩ := hv
    refine gow_name ?_
    dsimp only
    -- how many lines
    refine ⟨_, rfl, p, c, 6, n, rfl, hP2, by omega, by decide, by decide, fun r1 H3 r10 r11 k3 hP3 => ⟨szL (show 4 ≤ 1000000 by decide), fun l1 hl1 => ?_⟩⟩
    refine ⟨_, rfl, p, c, 4, _, rfl, hP3.new hl1, by omega, by decide, by decide, fun e4 H4 e40 e41 k4 hP4 => ?_⟩
    obtain ⟨m, hm, hat⟩ := atI_ints (ns := [r1, 20, 21, 3]) e40 (by show e4 < 4; omega)
    have hmb : 0 ≤ m ∧ m ≤ 21 := by
      simp only [List.mem_cons, List.not_mem_nil, or_false] at hm
      omega
    obtain ⟨mm, rfl⟩ : ∃ mm : Nat, m = (mm : Int) := ⟨m.toNat, by omega⟩
    refine ⟨l1, _, e4, .int (mm : Int), rfl, rfl, SqL.of (k4 _ _ (hP3.ne hl1).1 upd_same), hat, (mm : Int), rfl, by omega, by omega, fun D hD => lc_range (n := mm) (fun j H5 => ∃ ws, H5 D = some (.lst ws) ∧ ws.length = j ∧ (∀ v ∈ ws, LineAt H5 v) ∧ Pen H5 p c (n + 2 + 10 * j))
      ⟨[], upd_same, rfl, (fun v h => by cases h), (hP4.new hD).mono (by omega)⟩ (fun j H5 hj hv => ?_) (fun H5 hv => ?_)⟩
    · obtain ⟨ws, hD5, hwl, hws, hP5⟩ := hv
      have nD := (hP4.ne hD).1
      have nDc := (hP4.ne hD).2
      obtain ⟨_, _, _, hpp5, _⟩ := id hP5
      refine ⟨rfl, _, rfl, p, c, _, rfl, hP5, by omega, fun v H6 hv6 k6 hP6 => ?_⟩
      have hD6 := k6 _ _ nD hD5
      refine ⟨ws, hD6, szLt (by omega), ws ++ [v], upd_same, by rw [List.length_append, List.length_singleton, hwl], fun u hu => ?_, (hP6.put nD nDc).mono (by omega)⟩
      rcases List.mem_append.mp hu with hu | hu
      · exact ((hws u hu).kp k6 hpp5).put hD6
      · rw [List.mem_singleton.mp hu]
        exact hv6.put hD6
    obtain ⟨ws, hD5, hwl, hws, hP5⟩ := hv
    refine ⟨D, ws, rfl, .inl ⟨SqL.of hD5, fun tl htl => ?_⟩⟩
    have x6 := Ext.new (o := .tup ws) htl
    have hG6 : ProgAt (upd H5 tl (.tup ws)) tl ws := ⟨upd_same, by omega, fun u hu => (hws u hu).ext x6⟩
    have hP6 := hP5.new (o := .tup ws) htl
    generalize upd H5 tl (.tup ws) = H6 at hG6 hP6 ⊢
    clear x6 htl hD5 hws hP5 hP4 hP3 hP2 k3 k4 hl1 hat hm
    -- things
    refine ⟨_, rfl, szL (show 1 ≤ 1000000 by decide), fun l7 hl7 => ?_⟩
    have x7 := Ext.new (o := .lst [.ref tl]) hl7
    have hG7 := hG6.ext x7
    have n7 := (hP6.ne hl7).1
    have hP7 := hP6.new (o := .lst [.ref tl]) hl7
    have h77 : upd H6 l7 (.lst [.ref tl]) l7 = some (.lst [.ref tl]) := upd_same
    generalize upd H6 l7 (.lst [.ref tl]) = H7 at hG7 hP7 h77 ⊢
    clear x7 hl7 hG6 hP6
    refine ⟨12, rfl, by decide, by decide, fun D8 hD8 => lc_range (n := 12) (fun j H9 => ∃ us, H9 D8 = some (.lst us) ∧ us.length = j ∧ (∀ v ∈ us, Dm 43100 3 p D8 H9 v) ∧ ProgAt H9 tl ws ∧ H9 l7 = some (.lst [.ref tl]) ∧ Pen H9 p c (n + 2 + 10 * mm + 10 * j))
      ⟨[], upd_same, rfl, (fun v h => by cases h), hG7.ext (Ext.new hD8), Ext.new hD8 _ _ h77, (hP7.new hD8).mono (by omega)⟩ (fun j H9 hj hv => ?_) (fun H9 hv => ?_)⟩
    · obtain ⟨us, hD9, hul, hus, hG9, h79, hP9⟩ := hv
      have nD := (hP7.ne hD8).1
      have nDc := (hP7.ne hD8).2
      have n78 : l7 ≠ D8 := fun z => by
        rw [z, hD8] at h77
        cases h77
      obtain ⟨_, _, _, hpp9, _⟩ := id hP9
      refine ⟨rfl, _, rfl, _, rfl, p, c, D8, tl, ws, us, _, rfl, nD, hD9, hG9, hP9, by omega, fun v H10 hv10 k10 hP10 => ?_⟩
      have hD10 := k10 _ _ nD hD9
      have hG10 := hG9.kp k10 hpp9
      refine ⟨us, hD10, szLt (by omega), us ++ [v], upd_same, by rw [List.length_append, List.length_singleton, hul], fun u hu => ?_, ⟨by rw [upd_ne (ne_of hG10.1 hD10 (by intro z; cases z))]; exact hG10.1, hG10.2.1, fun u hu => (hG10.2.2 u hu).put hD10⟩, by rw [upd_ne n78]; exact k10 _ _ n7 h79, (hP10.put nD nDc).mono (by omega)⟩
      rcases List.mem_append.mp hu with hu | hu
      · exact ((hus u hu).kp k10).put
      · rw [List.mem_singleton.mp hu]
        exact hv10.put
    obtain ⟨us, hD9, hul, hus, hG9, h79, hP9⟩ := hv
    have tD : Dm 43100 3 p D8 H9 (.ref tl) := (Dm.tupP (n := 21) (m := 603) (k := 1) (M := 12684) hP9 hD9 hG9.1 (fun u hu => (hG9.2.2 u hu).dm hP9 hD9) hG9.2.1 (by decide)).le (by decide) (by decide)
    refine ⟨l7, D8, _, us, rfl, rfl, h79, hD9, szL (by rw [List.length_singleton]; omega), fun l10 hl10 => ?_⟩
    have x10 := Ext.new (o := .lst ([.ref tl] ++ us)) hl10
    have q10 : ∀ v ∈ [V.ref tl] ++ us, ∃ d, De (upd H9 l10 (.lst ([.ref tl] ++ us))) v d ∧ BgD 201 43100 3 d := by
      intro v hv
      have h : Dm 43100 3 p D8 H9 v := by
        rcases List.mem_append.mp hv with hv | hv
        · rw [List.mem_singleton.mp hv]
          exact tD
        · exact hus v hv
      obtain ⟨d, h1, h2⟩ := h.de
      exact ⟨d, de_ext x10 h1, h2⟩
    have h10 : upd H9 l10 (.lst ([.ref tl] ++ us)) l10 = some (.lst ([.ref tl] ++ us)) := upd_same
    have l13 : ([V.ref tl] ++ us).length = 13 := by rw [List.length_append, hul]; rfl
    have hP10 := hP9.new (o := .lst ([.ref tl] ++ us)) hl10
    generalize [V.ref tl] ++ us = ts at q10 h10 l13 hP10 ⊢
    generalize upd H9 l10 (.lst ts) = H10 at q10 h10 hP10 ⊢
    clear x10 hl10 tD hus hG9 hP9 hD9 h79
    -- each of them
    refine ⟨_, rfl, _, rfl, 1, rfl, l10, ts, rfl, SqL.of h10, fun l11 hl11 => ?_⟩
    have x11 := Ext.new (o := .lst (cutV ts none (some 1))) hl11
    refine ⟨l10, l11, ts, _, rfl, rfl, x11 _ _ h10, upd_same, szL (by have := cutV_length ts none (some 1); omega), fun l12 hl12 => ?_⟩
    have x12 := Ext.new (o := .lst (ts ++ cutV ts none (some 1))) hl12
    have x112 := x11.trans x12
    have q12 : ∀ v ∈ ts ++ cutV ts none (some 1), ∃ d, De (upd (upd H10 l11 (.lst (cutV ts none (some 1)))) l12 (.lst (ts ++ cutV ts none (some 1)))) v d ∧ BgD 201 43100 3 d := by
      intro v hv
      obtain ⟨d, h1, h2⟩ := q10 v ((List.mem_append.mp hv).elim id cutV_memP)
      exact ⟨d, de_ext x112 h1, h2⟩
    have h12 : upd (upd H10 l11 (.lst (cutV ts none (some 1)))) l12 (.lst (ts ++ cutV ts none (some 1))) l12 = some (.lst (ts ++ cutV ts none (some 1))) := upd_same
    have hP12 := hP10.ext x112
    generalize ts ++ cutV ts none (some 1) = tz at q12 h12 hP12 ⊢
    generalize upd (upd H10 l11 (.lst (cutV ts none (some 1)))) l12 (.lst tz) = H12 at q12 h12 hP12 ⊢
    clear x11 x12 x112 hl11 hl12 q10 h10 hP10
    refine ⟨l12, rfl, ⟨_, SqL.of h12⟩, for_list (K := K) (xs := tz) (fun i σ H13 => ∃ (y5 y6 y7 : Option V), σ = [some (.ref a0), some (.ref p), some (.int (0 + (t : Int))), some (.ref tl), some (.ref l10), y5, y6, y7, none] ∧ Ext H12 H13)
      ⟨_, _, _, rfl, Ext.refl⟩ (fun i σ H13 _ h => by obtain ⟨_, _, _, _, k⟩ := h; exact SqL.of (k _ _ h12)) (fun i u σ H13 hi hv => ?_) (fun σ H13 hv => ?_)⟩
    rotate_left
    · obtain ⟨y5, y6, y7, rfl, k13⟩ := hv
      exact ⟨_, _, _, _, _, _, _, rfl, hP12.ext k13, by omega⟩
    obtain ⟨y5, y6, y7, rfl, k13⟩ := hv
    obtain ⟨d, hd12, hbg⟩ := q12 u (List.mem_of_getElem? hi)
    have hd13 := de_ext k13 hd12
    have hw : d.weight ≤ 1000000 := Nat.le_trans hbg.wt (by decide)
    refine gow_name ?_
    dsimp only
    refine ⟨_, rfl, u, d, 201, _, _, rfl, hd13, hbg, by decide, by decide, by decide, ?_⟩
    generalize hS0 : d.shown = S0
    refine ⟨_, rfl, u, d, rfl, hd13, hw, fun H14 k14 => ⟨_, rfl, rfl, rfl, u, d, rfl, de_ext k14 hd13, hw, fun H15 k15 => ⟨szL (show 2 ≤ 1000000 by decide), fun l16 hl16 => ?_⟩⟩⟩
    have x16 := Ext.new (o := .lst [.bl (progD d), .bl (progD d)]) hl16
    have h16 : upd H15 l16 (.lst [.bl (progD d), .bl (progD d)]) l16 = some (.lst [.bl (progD d), .bl (progD d)]) := upd_same
    have k1316 := k14.trans (k15.trans x16)
    have hd16 := de_ext k1316 hd13
    have k1216 := k13.trans k1316
    generalize upd H15 l16 (.lst [.bl (progD d), .bl (progD d)]) = H16 at h16 hd16 k1216 ⊢
    refine ⟨l16, rfl, ⟨_, SqL.of h16⟩, for_list (K := K) (xs := [V.bl (progD d), .bl (progD d)]) (fun i σ H17 => ∃ (y7 : Option V), σ = [some (.ref a0), some (.ref p), some (.int (0 + (t : Int))), some (.ref tl), some (.ref l10), some u, some (.str S0), y7, none] ∧ Ext H16 H17)
      ⟨_, rfl, Ext.refl⟩ (fun i σ H17 _ h => by obtain ⟨_, _, k⟩ := h; exact SqL.of (k _ _ h16)) (fun i b σ H17 hib hv => ?_) (fun σ H17 hv => ?_)⟩
    · obtain ⟨y7, rfl, k17⟩ := hv
      have hb : b = .bl (progD d) := by
        have := List.mem_of_getElem? hib
        simp only [List.mem_cons, List.not_mem_nil, or_false, or_self] at this
        exact this
      subst hb
      have hd17 := de_ext k17 hd16
      refine gow_name ?_
      dsimp only
      refine ⟨_, rfl, _, .ty "bool", _, _, true, rfl, .ty _, .base (.bl _), kit_ty (by decide +kernel), true, rfl, iteF ?_⟩
      refine ⟨_, rfl, _, rfl, u, d, rfl, hd17, hw, fun H18 k18 => ⟨rfl, _, rfl, iteNS rfl ?_⟩⟩
      refine ⟨_, rfl, u, d, 201, _, _, rfl, de_ext k18 hd17, hbg, by decide, by decide, by decide, ?_⟩
      rw [hS0]
      refine ⟨_, rfl, rfl, _, rfl, iteNS rfl ?_⟩
      exact ⟨_, rfl, k17.trans k18⟩
    · obtain ⟨y7, rfl, k17⟩ := hv
      exact ⟨_, _, _, rfl, k1216.trans k17⟩
end
end Pf


namespace Pf
open PySem PySem.Spec PyProof.Rows L2
def adrOf (f1 f2 f3 f4 : Addr) : Fm → Addr
  | .t => f1
  | .n => f2
  | .l => f3
  | .b => f4
theorem find_str {hh : Int} {k : Str} {t : Tok} {v : Value} {z : Str} {l : List DictEntry} : List.find? (fun d : DictEntry => d.key.isStr z) (⟨hh, .str k t, v⟩ :: l) = if k = z then some ⟨hh, .str k t, v⟩ else List.find? (fun d : DictEntry => d.key.isStr z) l := by
  rw [List.find?_cons]
  show (match (k == z) with | true => _ | false => _) = _
  by_cases h : k = z
  · rw [if_pos h, beq_iff_eq.mpr h]
  · rw [if_neg h, Bool.eq_false_iff.mpr (fun e => h (beq_iff_eq.mp e))]
theorem forms_at {P : Program} {w : World} {K : PySem.W.Frag} {mg : Str → Option Value} {base : Heap} {aF f1 f2 f3 f4 T0 T1 T2 T3 T4 T5 T6 : Addr} {n n0 n1 n2 n3 n4 n5 n6 : Nat} {hh0 hh1 hh2 hh3 hh4 hh5 hh6 : Int} {tk0 tk1 tk2 tk3 tk4 tk5 tk6 : Tok} {o0 o1 o2 o3 o4 o5 o6 : Option Addr} {s0 s1 s2 s3 s4 s5 s6 : Array (Option Value)}
    (low : (aF == sysModules) = false)
    (lF : K.lookup aF = some ⟨.type "dict", none, .dict #[⟨hh0, .str "string" tk0, .ref T0⟩, ⟨hh1, .str "letter" tk1, .ref T1⟩, ⟨hh2, .str "least" tk2, .ref T2⟩, ⟨hh3, .str "count" tk3, .ref T3⟩, ⟨hh4, .str "worth" tk4, .ref T4⟩, ⟨hh5, .str "has" tk5, .ref T5⟩, ⟨hh6, .str "within" tk6, .ref T6⟩] n, #[]⟩)
    (kF : PySem.W.KeysLit w.params [⟨hh0, .str "string" tk0, .ref T0⟩, ⟨hh1, .str "letter" tk1, .ref T1⟩, ⟨hh2, .str "least" tk2, .ref T2⟩, ⟨hh3, .str "count" tk3, .ref T3⟩, ⟨hh4, .str "worth" tk4, .ref T4⟩, ⟨hh5, .str "has" tk5, .ref T5⟩, ⟨hh6, .str "within" tk6, .ref T6⟩])
    (l0 : K.lookup T0 = some ⟨.type "tuple", o0, .seq #[.ref f1] n0, s0⟩) (l1 : K.lookup T1 = some ⟨.type "tuple", o1, .seq #[.ref f2, .ref f3] n1, s1⟩) (l2 : K.lookup T2 = some ⟨.type "tuple", o2, .seq #[] n2, s2⟩) (l3 : K.lookup T3 = some ⟨.type "tuple", o3, .seq #[] n3, s3⟩)
    (l4 : K.lookup T4 = some ⟨.type "tuple", o4, .seq #[.ref f4] n4, s4⟩) (l5 : K.lookup T5 = some ⟨.type "tuple", o5, .seq #[.ref f2, .ref f2] n5, s5⟩) (l6 : K.lookup T6 = some ⟨.type "tuple", o6, .seq #[.ref f2] n6, s6⟩)
    (fn : ∀ m, FnV0 P w K mg base 3 (adrOf f1 f2 f3 f4 m) fun vs H Q _ => ∃ (v : V) (d : PyData), vs = [v] ∧ De H v d ∧ d.weight ≤ 1000000 ∧ ∀ H', Ext H H' → Q (.bl (m.den d)) H') : FormsAt P w K mg base aF (adrOf f1 f2 f3 f4) := by
  have key : ∀ z, PySem.W.nsIn K aF z = some (if "string" = z then some (.ref T0) else if "letter" = z then some (.ref T1) else if "least" = z then some (.ref T2) else if "count" = z then some (.ref T3) else if "worth" = z then some (.ref T4) else if "has" = z then some (.ref T5) else if "within" = z then some (.ref T6) else none) := by
    intro z
    unfold PySem.W.nsIn
    rw [lF]
    dsimp only
    simp only [find_str]
    by_cases z0 : "string" = z
    · rw [if_pos z0, if_pos z0]
    rw [if_neg z0, if_neg z0]
    by_cases z1 : "letter" = z
    · rw [if_pos z1, if_pos z1]
    rw [if_neg z1, if_neg z1]
    by_cases z2 : "least" = z
    · rw [if_pos z2, if_pos z2]
    rw [if_neg z2, if_neg z2]
    by_cases z3 : "count" = z
    · rw [if_pos z3, if_pos z3]
    rw [if_neg z3, if_neg z3]
    by_cases z4 : "worth" = z
    · rw [if_pos z4, if_pos z4]
    rw [if_neg z4, if_neg z4]
    by_cases z5 : "has" = z
    · rw [if_pos z5, if_pos z5]
    rw [if_neg z5, if_neg z5]
    by_cases z6 : "within" = z
    · rw [if_pos z6, if_pos z6]
    rw [if_neg z6, if_neg z6]
    rfl
  have sq : ∀ {T : Addr} {o : Option Addr} {its : List Value} {xs : List V} {m : Nat} {s : Array (Option Value)}, K.lookup T = some ⟨.type "tuple", o, .seq its.toArray m, s⟩ → Vals xs its → xs.length ≤ 2 → ∀ H, SqT K H T xs := fun {T o its xs m s} l v hl H => .inr ⟨_, _, _, l, rfl, rfl, by rw [List.size_toArray, ← v.length]; exact szL (by omega), by simpa using v⟩
  refine ⟨⟨_, _, lF, kF, low⟩, fun z hz => ?_, fun z l hz => ?_, fn⟩
  · rw [key z]
    unfold formsOf at hz
    split at hz
    · cases hz
    split at hz
    · cases hz
    split at hz
    · cases hz
    split at hz
    · cases hz
    split at hz
    · cases hz
    split at hz
    · cases hz
    split at hz
    · cases hz
    rename_i a b c d e f g
    rw [if_neg (fun h => a h.symm), if_neg (fun h => b h.symm), if_neg (fun h => c h.symm), if_neg (fun h => d h.symm), if_neg (fun h => e h.symm), if_neg (fun h => f h.symm), if_neg (fun h => g h.symm)]
  · rw [key z]
    unfold formsOf at hz
    split at hz
    · rename_i a
      subst a
      cases hz
      exact ⟨T0, rfl, sq (its := [.ref f1]) l0 (.cons rfl .nil) (by simp)⟩
    split at hz
    · rename_i a
      subst a
      cases hz
      exact ⟨T1, rfl, sq (its := [.ref f2, .ref f3]) l1 (.cons rfl (.cons rfl .nil)) (by simp)⟩
    split at hz
    · rename_i a
      subst a
      cases hz
      exact ⟨T2, rfl, sq (its := []) l2 .nil (by simp)⟩
    split at hz
    · rename_i a
      subst a
      cases hz
      exact ⟨T3, rfl, sq (its := []) l3 .nil (by simp)⟩
    split at hz
    · rename_i a
      subst a
      cases hz
      exact ⟨T4, rfl, sq (its := [.ref f4]) l4 (.cons rfl .nil) (by simp)⟩
    split at hz
    · rename_i a
      subst a
      cases hz
      exact ⟨T5, rfl, sq (its := [.ref f2, .ref f2]) l5 (.cons rfl (.cons rfl .nil)) (by simp)⟩
    split at hz
    · rename_i a
      subst a
      cases hz
      exact ⟨T6, rfl, sq (its := [.ref f2]) l6 (.cons rfl .nil) (by simp)⟩
    · cases hz
end Pf


namespace Pf
open PySem PySem.Spec PyProof.Rows L2
/-! ### what the top has written; the law's own head -/
theorem all_mk {l : PySem.W.OpenLaw} {w : World} {K : PySem.W.Frag} {h : Heap} {mg : Str → Option Value} {fa f0 f1 f2 f3 f4 f5 f6 f7 f8 f9 f10 f11 f12 f13 f14 f15 f16 f17 : Addr} (X : K.In h) (G : h.Ns mainGlobals mg) (hfa : mg "law" = some (.ref fa))
    {od0 an0 od1 an1 od2 an2 od3 an3 od4 an4 od5 an5 od6 an6 od7 an7 od8 an8 od9 an9 od10 an10 od11 an11 od12 an12 od13 an13 od14 an14 od15 an15 od16 an16 od17 an17 : Option Addr} {sl0 sl1 sl2 sl3 sl4 sl5 sl6 sl7 sl8 sl9 sl10 sl11 sl12 sl13 sl14 sl15 sl16 sl17 : Array (Option Value)} {oc0 kV0 dc0 pm0 cd0 ct0 oc1 kV1 dc1 pm1 cd1 ct1 oc2 kV2 dc2 pm2 cd2 ct2 oc3 kV3 dc3 pm3 cd3 ct3 oc4 kV4 dc4 pm4 cd4 ct4 oc5 kV5 dc5 pm5 cd5 ct5 oc6 kV6 dc6 pm6 cd6 ct6 oc7 kV7 dc7 pm7 cd7 ct7 oc8 kV8 dc8 pm8 cd8 ct8 oc9 kV9 dc9 pm9 cd9 ct9 oc10 kV10 dc10 pm10 cd10 ct10 oc11 kV11 dc11 pm11 cd11 ct11 oc12 kV12 dc12 pm12 cd12 ct12 oc13 kV13 dc13 pm13 cd13 ct13 oc14 kV14 dc14 pm14 cd14 ct14 oc15 kV15 dc15 pm15 cd15 ct15 oc16 kV16 dc16 pm16 cd16 ct16 oc17 kV17 dc17 pm17 cd17 ct17 : Value} {aFORMS : Addr} {nF : Nat} {hh0 : Int} {tk0 : Tok} {T0 : Addr} {oT0 : Option Addr} {nT0 : Nat} {sT0 : Array (Option Value)} {hh1 : Int} {tk1 : Tok} {T1 : Addr} {oT1 : Option Addr} {nT1 : Nat} {sT1 : Array (Option Value)} {hh2 : Int} {tk2 : Tok} {T2 : Addr} {oT2 : Option Addr} {nT2 : Nat} {sT2 : Array (Option Value)} {hh3 : Int} {tk3 : Tok} {T3 : Addr} {oT3 : Option Addr} {nT3 : Nat} {sT3 : Array (Option Value)} {hh4 : Int} {tk4 : Tok} {T4 : Addr} {oT4 : Option Addr} {nT4 : Nat} {sT4 : Array (Option Value)} {hh5 : Int} {tk5 : Tok} {T5 : Addr} {oT5 : Option Addr} {nT5 : Nat} {sT5 : Array (Option Value)} {hh6 : Int} {tk6 : Tok} {T6 : Addr} {oT6 : Option Addr} {nT6 : Nat} {sT6 : Array (Option Value)} {tI0 : Tok} {tI1 : Tok} {tI2 : Tok} {tI3 : Tok} 
    (a0 : PySem.W.nsIn K mainGlobals "is_whole" = some (some (.ref f0))) (l0 : K.lookup f0 = some ⟨oc0, od0, .func (PySem.W.fnOf "is_whole" "is_whole" (defArgs s_is_whole) (defBody s_is_whole) (defScope s_is_whole) .none kV0 dc0 pm0 an0 cd0 ct0), sl0⟩) (c0 : PySem.W.codeIn K cd0 "is_whole" = true) (k0 : PySem.W.keepIn K (.ref f0) = true)
    (a1 : PySem.W.nsIn K mainGlobals "is_line_number" = some (some (.ref f1))) (l1 : K.lookup f1 = some ⟨oc1, od1, .func (PySem.W.fnOf "is_line_number" "is_line_number" (defArgs s_is_line_number) (defBody s_is_line_number) (defScope s_is_line_number) .none kV1 dc1 pm1 an1 cd1 ct1), sl1⟩) (c1 : PySem.W.codeIn K cd1 "is_line_number" = true) (k1 : PySem.W.keepIn K (.ref f1) = true)
    (a2 : PySem.W.nsIn K mainGlobals "is_text_of" = some (some (.ref f2))) (l2 : K.lookup f2 = some ⟨oc2, od2, .func (PySem.W.fnOf "is_text_of" "is_text_of" (defArgs s_is_text_of) (defBody s_is_text_of) (defScope s_is_text_of) .none kV2 dc2 pm2 an2 cd2 ct2), sl2⟩) (c2 : PySem.W.codeIn K cd2 "is_text_of" = true) (k2 : PySem.W.keepIn K (.ref f2) = true)
    (a3 : PySem.W.nsIn K mainGlobals "is_line_text" = some (some (.ref f3))) (l3 : K.lookup f3 = some ⟨oc3, od3, .func (PySem.W.fnOf "is_line_text" "is_line_text" (defArgs s_is_line_text) (defBody s_is_line_text) (defScope s_is_line_text) .none kV3 dc3 pm3 an3 cd3 ct3), sl3⟩) (c3 : PySem.W.codeIn K cd3 "is_line_text" = true) (k3 : PySem.W.keepIn K (.ref f3) = true)
    (a4 : PySem.W.nsIn K mainGlobals "are_line_brackets" = some (some (.ref f4))) (l4 : K.lookup f4 = some ⟨oc4, od4, .func (PySem.W.fnOf "are_line_brackets" "are_line_brackets" (defArgs s_are_line_brackets) (defBody s_are_line_brackets) (defScope s_are_line_brackets) .none kV4 dc4 pm4 an4 cd4 ct4), sl4⟩) (c4 : PySem.W.codeIn K cd4 "are_line_brackets" = true) (k4 : PySem.W.keepIn K (.ref f4) = true)
    (a5 : PySem.W.nsIn K mainGlobals "is_line_letter" = some (some (.ref f5))) (l5 : K.lookup f5 = some ⟨oc5, od5, .func (PySem.W.fnOf "is_line_letter" "is_line_letter" (defArgs s_is_line_letter) (defBody s_is_line_letter) (defScope s_is_line_letter) .none kV5 dc5 pm5 an5 cd5 ct5), sl5⟩) (c5 : PySem.W.codeIn K cd5 "is_line_letter" = true) (k5 : PySem.W.keepIn K (.ref f5) = true)
    (a6 : PySem.W.nsIn K mainGlobals "is_line" = some (some (.ref f6))) (l6 : K.lookup f6 = some ⟨oc6, od6, .func (PySem.W.fnOf "is_line" "is_line" (defArgs s_is_line) (defBody s_is_line) (defScope s_is_line) .none kV6 dc6 pm6 an6 cd6 ct6), sl6⟩) (c6 : PySem.W.codeIn K cd6 "is_line" = true) (k6 : PySem.W.keepIn K (.ref f6) = true)
    (a7 : PySem.W.nsIn K mainGlobals "is_program" = some (some (.ref f7))) (l7 : K.lookup f7 = some ⟨oc7, od7, .func (PySem.W.fnOf "is_program" "is_program" (defArgs s_is_program) (defBody s_is_program) (defScope s_is_program) .none kV7 dc7 pm7 an7 cd7 ct7), sl7⟩) (c7 : PySem.W.codeIn K cd7 "is_program" = true) (k7 : PySem.W.keepIn K (.ref f7) = true)
    (a8 : PySem.W.nsIn K mainGlobals "_law_pen" = some (some (.ref f8))) (l8 : K.lookup f8 = some ⟨oc8, od8, .func (PySem.W.fnOf "_law_pen" "_law_pen" (defArgs s_law_pen) (defBody s_law_pen) (defScope s_law_pen) .none kV8 dc8 pm8 an8 cd8 ct8), sl8⟩) (c8 : PySem.W.codeIn K cd8 "_law_pen" = true) (k8 : PySem.W.keepIn K (.ref f8) = true)
    (a9 : PySem.W.nsIn K mainGlobals "_law_take" = some (some (.ref f9))) (l9 : K.lookup f9 = some ⟨oc9, od9, .func (PySem.W.fnOf "_law_take" "_law_take" (defArgs s_law_take) (defBody s_law_take) (defScope s_law_take) .none kV9 dc9 pm9 an9 cd9 ct9), sl9⟩) (c9 : PySem.W.codeIn K cd9 "_law_take" = true) (k9 : PySem.W.keepIn K (.ref f9) = true)
    (a10 : PySem.W.nsIn K mainGlobals "_law_is_number" = some (some (.ref f10))) (l10 : K.lookup f10 = some ⟨oc10, od10, .func (PySem.W.fnOf "_law_is_number" "_law_is_number" (defArgs s_law_is_number) (defBody s_law_is_number) (defScope s_law_is_number) .none kV10 dc10 pm10 an10 cd10 ct10), sl10⟩) (c10 : PySem.W.codeIn K cd10 "_law_is_number" = true) (k10 : PySem.W.keepIn K (.ref f10) = true)
    (a11 : PySem.W.nsIn K mainGlobals "_law_is_text" = some (some (.ref f11))) (l11 : K.lookup f11 = some ⟨oc11, od11, .func (PySem.W.fnOf "_law_is_text" "_law_is_text" (defArgs s_law_is_text) (defBody s_law_is_text) (defScope s_law_is_text) .none kV11 dc11 pm11 an11 cd11 ct11), sl11⟩) (c11 : PySem.W.codeIn K cd11 "_law_is_text" = true) (k11 : PySem.W.keepIn K (.ref f11) = true)
    (a12 : PySem.W.nsIn K mainGlobals "_law_is_line" = some (some (.ref f12))) (l12 : K.lookup f12 = some ⟨oc12, od12, .func (PySem.W.fnOf "_law_is_line" "_law_is_line" (defArgs s_law_is_line) (defBody s_law_is_line) (defScope s_law_is_line) .none kV12 dc12 pm12 an12 cd12 ct12), sl12⟩) (c12 : PySem.W.codeIn K cd12 "_law_is_line" = true) (k12 : PySem.W.keepIn K (.ref f12) = true)
    (a13 : PySem.W.nsIn K mainGlobals "_law_due" = some (some (.ref f13))) (l13 : K.lookup f13 = some ⟨oc13, od13, .func (PySem.W.fnOf "_law_due" "_law_due" (defArgs s_law_due) (defBody s_law_due) (defScope s_law_due) .none kV13 dc13 pm13 an13 cd13 ct13), sl13⟩) (c13 : PySem.W.codeIn K cd13 "_law_due" = true) (k13 : PySem.W.keepIn K (.ref f13) = true)
    (a14 : PySem.W.nsIn K mainGlobals "_law_line" = some (some (.ref f14))) (l14 : K.lookup f14 = some ⟨oc14, od14, .func (PySem.W.fnOf "_law_line" "_law_line" (defArgs s_law_line) (defBody s_law_line) (defScope s_law_line) .none kV14 dc14 pm14 an14 cd14 ct14), sl14⟩) (c14 : PySem.W.codeIn K cd14 "_law_line" = true) (k14 : PySem.W.keepIn K (.ref f14) = true)
    (a15 : PySem.W.nsIn K mainGlobals "_law_odd" = some (some (.ref f15))) (l15 : K.lookup f15 = some ⟨oc15, od15, .func (PySem.W.fnOf "_law_odd" "_law_odd" (defArgs s_law_odd) (defBody s_law_odd) (defScope s_law_odd) .none kV15 dc15 pm15 an15 cd15 ct15), sl15⟩) (c15 : PySem.W.codeIn K cd15 "_law_odd" = true) (k15 : PySem.W.keepIn K (.ref f15) = true)
    (a16 : PySem.W.nsIn K mainGlobals "_law_bent" = some (some (.ref f16))) (l16 : K.lookup f16 = some ⟨oc16, od16, .func (PySem.W.fnOf "_law_bent" "_law_bent" (defArgs s_law_bent) (defBody s_law_bent) (defScope s_law_bent) .none kV16 dc16 pm16 an16 cd16 ct16), sl16⟩) (c16 : PySem.W.codeIn K cd16 "_law_bent" = true) (k16 : PySem.W.keepIn K (.ref f16) = true)
    (a17 : PySem.W.nsIn K mainGlobals "law" = some (some (.ref f17))) (l17 : K.lookup f17 = some ⟨oc17, od17, .func (PySem.W.fnOf "law" "law" (defArgs s_law) (defBody s_law) (defScope s_law) .none kV17 dc17 pm17 an17 cd17 ct17), sl17⟩) (c17 : PySem.W.codeIn K cd17 "law" = true) (k17 : PySem.W.keepIn K (.ref f17) = true)
    (z0 : PySem.W.nsIn K mainGlobals "len" = some none)
    (z1 : PySem.W.nsIn K mainGlobals "abs" = some none)
    (z2 : PySem.W.nsIn K mainGlobals "int" = some none)
    (z3 : PySem.W.nsIn K mainGlobals "isinstance" = some none)
    (z4 : PySem.W.nsIn K mainGlobals "str" = some none)
    (z5 : PySem.W.nsIn K mainGlobals "bool" = some none)
    (z6 : PySem.W.nsIn K mainGlobals "tuple" = some none)
    (z7 : PySem.W.nsIn K mainGlobals "all" = some none)
    (z8 : PySem.W.nsIn K mainGlobals "zip" = some none)
    (z9 : PySem.W.nsIn K mainGlobals "list" = some none)
    (z10 : PySem.W.nsIn K mainGlobals "range" = some none)
    (z11 : PySem.W.nsIn K mainGlobals "repr" = some none)
    (aI0 : PySem.W.nsIn K mainGlobals "MOST_SIGNS" = some (some (.int 40 tI0)))
    (aI1 : PySem.W.nsIn K mainGlobals "MOST_NUMBER" = some (some (.int 99 tI1)))
    (aI2 : PySem.W.nsIn K mainGlobals "MOST_LINES" = some (some (.int 20 tI2)))
    (aI3 : PySem.W.nsIn K mainGlobals "SMALL_LETTERS" = some (some (.str "abcdefghijklmnopqrstuvwxyz" tI3)))
    (nFORMS : (aFORMS == sysModules) = false)
    (aFo : PySem.W.nsIn K mainGlobals "FORMS" = some (some (.ref aFORMS)))
    (lFORMS : K.lookup aFORMS = some ⟨.type "dict", none, .dict #[⟨hh0, .str "string" tk0, .ref T0⟩, ⟨hh1, .str "letter" tk1, .ref T1⟩, ⟨hh2, .str "least" tk2, .ref T2⟩, ⟨hh3, .str "count" tk3, .ref T3⟩, ⟨hh4, .str "worth" tk4, .ref T4⟩, ⟨hh5, .str "has" tk5, .ref T5⟩, ⟨hh6, .str "within" tk6, .ref T6⟩] nF, #[]⟩)
    (kFORMS : PySem.W.KeysLit w.params [⟨hh0, .str "string" tk0, .ref T0⟩, ⟨hh1, .str "letter" tk1, .ref T1⟩, ⟨hh2, .str "least" tk2, .ref T2⟩, ⟨hh3, .str "count" tk3, .ref T3⟩, ⟨hh4, .str "worth" tk4, .ref T4⟩, ⟨hh5, .str "has" tk5, .ref T5⟩, ⟨hh6, .str "within" tk6, .ref T6⟩])
    (lT0 : K.lookup T0 = some ⟨.type "tuple", oT0, .seq #[.ref f3] nT0, sT0⟩)
    (lT1 : K.lookup T1 = some ⟨.type "tuple", oT1, .seq #[.ref f1, .ref f5] nT1, sT1⟩)
    (lT2 : K.lookup T2 = some ⟨.type "tuple", oT2, .seq #[] nT2, sT2⟩)
    (lT3 : K.lookup T3 = some ⟨.type "tuple", oT3, .seq #[] nT3, sT3⟩)
    (lT4 : K.lookup T4 = some ⟨.type "tuple", oT4, .seq #[.ref f4] nT4, sT4⟩)
    (lT5 : K.lookup T5 = some ⟨.type "tuple", oT5, .seq #[.ref f1, .ref f1] nT5, sT5⟩)
    (lT6 : K.lookup T6 = some ⟨.type "tuple", oT6, .seq #[.ref f1] nT6, sT6⟩) :
    ∃ fd : FuncData, (∀ (s : Shared) (v : Value), BindsTo s fd ⟨[v], []⟩ [("_law_script", v)]) ∧ ∀ base : Heap, K.In base → base.Ns mainGlobals mg → (∃ o, base.get? sysModules = some o) → FnG l.prog w K mg base fa fd ["_law_script"] (spLaw K) := by
  have e := hfa.symm.trans (PySem.W.mg_of X G a17)
  cases e
  have F0 := fun_mk (st := s_is_whole) l0 c0 k0
  have F1 := fun_mk (st := s_is_line_number) l1 c1 k1
  have F2 := fun_mk (st := s_is_text_of) l2 c2 k2
  have F3 := fun_mk (st := s_is_line_text) l3 c3 k3
  have F4 := fun_mk (st := s_are_line_brackets) l4 c4 k4
  have F5 := fun_mk (st := s_is_line_letter) l5 c5 k5
  have F6 := fun_mk (st := s_is_line) l6 c6 k6
  have F7 := fun_mk (st := s_is_program) l7 c7 k7
  have F8 := fun_mk (st := s_law_pen) l8 c8 k8
  have F9 := fun_mk (st := s_law_take) l9 c9 k9
  have F10 := fun_mk (st := s_law_is_number) l10 c10 k10
  have F11 := fun_mk (st := s_law_is_text) l11 c11 k11
  have F12 := fun_mk (st := s_law_is_line) l12 c12 k12
  have F13 := fun_mk (st := s_law_due) l13 c13 k13
  have F14 := fun_mk (st := s_law_line) l14 c14 k14
  have F15 := fun_mk (st := s_law_odd) l15 c15 k15
  have F16 := fun_mk (st := s_law_bent) l16 c16 k16
  have F17 := fun_mk (st := s_law) l17 c17 k17
  have mlen := PySem.W.mg_none_of X G z0
  have mabs := PySem.W.mg_none_of X G z1
  have mint := PySem.W.mg_none_of X G z2
  have misinstance := PySem.W.mg_none_of X G z3
  have mstr := PySem.W.mg_none_of X G z4
  have mbool := PySem.W.mg_none_of X G z5
  have mtuple := PySem.W.mg_none_of X G z6
  have mall := PySem.W.mg_none_of X G z7
  have mzip := PySem.W.mg_none_of X G z8
  have mlist := PySem.W.mg_none_of X G z9
  have mrange := PySem.W.mg_none_of X G z10
  have mrepr := PySem.W.mg_none_of X G z11
  have gFORMS := PySem.W.mg_of X G aFo
  have gMOST_SIGNS := PySem.W.mg_of X G aI0
  have gMOST_NUMBER := PySem.W.mg_of X G aI1
  have gMOST_LINES := PySem.W.mg_of X G aI2
  have gSMALL_LETTERS := PySem.W.mg_of X G aI3
  refine ⟨PySem.W.fnOf "law" "law" (defArgs s_law) (defBody s_law) (defScope s_law) .none kV17 dc17 pm17 an17 cd17 ct17, fun s v => .of_eq rfl, fun base _ _ hSM => ?_⟩
  have cis_whole : Ca l.prog w K mg base 1 "is_whole" ["thing"] spWhE := ⟨f0, _, ok_whE F0 misinstance mint mbool, PySem.W.mg_of X G a0, F0.kp, F0.binds fun _ _ _ _ _ _ us hl => match us, hl with | [_], _ => rfl⟩
  have cis_line_number : Ca l.prog w K mg base 2 "is_line_number" ["thing"] spNumE := ⟨f1, _, ok_numE F1 cis_whole gMOST_NUMBER, PySem.W.mg_of X G a1, F1.kp, F1.binds fun _ _ _ _ _ _ us hl => match us, hl with | [_], _ => rfl⟩
  have cis_text_of : Ca l.prog w K mg base 1 "is_text_of" ["signs", "thing"] spTxE := ⟨f2, _, ok_txE F2 misinstance mstr mlen mall gMOST_SIGNS, PySem.W.mg_of X G a2, F2.kp, F2.binds fun _ _ _ _ _ _ us hl => match us, hl with | [_, _], _ => rfl⟩
  have cis_line_text : Ca l.prog w K mg base 2 "is_line_text" ["thing"] spLtE := ⟨f3, _, ok_ltE F3 cis_text_of gSMALL_LETTERS, PySem.W.mg_of X G a3, F3.kp, F3.binds fun _ _ _ _ _ _ us hl => match us, hl with | [_], _ => rfl⟩
  have care_line_brackets : Ca l.prog w K mg base 2 "are_line_brackets" ["thing"] spLbE := ⟨f4, _, ok_lbE F4 cis_text_of, PySem.W.mg_of X G a4, F4.kp, F4.binds fun _ _ _ _ _ _ us hl => match us, hl with | [_], _ => rfl⟩
  have cis_line_letter : Ca l.prog w K mg base 3 "is_line_letter" ["thing"] spLeE := ⟨f5, _, ok_leE F5 cis_line_text mlen, PySem.W.mg_of X G a5, F5.kp, F5.binds fun _ _ _ _ _ _ us hl => match us, hl with | [_], _ => rfl⟩
  have FA : FormsAt l.prog w K mg base aFORMS (adrOf f3 f1 f5 f4) := forms_at nFORMS lFORMS kFORMS lT0 lT1 lT2 lT3 lT4 lT5 lT6 (fun m => match m with | .t => ⟨_, _, ((FnOk.mono (CX := CX0) (P := l.prog) (w := w) (base := base) (ok_ltE F3 cis_text_of gSMALL_LETTERS) (show 2 ≤ 3 by decide))).imp (fun vs H Q E h => h), F3.kp, F3.binds fun _ _ _ _ _ _ us hl => match us, hl with | [_], _ => rfl⟩ | .n => ⟨_, _, ((FnOk.mono (CX := CX0) (P := l.prog) (w := w) (base := base) (ok_numE F1 cis_whole gMOST_NUMBER) (show 2 ≤ 3 by decide))).imp (fun vs H Q E ⟨v, d, e, h1, _, h3⟩ => ⟨v, d, e, h1, h3 H Ext.refl⟩), F1.kp, F1.binds fun _ _ _ _ _ _ us hl => match us, hl with | [_], _ => rfl⟩ | .l => ⟨_, _, ((FnOk.mono (CX := CX0) (P := l.prog) (w := w) (base := base) (ok_leE F5 cis_line_text mlen) (show 3 ≤ 3 by decide))).imp (fun vs H Q E h => h), F5.kp, F5.binds fun _ _ _ _ _ _ us hl => match us, hl with | [_], _ => rfl⟩ | .b => ⟨_, _, ((FnOk.mono (CX := CX0) (P := l.prog) (w := w) (base := base) (ok_lbE F4 cis_text_of) (show 2 ≤ 3 by decide))).imp (fun vs H Q E h => h), F4.kp, F4.binds fun _ _ _ _ _ _ us hl => match us, hl with | [_], _ => rfl⟩)
  have cis_line : Ca l.prog w K mg base 4 "is_line" ["thing"] spLineE := ⟨f6, _, ok_lineE F6 FA gFORMS misinstance mstr mtuple mlen mzip, PySem.W.mg_of X G a6, F6.kp, F6.binds fun _ _ _ _ _ _ us hl => match us, hl with | [_], _ => rfl⟩
  have cis_program : Ca l.prog w K mg base 5 "is_program" ["thing"] spProgE := ⟨f7, _, ok_progE F7 cis_line misinstance mtuple mlen mall gMOST_LINES, PySem.W.mg_of X G a7, F7.kp, F7.binds fun _ _ _ _ _ _ us hl => match us, hl with | [_], _ => rfl⟩
  have cis_programK : CaK l.prog w K mg base 5 "is_program" ["thing"] ["thing"] (permV [0]) spProgE := ⟨f7, _, permU [0], ok_progE F7 cis_line misinstance mtuple mlen mall gMOST_LINES, PySem.W.mg_of X G a7, F7.kp, kbn_of [0] fun ws hw => match ws, hw with | [_], _ => rfl⟩
  have c_law_pen : Ca l.prog w K mg base 1 "_law_pen" ["_law_script"] (spStart K) := ⟨f8, _, ok_start F8, PySem.W.mg_of X G a8, F8.kp, F8.binds fun _ _ _ _ _ _ us hl => match us, hl with | [_], _ => rfl⟩
  have c_law_take : Ca l.prog w K mg base 1 "_law_take" ["_law_pen_here", "_law_many"] spDraw := ⟨f9, _, ok_draw F9 mlen mabs mint, PySem.W.mg_of X G a9, F9.kp, F9.binds fun _ _ _ _ _ _ us hl => match us, hl with | [_, _], _ => rfl⟩
  have c_law_is_number : Ca l.prog w K mg base 1 "_law_is_number" ["_law_what_is"] spNumE := ⟨f10, _, ok_lnum F10 misinstance mint mbool, PySem.W.mg_of X G a10, F10.kp, F10.binds fun _ _ _ _ _ _ us hl => match us, hl with | [_], _ => rfl⟩
  have c_law_is_text : Ca l.prog w K mg base 1 "_law_is_text" ["_law_what_is", "_law_signs", "_law_most"] spLtx := ⟨f11, _, ok_ltx F11 misinstance mstr mlen, PySem.W.mg_of X G a11, F11.kp, F11.binds fun _ _ _ _ _ _ us hl => match us, hl with | [_, _, _], _ => rfl⟩
  have c_law_is_line : Ca l.prog w K mg base 4 "_law_is_line" ["_law_what_is"] spLineE := ⟨f12, _, ok_lline F12 c_law_is_number c_law_is_text misinstance mstr mtuple mlen, PySem.W.mg_of X G a12, F12.kp, F12.binds fun _ _ _ _ _ _ us hl => match us, hl with | [_], _ => rfl⟩
  have c_law_due : Ca l.prog w K mg base 5 "_law_due" ["_law_what_is"] spProgE := ⟨f13, _, ok_ldue F13 c_law_is_line misinstance mtuple mlen, PySem.W.mg_of X G a13, F13.kp, F13.binds fun _ _ _ _ _ _ us hl => match us, hl with | [_], _ => rfl⟩
  have c_law_line : Ca l.prog w K mg base 2 "_law_line" ["_law_pen_here"] spLn := ⟨f14, _, ok_ln F14 c_law_take, PySem.W.mg_of X G a14, F14.kp, F14.binds fun _ _ _ _ _ _ us hl => match us, hl with | [_], _ => rfl⟩
  have c_law_odd : Ca l.prog w K mg base 2 "_law_odd" ["_law_pen_here", "_law_one"] spOd := ⟨f15, _, ok_od F15 c_law_take mstr, PySem.W.mg_of X G a15, F15.kp, F15.binds fun _ _ _ _ _ _ us hl => match us, hl with | [_, _], _ => rfl⟩
  have c_law_bent : Ca l.prog w K mg base 3 "_law_bent" ["_law_pen_here", "_law_lines"] spBt := ⟨f16, _, ok_bt F16 c_law_take c_law_odd mlen mlist, PySem.W.mg_of X G a16, F16.kp, F16.binds fun _ _ _ _ _ _ us hl => match us, hl with | [_, _], _ => rfl⟩
  exact ok_law F17 hSM ⟨rfl, by decide, by decide⟩ c_law_pen c_law_take c_law_line c_law_bent c_law_due cis_program cis_programK misinstance mbool mrange mtuple mrepr
end Pf
open PySem PySem.W PyProof.Rows
set_option maxHeartbeats 0 in
theorem PySem.Challenge.cw_pairfolds_k84_programs_known_holds : PySem.Challenge.rw_pairfolds_k84_programs_known.Holds := by
  w_on; o_law; k_head; (case hw => w_witness2)
  k_fill
  refine Pf.walk_gS (l := PySem.Challenge.rw_pairfolds_k84_programs_known) (n := 63) (x := "_law_script") (sp := fun w => Pf.spLaw _) rfl (by decide) rfl (fun w h Y => PySem.W.kIn_of Y) (by decide +kernel) ?F (fun _ _ a ns hl hS => ⟨a, ns, rfl, hS, hl, fun _ => rfl⟩)
  case F =>
    intro w mg fa h KX G hmg
    refine' Pf.all_mk KX G hmg ?a0 ?l0 ?c0 ?k0 ?a1 ?l1 ?c1 ?k1 ?a2 ?l2 ?c2 ?k2 ?a3 ?l3 ?c3 ?k3 ?a4 ?l4 ?c4 ?k4 ?a5 ?l5 ?c5 ?k5 ?a6 ?l6 ?c6 ?k6 ?a7 ?l7 ?c7 ?k7 ?a8 ?l8 ?c8 ?k8 ?a9 ?l9 ?c9 ?k9 ?a10 ?l10 ?c10 ?k10 ?a11 ?l11 ?c11 ?k11 ?a12 ?l12 ?c12 ?k12 ?a13 ?l13 ?c13 ?k13 ?a14 ?l14 ?c14 ?k14 ?a15 ?l15 ?c15 ?k15 ?a16 ?l16 ?c16 ?k16 ?a17 ?l17 ?c17 ?k17 ?z0 ?z1 ?z2 ?z3 ?z4 ?z5 ?z6 ?z7 ?z8 ?z9 ?z10 ?z11 ?aI0 ?aI1 ?aI2 ?aI3 ?nFORMS ?aFo ?lFORMS ?kFORMS ?lT0 ?lT1 ?lT2 ?lT3 ?lT4 ?lT5 ?lT6
    (case a0 => k_is); (case l0 => k_is); (case c0 => k_is); (case k0 => k_is); (case a1 => k_is); (case l1 => k_is); (case c1 => k_is); (case k1 => k_is); (case a2 => k_is); (case l2 => k_is); (case c2 => k_is); (case k2 => k_is); (case a3 => k_is); (case l3 => k_is); (case c3 => k_is); (case k3 => k_is); (case a4 => k_is); (case l4 => k_is); (case c4 => k_is); (case k4 => k_is); (case a5 => k_is); (case l5 => k_is); (case c5 => k_is); (case k5 => k_is); (case a6 => k_is); (case l6 => k_is); (case c6 => k_is); (case k6 => k_is); (case a7 => k_is); (case l7 => k_is); (case c7 => k_is); (case k7 => k_is); (case a8 => k_is); (case l8 => k_is); (case c8 => k_is); (case k8 => k_is); (case a9 => k_is); (case l9 => k_is); (case c9 => k_is); (case k9 => k_is); (case a10 => k_is); (case l10 => k_is); (case c10 => k_is); (case k10 => k_is); (case a11 => k_is); (case l11 => k_is); (case c11 => k_is); (case k11 => k_is); (case a12 => k_is); (case l12 => k_is); (case c12 => k_is); (case k12 => k_is); (case a13 => k_is); (case l13 => k_is); (case c13 => k_is); (case k13 => k_is); (case a14 => k_is); (case l14 => k_is); (case c14 => k_is); (case k14 => k_is); (case a15 => k_is); (case l15 => k_is); (case c15 => k_is); (case k15 => k_is); (case a16 => k_is); (case l16 => k_is); (case c16 => k_is); (case k16 => k_is); (case a17 => k_is); (case l17 => k_is); (case c17 => k_is); (case k17 => k_is); (case z0 => k_is); (case z1 => k_is); (case z2 => k_is); (case z3 => k_is); (case z4 => k_is); (case z5 => k_is); (case z6 => k_is); (case z7 => k_is); (case z8 => k_is); (case z9 => k_is); (case z10 => k_is); (case z11 => k_is); (case aI0 => k_is); (case aI1 => k_is); (case aI2 => k_is); (case aI3 => k_is); (case aFo => k_is); (case lFORMS => k_is); (case kFORMS => k_keys); (case nFORMS => rfl); (case lT0 => k_is); (case lT1 => k_is); (case lT2 => k_is); (case lT3 => k_is); (case lT4 => k_is); (case lT5 => k_is); (case lT6 => k_is)
